/- Package order: Late: the walk. -/
import Derived.Test.YtgoegkajfhhcjaaOLateP
import Derived.Test.YtgoegkajfhhcjaaTurnedDo
import Derived.Deep.LoopGhost
import Derived.Deep.RegionHeld3
import Derived.StillTailTactics
namespace Go.Proofs.Ytgoegkajfhhcjaa
open Go.RowKit

variable {len N : Nat} {l : List Ar} {xs : List Int} {o : List Nat}
set_option maxHeartbeats 4000000 in
set_option maxRecDepth 100000 in
theorem late_whole (cap c0 : Nat) (a b : Option Addr) (w : World) (hxl : xs.length = N) (hc : checkV (N : Int) l = 0) (hf : ∀ x ∈ xs, farB x = false) (ho : Whole l N o) (hl : IsArcs w.heap.size w a len l) (hi : IsInts w.heap.size w b N xs) :
    Calls Try.prog 16 #[.agg #[.int .i64 (N : Int), .slice a len cap], .slice b N c0] w fun e w' => Below w.heap.size w w' ∧
      ∃ gb got, e = .returned (.tuple #[.slice (some ⟨gb, 0, none⟩) N N, .int .i64 0]) ∧ w'.rowIs gb 2 N (fun i => .int .i64 (got i)) ∧ w.heap.size ≤ gb ∧ LateIs l N (fun i => xs.getD i 0) got := by
  have HG := Lib.hid (Box.make (Below.refl _ w) (N : Int) a len cap)
  obtain ⟨⟨_, hN, hll⟩, hok⟩ := checkV_zero.1 hc
  have hN2 : N ≤ 1000 := by omega
  have hlen : len ≤ 20000 := by have := hl.1; omega
  have hmk := run_make_row' (P := Try.prog) 39 2 (.int .i64 0) 8 Try.underlying39 infoLong rfl .i64 .i64 N (by omega) (by omega)
  have HLn : Hid (l.length = len) := Lib.hid hl.1
  have HL := Lib.hid hl
  have HI := Lib.hid hi
  have HF := Lib.hid hf
  have HC := Lib.hid hc
  have HO := Lib.hid ho
  have HOK := Lib.hid hok
  have HOKT : Hid (∀ x ∈ turned l, 0 ≤ x.1 ∧ x.1 < (N : Int)) := Lib.hid (fun x hx => by
    rw [turned, List.mem_map] at hx
    obtain ⟨y, hy, rfl⟩ := hx
    exact (okA_true.1 (hok y hy)).2.1)
  have HBG : Hid (∀ i : Nat, -1125899906842624 ≤ xs.getD i 0 ∧ xs.getD i 0 ≤ 1125899906842624) := Lib.hid (fun i => by
    cases hx : xs[i]? with
    | none => simp [List.getD, hx]
    | some x =>
      have h1 := hf x (List.mem_of_getElem? hx)
      have h2 : ¬ (x < -1125899906842624 ∨ 1125899906842624 < x) := fun h => by rw [farB_true.2 h] at h1; cases h1
      simp only [List.getD, hx, Option.getD_some]
      omega)
  have HCK := Lib.hid (check_any (N : Int) cap a _ (HG.out.arcsHere HL.out))
  rw [hc] at HCK
  clear hxl hc hf ho hl hi hN hll hok
  go_enter Try.func16, Try.ntmps16
  go_wp2_with (first
    | (go_at_call 19; refine HCK.out.mono ?_; rintro e w1 ⟨rfl, hb1⟩; have HG1 := Lib.hid (HG.out.later hb1); have HI1 := Lib.hid (IsInts.to_ HI.out HG1.out.below); have x0 := HG1.out.c0; have x1 := HG1.out.c1; clear hb1)
    | (go_at_call 24; refine (contains_near b c0 _ (by omega) HI1.out HF.out).mono ?_; rintro e w2 ⟨rfl, rfl⟩)
    | (go_at_call 10; refine (osort_yes HC.out HO.out cap a _ (HG1.out.arcsHere HL.out)).mono ?_; rintro e w3 ⟨hb3, va, vc, rfl, hr3⟩; have HG3 := Lib.hid ((HG1.out.later hb3).alloc (.cells (madeCells #[.int .i64 0] N) 2)); have HZ3 : Hid (w.heap.size < w3.heap.size) := Lib.hid (HG1.out.later hb3).lt; have HLT := Lib.hid (fun k hk => (World.ownsRow.lt hr3 k hk).2); have y0 := (HG1.out.later hb3).c0; obtain ⟨w4, hcp, hrow4, hb4⟩ := copy_ints (c := c0) (sT := 39) (ty := 3) (IsInts.to_ (IsInts.to_ HI1.out hb3) ((Below.refl _ w3).alloc (Nat.le_refl _) (.cells (madeCells #[.int .i64 0] N) 2))) (heap_alloc_new _ _); have HROW4 := Lib.hid hrow4; have HR4 := Lib.hid (owns_below hr3 (((Below.refl _ w3).alloc (Nat.le_refl _) (.cells (madeCells #[.int .i64 0] N) 2)).trans hb4)); have HG4 : Hid (Box w w4 w.heap.size (N : Int) a len cap) := Lib.hid ⟨HG3.out.below.trans (hb4.mono (Nat.le_of_lt HZ3.out)), Nat.le_refl _, (hb4.block _ HZ3.out).trans HG3.out.blk⟩; have z0 := HG4.out.c0; have z1 := HG4.out.c1; clear hrow4 hb4 hb3 hr3)
    | (go_at_call 27; refine (turned_any (N : Int) (by omega) a cap _ (HG4.out.arcsHere HL.out)).mono ?_; rintro e w5 ⟨T, rfl, hta, _, hb5⟩; have HG5 := Lib.hid (HG4.out.later hb5); have HROW5 := Lib.hid (rowIs_below HROW4.out hb5); have HR5 := Lib.hid (owns_below HR4.out hb5); have HTA := Lib.hid hta; clear hta hb5)
    | (go_at_call 26; refine (byfrom_any N hN2 hlen HOKT.out (some ⟨T, 0, none⟩) len _ HTA.out).mono ?_; rintro e w6 ⟨L, V, rfl, hadj, hb6⟩; have HG6 := Lib.hid (HG5.out.later hb6); have HAD := Lib.hid hadj; have HROW6 := Lib.hid (rowIs_below HROW5.out hb6); have HR6 := Lib.hid (owns_below HR5.out hb6); have HZ6 : Hid (w3.heap.size < L) := Lib.hid (Nat.lt_of_lt_of_le HROW5.out.lt hadj.ge); clear hadj hb6))
  obtain ⟨gb, hgb⟩ : ∃ gb, w3.heap.size = gb := ⟨_, rfl⟩
  have HRB : Hid (∀ k, Value.ownBlock (.slice va N vc) = some k → k < gb) := Lib.hid (fun k hk => by rw [← hgb]; exact HLT.out k hk)
  have hgw : w.heap.size < gb := by rw [← hgb]; exact HZ3.out
  rw [hgb] at HROW6 HZ6 ⊢
  have HGW0 : Hid (GW w6 w6 gb N (fun i => xs.getD i 0)) := Lib.hid ⟨Mod.refl _ _, HROW6.out⟩
  have HLO0 : Hid (LateO l N (fun i => xs.getD i 0) (fun i => xs.getD i 0) (o.take 0)) := Lib.hid (LateO.start (fun i _ => (HBG.out i).2))
  have HBX : Hid (∀ wr, Mod (fun k => k = gb) w6 wr → Box w wr w.heap.size (N : Int) a len cap) := Lib.hid (fun wr hm => HG6.out.kept hm (fun k hk => by omega) (by omega))
  have HAX : Hid (∀ wr, Mod (fun k => k = gb) w6 wr → Adj w5.heap.size wr L N V (outK (turned l))) := Lib.hid (fun wr hm => HAD.out.kept hm (fun k hk _ e => by have := HZ6.out; omega))
  have HRX : Hid (∀ wr, Mod (fun k => k = gb) w6 wr → wr.ownsRow 0 3 1 (.slice va N vc) (nodesV o).length (numsV (nodesV o))) := Lib.hid (fun wr hm => owns_rebase (owns_kept HR6.out hm (fun k hk e => by have := HRB.out k hk; omega)) (Nat.zero_le _))
  clear hmk hcp x0 x1 y0 z0 z1 hgb HROW6 HAD HR6 HG6 HROW5 HR5 HG5 HROW4 HR4 HG4 HLT HZ3 HTA
  go_loopw [46] (fun iv wr => ∃ (p : Nat) (got : Nat → Int), iv = .int .i64 p ∧ p ≤ N ∧ Hid (GW w6 wr gb N got) ∧ Hid (LateO l N (fun i => xs.getD i 0) got (o.take p))) (fun iv _ => N - (intOf iv).toNat)
  case atStart => exact ⟨0, _, rfl, Nat.zero_le _, HGW0, HLO0⟩
  case round =>
    obtain ⟨p, got, rfl, hp, HW, HP⟩ := hrel
    clear HGW0 HLO0
    by_cases hlt : p < N
    · have hol : o.length = N := HO.out.2
      have hop : o[p]? = some (o[p]'(by omega)) := List.getElem?_eq_getElem (by omega)
      obtain ⟨c, hc⟩ : ∃ c, o[p]'(by omega) = c := ⟨_, rfl⟩
      rw [hc] at hop
      have htk : o.take (p + 1) = o.take p ++ [c] := by rw [List.take_add_one, hop]; rfl
      have hsq := HO.out.1.take (p + 1)
      rw [htk] at hsq
      obtain ⟨hsq1, hcN, hfr, _⟩ := hsq.back
      have HFR := Lib.hid hfr
      have HCL := Lib.hid hsq1.closed
      have HTK := Lib.hid htk
      have hpl : (o.take p).length = p := by rw [List.length_take]; omega
      have HPLN := Lib.hid hpl
      have hc1 : (0 : Int) ≤ (c : Int) := by omega
      have hc2 : (c : Int) < (N : Int) := by omega
      have hnl : (nodesV o).length = N := by rw [nodesV_length]; exact hol
      have hvv : (nodesV o)[p]? = some (c : Int) := by simp [nodesV, hop]
      have hrow := HRX.out wr HW.out.mod
      obtain ⟨G, cp, hv2, _, _, hcp, hcm⟩ := owns_some hrow (by omega)
      rw [hnl] at hv2 hcp
      injection hv2 with ea _ ec
      subst ea ec
      unfold maxLen at hcm
      have c2 := nums_cell hrow hvv
      obtain ⟨va2, vc2, hv3⟩ := owns_shape ((HAX.out wr HW.out.mod).row c hcN)
      obtain ⟨M, hM⟩ : ∃ M, (outK (turned l) c).length = M := ⟨_, rfl⟩
      rw [hM] at hv3
      have HV := Lib.hid hv3
      have HM := Lib.hid hM
      have hMl : M ≤ 20000 := by have h1 := outK_le (turned l) c; have h2 := HLn.out; rw [show (turned l).length = l.length from by simp [turned]] at h1; omega
      have r2 := (HAX.out wr HW.out.mod).out.cell hcN
      rw [hv3] at r2
      have HQ0 := Lib.hid (HP.out.begin_ hcN)
      clear hol hop hc htk hsq hsq1 hfr hpl hnl hvv hrow hv3 hM
      go_wp2_with fail
      clear c2 r2
      go_loopw [55] (fun qv wr => ∃ (q : Nat) (got : Nat → Int), qv = .int .i64 q ∧ q ≤ M ∧ Hid (GW w6 wr gb N got) ∧ Hid (LateQ l N (fun i => xs.getD i 0) got (o.take p) c q)) (fun qv _ => M - (intOf qv).toNat)
      case atStart => exact ⟨0, _, rfl, Nat.zero_le _, HW, HQ0⟩
      case round =>
        clear HW HQ0 HP
        obtain ⟨q, got, rfl, hq, HW, HQ⟩ := hrel
        by_cases hltq : q < M
        · obtain ⟨vv, hvv⟩ : ∃ vv, (outK (turned l) c)[q]? = some vv := ⟨_, List.getElem?_eq_getElem (by rw [HM.out]; exact hltq)⟩
          obtain ⟨k, x, rfl, hx, hxc⟩ := mem_into.1 (List.mem_of_getElem? hvv)
          have hxok := okA_true.1 (HOK.out x (List.mem_of_getElem? hx))
          have hkl : k < len := by have := (List.getElem?_eq_some_iff.1 hx).1; have := HLn.out; omega
          obtain ⟨b1, off, x', rfl, hbb, hx', e0, e1, e2⟩ := ((HBX.out wr HW.out.mod).arcs HL.out).at_ hkl
          rw [hx] at hx'
          cases hx'
          obtain ⟨f0, t0, d⟩ := x
          simp only at e0 e1 e2 hxok hxc
          subst hxc
          obtain ⟨f, rfl⟩ : ∃ f : Nat, f0 = (f : Int) := ⟨f0.toNat, by omega⟩
          have hf : f < N := by omega
          have hf1 : (0 : Int) ≤ (f : Int) := by omega
          have hf2 : (f : Int) < (N : Int) := by omega
          have hk1 : (0 : Int) ≤ (k : Int) := by omega
          have hk2 : (k : Int) < (len : Int) := by omega
          have hdl : -1099511627776 ≤ d := hxok.2.2.1
          have hdu : d ≤ 1099511627776 := hxok.2.2.2
          have hrow := (HAX.out wr HW.out.mod).row c hcN
          rw [HV.out, HM.out] at hrow
          obtain ⟨G2, cp2, hvv2, _, _, hcp2, hcm2⟩ := owns_some hrow (by omega)
          injection hvv2 with ea2 _ ec2
          subst ea2 ec2
          unfold maxLen at hcm2
          have c2 := nums_cell hrow hvv
          have y1 := (HBX.out wr HW.out.mod).c1
          have hfc : f ≠ c := by
            obtain ⟨f2, h1, h2⟩ := HFR.out.2 _ (List.mem_of_getElem? hx) rfl
            have h3 : (f : Int) = (f2 : Int) := h1
            have h4 : f = f2 := by omega
            intro e
            exact HFR.out.1 (by rw [← e, h4]; exact h2)
          have hvf : -1125899906842624 ≤ got f ∧ got f ≤ 2300000000000000 := by
            have h1 := HQ.out.lo f hf
            have h2 := HQ.out.hi f hf hfc
            have h3 := (HBG.out f).1
            have h4 := HPLN.out
            rw [h4] at h2
            omega
          have hvc : -1125899906842624 ≤ got c ∧ got c ≤ 2300000000000000 := by
            have h1 := HQ.out.lo c hcN
            have h2 := HQ.out.hic
            have h3 := (HBG.out c).1
            have h4 := HPLN.out
            rw [h4] at h2
            omega
          have HVV := Lib.hid hvv
          have HXX := Lib.hid hx
          clear hrow hbb hxok hvv hx
          go_wp2_with fail
          obtain ⟨w7, hw7⟩ : ∃ w7, w7 = World.drew (wr.alloc (.cells #[.int .i64 (f : Int), .int .i64 (c : Int), .int .i64 d] 35)) := ⟨_, rfl⟩
          have HW7 : Hid (GW w6 w7 gb N got) := Lib.hid (by rw [hw7]; exact HW.out.later ((Below.refl wr.heap.size wr).alloc (Nat.le_refl _) (.cells #[.int .i64 (f : Int), .int .i64 (c : Int), .int .i64 d] 35)).drew)
          have d0 : w7.cell? ⟨wr.heap.size, 0, none⟩ = some (.int .i64 (f : Int)) := by rw [hw7]; simp
          have d1 : w7.cell? ⟨wr.heap.size, 1, none⟩ = some (.int .i64 (c : Int)) := by rw [hw7]; simp
          have d2 : w7.cell? ⟨wr.heap.size, 2, none⟩ = some (.int .i64 d) := by rw [hw7]; simp
          have cf := HW7.out.row.cell hf
          have ct := HW7.out.row.cell hcN
          have ft := HW7.out.row.frozen c
          clear c2 y1 e0 e1 e2
          refine wp_region_still_tail 16 (by kernel_rfl) (by kernel_rfl) ?_
          simp only [List.take_succ_cons, List.take_zero, List.drop_succ_cons, List.drop_zero]
          change wpStill _ _ (World.drew (wr.alloc (.cells #[.int .i64 (f : Int), .int .i64 (c : Int), .int .i64 d] 35))) (fun a' => wpList _ _ _ _ a' (World.drew (wr.alloc (.cells #[.int .i64 (f : Int), .int .i64 (c : Int), .int .i64 d] 35)))) _ _
          rw [← hw7]
          clear hw7 HW
          have hw1 : IntKind.i64.wrap (got f + d) = got f + d := by rw [IntKind.wrap_i64]; omega
          have HN := Lib.hid (HQ.out.step (d := max (got c) (got f + d)) HCL.out HFR.out HVV.out HXX.out rfl rfl hdu hf (by simp only; omega))
          have HS := Lib.hid (HW7.out.set_ c (max (got c) (got f + d)))
          generalize hvt2 : got c = vt at ct hvc HS HN
          generalize hvf2 : got f = vf at cf hw1 hvf HS HN
          clear hvt2 hvf2
          repeat still_step
          refine wpStill_nil ?_
          go_wp2_with fail
          go_roundw
          case rel => exact ⟨q + 1, _, by go_num, by omega, HS, HN⟩
          case measure => simp [intOf]; omega
        · have HN := Lib.hid (HQ.out.done_ (by have := HM.out; omega))
          rw [← HTK.out] at HN
          go_wp2_with fail
          go_roundw
          case rel => exact ⟨p + 1, got, by go_num, by omega, HW, HN⟩
          case measure => simp [intOf]; omega
    · have hop : o.take p = o := List.take_of_length_le (by have := HO.out.2; omega)
      have HD : Hid (LateIs l N (fun i => xs.getD i 0) got) := Lib.hid (by have h := HP.out; rw [hop] at h; exact h.all_ HO.out HOK.out)
      clear hop
      go_wp2_with fail
      go_ret2
      exact ⟨(HBX.out wr HW.out.mod).below, gb, got, rfl, HW.out.row, by omega, HD.out⟩
end Go.Proofs.Ytgoegkajfhhcjaa

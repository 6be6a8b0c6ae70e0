/- Package order: Sort. -/
import Derived.Test.YtgoegkajfhhcjaaSortW
import Derived.Deep.LoopGhost
import Derived.Deep.RegionHeld3
import Derived.StillTailTactics
namespace Go.Proofs.Ytgoegkajfhhcjaa
section part
open Go.RowKit

variable {len : Nat} {l : List Ar}
theorem nodesV_snoc (o : List Nat) (c : Nat) : nodesV (o ++ [c]) = nodesV o ++ [(c : Int)] := by simp [nodesV]
set_option maxHeartbeats 4000000 in
set_option maxRecDepth 100000 in
theorem osorted_any (N : Nat) (hc : checkV (N : Int) l = 0) (a : Option Addr) (cap : Nat) (w : World) (hl : IsArcs w.heap.size w a len l) :
    Calls Try.prog 20 #[.agg #[.int .i64 (N : Int), .slice a len cap]] w fun e w' => Below w.heap.size w w' ∧
      ∃ v out, e = .returned v ∧ (Whole l N out ∨ Stuck l N out) ∧ w'.ownsRow w.heap.size 3 1 v (nodesV out).length (numsV (nodesV out)) := by
  obtain ⟨i0, hi, hz0, hz1, hz2⟩ := info_parts infoInt
  obtain ⟨⟨_, hN, hll⟩, hok⟩ := checkV_zero.1 hc
  have hN2 : N ≤ 1000 := by omega
  have hlen : len ≤ 20000 := by have := hl.1; omega
  have hmk := run_make_row' (P := Try.prog) 28 3 (.int .i64 0) 8 Try.underlying28 infoInt rfl .i64 .i64 N (by omega) (by omega)
  have HG := Lib.hid (Box.make (Below.refl _ w) (N : Int) a len cap)
  have HLn : Hid (l.length = len) := Lib.hid hl.1
  have HOK1 : Hid (∀ x ∈ l, 0 ≤ x.1 ∧ x.1 < (N : Int)) := Lib.hid (fun x hx => (okA_true.1 (hok x hx)).1)
  have HOK := Lib.hid hok
  have HL := Lib.hid hl
  clear hc hok hl hN hll
  go_enter Try.func20, Try.ntmps20
  go_wp2_with (go_at_call 26; refine (byfrom_any N hN2 hlen HOK1.out a cap _ (HG.out.arcsHere HL.out)).mono ?_; rintro e w1 ⟨L, V, rfl, hadj, hb1⟩; have HG1 := Lib.hid (HG.out.later hb1); have HAD := Lib.hid (show Adj w.heap.size w1 L N V (outK l) from ⟨Nat.le_trans HG.out.below.size hadj.ge, hadj.out, hadj.row, hadj.apart⟩); have x0 := HG1.out.c0; have y1 := (HG1.out.alloc (.cells (madeCells #[.int .i64 0] N) 3)).c1; clear hb1 hadj)
  have HC0 := Lib.hid (CW.start w1 N l)
  obtain ⟨wb, hwb⟩ : ∃ wb, w1.heap.size = wb := ⟨_, rfl⟩
  rw [hwb] at HC0 ⊢
  clear hmk x0 y1 hwb
  go_loopw [24] (fun i wr => ∃ k : Nat, i = .int .i64 k ∧ k ≤ len ∧ Hid (CW w1 wr wb N (fun i => (inTo l k i : Int)))) (fun i _ => len - (intOf i).toNat)
  case atStart => exact ⟨0, rfl, Nat.zero_le _, HC0⟩
  case round =>
    obtain ⟨k, rfl, hk, HC⟩ := hrel
    clear HC0
    by_cases hlt : k < len
    · obtain ⟨b, off, x, rfl, hb, hx, e0, e1, e2⟩ := ((HG1.out.later HC.out.below).arcs HL.out).at_ hlt
      have hxok := okA_true.1 (HOK.out x (List.mem_of_getElem? hx))
      have HXX := Lib.hid hx
      clear hx hb
      obtain ⟨f, t0, c⟩ := x
      simp only at e0 e1 e2 hxok
      obtain ⟨t, rfl⟩ : ∃ t : Nat, t0 = (t : Int) := ⟨t0.toNat, by omega⟩
      have ht : t < N := by omega
      have ht1 : (0 : Int) ≤ (t : Int) := by omega
      have ht2 : (t : Int) < (N : Int) := by omega
      clear hxok
      have HC1 := Lib.hid (HC.out.later ((Below.refl wr.heap.size wr).alloc (Nat.le_refl _) (.cells #[.int .i64 f, .int .i64 (t : Int), .int .i64 c] 35)))
      have r0 := HC1.out.wait.cell ht
      have r1 := HC1.out.wait.frozen t
      have hle := inTo_le l k t
      have HN := Lib.hid ((HC1.out.set_ t ((inTo l k t : Int) + 1)).congr (wt2 := fun i => (inTo l (k + 1) i : Int)) (fun i _ => (inTo_step HXX.out rfl i).symm))
      clear HC HC1
      generalize inTo l k t = m at r0 hle HN
      go_wp2_with fail
      go_roundw
      case rel => exact ⟨k + 1, by go_num, by omega, HN⟩
      case measure => simp [intOf]; omega
    · have hke : k = l.length := by have := HLn.out; omega
      have HC2 := Lib.hid (HC.out.congr (wt2 := fun i => (cntTo l (fun _ => true) i : Int)) (fun i _ => by show ((inTo l k i : Nat) : Int) = _; rw [hke, inTo_all]))
      clear hke HC
      go_wp2_with (go_at_call 29; refine (new_any _).mono ?_; rintro e w2 ⟨rfl, rfl⟩; have HS0 := Lib.hid (SW.start HC2.out))
      have HK0 := Lib.hid (Kahn.start l)
      obtain ⟨pb, hpb⟩ : ∃ pb, wr.heap.size = pb := ⟨_, rfl⟩
      rw [hpb] at HS0 ⊢
      clear HC2 hpb
      go_loopw [39] (fun i wr => ∃ (k : Nat) (pv : Value) (P : List It), i = .int .i64 k ∧ k ≤ N ∧ Hid (SW w1 wr wb N (fun i => (cntTo l (fun _ => true) i : Int)) pb pv P (.slice none 0 0) []) ∧ Hid (Kahn l k [] [] [] (fun _ => true) P)) (fun i _ => N - (intOf i).toNat)
      case atStart => exact ⟨0, _, _, rfl, Nat.zero_le _, HS0, HK0⟩
      case round =>
        obtain ⟨k, pv, P, rfl, hk, HS, HK⟩ := hrel
        clear HS0 HK0
        by_cases hlt : k < N
        · have r0 := HS.out.wait.cell hlt
          by_cases hz : cntTo l (fun _ => true) k = 0
          · have HKN := Lib.hid (HK.out.put hz)
            rw [hz] at r0
            clear hz
            have hpl := HK.out.len
            go_wp2_with (go_at_call 30; refine (put_have ((k : Int), (k : Int)) HS.out.pile (by omega)).mono ?_; rintro e w2 ⟨rfl, pv2, hP, ht⟩; have HS2 := Lib.hid (HS.out.piled hP ht); clear hP ht)
            go_roundw
            case rel => exact ⟨k + 1, pv2, _, by go_num, by omega, HS2, HKN⟩
            case measure => simp [intOf]; omega
          · have HKN := Lib.hid (HK.out.skip hz)
            obtain ⟨m, hm⟩ : ∃ m, cntTo l (fun _ => true) k = m := ⟨_, rfl⟩
            rw [hm] at hz r0
            have hmb : ((m : Int) == 0) = false := by simp; omega
            clear hm
            go_wp2_with fail
            go_roundw
            case rel => exact ⟨k + 1, pv, _, by go_num, by omega, HS, HKN⟩
            case measure => simp [intOf]; omega
        · obtain rfl : N = k := by omega
          go_wp2_with (go_at_call 31; refine (take_next HS.out HK.out .nil hN2).mono ?_; rintro e w2 ⟨X, Y, b, pv2, P2, rfl, hs2, ht2, hp2⟩; have HS2 := Lib.hid hs2; have HP2 := Lib.hid hp2; have HT2 := Lib.hid (hs2.thing X Y); clear hs2 ht2 hp2)
          obtain ⟨xb, hxb⟩ : ∃ xb, w2.heap.size = xb := ⟨_, rfl⟩
          rw [hxb] at HT2 ⊢
          clear HS HK HS2 hxb
          go_loopg [10, 11, 12] N (fun m lv xv ov wr => ∃ (out : List Nat) (p : Nat → Bool) (P : List It) (pv : Value) (xb : Nat) (X Y : Int) (b : Bool), xv = .pointer (some ⟨xb, 0, none⟩) ∧ ov = .bool b ∧ out.length + m = N ∧ Hid (SW w1 wr wb N (fun i => (cntTo l p i : Int)) pb pv P lv (nodesV out)) ∧ Hid (XW wr xb X Y wb pb pv lv) ∧ Hid (Pend l N out p P b X Y))
          case atStart => exact ⟨[], _, _, _, _, X, Y, b, rfl, rfl, by simp, Lib.hid HT2.out.1, Lib.hid HT2.out.2, HP2⟩
          case round =>
            obtain ⟨out, p, P, pv, xb, X, Y, b, rfl, rfl, hom, HS, HX, HP⟩ := hrel
            clear HT2 HP2
            cases b with
            | false =>
              have hend : Whole l N out ∨ Stuck l N out := by
                rcases HP.out with ⟨h, _⟩ | ⟨_, h⟩
                · cases h
                · exact h
              have HE := Lib.hid hend
              clear hend
              go_wp2_with fail
              go_ret
              exact ⟨(HG1.out.later HS.out.pile.below).below, _, out, rfl, HE.out, owns_rebase HS.out.row (by have := HS.out.base; have := HG1.out.below.size; omega)⟩
            | true =>
              obtain ⟨c, hX, hY, hc, hco, hsq, hka⟩ : ∃ c : Nat, X = (c : Int) ∧ Y = (c : Int) ∧ c < N ∧ c ∉ out ∧ Seq l N (out ++ [c]) ∧ Kahn l N out (out ++ [c]) [] p P := by
                rcases HP.out with ⟨_, h⟩ | ⟨h, _⟩
                · exact h
                · cases h
              subst hX hY
              have hle := hsq.le
              rw [List.length_append, List.length_singleton] at hle
              have HCO := Lib.hid hco
              have HSQ := Lib.hid hsq
              have HK := Lib.hid hka
              clear hco hsq hka HP
              have hc1 : (0 : Int) ≤ (c : Int) := by omega
              have hc2 : (c : Int) < (N : Int) := by omega
              obtain ⟨la, lc, hv⟩ := owns_shape HS.out.row
              subst hv
              have hnl : (nodesV out).length ≤ 1000 := by rw [nodesV_length]; omega
              have x1 := HX.out.c1
              have HS1 := Lib.hid (HS.out.later ((Below.refl wr.heap.size wr).alloc (Nat.le_refl _) (.cells #[.int .i64 (c : Int)] 3)))
              have HX1 := Lib.hid (HX.out.later ((Below.refl wr.heap.size wr).alloc (Nat.le_refl _) (.cells #[.int .i64 (c : Int)] 3)))
              have HCl : Hid (wb < wr.heap.size) := Lib.hid HS.out.wait.lt
              obtain ⟨va, vc, hv2⟩ := owns_shape (HAD.out.row c hc)
              have HV := Lib.hid hv2
              obtain ⟨M, hM⟩ : ∃ M, (outK l c).length = M := ⟨_, rfl⟩
              have HM := Lib.hid hM
              have hMl : M ≤ 20000 := by have := outK_le l c; have := HLn.out; omega
              clear hv2 hM
              go_wp2_with (at_builtin; refine wpList_append_fresh rfl (.tmp 63) (.tmp 66) 28 rfl (wb + 1) 3 i0 _ 1 8 Try.underlying28 hi hz0 hz1 hz2 (by decide) (.slice la (nodesV out).length lc) (nodesV out).length (numsV (nodesV out)) rfl HS1.out.row ⟨wr.heap.size, 0, none⟩ 1 [.int .i64 (c : Int)] rfl rfl (news_at _ _ _ _ rfl) (one_int _) (by unfold maxLen; omega) (by omega) (by have := HCl.out; simp; omega) ?_; intro g' cap' w5 hown hgrow hfr; have HS5 := Lib.hid (HS1.out.rowed hown hgrow hfr); have HX5 := Lib.hid (HX1.out.rowed (cap' := cap') (m := (nodesV out).length + 1) hgrow hfr); have y1 := HX5.out.c1; have y2 := (HAD.out.later HS5.out.pile.below).out.cell hc; rw [HV.out, HM.out] at y2; clear hown hgrow hfr)
              rw [← nodesV_snoc] at HS5
              have HK5 : Hid (Kahn l N out (out ++ [c]) ((outK l c).take 0) p P) := HK
              clear x1 y1 y2 HS HX HS1 HX1 HK HCl
              go_loopw [74] (fun qv wr => ∃ (q : Nat) (p : Nat → Bool) (P : List It) (pv : Value), qv = .int .i64 q ∧ q ≤ M ∧ Hid (SW w1 wr wb N (fun i => (cntTo l p i : Int)) pb pv P (.slice (some ⟨g', 0, none⟩) ((nodesV out).length + 1) cap') (nodesV (out ++ [c]))) ∧ Hid (XW wr xb (c : Int) (c : Int) wb pb pv (.slice (some ⟨g', 0, none⟩) ((nodesV out).length + 1) cap')) ∧ Hid (Kahn l N out (out ++ [c]) ((outK l c).take q) p P)) (fun qv _ => M - (intOf qv).toNat)
              case atStart => exact ⟨0, _, _, _, rfl, Nat.zero_le _, HS5, HX5, HK5⟩
              case round =>
                clear HS5 HX5 HK5
                obtain ⟨q, p, P, pv, rfl, hq, HS, HX, HK⟩ := hrel
                by_cases hlt : q < M
                · obtain ⟨v, hv⟩ : ∃ v, (outK l c)[q]? = some v := ⟨_, List.getElem?_eq_getElem (by rw [HM.out]; exact hlt)⟩
                  obtain ⟨k, x, rfl, hx, hxc⟩ := mem_outK.1 (List.mem_of_getElem? hv)
                  have hxok := okA_true.1 (HOK.out x (List.mem_of_getElem? hx))
                  have hkl : k < len := by have := (List.getElem?_eq_some_iff.1 hx).1; have := HLn.out; omega
                  obtain ⟨b, off, x', rfl, hbb, hx', e0, e1, e2⟩ := ((HG1.out.later HS.out.pile.below).arcs HL.out).at_ hkl
                  rw [hx] at hx'
                  cases hx'
                  obtain ⟨f, t0, d⟩ := x
                  simp only at e0 e1 e2 hxok hxc
                  obtain ⟨t, rfl⟩ : ∃ t : Nat, t0 = (t : Int) := ⟨t0.toNat, by omega⟩
                  have ht : t < N := by omega
                  have ht1 : (0 : Int) ≤ (t : Int) := by omega
                  have ht2 : (t : Int) < (N : Int) := by omega
                  have hk1 : (0 : Int) ≤ (k : Int) := by omega
                  have hk2 : (k : Int) < (len : Int) := by omega
                  obtain ⟨hpk, hpos, _⟩ := HK.out.arc_ HCO.out hv hx rfl
                  have hhit := cnt_hit hx hpk rfl
                  have hrow := (HAD.out.later HS.out.pile.below).row c hc
                  rw [HV.out, HM.out] at hrow
                  obtain ⟨G, cp, hvv, _, _, hcp, hcm⟩ := owns_some hrow (by omega)
                  injection hvv with ea _ ec
                  subst ea ec
                  unfold maxLen at hcm
                  have c2 := nums_cell hrow hv
                  have y1 := (HG1.out.later HS.out.pile.below).c1
                  have r0 := HS.out.wait.cell ht
                  have r1 := HS.out.wait.frozen t
                  have HXX := Lib.hid hx
                  have HV2 := Lib.hid hv
                  have hmiss : ∀ i, i < N → (if i = t then ((cntTo l (strike p k) t : Nat) : Int) else (cntTo l p i : Int)) = (cntTo l (strike p k) i : Int) := fun i _ => by
                    by_cases e : i = t
                    · subst e; simp
                    · rw [if_neg e, cnt_miss HXX.out (fun h => e (by simp at h; omega))]
                  by_cases hz : cntTo l (strike p k) t = 0
                  · have HKN := Lib.hid (HK.out.give HCO.out hv hx rfl ht hz)
                    have hm : cntTo l p t = 1 := by omega
                    rw [hm] at r0
                    rw [hz] at hmiss
                    have HS1 := Lib.hid ((HS.out.set_ t (0 : Int)).congr hmiss)
                    have HX1 := Lib.hid (HX.out.set_ t (.int .i64 0))
                    have hpl := HK.out.len
                    clear hz hm hmiss hpk hpos hhit hv hx hrow hxok hbb HS HX
                    go_wp2_with (go_at_call 30; refine (put_have ((t : Int), (t : Int)) HS1.out.pile (by omega)).mono ?_; rintro e w2 ⟨rfl, pv2, hP, ht⟩; have HS2 := Lib.hid (HS1.out.piled hP ht); have HX2 := Lib.hid (HX1.out.piled ht); clear hP ht)
                    go_roundw
                    case rel => exact ⟨q + 1, _, _, pv2, by go_num, by omega, HS2, HX2, HKN⟩
                    case measure => simp [intOf]; omega
                  · have HKN := Lib.hid (HK.out.keep HCO.out hv hx rfl hz)
                    obtain ⟨m, hm⟩ : ∃ m, cntTo l (strike p k) t = m := ⟨_, rfl⟩
                    have hm2 : cntTo l p t = m + 1 := by omega
                    rw [hm2] at r0
                    rw [hm] at hz hmiss
                    have HS1 := Lib.hid ((HS.out.set_ t (m : Int)).congr hmiss)
                    have HX1 := Lib.hid (HX.out.set_ t (.int .i64 (m : Int)))
                    have hmb : ((m : Int) == 0) = false := by simp; omega
                    have hml : m ≤ 20000 := by have := cnt_le l (strike p k) t; have := HLn.out; omega
                    clear hm hm2 hmiss hpk hpos hhit hv hx hrow hxok hbb HS HX
                    go_wp2_with fail
                    go_roundw
                    case rel => exact ⟨q + 1, _, _, pv, by go_num, by omega, HS1, HX1, HKN⟩
                    case measure => simp [intOf]; omega
                · have HK2 := Lib.hid (HK.out.done_ (by have := HM.out; omega))
                  have x0 := HX.out.c0
                  have x1 := HX.out.c1
                  have HT1 := Lib.hid (HS.out.thing (c : Int) (c : Int))
                  clear HS HX HK
                  go_wp2_with (go_at_call 31; refine (take_next HT1.out.1 HK2.out HSQ.out hN2).mono ?_; rintro e w2 ⟨X, Y, b, pv2, P2, rfl, hs2, ht2, hp2⟩; have HX2 := Lib.hid (HT1.out.2.piled ht2); have HP2 := Lib.hid hp2; have HT2 := Lib.hid (hs2.rething HX2.out X Y); have z0 := HX2.out.c0; have z1 := HX2.out.c1; have z2 := HX2.out.fz 0; have z3 := HX2.out.fz 1; have z4 := HX2.out.lt; clear hs2 ht2 hp2)
                  go_roundg (N - (out.length + 1))
                  case measure => omega
                  case rel => exact ⟨_, _, _, _, _, X, Y, b, rfl, rfl, by simp; omega, Lib.hid HT2.out.1, Lib.hid HT2.out.2, HP2⟩
end part
section part
open Go.RowKit

variable {len N : Nat} {l : List Ar} {out : List Nat} {n : Int}
theorem osorted_whole (hc : checkV (N : Int) l = 0) (ho : Whole l N out) (a : Option Addr) (cap : Nat) (w : World) (hl : IsArcs w.heap.size w a len l) :
    Calls Try.prog 20 #[.agg #[.int .i64 (N : Int), .slice a len cap]] w fun e w' => Below w.heap.size w w' ∧
      ∃ va vc, e = .returned (.slice va N vc) ∧ w'.ownsRow w.heap.size 3 1 (.slice va N vc) (nodesV out).length (numsV (nodesV out)) :=
  (osorted_any N hc a cap w hl).mono fun e w' ⟨hb, v, o, he, h, hr⟩ => ⟨hb, by
    rcases h with h | h
    · have := h.unique ho
      subst this
      obtain ⟨va, vc, hv⟩ := owns_shape hr
      rw [nodesV_length, h.2] at hv
      subst hv
      exact ⟨va, vc, he, hr⟩
    · exact (h.not_whole ho).elim⟩
theorem osorted_stuck (hc : checkV (N : Int) l = 0) (ho : Stuck l N out) (a : Option Addr) (cap : Nat) (w : World) (hl : IsArcs w.heap.size w a len l) :
    Calls Try.prog 20 #[.agg #[.int .i64 (N : Int), .slice a len cap]] w fun e w' => Below w.heap.size w w' ∧
      ∃ va m vc o, e = .returned (.slice va m vc) ∧ m < N ∧ m = (nodesV o).length ∧ Stuck l N o ∧ w'.ownsRow w.heap.size 3 1 (.slice va m vc) (nodesV o).length (numsV (nodesV o)) :=
  (osorted_any N hc a cap w hl).mono fun e w' ⟨hb, v, o, he, h, hr⟩ => ⟨hb, by
    rcases h with h | h
    · exact (ho.not_whole h).elim
    · obtain ⟨va, vc, hv⟩ := owns_shape hr
      subst hv
      exact ⟨va, _, vc, o, he, by rw [nodesV_length]; exact h.2.1, rfl, h, hr⟩⟩

set_option maxHeartbeats 1000000 in
theorem osort_bad (n : Int) (len cap : Nat) (l : List Ar) (a : Option Addr) (w : World) (hc : checkV n l ≠ 0) (hl : IsArcs w.heap.size w a len l) :
    Calls Try.prog 10 #[.agg #[.int .i64 n, .slice a len cap]] w fun e w' => Below w.heap.size w w' ∧ ∃ a1 c1, e = .returned (.tuple #[.slice a1 0 c1, .bool false]) := by
  have HG := Lib.hid (Box.make (Below.refl _ w) n a len cap)
  have HL := Lib.hid hl; clear hl
  have hcb : (checkV n l != 0) = true := by simpa using hc
  have HCA := Lib.hid (fun (W : World) (h : IsArcs W.heap.size W a len l) => check_any n cap a W h)
  generalize checkV n l = v at *
  clear hc
  go_enter Try.func10, Try.ntmps10
  go_wp2_with (go_at_call 19; refine (HCA.out _ (HG.out.arcsHere HL.out)).mono ?_; rintro e w1 ⟨rfl, hb1⟩; have HG1 := Lib.hid (HG.out.later hb1); clear hb1)
  go_ret2
  exact ⟨HG1.out.below, _, _, rfl⟩
set_option maxHeartbeats 1000000 in
theorem osort_ok (N len cap : Nat) (l : List Ar) (a : Option Addr) (w : World) (hc : checkV (N : Int) l = 0) (hl : IsArcs w.heap.size w a len l) :
    Calls Try.prog 10 #[.agg #[.int .i64 (N : Int), .slice a len cap]] w fun e w' => Below w.heap.size w w' ∧
      ((∃ v out, e = .returned (.tuple #[v, .bool true]) ∧ Whole l N out ∧ w'.ownsRow w.heap.size 3 1 v (nodesV out).length (numsV (nodesV out))) ∨
       ∃ a1 c1 out, e = .returned (.tuple #[.slice a1 0 c1, .bool false]) ∧ Stuck l N out) := by
  have HG := Lib.hid (Box.make (Below.refl _ w) (N : Int) a len cap)
  have HL := Lib.hid hl; clear hl
  have HC := Lib.hid hc
  have HCK := Lib.hid (check_any (N : Int) cap a _ (HG.out.arcsHere HL.out))
  rw [hc] at HCK
  have hN := (checkV_zero.1 hc).1
  clear hc
  obtain ⟨o, ho⟩ := whole_or_stuck l N
  rcases ho with ho | ho
  · have HO := Lib.hid ho; clear ho
    go_enter Try.func10, Try.ntmps10
    go_wp2_with (first
      | (go_at_call 19; refine HCK.out.mono ?_; rintro e w1 ⟨rfl, hb1⟩; have HG1 := Lib.hid (HG.out.later hb1); have x0 := HG1.out.c0; have x1 := HG1.out.c1; clear hb1)
      | (go_at_call 20; refine (osorted_whole HC.out HO.out a cap _ (HG1.out.arcsHere HL.out)).mono ?_; rintro e w2 ⟨hb2, va, vc, rfl, hr⟩; have HG2 := Lib.hid (HG1.out.later hb2); have HR := Lib.hid (owns_rebase hr HG1.out.below.size); have y0 := HG2.out.c0; clear hb2 hr))
    go_ret2
    exact ⟨HG2.out.below, .inl ⟨_, o, rfl, HO.out, HR.out⟩⟩
  · have HO := Lib.hid ho; clear ho
    go_enter Try.func10, Try.ntmps10
    go_wp2_with (first
      | (go_at_call 19; refine HCK.out.mono ?_; rintro e w1 ⟨rfl, hb1⟩; have HG1 := Lib.hid (HG.out.later hb1); have x0 := HG1.out.c0; have x1 := HG1.out.c1; clear hb1)
      | (go_at_call 20; refine (osorted_stuck HC.out HO.out a cap _ (HG1.out.arcsHere HL.out)).mono ?_; rintro e w2 ⟨hb2, va, m, vc, o2, rfl, hm, _, hs2, hr⟩; have HG2 := Lib.hid (HG1.out.later hb2); have y0 := HG2.out.c0; have HS2 := Lib.hid hs2; clear hb2 hr hs2))
    go_ret2
    exact ⟨HG2.out.below, .inr ⟨_, _, o, rfl, HO.out⟩⟩
end part
end Go.Proofs.Ytgoegkajfhhcjaa

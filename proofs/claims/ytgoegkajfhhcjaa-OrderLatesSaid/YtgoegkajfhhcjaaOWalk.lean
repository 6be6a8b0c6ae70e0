/- Package order: walked: the walk. -/
import Derived.Test.YtgoegkajfhhcjaaOBack
import Derived.Test.YtgoegkajfhhcjaaTurnedDo
import Derived.WalkMore
import Derived.Deep.LoopGhost
import Derived.Deep.RegionHeld3
import Derived.StillTailTactics
namespace Go.Proofs.Ytgoegkajfhhcjaa
open Go.RowKit

variable {w wa wr w2 w4 : World} {pb N g' cap' t len at_ lb L : Nat} {pl pl2 : Nat → Int} {lv : Value} {ws zs : List Int} {u : Int} {l : List Ar} {out : List Nat} {lf : Nat → Bool} {g off n cap m : Nat}
/-- The places lie in block pb; behind it the row that grows. -/
structure KW (wa wr : World) (pb N : Nat) (pl : Nat → Int) (lv : Value) (ws : List Int) : Prop where
  below : Below wa.heap.size wa wr
  place : wr.rowIs pb 3 N (fun i => .int .i64 (pl i))
  base : wa.heap.size ≤ pb
  row : wr.ownsRow (pb + 1) 3 1 lv ws.length (numsV ws)
theorem KW.later (h : KW wa wr pb N pl lv ws) (hb : Below wr.heap.size wr w2) : KW wa w2 pb N pl lv ws := ⟨h.below.trans (hb.mono h.below.size), rowIs_below h.place hb, h.base, owns_below h.row hb⟩
theorem KW.set_ (h : KW wa wr pb N pl lv ws) (t : Nat) (u : Int) : KW wa (wr.setCell ⟨pb, t, none⟩ (.int .i64 u)) pb N (fun i => if i = t then u else pl i) lv ws :=
  ⟨h.below.setCell (p := ⟨pb, t, none⟩) h.base _, wait_set h.place t u, h.base, owns_kept h.row ((Mod.refl (fun k => k = pb) wr).setCell (p := ⟨pb, t, none⟩) (.inr rfl) _) (fun k hk e => by have := (World.ownsRow.lt h.row k hk).1; omega)⟩
theorem KW.rowed (h : KW wa wr pb N pl lv ws) (hown : w4.ownsRow (pb + 1) 3 1 (.slice (some ⟨g', 0, none⟩) (ws.length + 1) cap') (ws.length + 1) (numsV ws ++ [.int .i64 u]))
    (hgrow : wr.grownBy w4 lv.ownBlock) : KW wa w4 pb N pl (.slice (some ⟨g', 0, none⟩) (ws.length + 1) cap') (ws ++ [u]) := by
  have hm : Mod (fun k => lv.ownBlock = some k) wr w4 := (Mod.refl _ wr).grown hgrow (fun k e => .inr e)
  have hlt := World.ownsRow.lt h.row
  have hb := h.base
  refine ⟨((Mod.of_below (fun k => lv.ownBlock = some k) h.below).trans hm).below (Nat.le_refl _) (fun k hk => by have := (hlt k hk).1; omega), h.place.of_block (hm.block pb h.place.lt (fun e => by have := (hlt _ e).1; omega)), h.base, ?_⟩
  rw [List.length_append, numsV_snoc]
  exact hown
theorem reverse_on (hz : n = zs.length) (h : ∀ (j : Nat) (x : Int), zs[j]? = some x → w.cell? ⟨g, off + j, none⟩ = some (.int .i64 x)) (hf : ∀ j, w.frozen? ⟨g, j, none⟩ = false) (hg : g < w.heap.size) (hbig : zs.length ≤ 100000) (cap : Nat) :
    Calls Try.prog 34 #[.slice (some ⟨g, off, none⟩) n cap] w fun e w' => e = .returned (.tuple #[]) ∧ IsInts w'.heap.size w' (some ⟨g, off, none⟩) n zs.reverse ∧ Mod (fun k => k = g) w w' := by
  subst hz
  exact reverse_at h hf hg hbig cap

theorem own_cap {n cap base : Nat} {a : Option Addr} {xs : List Value} {T : TypeId} (h : w.ownsRow base T 1 (.slice a n cap) m xs) : m ≤ cap ∧ cap ≤ maxLen := by
  rcases h.2 with ⟨e, h0⟩ | ⟨g, cap', cur, e, _, _, h1, h2, _⟩
  · injection e with _ _ e3
    subst e3
    exact ⟨by omega, Nat.zero_le _⟩
  · injection e with _ _ e3
    subst e3
    exact ⟨h1, h2⟩
theorem KW.reverse {k : Int} (h : KW wa wr pb N pl (.slice (some ⟨g', 0, none⟩) (m + 1) cap') (ws ++ [k])) (hm : ws.length = m) (hbig : m ≤ 1000) (cap : Nat) :
    Calls Try.prog 34 #[.slice (some ⟨g', t, none⟩) (m + 1 - t) cap] wr fun e w' => e = .returned (.tuple #[]) ∧ IsInts w'.heap.size w' (some ⟨g', t, none⟩) (m + 1 - t) ((ws ++ [k]).drop t).reverse ∧ Mod (fun k => k = g') wr w' := by
  have hr : wr.ownsRow (pb + 1) 3 1 (.slice (some ⟨g', 0, none⟩) (m + 1) cap') (m + 1) (numsV (ws ++ [k])) := by have h2 := h.row; rw [List.length_append, List.length_singleton, hm] at h2; exact h2
  refine reverse_on (by simp [hm]) (fun j x hj => ?_) (fun j => World.ownsRow.frozenAt hr j) (World.ownsRow.lt hr g' rfl).2 (by simp [hm]; omega) cap
  rw [List.getElem?_drop] at hj
  exact nums_cell hr hj

set_option maxHeartbeats 4000000 in
set_option maxRecDepth 100000 in
theorem walked_any (hc : checkV (N : Int) l = 0) (hs : Stuck l N out) (hat : at_ < N) (hao : at_ ∉ out) (hlf : ∀ i, i < N → (lf i = true ↔ i ∉ out)) (a : Option Addr) (cap : Nat) (w : World) (hl : IsArcs w.heap.size w a len l) (hr : w.rowIs lb 4 N (fun i => .bool (lf i))) :
    Calls Try.prog 23 #[.agg #[.int .i64 (N : Int), .slice a len cap], .slice (some ⟨lb, 0, none⟩) N N, .int .i64 (at_ : Int)] w fun e w' => Below w.heap.size w w' ∧
      ∃ a1 c1 ws, e = .returned (.slice a1 ws.length c1) ∧ IsInts w'.heap.size w' a1 ws.length ws ∧ ws.length ≤ 1002 ∧ ws ≠ [] ∧ ∃ (i : Nat) (W : Int), joinO l ws (i : Int) 0 = some ((i : Int), W) := by
  obtain ⟨i0, hi, hz0, hz1, hz2⟩ := info_parts infoInt
  obtain ⟨⟨_, hN, hll⟩, hok⟩ := checkV_zero.1 hc
  have hN2 : N ≤ 1000 := by omega
  have hN1 : 1 ≤ N := by omega
  have hlen : len ≤ 20000 := by have := hl.1; omega
  have HG := Lib.hid (Box.make (Below.refl _ w) (N : Int) a len cap)
  have HLn : Hid (l.length = len) := Lib.hid hl.1
  have HOKT : Hid (∀ x ∈ turned l, 0 ≤ x.1 ∧ x.1 < (N : Int)) := Lib.hid (fun x hx => by
    rw [turned, List.mem_map] at hx
    obtain ⟨y, hy, rfl⟩ := hx
    exact (okA_true.1 (hok y hy)).2.1)
  have HOK := Lib.hid hok
  have HL := Lib.hid hl
  have HS := Lib.hid hs
  have HR := Lib.hid hr
  have HLF := Lib.hid hlf
  have HTR0 := Lib.hid (Trail.start (l := l) hat hao)
  clear hc hok hl hN hll hs hr hlf hao
  go_enter Try.func23, Try.ntmps23
  go_wp2_with fail
  go_step3
  go_wp2_with (first
    | (go_at_call 27; refine (turned_any (N : Int) (by omega) a cap _ (HG.out.arcsHere HL.out)).mono ?_; rintro e w1 ⟨T, rfl, hta, _, hb1⟩; have HG1 := Lib.hid (HG.out.later hb1); have HTA := Lib.hid hta; clear hta hb1)
    | (go_at_call 26; refine (byfrom_any N hN2 hlen HOKT.out (some ⟨T, 0, none⟩) len _ HTA.out).mono ?_; rintro e w2 ⟨L, V, rfl, hadj, hb2⟩; have HG2 := Lib.hid ((HG1.out.later hb2).alloc (.cells #[.int .i64 (-1)] 3)); have HAD := Lib.hid ((show Adj w.heap.size w2 L N V (outK (turned l)) from ⟨Nat.le_trans HG1.out.below.size hadj.ge, hadj.out, hadj.row, hadj.apart⟩).later ((Below.refl _ w2).alloc (Nat.le_refl _) (.cells #[.int .i64 (-1)] 3))); have x0 := HG2.out.c0; have x1 : (w2.alloc (.cells #[.int .i64 (-1)] 3)).cell? ⟨w2.heap.size, 0, none⟩ = some (.int .i64 (-1)) := (by simp); clear hadj hb2)
    | (go_at_call 33; refine (repIntsO (-1) N _ _ hN1 hN2 x1).mono ?_; rintro e w3 ⟨pb, rfl, hrow, hge, hb3⟩; have HK0 : Hid (KW (w2.alloc (.cells #[.int .i64 (-1)] 3)) w3 pb N (fun _ => -1) (.slice none 0 0) []) := Lib.hid ⟨hb3, hrow, hge, World.ownsRow_nil _ _ _ 1⟩; clear hrow hge hb3))
  obtain ⟨wa, hwa⟩ : ∃ wa, w2.alloc (.cells #[.int .i64 (-1)] 3) = wa := ⟨_, rfl⟩
  rw [hwa] at HG2 HAD HK0 x0 x1
  clear hwa x0 x1 HTA
  go_step3
  go_wp2_with fail
  go_loopg [2, 9] N (fun gn av lv wr => ∃ (m : Nat) (v : Nat → Nat) (ws : List Int) (pl : Nat → Int), av = .int .i64 ((v m : Nat) : Int) ∧ m + gn = N ∧ pl (v m) = -1 ∧ Hid (KW wa wr pb N pl lv ws) ∧ Hid (Trail l N out ws v m pl))
  case atStart => exact ⟨0, fun _ => at_, [], fun _ => -1, rfl, by omega, rfl, HK0, HTR0⟩
  case round =>
    obtain ⟨m, v, ws, pl, rfl, hmg, hpl, HK, HT⟩ := hrel
    clear HK0 HTR0
    have hmN := HT.out.short hpl
    have hins := HT.out.ins m (Nat.le_refl _)
    obtain ⟨c, hcv⟩ : ∃ c, v m = c := ⟨_, rfl⟩
    have HCV := Lib.hid hcv
    have HPL := Lib.hid hpl
    rw [hcv] at hins ⊢
    obtain ⟨hc, hco⟩ := hins
    have HCO := Lib.hid hco
    clear hcv hpl hco
    have hc1 : (0 : Int) ≤ (c : Int) := by omega
    have hc2 : (c : Int) < (N : Int) := by omega
    obtain ⟨la, lc, hv⟩ := owns_shape HK.out.row
    subst hv
    have hwl := HT.out.len
    rw [hwl] at HK
    simp only [hwl]
    have HWL := Lib.hid hwl
    clear hwl
    have r0 := HK.out.place.cell hc
    have r1 := HK.out.place.frozen c
    have HK1 := Lib.hid (HK.out.set_ c (m : Int))
    obtain ⟨va, vc, hv2⟩ := owns_shape (HAD.out.row c hc)
    obtain ⟨M, hM⟩ : ∃ M, (outK (turned l) c).length = M := ⟨_, rfl⟩
    rw [hM] at hv2
    have HV := Lib.hid hv2
    have HM := Lib.hid hM
    have hMl : M ≤ 20000 := by have h1 := outK_le (turned l) c; have h2 := HLn.out; rw [show (turned l).length = l.length from by simp [turned]] at h1; omega
    have r2 := (HAD.out.later HK1.out.below).out.cell hc
    rw [hv2] at r2
    have HST : Hid (∀ (k f : Nat) (x : Ar), l[k]? = some x → x.2.1 = (c : Int) → x.1 = (f : Int) → f < N → f ∉ out → ∃ v' : Nat → Nat, v' (m + 1) = f ∧ Trail l N out (ws ++ [(k : Int)]) v' (m + 1) (fun i => if i = c then (m : Int) else pl i)) := Lib.hid (fun k f x hx h1 h2 hf hfo => by
      have h3 := HT.out.step HPL.out hx (by rw [HCV.out]; exact h1) h2 hf hfo
      rw [HCV.out] at h3
      exact ⟨_, if_neg (by omega), h3⟩)
    have HLF0 : Hid (∀ j, j < 0 → ∀ (k : Nat) (x : Ar), (outK (turned l) c)[j]? = some (k : Int) → l[k]? = some x → lf x.1.toNat = false) := Lib.hid (fun j hj => by omega)
    clear hv2 hM HT HPL HK
    go_wp2_with fail
    clear r0 r1 r2
    go_loopg [2, 9, 31] M (fun g2 av lv qv wr => ∃ q : Nat, av = .int .i64 (c : Int) ∧ lv = .slice la m lc ∧ qv = .int .i64 q ∧ q + g2 = M ∧ Hid (KW wa wr pb N (fun i => if i = c then (m : Int) else pl i) (.slice la m lc) ws) ∧ Hid (∀ j, j < q → ∀ (k : Nat) (x : Ar), (outK (turned l) c)[j]? = some (k : Int) → l[k]? = some x → lf x.1.toNat = false))
    case atStart => exact ⟨0, rfl, rfl, rfl, by omega, HK1, HLF0⟩
    case round =>
      obtain ⟨q, rfl, rfl, rfl, hqg, HK, HQ⟩ := hrel
      clear HK1 HLF0
      by_cases hlt : q < M
      · obtain ⟨vv, hvv⟩ : ∃ vv, (outK (turned l) c)[q]? = some vv := ⟨_, List.getElem?_eq_getElem (by rw [HM.out]; exact hlt)⟩
        obtain ⟨k, x, rfl, hx, hxc⟩ := mem_into.1 (List.mem_of_getElem? hvv)
        have hxok := okA_true.1 (HOK.out x (List.mem_of_getElem? hx))
        have hkl : k < len := by have := (List.getElem?_eq_some_iff.1 hx).1; have := HLn.out; omega
        have hbelow := (HG2.out.later HK.out.below).below
        obtain ⟨b, off, x', rfl, hbb, hx', e0, e1, e2⟩ := ((HG2.out.later HK.out.below).arcs HL.out).at_ hkl
        rw [hx] at hx'
        cases hx'
        obtain ⟨f0, t0, d⟩ := x
        simp only at e0 e1 e2 hxok hxc
        obtain ⟨f, rfl⟩ : ∃ f : Nat, f0 = (f : Int) := ⟨f0.toNat, by omega⟩
        have hf : f < N := by omega
        have hf1 : (0 : Int) ≤ (f : Int) := by omega
        have hf2 : (f : Int) < (N : Int) := by omega
        have hk1 : (0 : Int) ≤ (k : Int) := by omega
        have hk2 : (k : Int) < (len : Int) := by omega
        have hrow := (HAD.out.later HK.out.below).row c hc
        rw [HV.out, HM.out] at hrow
        obtain ⟨G, cp, hvv2, _, _, hcp, hcm⟩ := owns_some hrow (by omega)
        injection hvv2 with ea _ ec
        subst ea ec
        unfold maxLen at hcm
        have c2 := nums_cell hrow hvv
        have y1 := (HG2.out.later HK.out.below).c1
        have y2 := (rowIs_below HR.out hbelow).cell hf
        have HVV := Lib.hid hvv
        have HXX := Lib.hid hx
        clear hrow hbb hxok hbelow hvv hx
        cases hlf : lf f with
        | false =>
          rw [hlf] at y2
          have HQ2 : Hid (∀ j, j < q + 1 → ∀ (k : Nat) (x : Ar), (outK (turned l) c)[j]? = some (k : Int) → l[k]? = some x → lf x.1.toNat = false) := Lib.hid (fun j hj k2 x2 h1 h2 => by
            by_cases e : j = q
            · subst e
              rw [HVV.out] at h1
              have : k = k2 := by injection h1 with h1; omega
              subst this
              rw [HXX.out] at h2
              cases h2
              simpa using hlf
            · exact HQ.out j (by omega) k2 x2 h1 h2)
          clear hlf
          go_wp2_with fail
          go_roundg (M - (q + 1))
          case measure => omega
          case rel => exact ⟨q + 1, rfl, rfl, by go_num, by omega, HK, HQ2⟩
        | true =>
          rw [hlf] at y2
          have hfo := (HLF.out f hf).1 hlf
          obtain ⟨v', hv', htr⟩ := HST.out k f _ HXX.out hxc rfl hf hfo
          have HV' := Lib.hid hv'
          have HTR := Lib.hid htr
          clear hlf hfo hv' htr
          have HK1 := Lib.hid (HK.out.later ((Below.refl wr.heap.size wr).alloc (Nat.le_refl _) (.cells #[.int .i64 (k : Int)] 3)))
          have HRW : Hid ((wr.alloc (.cells #[.int .i64 (k : Int)] 3)).ownsRow (pb + 1) 3 1 (.slice la m lc) m (numsV ws)) := Lib.hid (by have := HK1.out.row; rw [HWL.out] at this; exact this)
          have HPB : Hid (pb < wr.heap.size) := Lib.hid HK.out.place.lt
          by_cases hpl : (if f = c then (m : Int) else pl f) = -1
          · have HPL := Lib.hid hpl
            clear hpl
            go_wp2_with (at_builtin; refine wpList_append_fresh rfl (.tmp 46) (.tmp 48) 28 rfl (pb + 1) 3 i0 _ 1 8 Try.underlying28 hi hz0 hz1 hz2 (by decide) (.slice la m lc) m (numsV ws) rfl HRW.out ⟨wr.heap.size, 0, none⟩ 1 [.int .i64 (k : Int)] rfl rfl (news_at _ _ _ _ rfl) (one_int _) (by unfold maxLen; omega) (by omega) (by have := HPB.out; simp; omega) ?_; intro g' cap' w5 hown hgrow hfr; have HK5 := Lib.hid (HK1.out.rowed (g' := g') (cap' := cap') (by rw [HWL.out]; exact hown) hgrow); have z0 := HK5.out.place.cell hf; rw [HPL.out] at z0; clear hown hgrow hfr)
            go_roundg (N - (m + 1))
            case measure => omega
            case rel => exact ⟨m + 1, v', _, _, by rw [HV'.out], by omega, by rw [HV'.out]; exact HPL.out, by rw [HWL.out] at HK5; exact HK5, HTR⟩
          · obtain ⟨t, htm, hpt, W, hW⟩ := HTR.out.cycle (by rw [HV'.out]; exact hpl)
            rw [HV'.out] at hpt hW
            have HPT := Lib.hid hpt
            have HW := Lib.hid hW
            have ht0 : (0 : Int) ≤ (t : Int) := by omega
            clear hpl hpt hW
            go_wp2_with (first
              | (at_builtin; refine wpList_append_fresh rfl (.tmp 46) (.tmp 48) 28 rfl (pb + 1) 3 i0 _ 1 8 Try.underlying28 hi hz0 hz1 hz2 (by decide) (.slice la m lc) m (numsV ws) rfl HRW.out ⟨wr.heap.size, 0, none⟩ 1 [.int .i64 (k : Int)] rfl rfl (news_at _ _ _ _ rfl) (one_int _) (by unfold maxLen; omega) (by omega) (by have := HPB.out; simp; omega) ?_; intro g' cap' w5 hown hgrow hfr; have HK5 : Hid (KW wa w5 pb N (fun i => if i = c then (m : Int) else pl i) (.slice (some ⟨g', 0, none⟩) (m + 1) cap') (ws ++ [(k : Int)])) := Lib.hid (by have h := HK1.out.rowed (g' := g') (cap' := cap') (by rw [HWL.out]; exact hown) hgrow; rw [HWL.out] at h; exact h); have z0 := HK5.out.place.cell hf; rw [HPT.out] at z0; obtain ⟨hcp1, hcp2⟩ := own_cap HK5.out.row; rw [List.length_append, HWL.out] at hcp1; unfold maxLen at hcp2; have hct : ¬ cap' = t := (by simp at hcp1; omega); have hct2 : ¬ m + 1 < t := (by omega); have HRV := Lib.hid (KW.reverse HK5.out HWL.out (t := t) (by omega) (cap' - t)); clear hown hgrow hfr hcp1)
              | (go_at_call 34; refine HRV.out.mono ?_; rintro e w6 ⟨rfl, hz6, hm6⟩; have HZ6 := Lib.hid hz6; have HM6 := Lib.hid hm6; clear hz6 hm6))
            try rw [Exit.noGoto_ret]
            go_ret
            have hzl : ((ws ++ [(k : Int)]).drop t).reverse.length = m + 1 - t := by simp [HWL.out]
            refine ⟨(((Mod.of_below (fun k => k = g') (HG2.out.later HK5.out.below).below).trans HM6.out).below (Nat.le_refl _) (fun k hk => ?_)), some ⟨g', t, none⟩, cap' - t, ((ws ++ [(k : Int)]).drop t).reverse, ?_, ?_, ?_, ?_, f, W, HW.out⟩
            · have h1 := (World.ownsRow.lt HK5.out.row g' rfl).1
              have h2 := HK5.out.base
              have h3 := HG2.out.below.size
              omega
            · rw [hzl]; rfl
            · rw [hzl]; exact HZ6.out
            · rw [hzl]; omega
            · intro e
              rw [e] at hzl
              simp at hzl
              omega
      · exfalso
        obtain ⟨k, x, f, h1, h2, h3, h4, h5⟩ := HS.out.back_ HOK.out hc HCO.out
        obtain ⟨j, hj⟩ := List.getElem?_of_mem (mem_into.2 ⟨k, x, rfl, h1, h2⟩)
        have hjM : j < M := by have := (List.getElem?_eq_some_iff.1 hj).1; rw [HM.out] at this; exact this
        have h6 := HQ.out j (by omega) k x hj h1
        rw [h3, Int.toNat_natCast, Bool.eq_false_iff] at h6
        exact h6 ((HLF.out f h4).2 h5)
end Go.Proofs.Ytgoegkajfhhcjaa

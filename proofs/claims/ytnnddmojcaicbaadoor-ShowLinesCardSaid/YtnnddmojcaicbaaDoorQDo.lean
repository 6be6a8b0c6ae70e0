/- Package parse: what Parse has done with a reader. -/
import Derived.Test.YtnnddmojcaicbaaDoorQBase
import Derived.Test.YtnnddmojcaicbaaDoorIMake
import Derived.Deep.RegionHeld3
import Derived.Deep.LoopGhost
import Derived.LoopTactic
namespace Go.Proofs.YtnnddmojcaicbaaDoor
open Go.RowKit

variable {base R n k bx : Nat} {v : Value} {ws : List W} {W0 w : World} {F : Rr} {en tm tr bm br : Int} {sv cv kv tv : Value} {B : Nat}
theorem infoRowsQ : (Tryd.prog.info? 22).map (fun i => (i.zero, i.size, i.bytes)) = some (some (.slice none 0 0), 1, 24) := by kernel_rfl
theorem BoxS.rows {u : Value} {vs : List Value} {L : List (List Int)} (h : BoxS base R v ws n k bx W0 w en tm tr bm br sv cv kv tv) (hB : R < B) (ho : OwnRs B W0 u vs L) : OwnRs B w u vs L :=
  ho.kept h.mod (fun b hb _ e => by
    have := h.bxlt
    have := h.Rge
    rcases e with e | e <;> omega)
set_option maxHeartbeats 16000000 in
set_option maxRecDepth 100000 in
theorem do_ins (h : Rd base R v ws n 0 0 0 W0) (hbx : W0.heap[bx]? = some (.cells #[.int .i64 0, .int .i64 0, .int .i64 0, .int .i64 0, .int .i64 0, .slice none 0 0, .slice none 0 0, .slice none 0 0, .slice none 0 0] 38 (0, 0))) (h1 : bx < base) (h2 : base ≤ R)
    (htx : ∀ x ∈ ws, x.1.length ≤ 1000000) (hF : runR ws instP 0 = F) :
    Calls Tryd.prog 28 #[ptrR R, .pointer (some ⟨bx, 0, none⟩)] W0 (DoQ base R v ws n bx W0 F) := by
  obtain ⟨i0, hi0, hz0, hz1, hz2⟩ := info_parts infoSatM
  obtain ⟨i1, hi1, hy0, hy1, hy2⟩ := info_parts infoCusM
  obtain ⟨i2, hi2, hx0, hx1, hx2⟩ := info_parts infoRowsQ
  have HB := Lib.hid (BoxS.start h hbx h1 h2)
  have HM0 : Hid (Mod (fun b => b = R ∨ b = bx) W0 W0) := Lib.hid (Mod.refl _ _)
  have HF := Lib.hid hF
  have HTX := Lib.hid htx
  clear h hbx h1 h2 hF htx
  go_enter Tryd.func28, Tryd.ntmps28
  go_wp2_with fail
  refine (mustQ HB.out.rd _ tWharfage rfl HF.out).mono ?_
  rintro e w1 ⟨hm, ⟨rfl, hr, hF⟩ | ⟨rfl, hoff⟩⟩
  rotate_left
  · exact ⟨rfl, DoQ.off HM0.out HB.out hm ⟨rfl, hoff⟩⟩
  have HBn := Lib.hid (HB.out.read hm hr)
  have HFn := Lib.hid hF
  clear hm hr hF HB HF
  have HB := HBn
  have HF := HFn
  clear HBn HFn
  go_wp2_with fail
  refine (numberQ HB.out.rd HTX.out HF.out).mono ?_
  rintro e w2 ⟨hm, ⟨en, rfl, hq, hr, hF⟩ | ⟨rfl, hoff⟩⟩
  rotate_left
  · exact ⟨rfl, DoQ.off HM0.out HB.out hm ⟨rfl, hoff⟩⟩
  have HBn := Lib.hid (HB.out.read hm hr)
  have HFn := Lib.hid hF
  clear hm hr hF HB HF
  have c0 := HBn.out.cells.1
  have f0 := HBn.out.cells.2.2.2.2.2.2.2.2.2 0
  have HB := Lib.hid (HBn.out.set_ (o := 0) (u := .int .i64 en) rfl)
  have HF := HFn
  clear HBn HFn hq
  go_wp2_with fail
  refine (mustQ HB.out.rd _ tTrucks rfl HF.out).mono ?_
  rintro e w3 ⟨hm, ⟨rfl, hr, hF⟩ | ⟨rfl, hoff⟩⟩
  rotate_left
  · exact ⟨rfl, DoQ.off HM0.out HB.out hm ⟨rfl, hoff⟩⟩
  have HBn := Lib.hid (HB.out.read hm hr)
  have HFn := Lib.hid hF
  clear hm hr hF HB HF
  have HB := HBn
  have HF := HFn
  clear HBn HFn
  clear c0 f0
  go_wp2_with fail
  refine (fleetQ HB.out.rd HTX.out HF.out).mono ?_
  rintro e w4 ⟨hm, ⟨tm, tr, rfl, hr, hF⟩ | ⟨rfl, hoff⟩⟩
  rotate_left
  · exact ⟨rfl, DoQ.off HM0.out HB.out hm ⟨rfl, hoff⟩⟩
  have HBn := Lib.hid (HB.out.read hm hr)
  have HFn := Lib.hid hF
  clear hm hr hF HB HF
  obtain ⟨_, c1, c2, _, _, _, _, _, _, hf⟩ := HBn.out.cells
  have f1 := hf 1
  have f2 := hf 2
  clear hf
  have HB := Lib.hid ((HBn.out.set_ (o := 1) (u := .int .i64 tm) rfl).set_ (o := 2) (u := .int .i64 tr) rfl)
  have HF := HFn
  clear HBn HFn
  go_wp2_with fail
  refine (mustQ HB.out.rd _ tBikes rfl HF.out).mono ?_
  rintro e w5 ⟨hm, ⟨rfl, hr, hF⟩ | ⟨rfl, hoff⟩⟩
  rotate_left
  · exact ⟨rfl, DoQ.off HM0.out HB.out hm ⟨rfl, hoff⟩⟩
  have HBn := Lib.hid (HB.out.read hm hr)
  have HFn := Lib.hid hF
  clear hm hr hF HB HF
  have HB := HBn
  have HF := HFn
  clear HBn HFn
  clear c1 c2 f1 f2
  go_wp2_with fail
  refine (fleetQ HB.out.rd HTX.out HF.out).mono ?_
  rintro e w6 ⟨hm, ⟨bm, br, rfl, hr, hF⟩ | ⟨rfl, hoff⟩⟩
  rotate_left
  · exact ⟨rfl, DoQ.off HM0.out HB.out hm ⟨rfl, hoff⟩⟩
  have HBn := Lib.hid (HB.out.read hm hr)
  have HFn := Lib.hid hF
  clear hm hr hF HB HF
  obtain ⟨_, _, _, c3, c4, _, _, _, _, hf⟩ := HBn.out.cells
  have f3 := hf 3
  have f4 := hf 4
  clear hf
  have HB := Lib.hid ((HBn.out.set_ (o := 3) (u := .int .i64 bm) rfl).set_ (o := 4) (u := .int .i64 br) rfl)
  have HF := HFn
  clear HBn HFn
  go_wp2_with fail
  refine (mustQ HB.out.rd _ tSatellites rfl HF.out).mono ?_
  rintro e w7 ⟨hm, ⟨rfl, hr, hF⟩ | ⟨rfl, hoff⟩⟩
  rotate_left
  · exact ⟨rfl, DoQ.off HM0.out HB.out hm ⟨rfl, hoff⟩⟩
  have HBn := Lib.hid (HB.out.read hm hr)
  have HFn := Lib.hid hF
  clear hm hr hF HB HF
  have HB := HBn
  have HF := HFn
  clear HBn HFn
  clear c3 c4 f3 f4
  go_wp2_with fail
  refine (numQ HB.out.rd HTX.out HF.out).mono ?_
  rintro e wA ⟨hm, ⟨q, rfl, hq, hr, hF⟩ | ⟨rfl, hoff⟩⟩
  rotate_left
  · exact ⟨rfl, DoQ.off HM0.out HB.out hm ⟨rfl, hoff⟩⟩
  have HBn := Lib.hid (HB.out.read hm hr)
  have HFn := Lib.hid hF
  clear hm hr hF HB HF
  obtain ⟨ms, hnm⟩ : ∃ m : Nat, q = (m : Int) := ⟨q.toNat, by omega⟩
  subst hnm
  obtain ⟨ms1, ms2, _⟩ := hq
  have HB := HBn
  have HF := HFn
  clear HBn HFn
  have HM1 := Lib.hid (HM0.out.trans HB.out.mod)
  have HBn := Lib.hid HB.out.restart
  clear HB
  have HB := HBn
  clear HBn
  have HRA := Lib.hid HB.out.Rlt
  go_wp2_with fail
  have HS0 : Hid (wA.ownsRow wA.heap.size 46 2 (.slice none 0 0) 0 []) := Lib.hid nil_owned
  have HL0 : Hid (runR ws (satsP (ms - 0) [] (cusQ en tm tr bm br)) _ = F) := Lib.hid (by have h := HF.out; rwa [Int.toNat_natCast] at h)
  clear HF
  go_loopw [24] (fun iv wr => ∃ (j k : Nat) (xv : Value) (l : List (Int × Int)), iv = .int .i64 (j : Int) ∧ j ≤ ms ∧ Hid (l.length = j) ∧ Hid (BoxS base R v ws n k bx wA wr en tm tr bm br xv (.slice none 0 0) (.slice none 0 0) (.slice none 0 0)) ∧ Hid (wr.ownsRow wA.heap.size 46 2 xv j (flatS l)) ∧ Hid (runR ws (satsP (ms - j) l (cusQ en tm tr bm br)) k = F)) (fun iv _ => ms - (intOf iv).toNat)
  case atStart => exact ⟨0, _, _, [], rfl, Nat.zero_le _, Lib.hid rfl, HB, HS0, HL0⟩
  case round =>
    obtain ⟨j, k, xv, l, rfl, hj, HL, HBR, HS, HF⟩ := hrel
    clear HS0 HL0 HB
    obtain ⟨xaA, xcA, hxv⟩ := owns_shape HS.out
    subst hxv
    by_cases hlt : j < ms
    · have hF2 := HF.out
      rw [show ms - j = (ms - (j + 1)) + 1 by omega, satsP] at hF2
      have HC := Lib.hid (satelliteQ (HBR.out.rd.drew) HTX.out hF2)
      have c5 := HBR.out.cells.2.2.2.2.2.1
      have HBS := HBR.out.mod.size
      clear hF2 HF
      go_wp2_with fail
      refine wp_region_held_drew (S := fun _ => True) (by kernel_rfl) trivial (fun hHeld => ?_)
      refine wpAnyH_take (i := 0) (v := ?_) rfl (by kernel_rfl) (by kernel_rfl) (by kernel_rfl) (fun _ _ _ h => h) (Or.inl ⟨by rfl, ?_⟩) hHeld ?_
      rotate_left
      · intro Wz hWz; go_simp; (try with_reducible rfl)
      try simp only [Act.put, List.setIfInBounds_toArray, List.set_cons_zero, List.set_cons_succ, List.getElem_toArray, List.getElem_cons_zero]
      refine wpAnyH_take (i := 2) (v := ?_) rfl (by kernel_rfl) (by kernel_rfl) (by kernel_rfl) (fun _ _ _ h => h) (Or.inl ⟨by rfl, ?_⟩) hHeld ?_
      rotate_left
      · intro Wz hWz; go_simp; (try with_reducible rfl)
      try simp only [Act.put, List.setIfInBounds_toArray, List.set_cons_zero, List.set_cons_succ, List.getElem_toArray, List.getElem_cons_zero, List.getElem_cons_succ]
      refine wpAnyH_ready (rs := [1, 3]) (by kernel_rfl) (by simp) ?_
      refine AllReadyH.cons rfl (fun K hK => ?_) (AllReadyH.cons rfl (fun K hK => ?_) AllReadyH.nil)
      · go_simp
        refine hK.out _ _ ?_ (fun hHeld => ?_)
        · exact trivial
        clear hK K
        try simp only [Act.put, List.setIfInBounds_toArray, List.set_cons_zero, List.set_cons_succ, List.getElem_toArray, List.getElem_cons_zero, List.getElem_cons_succ]
        refine wpAnyH_ready (rs := [3]) (by kernel_rfl) (by simp) ?_
        refine AllReadyH.cons rfl (fun K hK => ?_) AllReadyH.nil
        go_simp
        refine HC.out.mono ?_
        rintro e w3 ⟨hm3, ⟨a, b, rfl, hr3, hF3⟩ | ⟨rfl, hoff⟩⟩
        rotate_left
        · exact ⟨rfl, DoQ.off HM1.out HBR.out.drew hm3 ⟨rfl, hoff⟩⟩
        have HB3 := Lib.hid (HBR.out.drew.read hm3 hr3)
        have HF3 := Lib.hid hF3
        have HS3 : Hid (w3.ownsRow wA.heap.size 46 2 (.slice xaA j xcA) j (flatS l)) := Lib.hid (owns_kept HS.out (((Mod.refl (fun b => b = R) wr).drew).trans hm3) (fun b hb e => by have := (World.ownsRow.lt HS.out b hb).1; have := HBR.out.Rlt; omega))
        have c5 := HB3.out.cells.2.2.2.2.2.1
        have hs3 : wr.heap.size ≤ w3.heap.size := hm3.size
        clear hm3 hr3 hF3
        refine hK.out _ _ ?_ (fun hHeld => ?_)
        · exact trivial
        clear hK K
        try simp only [Act.put, List.setIfInBounds_toArray, List.set_cons_zero, List.set_cons_succ, List.getElem_toArray, List.getElem_cons_zero, List.getElem_cons_succ]
        refine wpAnyH_ready (rs := [4]) (by kernel_rfl) (by simp) ?_
        refine AllReadyH.cons rfl (fun K hK => ?_) AllReadyH.nil
        go_simp
        have HB4 := Lib.hid (HB3.out.later ((Below.refl _ _).alloc (Nat.le_refl _) (.cells #[.int .i64 a, .int .i64 b] 46)))
        have HS4 := Lib.hid (owns_below HS3.out ((Below.refl _ _).alloc (Nat.le_refl _) (.cells #[.int .i64 a, .int .i64 b] 46)))
        have c5 := HB4.out.cells.2.2.2.2.2.1
        refine hK.out _ _ ?_ (fun hHeld => ?_)
        · exact trivial
        clear hK K
        try simp only [Act.put, List.setIfInBounds_toArray, List.set_cons_zero, List.set_cons_succ, List.getElem_toArray, List.getElem_cons_zero, List.getElem_cons_succ]
        refine wpAnyH_ready (rs := [5]) (by kernel_rfl) (by simp) ?_
        refine AllReadyH.cons rfl (fun K hK => ?_) AllReadyH.nil
        refine step_append_fresh rfl (.tmp 27) (.tmp 30) 34 rfl wA.heap.size 46 i0 _ 2 16 Tryd.underlying34 hi0 hz0 hz1 hz2 (by decide) (.slice xaA j xcA) j (flatS l) rfl HS4.out ⟨w3.heap.size, 0, none⟩ 1 (encS (a, b)) rfl rfl (newsS_at _ (a, b) _ _ rfl) (oneS _) (by unfold maxLen; omega) (by omega) (by simp; omega) ?_
        intro g cp4 w4 hown hgrow hfr
        have HB5 := Lib.hid (HB4.out.grown hgrow (fun k hk => (World.ownsRow.lt HS4.out k hk).1))
        have HS5 : Hid ((w4.setCell ⟨bx, 5, none⟩ (.slice (some ⟨g, 0, none⟩) (j + 1) cp4)).ownsRow wA.heap.size 46 2 (.slice (some ⟨g, 0, none⟩) (j + 1) cp4) (j + 1) (flatS (l ++ [(a, b)]))) := Lib.hid (by
          rw [flatS_snoc]
          exact owns_kept hown ((Mod.refl (fun b => b = bx) w4).setCell (p := ⟨bx, 5, none⟩) (.inr rfl) _) (fun b hb e => by have := (World.ownsRow.lt hown b hb).1; have := HBR.out.bxlt; have := HBR.out.Rge; have := HBR.out.Rlt; omega))
        have c5 := HB5.out.cells.2.2.2.2.2.1
        have fz := HB5.out.cells.2.2.2.2.2.2.2.2.2 5
        have HB6 : Hid (BoxS base R v ws n (k + 1 + 1) bx wA (w4.setCell ⟨bx, 5, none⟩ (.slice (some ⟨g, 0, none⟩) (j + 1) cp4)) en tm tr bm br (.slice (some ⟨g, 0, none⟩) (j + 1) cp4) (.slice none 0 0) (.slice none 0 0) (.slice none 0 0)) := Lib.hid (HB5.out.set_ (o := 5) rfl)
        clear hown hgrow hfr
        refine hK.out _ _ ?_ (fun hHeld => ?_)
        · exact trivial
        clear hK K
        try simp only [Act.put, List.setIfInBounds_toArray, List.set_cons_zero, List.set_cons_succ, List.getElem_toArray, List.getElem_cons_zero, List.getElem_cons_succ]
        refine wpAnyH_take (i := 6) (v := ?_) rfl (by kernel_rfl) (by kernel_rfl) (by kernel_rfl) (fun _ _ _ h => h) (Or.inl ⟨by rfl, ?_⟩) hHeld ?_
        rotate_left
        · intro Wz hWz; go_simp; (try with_reducible rfl)
        try simp only [Act.put, List.setIfInBounds_toArray, List.set_cons_zero, List.set_cons_succ, List.getElem_toArray, List.getElem_cons_zero, List.getElem_cons_succ]
        refine wpAnyH_ready (rs := [7]) (by kernel_rfl) (by simp) ?_
        refine AllReadyH.cons rfl (fun K hK => ?_) AllReadyH.nil
        go_simp
        refine hK.out _ _ ?_ (fun hHeld => ?_)
        · exact trivial
        clear hK K
        try simp only [Act.put, List.setIfInBounds_toArray, List.set_cons_zero, List.set_cons_succ, List.getElem_toArray, List.getElem_cons_zero, List.getElem_cons_succ]
        refine wpAnyH_done (by kernel_rfl) ?_ _
        clear hHeld
        go_wp2_with fail
        go_roundw
        case rel => exact ⟨j + 1, _, _, _, by go_num, by omega, Lib.hid (by simp [HL.out]), HB6, HS5, HF3⟩
        case measure => simp [intOf]; omega
      · go_simp
        refine HC.out.mono ?_
        rintro e w3 ⟨hm3, ⟨a, b, rfl, hr3, hF3⟩ | ⟨rfl, hoff⟩⟩
        rotate_left
        · exact ⟨rfl, DoQ.off HM1.out HBR.out.drew hm3 ⟨rfl, hoff⟩⟩
        have HB3 := Lib.hid (HBR.out.drew.read hm3 hr3)
        have HF3 := Lib.hid hF3
        have HS3 : Hid (w3.ownsRow wA.heap.size 46 2 (.slice xaA j xcA) j (flatS l)) := Lib.hid (owns_kept HS.out (((Mod.refl (fun b => b = R) wr).drew).trans hm3) (fun b hb e => by have := (World.ownsRow.lt HS.out b hb).1; have := HBR.out.Rlt; omega))
        have c5 := HB3.out.cells.2.2.2.2.2.1
        have hs3 : wr.heap.size ≤ w3.heap.size := hm3.size
        clear hm3 hr3 hF3
        refine hK.out _ _ ?_ (fun hHeld => ?_)
        · exact trivial
        clear hK K
        try simp only [Act.put, List.setIfInBounds_toArray, List.set_cons_zero, List.set_cons_succ, List.getElem_toArray, List.getElem_cons_zero, List.getElem_cons_succ]
        refine wpAnyH_ready (rs := [1, 4]) (by kernel_rfl) (by simp) ?_
        refine AllReadyH.cons rfl (fun K hK => ?_) (AllReadyH.cons rfl (fun K hK => ?_) AllReadyH.nil)
        · go_simp
          refine hK.out _ _ ?_ (fun hHeld => ?_)
          · exact trivial
          clear hK K
          try simp only [Act.put, List.setIfInBounds_toArray, List.set_cons_zero, List.set_cons_succ, List.getElem_toArray, List.getElem_cons_zero, List.getElem_cons_succ]
          refine wpAnyH_ready (rs := [4]) (by kernel_rfl) (by simp) ?_
          refine AllReadyH.cons rfl (fun K hK => ?_) AllReadyH.nil
          go_simp
          have HB4 := Lib.hid (HB3.out.later ((Below.refl _ _).alloc (Nat.le_refl _) (.cells #[.int .i64 a, .int .i64 b] 46)))
          have HS4 := Lib.hid (owns_below HS3.out ((Below.refl _ _).alloc (Nat.le_refl _) (.cells #[.int .i64 a, .int .i64 b] 46)))
          have c5 := HB4.out.cells.2.2.2.2.2.1
          refine hK.out _ _ ?_ (fun hHeld => ?_)
          · exact trivial
          clear hK K
          try simp only [Act.put, List.setIfInBounds_toArray, List.set_cons_zero, List.set_cons_succ, List.getElem_toArray, List.getElem_cons_zero, List.getElem_cons_succ]
          refine wpAnyH_ready (rs := [5]) (by kernel_rfl) (by simp) ?_
          refine AllReadyH.cons rfl (fun K hK => ?_) AllReadyH.nil
          refine step_append_fresh rfl (.tmp 27) (.tmp 30) 34 rfl wA.heap.size 46 i0 _ 2 16 Tryd.underlying34 hi0 hz0 hz1 hz2 (by decide) (.slice xaA j xcA) j (flatS l) rfl HS4.out ⟨w3.heap.size, 0, none⟩ 1 (encS (a, b)) rfl rfl (newsS_at _ (a, b) _ _ rfl) (oneS _) (by unfold maxLen; omega) (by omega) (by simp; omega) ?_
          intro g cp4 w4 hown hgrow hfr
          have HB5 := Lib.hid (HB4.out.grown hgrow (fun k hk => (World.ownsRow.lt HS4.out k hk).1))
          have HS5 : Hid ((w4.setCell ⟨bx, 5, none⟩ (.slice (some ⟨g, 0, none⟩) (j + 1) cp4)).ownsRow wA.heap.size 46 2 (.slice (some ⟨g, 0, none⟩) (j + 1) cp4) (j + 1) (flatS (l ++ [(a, b)]))) := Lib.hid (by
            rw [flatS_snoc]
            exact owns_kept hown ((Mod.refl (fun b => b = bx) w4).setCell (p := ⟨bx, 5, none⟩) (.inr rfl) _) (fun b hb e => by have := (World.ownsRow.lt hown b hb).1; have := HBR.out.bxlt; have := HBR.out.Rge; have := HBR.out.Rlt; omega))
          have c5 := HB5.out.cells.2.2.2.2.2.1
          have fz := HB5.out.cells.2.2.2.2.2.2.2.2.2 5
          have HB6 : Hid (BoxS base R v ws n (k + 1 + 1) bx wA (w4.setCell ⟨bx, 5, none⟩ (.slice (some ⟨g, 0, none⟩) (j + 1) cp4)) en tm tr bm br (.slice (some ⟨g, 0, none⟩) (j + 1) cp4) (.slice none 0 0) (.slice none 0 0) (.slice none 0 0)) := Lib.hid (HB5.out.set_ (o := 5) rfl)
          clear hown hgrow hfr
          refine hK.out _ _ ?_ (fun hHeld => ?_)
          · exact trivial
          clear hK K
          try simp only [Act.put, List.setIfInBounds_toArray, List.set_cons_zero, List.set_cons_succ, List.getElem_toArray, List.getElem_cons_zero, List.getElem_cons_succ]
          refine wpAnyH_take (i := 6) (v := ?_) rfl (by kernel_rfl) (by kernel_rfl) (by kernel_rfl) (fun _ _ _ h => h) (Or.inl ⟨by rfl, ?_⟩) hHeld ?_
          rotate_left
          · intro Wz hWz; go_simp; (try with_reducible rfl)
          try simp only [Act.put, List.setIfInBounds_toArray, List.set_cons_zero, List.set_cons_succ, List.getElem_toArray, List.getElem_cons_zero, List.getElem_cons_succ]
          refine wpAnyH_ready (rs := [7]) (by kernel_rfl) (by simp) ?_
          refine AllReadyH.cons rfl (fun K hK => ?_) AllReadyH.nil
          go_simp
          refine hK.out _ _ ?_ (fun hHeld => ?_)
          · exact trivial
          clear hK K
          try simp only [Act.put, List.setIfInBounds_toArray, List.set_cons_zero, List.set_cons_succ, List.getElem_toArray, List.getElem_cons_zero, List.getElem_cons_succ]
          refine wpAnyH_done (by kernel_rfl) ?_ _
          clear hHeld
          go_wp2_with fail
          go_roundw
          case rel => exact ⟨j + 1, _, _, _, by go_num, by omega, Lib.hid (by simp [HL.out]), HB6, HS5, HF3⟩
          case measure => simp [intOf]; omega
        · go_simp
          have HB4 := Lib.hid (HB3.out.later ((Below.refl _ _).alloc (Nat.le_refl _) (.cells #[.int .i64 a, .int .i64 b] 46)))
          have HS4 := Lib.hid (owns_below HS3.out ((Below.refl _ _).alloc (Nat.le_refl _) (.cells #[.int .i64 a, .int .i64 b] 46)))
          have c5 := HB4.out.cells.2.2.2.2.2.1
          refine hK.out _ _ ?_ (fun hHeld => ?_)
          · exact trivial
          clear hK K
          try simp only [Act.put, List.setIfInBounds_toArray, List.set_cons_zero, List.set_cons_succ, List.getElem_toArray, List.getElem_cons_zero, List.getElem_cons_succ]
          refine wpAnyH_ready (rs := [1]) (by kernel_rfl) (by simp) ?_
          refine AllReadyH.cons rfl (fun K hK => ?_) AllReadyH.nil
          go_simp
          refine hK.out _ _ ?_ (fun hHeld => ?_)
          · exact trivial
          clear hK K
          try simp only [Act.put, List.setIfInBounds_toArray, List.set_cons_zero, List.set_cons_succ, List.getElem_toArray, List.getElem_cons_zero, List.getElem_cons_succ]
          refine wpAnyH_ready (rs := [5]) (by kernel_rfl) (by simp) ?_
          refine AllReadyH.cons rfl (fun K hK => ?_) AllReadyH.nil
          refine step_append_fresh rfl (.tmp 27) (.tmp 30) 34 rfl wA.heap.size 46 i0 _ 2 16 Tryd.underlying34 hi0 hz0 hz1 hz2 (by decide) (.slice xaA j xcA) j (flatS l) rfl HS4.out ⟨w3.heap.size, 0, none⟩ 1 (encS (a, b)) rfl rfl (newsS_at _ (a, b) _ _ rfl) (oneS _) (by unfold maxLen; omega) (by omega) (by simp; omega) ?_
          intro g cp4 w4 hown hgrow hfr
          have HB5 := Lib.hid (HB4.out.grown hgrow (fun k hk => (World.ownsRow.lt HS4.out k hk).1))
          have HS5 : Hid ((w4.setCell ⟨bx, 5, none⟩ (.slice (some ⟨g, 0, none⟩) (j + 1) cp4)).ownsRow wA.heap.size 46 2 (.slice (some ⟨g, 0, none⟩) (j + 1) cp4) (j + 1) (flatS (l ++ [(a, b)]))) := Lib.hid (by
            rw [flatS_snoc]
            exact owns_kept hown ((Mod.refl (fun b => b = bx) w4).setCell (p := ⟨bx, 5, none⟩) (.inr rfl) _) (fun b hb e => by have := (World.ownsRow.lt hown b hb).1; have := HBR.out.bxlt; have := HBR.out.Rge; have := HBR.out.Rlt; omega))
          have c5 := HB5.out.cells.2.2.2.2.2.1
          have fz := HB5.out.cells.2.2.2.2.2.2.2.2.2 5
          have HB6 : Hid (BoxS base R v ws n (k + 1 + 1) bx wA (w4.setCell ⟨bx, 5, none⟩ (.slice (some ⟨g, 0, none⟩) (j + 1) cp4)) en tm tr bm br (.slice (some ⟨g, 0, none⟩) (j + 1) cp4) (.slice none 0 0) (.slice none 0 0) (.slice none 0 0)) := Lib.hid (HB5.out.set_ (o := 5) rfl)
          clear hown hgrow hfr
          refine hK.out _ _ ?_ (fun hHeld => ?_)
          · exact trivial
          clear hK K
          try simp only [Act.put, List.setIfInBounds_toArray, List.set_cons_zero, List.set_cons_succ, List.getElem_toArray, List.getElem_cons_zero, List.getElem_cons_succ]
          refine wpAnyH_take (i := 6) (v := ?_) rfl (by kernel_rfl) (by kernel_rfl) (by kernel_rfl) (fun _ _ _ h => h) (Or.inl ⟨by rfl, ?_⟩) hHeld ?_
          rotate_left
          · intro Wz hWz; go_simp; (try with_reducible rfl)
          try simp only [Act.put, List.setIfInBounds_toArray, List.set_cons_zero, List.set_cons_succ, List.getElem_toArray, List.getElem_cons_zero, List.getElem_cons_succ]
          refine wpAnyH_ready (rs := [7]) (by kernel_rfl) (by simp) ?_
          refine AllReadyH.cons rfl (fun K hK => ?_) AllReadyH.nil
          go_simp
          refine hK.out _ _ ?_ (fun hHeld => ?_)
          · exact trivial
          clear hK K
          try simp only [Act.put, List.setIfInBounds_toArray, List.set_cons_zero, List.set_cons_succ, List.getElem_toArray, List.getElem_cons_zero, List.getElem_cons_succ]
          refine wpAnyH_done (by kernel_rfl) ?_ _
          clear hHeld
          go_wp2_with fail
          go_roundw
          case rel => exact ⟨j + 1, _, _, _, by go_num, by omega, Lib.hid (by simp [HL.out]), HB6, HS5, HF3⟩
          case measure => simp [intOf]; omega
    · obtain rfl : ms = j := by omega
      have hF2 := HF.out
      rw [Nat.sub_self, satsP] at hF2
      have HFn := Lib.hid hF2
      clear hF2 HF
      obtain ⟨wA2, hren⟩ : ∃ z, z = wr := ⟨_, rfl⟩
      subst hren
      obtain ⟨lA, hren⟩ : ∃ z, z = l := ⟨_, rfl⟩
      subst hren
      obtain ⟨kA, hren⟩ : ∃ z, z = k := ⟨_, rfl⟩
      subst hren
      have HM2 := Lib.hid (HM1.out.trans HBR.out.mod)
      have HLA := HL
      have HSA := HS
      have HB := Lib.hid HBR.out.restart
      have HF := HFn
      clear HL HS HBR HFn hlt hj
      go_wp2_with fail
      refine (mustQ HB.out.rd _ tCustomers rfl HF.out).mono ?_
      rintro e w8 ⟨hm, ⟨rfl, hr, hF⟩ | ⟨rfl, hoff⟩⟩
      rotate_left
      · exact ⟨rfl, DoQ.off HM2.out HB.out hm ⟨rfl, hoff⟩⟩
      have HBn := Lib.hid (HB.out.read hm hr)
      have HFn := Lib.hid hF
      clear hm hr hF HB HF
      have HB := HBn
      have HF := HFn
      clear HBn HFn
      go_wp2_with fail
      refine (numQ HB.out.rd HTX.out HF.out).mono ?_
      rintro e wB ⟨hm, ⟨q, rfl, hq, hr, hF⟩ | ⟨rfl, hoff⟩⟩
      rotate_left
      · exact ⟨rfl, DoQ.off HM2.out HB.out hm ⟨rfl, hoff⟩⟩
      have HBn := Lib.hid (HB.out.read hm hr)
      have HFn := Lib.hid hF
      clear hm hr hF HB HF
      obtain ⟨mc, hnm⟩ : ∃ m : Nat, q = (m : Int) := ⟨q.toNat, by omega⟩
      subst hnm
      obtain ⟨mc1, mc2, _⟩ := hq
      have HB := HBn
      have HF := HFn
      clear HBn HFn
      have HM3 := Lib.hid (HM2.out.trans HB.out.mod)
      have HSA := Lib.hid (HB.out.owns HRA.out HSA.out)
      have HBn := Lib.hid HB.out.restart
      clear HB
      have HB := HBn
      clear HBn
      have HRB := Lib.hid HB.out.Rlt
      go_wp2_with fail
      have HS0 : Hid (wB.ownsRow wB.heap.size 55 4 (.slice none 0 0) 0 []) := Lib.hid nil_owned
      have HL0 : Hid (runR ws (cusP (mc - 0) [] (costP en tm tr bm br lA)) _ = F) := Lib.hid (by have h := HF.out; rwa [Int.toNat_natCast] at h)
      clear HF
      go_loopw [38] (fun iv wr => ∃ (j k : Nat) (xv : Value) (l : List Pi), iv = .int .i64 (j : Int) ∧ j ≤ mc ∧ Hid (l.length = j) ∧ Hid (BoxS base R v ws n k bx wB wr en tm tr bm br (.slice xaA ms xcA) xv (.slice none 0 0) (.slice none 0 0)) ∧ Hid (wr.ownsRow wB.heap.size 55 4 xv j (flatC l)) ∧ Hid (runR ws (cusP (mc - j) l (costP en tm tr bm br lA)) k = F)) (fun iv _ => mc - (intOf iv).toNat)
      case atStart => exact ⟨0, _, _, [], rfl, Nat.zero_le _, Lib.hid rfl, HB, HS0, HL0⟩
      case round =>
        obtain ⟨j, k, xv, l, rfl, hj, HL, HBR, HS, HF⟩ := hrel
        clear HS0 HL0 HB
        obtain ⟨xaB, xcB, hxv⟩ := owns_shape HS.out
        subst hxv
        by_cases hlt : j < mc
        · have hF2 := HF.out
          rw [show mc - j = (mc - (j + 1)) + 1 by omega, cusP] at hF2
          have HC := Lib.hid (customerQ (HBR.out.rd.drew) HTX.out hF2)
          have c6 := HBR.out.cells.2.2.2.2.2.2.1
          have HBS := HBR.out.mod.size
          clear hF2 HF
          go_wp2_with fail
          refine wp_region_held_drew (S := fun _ => True) (by kernel_rfl) trivial (fun hHeld => ?_)
          refine wpAnyH_take (i := 0) (v := ?_) rfl (by kernel_rfl) (by kernel_rfl) (by kernel_rfl) (fun _ _ _ h => h) (Or.inl ⟨by rfl, ?_⟩) hHeld ?_
          rotate_left
          · intro Wz hWz; go_simp; (try with_reducible rfl)
          try simp only [Act.put, List.setIfInBounds_toArray, List.set_cons_zero, List.set_cons_succ, List.getElem_toArray, List.getElem_cons_zero]
          refine wpAnyH_take (i := 2) (v := ?_) rfl (by kernel_rfl) (by kernel_rfl) (by kernel_rfl) (fun _ _ _ h => h) (Or.inl ⟨by rfl, ?_⟩) hHeld ?_
          rotate_left
          · intro Wz hWz; go_simp; (try with_reducible rfl)
          try simp only [Act.put, List.setIfInBounds_toArray, List.set_cons_zero, List.set_cons_succ, List.getElem_toArray, List.getElem_cons_zero, List.getElem_cons_succ]
          refine wpAnyH_ready (rs := [1, 3]) (by kernel_rfl) (by simp) ?_
          refine AllReadyH.cons rfl (fun K hK => ?_) (AllReadyH.cons rfl (fun K hK => ?_) AllReadyH.nil)
          · go_simp
            refine hK.out _ _ ?_ (fun hHeld => ?_)
            · exact trivial
            clear hK K
            try simp only [Act.put, List.setIfInBounds_toArray, List.set_cons_zero, List.set_cons_succ, List.getElem_toArray, List.getElem_cons_zero, List.getElem_cons_succ]
            refine wpAnyH_ready (rs := [3]) (by kernel_rfl) (by simp) ?_
            refine AllReadyH.cons rfl (fun K hK => ?_) AllReadyH.nil
            go_simp
            refine HC.out.mono ?_
            rintro e w3 ⟨hm3, ⟨a, b, c, d, rfl, hr3, hF3⟩ | ⟨rfl, hoff⟩⟩
            rotate_left
            · exact ⟨rfl, DoQ.off HM3.out HBR.out.drew hm3 ⟨rfl, hoff⟩⟩
            have HB3 := Lib.hid (HBR.out.drew.read hm3 hr3)
            have HF3 := Lib.hid hF3
            have HS3 : Hid (w3.ownsRow wB.heap.size 55 4 (.slice xaB j xcB) j (flatC l)) := Lib.hid (owns_kept HS.out (((Mod.refl (fun b => b = R) wr).drew).trans hm3) (fun b hb e => by have := (World.ownsRow.lt HS.out b hb).1; have := HBR.out.Rlt; omega))
            have c6 := HB3.out.cells.2.2.2.2.2.2.1
            have hs3 : wr.heap.size ≤ w3.heap.size := hm3.size
            clear hm3 hr3 hF3
            refine hK.out _ _ ?_ (fun hHeld => ?_)
            · exact trivial
            clear hK K
            try simp only [Act.put, List.setIfInBounds_toArray, List.set_cons_zero, List.set_cons_succ, List.getElem_toArray, List.getElem_cons_zero, List.getElem_cons_succ]
            refine wpAnyH_ready (rs := [4]) (by kernel_rfl) (by simp) ?_
            refine AllReadyH.cons rfl (fun K hK => ?_) AllReadyH.nil
            go_simp
            have HB4 := Lib.hid (HB3.out.later ((Below.refl _ _).alloc (Nat.le_refl _) (.cells #[.int .i64 a, .int .i64 b, .int .i64 c, .int .i64 d] 55)))
            have HS4 := Lib.hid (owns_below HS3.out ((Below.refl _ _).alloc (Nat.le_refl _) (.cells #[.int .i64 a, .int .i64 b, .int .i64 c, .int .i64 d] 55)))
            have c6 := HB4.out.cells.2.2.2.2.2.2.1
            refine hK.out _ _ ?_ (fun hHeld => ?_)
            · exact trivial
            clear hK K
            try simp only [Act.put, List.setIfInBounds_toArray, List.set_cons_zero, List.set_cons_succ, List.getElem_toArray, List.getElem_cons_zero, List.getElem_cons_succ]
            refine wpAnyH_ready (rs := [5]) (by kernel_rfl) (by simp) ?_
            refine AllReadyH.cons rfl (fun K hK => ?_) AllReadyH.nil
            refine step_append_fresh rfl (.tmp 41) (.tmp 44) 35 rfl wB.heap.size 55 i1 _ 4 32 Tryd.underlying35 hi1 hy0 hy1 hy2 (by decide) (.slice xaB j xcB) j (flatC l) rfl HS4.out ⟨w3.heap.size, 0, none⟩ 1 (encP (a, b, c, d)) rfl rfl (newsC_at _ (a, b, c, d) _ _ rfl) (oneC _) (by unfold maxLen; omega) (by omega) (by simp; omega) ?_
            intro g cp4 w4 hown hgrow hfr
            have HB5 := Lib.hid (HB4.out.grown hgrow (fun k hk => (World.ownsRow.lt HS4.out k hk).1))
            have HS5 : Hid ((w4.setCell ⟨bx, 6, none⟩ (.slice (some ⟨g, 0, none⟩) (j + 1) cp4)).ownsRow wB.heap.size 55 4 (.slice (some ⟨g, 0, none⟩) (j + 1) cp4) (j + 1) (flatC (l ++ [(a, b, c, d)]))) := Lib.hid (by
              rw [flatC_snoc]
              exact owns_kept hown ((Mod.refl (fun b => b = bx) w4).setCell (p := ⟨bx, 6, none⟩) (.inr rfl) _) (fun b hb e => by have := (World.ownsRow.lt hown b hb).1; have := HBR.out.bxlt; have := HBR.out.Rge; have := HBR.out.Rlt; omega))
            have c6 := HB5.out.cells.2.2.2.2.2.2.1
            have fz := HB5.out.cells.2.2.2.2.2.2.2.2.2 6
            have HB6 : Hid (BoxS base R v ws n (k + 1 + 1 + 1 + 1) bx wB (w4.setCell ⟨bx, 6, none⟩ (.slice (some ⟨g, 0, none⟩) (j + 1) cp4)) en tm tr bm br (.slice xaA ms xcA) (.slice (some ⟨g, 0, none⟩) (j + 1) cp4) (.slice none 0 0) (.slice none 0 0)) := Lib.hid (HB5.out.set_ (o := 6) rfl)
            clear hown hgrow hfr
            refine hK.out _ _ ?_ (fun hHeld => ?_)
            · exact trivial
            clear hK K
            try simp only [Act.put, List.setIfInBounds_toArray, List.set_cons_zero, List.set_cons_succ, List.getElem_toArray, List.getElem_cons_zero, List.getElem_cons_succ]
            refine wpAnyH_take (i := 6) (v := ?_) rfl (by kernel_rfl) (by kernel_rfl) (by kernel_rfl) (fun _ _ _ h => h) (Or.inl ⟨by rfl, ?_⟩) hHeld ?_
            rotate_left
            · intro Wz hWz; go_simp; (try with_reducible rfl)
            try simp only [Act.put, List.setIfInBounds_toArray, List.set_cons_zero, List.set_cons_succ, List.getElem_toArray, List.getElem_cons_zero, List.getElem_cons_succ]
            refine wpAnyH_ready (rs := [7]) (by kernel_rfl) (by simp) ?_
            refine AllReadyH.cons rfl (fun K hK => ?_) AllReadyH.nil
            go_simp
            refine hK.out _ _ ?_ (fun hHeld => ?_)
            · exact trivial
            clear hK K
            try simp only [Act.put, List.setIfInBounds_toArray, List.set_cons_zero, List.set_cons_succ, List.getElem_toArray, List.getElem_cons_zero, List.getElem_cons_succ]
            refine wpAnyH_done (by kernel_rfl) ?_ _
            clear hHeld
            go_wp2_with fail
            go_roundw
            case rel => exact ⟨j + 1, _, _, _, by go_num, by omega, Lib.hid (by simp [HL.out]), HB6, HS5, HF3⟩
            case measure => simp [intOf]; omega
          · go_simp
            refine HC.out.mono ?_
            rintro e w3 ⟨hm3, ⟨a, b, c, d, rfl, hr3, hF3⟩ | ⟨rfl, hoff⟩⟩
            rotate_left
            · exact ⟨rfl, DoQ.off HM3.out HBR.out.drew hm3 ⟨rfl, hoff⟩⟩
            have HB3 := Lib.hid (HBR.out.drew.read hm3 hr3)
            have HF3 := Lib.hid hF3
            have HS3 : Hid (w3.ownsRow wB.heap.size 55 4 (.slice xaB j xcB) j (flatC l)) := Lib.hid (owns_kept HS.out (((Mod.refl (fun b => b = R) wr).drew).trans hm3) (fun b hb e => by have := (World.ownsRow.lt HS.out b hb).1; have := HBR.out.Rlt; omega))
            have c6 := HB3.out.cells.2.2.2.2.2.2.1
            have hs3 : wr.heap.size ≤ w3.heap.size := hm3.size
            clear hm3 hr3 hF3
            refine hK.out _ _ ?_ (fun hHeld => ?_)
            · exact trivial
            clear hK K
            try simp only [Act.put, List.setIfInBounds_toArray, List.set_cons_zero, List.set_cons_succ, List.getElem_toArray, List.getElem_cons_zero, List.getElem_cons_succ]
            refine wpAnyH_ready (rs := [1, 4]) (by kernel_rfl) (by simp) ?_
            refine AllReadyH.cons rfl (fun K hK => ?_) (AllReadyH.cons rfl (fun K hK => ?_) AllReadyH.nil)
            · go_simp
              refine hK.out _ _ ?_ (fun hHeld => ?_)
              · exact trivial
              clear hK K
              try simp only [Act.put, List.setIfInBounds_toArray, List.set_cons_zero, List.set_cons_succ, List.getElem_toArray, List.getElem_cons_zero, List.getElem_cons_succ]
              refine wpAnyH_ready (rs := [4]) (by kernel_rfl) (by simp) ?_
              refine AllReadyH.cons rfl (fun K hK => ?_) AllReadyH.nil
              go_simp
              have HB4 := Lib.hid (HB3.out.later ((Below.refl _ _).alloc (Nat.le_refl _) (.cells #[.int .i64 a, .int .i64 b, .int .i64 c, .int .i64 d] 55)))
              have HS4 := Lib.hid (owns_below HS3.out ((Below.refl _ _).alloc (Nat.le_refl _) (.cells #[.int .i64 a, .int .i64 b, .int .i64 c, .int .i64 d] 55)))
              have c6 := HB4.out.cells.2.2.2.2.2.2.1
              refine hK.out _ _ ?_ (fun hHeld => ?_)
              · exact trivial
              clear hK K
              try simp only [Act.put, List.setIfInBounds_toArray, List.set_cons_zero, List.set_cons_succ, List.getElem_toArray, List.getElem_cons_zero, List.getElem_cons_succ]
              refine wpAnyH_ready (rs := [5]) (by kernel_rfl) (by simp) ?_
              refine AllReadyH.cons rfl (fun K hK => ?_) AllReadyH.nil
              refine step_append_fresh rfl (.tmp 41) (.tmp 44) 35 rfl wB.heap.size 55 i1 _ 4 32 Tryd.underlying35 hi1 hy0 hy1 hy2 (by decide) (.slice xaB j xcB) j (flatC l) rfl HS4.out ⟨w3.heap.size, 0, none⟩ 1 (encP (a, b, c, d)) rfl rfl (newsC_at _ (a, b, c, d) _ _ rfl) (oneC _) (by unfold maxLen; omega) (by omega) (by simp; omega) ?_
              intro g cp4 w4 hown hgrow hfr
              have HB5 := Lib.hid (HB4.out.grown hgrow (fun k hk => (World.ownsRow.lt HS4.out k hk).1))
              have HS5 : Hid ((w4.setCell ⟨bx, 6, none⟩ (.slice (some ⟨g, 0, none⟩) (j + 1) cp4)).ownsRow wB.heap.size 55 4 (.slice (some ⟨g, 0, none⟩) (j + 1) cp4) (j + 1) (flatC (l ++ [(a, b, c, d)]))) := Lib.hid (by
                rw [flatC_snoc]
                exact owns_kept hown ((Mod.refl (fun b => b = bx) w4).setCell (p := ⟨bx, 6, none⟩) (.inr rfl) _) (fun b hb e => by have := (World.ownsRow.lt hown b hb).1; have := HBR.out.bxlt; have := HBR.out.Rge; have := HBR.out.Rlt; omega))
              have c6 := HB5.out.cells.2.2.2.2.2.2.1
              have fz := HB5.out.cells.2.2.2.2.2.2.2.2.2 6
              have HB6 : Hid (BoxS base R v ws n (k + 1 + 1 + 1 + 1) bx wB (w4.setCell ⟨bx, 6, none⟩ (.slice (some ⟨g, 0, none⟩) (j + 1) cp4)) en tm tr bm br (.slice xaA ms xcA) (.slice (some ⟨g, 0, none⟩) (j + 1) cp4) (.slice none 0 0) (.slice none 0 0)) := Lib.hid (HB5.out.set_ (o := 6) rfl)
              clear hown hgrow hfr
              refine hK.out _ _ ?_ (fun hHeld => ?_)
              · exact trivial
              clear hK K
              try simp only [Act.put, List.setIfInBounds_toArray, List.set_cons_zero, List.set_cons_succ, List.getElem_toArray, List.getElem_cons_zero, List.getElem_cons_succ]
              refine wpAnyH_take (i := 6) (v := ?_) rfl (by kernel_rfl) (by kernel_rfl) (by kernel_rfl) (fun _ _ _ h => h) (Or.inl ⟨by rfl, ?_⟩) hHeld ?_
              rotate_left
              · intro Wz hWz; go_simp; (try with_reducible rfl)
              try simp only [Act.put, List.setIfInBounds_toArray, List.set_cons_zero, List.set_cons_succ, List.getElem_toArray, List.getElem_cons_zero, List.getElem_cons_succ]
              refine wpAnyH_ready (rs := [7]) (by kernel_rfl) (by simp) ?_
              refine AllReadyH.cons rfl (fun K hK => ?_) AllReadyH.nil
              go_simp
              refine hK.out _ _ ?_ (fun hHeld => ?_)
              · exact trivial
              clear hK K
              try simp only [Act.put, List.setIfInBounds_toArray, List.set_cons_zero, List.set_cons_succ, List.getElem_toArray, List.getElem_cons_zero, List.getElem_cons_succ]
              refine wpAnyH_done (by kernel_rfl) ?_ _
              clear hHeld
              go_wp2_with fail
              go_roundw
              case rel => exact ⟨j + 1, _, _, _, by go_num, by omega, Lib.hid (by simp [HL.out]), HB6, HS5, HF3⟩
              case measure => simp [intOf]; omega
            · go_simp
              have HB4 := Lib.hid (HB3.out.later ((Below.refl _ _).alloc (Nat.le_refl _) (.cells #[.int .i64 a, .int .i64 b, .int .i64 c, .int .i64 d] 55)))
              have HS4 := Lib.hid (owns_below HS3.out ((Below.refl _ _).alloc (Nat.le_refl _) (.cells #[.int .i64 a, .int .i64 b, .int .i64 c, .int .i64 d] 55)))
              have c6 := HB4.out.cells.2.2.2.2.2.2.1
              refine hK.out _ _ ?_ (fun hHeld => ?_)
              · exact trivial
              clear hK K
              try simp only [Act.put, List.setIfInBounds_toArray, List.set_cons_zero, List.set_cons_succ, List.getElem_toArray, List.getElem_cons_zero, List.getElem_cons_succ]
              refine wpAnyH_ready (rs := [1]) (by kernel_rfl) (by simp) ?_
              refine AllReadyH.cons rfl (fun K hK => ?_) AllReadyH.nil
              go_simp
              refine hK.out _ _ ?_ (fun hHeld => ?_)
              · exact trivial
              clear hK K
              try simp only [Act.put, List.setIfInBounds_toArray, List.set_cons_zero, List.set_cons_succ, List.getElem_toArray, List.getElem_cons_zero, List.getElem_cons_succ]
              refine wpAnyH_ready (rs := [5]) (by kernel_rfl) (by simp) ?_
              refine AllReadyH.cons rfl (fun K hK => ?_) AllReadyH.nil
              refine step_append_fresh rfl (.tmp 41) (.tmp 44) 35 rfl wB.heap.size 55 i1 _ 4 32 Tryd.underlying35 hi1 hy0 hy1 hy2 (by decide) (.slice xaB j xcB) j (flatC l) rfl HS4.out ⟨w3.heap.size, 0, none⟩ 1 (encP (a, b, c, d)) rfl rfl (newsC_at _ (a, b, c, d) _ _ rfl) (oneC _) (by unfold maxLen; omega) (by omega) (by simp; omega) ?_
              intro g cp4 w4 hown hgrow hfr
              have HB5 := Lib.hid (HB4.out.grown hgrow (fun k hk => (World.ownsRow.lt HS4.out k hk).1))
              have HS5 : Hid ((w4.setCell ⟨bx, 6, none⟩ (.slice (some ⟨g, 0, none⟩) (j + 1) cp4)).ownsRow wB.heap.size 55 4 (.slice (some ⟨g, 0, none⟩) (j + 1) cp4) (j + 1) (flatC (l ++ [(a, b, c, d)]))) := Lib.hid (by
                rw [flatC_snoc]
                exact owns_kept hown ((Mod.refl (fun b => b = bx) w4).setCell (p := ⟨bx, 6, none⟩) (.inr rfl) _) (fun b hb e => by have := (World.ownsRow.lt hown b hb).1; have := HBR.out.bxlt; have := HBR.out.Rge; have := HBR.out.Rlt; omega))
              have c6 := HB5.out.cells.2.2.2.2.2.2.1
              have fz := HB5.out.cells.2.2.2.2.2.2.2.2.2 6
              have HB6 : Hid (BoxS base R v ws n (k + 1 + 1 + 1 + 1) bx wB (w4.setCell ⟨bx, 6, none⟩ (.slice (some ⟨g, 0, none⟩) (j + 1) cp4)) en tm tr bm br (.slice xaA ms xcA) (.slice (some ⟨g, 0, none⟩) (j + 1) cp4) (.slice none 0 0) (.slice none 0 0)) := Lib.hid (HB5.out.set_ (o := 6) rfl)
              clear hown hgrow hfr
              refine hK.out _ _ ?_ (fun hHeld => ?_)
              · exact trivial
              clear hK K
              try simp only [Act.put, List.setIfInBounds_toArray, List.set_cons_zero, List.set_cons_succ, List.getElem_toArray, List.getElem_cons_zero, List.getElem_cons_succ]
              refine wpAnyH_take (i := 6) (v := ?_) rfl (by kernel_rfl) (by kernel_rfl) (by kernel_rfl) (fun _ _ _ h => h) (Or.inl ⟨by rfl, ?_⟩) hHeld ?_
              rotate_left
              · intro Wz hWz; go_simp; (try with_reducible rfl)
              try simp only [Act.put, List.setIfInBounds_toArray, List.set_cons_zero, List.set_cons_succ, List.getElem_toArray, List.getElem_cons_zero, List.getElem_cons_succ]
              refine wpAnyH_ready (rs := [7]) (by kernel_rfl) (by simp) ?_
              refine AllReadyH.cons rfl (fun K hK => ?_) AllReadyH.nil
              go_simp
              refine hK.out _ _ ?_ (fun hHeld => ?_)
              · exact trivial
              clear hK K
              try simp only [Act.put, List.setIfInBounds_toArray, List.set_cons_zero, List.set_cons_succ, List.getElem_toArray, List.getElem_cons_zero, List.getElem_cons_succ]
              refine wpAnyH_done (by kernel_rfl) ?_ _
              clear hHeld
              go_wp2_with fail
              go_roundw
              case rel => exact ⟨j + 1, _, _, _, by go_num, by omega, Lib.hid (by simp [HL.out]), HB6, HS5, HF3⟩
              case measure => simp [intOf]; omega
        · obtain rfl : mc = j := by omega
          have hF2 := HF.out
          rw [Nat.sub_self, cusP] at hF2
          have HFn := Lib.hid hF2
          clear hF2 HF
          obtain ⟨wB2, hren⟩ : ∃ z, z = wr := ⟨_, rfl⟩
          subst hren
          obtain ⟨lB, hren⟩ : ∃ z, z = l := ⟨_, rfl⟩
          subst hren
          obtain ⟨kB, hren⟩ : ∃ z, z = k := ⟨_, rfl⟩
          subst hren
          have HM4 := Lib.hid (HM3.out.trans HBR.out.mod)
          have HLB := HL
          have HSB := HS
          have HSA := Lib.hid (HBR.out.owns HRA.out HSA.out)
          have HB := Lib.hid HBR.out.restart
          have HF := HFn
          clear HL HS HBR HFn hlt hj
          go_wp2_with fail
          refine (mustQ HB.out.rd _ tCost rfl HF.out).mono ?_
          rintro e w9 ⟨hm, ⟨rfl, hr, hF⟩ | ⟨rfl, hoff⟩⟩
          rotate_left
          · exact ⟨rfl, DoQ.off HM4.out HB.out hm ⟨rfl, hoff⟩⟩
          have HBn := Lib.hid (HB.out.read hm hr)
          have HFn := Lib.hid hF
          clear hm hr hF HB HF
          have HB := HBn
          have HF := HFn
          clear HBn HFn
          obtain ⟨c0, c1, c2, c3, c4, c5, c6, c7, c8, _⟩ := HB.out.cells
          obtain ⟨N, hN⟩ : ∃ N, 1 + ms + mc = N := ⟨_, rfl⟩
          have hN61 : N ≤ 61 := by omega
          have HNN := Lib.hid hN
          have hF2 := HF.out
          rw [HLA.out, HLB.out, hN] at hF2
          have HFn := Lib.hid hF2
          clear hF2 HF
          have HF := HFn
          clear HFn hN
          go_wp2_with fail
          refine (nodesE en tm tr bm br xaA ms xcA xaB mc xcB none none 0 0 0 0 N _ (by omega) HNN.out).mono ?_
          rintro e wC ⟨rfl, hb2⟩
          have HBn := Lib.hid (HB.out.later hb2)
          clear hb2 HB c0 c1 c2 c3 c4 c5 c6 c7 c8
          have HB := HBn
          clear HBn
          have HM5 := Lib.hid (HM4.out.trans HB.out.mod)
          have HSA := Lib.hid (HB.out.owns HRA.out HSA.out)
          have HSB := Lib.hid (HB.out.owns HRB.out HSB.out)
          have HBn := Lib.hid HB.out.restart
          clear HB
          have HB := HBn
          clear HBn
          have HRC := Lib.hid HB.out.Rlt
          go_wp2_with fail
          have HS0 : Hid (OwnRs wC.heap.size wC (.slice none 0 0) [] []) := Lib.hid (OwnRs.nil _ _)
          have HL0 : Hid (runR ws (rowsP N (N - 0) [] (timeP en tm tr bm br lA lB)) _ = F) := HF
          clear HF
          go_loopw [52] (fun iv wr => ∃ (j k : Nat) (xv : Value) (vs : List Value) (l : List (List Int)), iv = .int .i64 (j : Int) ∧ j ≤ N ∧ Hid (l.length = j) ∧ Hid (vs.length = j) ∧ Hid (∀ r ∈ l, r.length = N) ∧ Hid (BoxS base R v ws n k bx wC wr en tm tr bm br (.slice xaA ms xcA) (.slice xaB mc xcB) xv (.slice none 0 0)) ∧ Hid (OwnRs wC.heap.size wr xv vs l) ∧ Hid (runR ws (rowsP N (N - j) l (timeP en tm tr bm br lA lB)) k = F)) (fun iv _ => N - (intOf iv).toNat)
          case atStart => exact ⟨0, _, _, [], [], rfl, Nat.zero_le _, Lib.hid rfl, Lib.hid rfl, Lib.hid (by simp), HB, HS0, HL0⟩
          case round =>
            obtain ⟨j, k, xv, vs, l, rfl, hj, HL, HV, HN, HBR, HS, HF⟩ := hrel
            clear HS0 HL0 HB
            have hout := HS.out.outer
            rw [HV.out] at hout
            obtain ⟨xaC, xcC, hxv⟩ := owns_shape hout
            subst hxv
            have HO := Lib.hid hout
            clear hout
            by_cases hlt : j < N
            · have hF2 := HF.out
              rw [show N - j = (N - (j + 1)) + 1 by omega, rowsP, HL.out] at hF2
              have HFN := Lib.hid hF2
              obtain ⟨c0, c1, c2, c3, c4, c5, c6, c7, c8, _⟩ := HBR.out.cells
              have HBS := HBR.out.mod.size
              clear hF2 HF
              go_wp2_with fail
              refine wp_region_held_drew (S := fun _ => True) (by kernel_rfl) trivial (fun hHeld => ?_)
              refine wpAnyH_take (i := 0) (v := ?_) rfl (by kernel_rfl) (by kernel_rfl) (by kernel_rfl) (fun _ _ _ h => h) (Or.inl ⟨by rfl, ?_⟩) hHeld ?_
              rotate_left
              · intro Wz hWz; go_simp; (try with_reducible rfl)
              try simp only [Act.put, List.setIfInBounds_toArray, List.set_cons_zero, List.set_cons_succ, List.getElem_toArray, List.getElem_cons_zero]
              refine wpAnyH_take (i := 2) (v := ?_) rfl (by kernel_rfl) (by kernel_rfl) (by kernel_rfl) (fun _ _ _ h => h) (Or.inl ⟨by rfl, ?_⟩) hHeld ?_
              rotate_left
              · intro Wz hWz; go_simp; (try with_reducible rfl)
              try simp only [Act.put, List.setIfInBounds_toArray, List.set_cons_zero, List.set_cons_succ, List.getElem_toArray, List.getElem_cons_zero, List.getElem_cons_succ]
              refine wpAnyH_take (i := 3) (v := ?_) rfl (by kernel_rfl) (by kernel_rfl) (by kernel_rfl) (fun _ _ _ h => h) (Or.inl ⟨by rfl, ?_⟩) hHeld ?_
              rotate_left
              · intro Wz hWz; go_simp; (try with_reducible rfl)
              try simp only [Act.put, List.setIfInBounds_toArray, List.set_cons_zero, List.set_cons_succ, List.getElem_toArray, List.getElem_cons_zero, List.getElem_cons_succ]
              refine wpAnyH_ready (rs := [1, 4]) (by kernel_rfl) (by simp) ?_
              refine AllReadyH.cons rfl (fun K hK => ?_) (AllReadyH.cons rfl (fun K hK => ?_) AllReadyH.nil)
              · go_simp
                refine hK.out _ _ ?_ (fun hHeld => ?_)
                · exact trivial
                clear hK K
                try simp only [Act.put, List.setIfInBounds_toArray, List.set_cons_zero, List.set_cons_succ, List.getElem_toArray, List.getElem_cons_zero, List.getElem_cons_succ]
                refine wpAnyH_ready (rs := [4]) (by kernel_rfl) (by simp) ?_
                refine AllReadyH.cons rfl (fun K hK => ?_) AllReadyH.nil
                go_simp
                refine hK.out _ _ ?_ (fun hHeld => ?_)
                · exact trivial
                clear hK K
                try simp only [Act.put, List.setIfInBounds_toArray, List.set_cons_zero, List.set_cons_succ, List.getElem_toArray, List.getElem_cons_zero, List.getElem_cons_succ]
                refine wpAnyH_ready (rs := [5]) (by kernel_rfl) (by simp) ?_
                refine AllReadyH.cons rfl (fun K hK => ?_) AllReadyH.nil
                go_simp
                refine (nodesE en tm tr bm br xaA ms xcA xaB mc xcB xaC none j xcC 0 0 N _ (by omega) HNN.out).mono ?_
                rintro e w2 ⟨rfl, hb2⟩
                have HB2 := Lib.hid (HBR.out.drew.later hb2)
                have HS2 := Lib.hid ((HS.out.later (Below.refl _ _).drew).later hb2)
                have c0 := HB2.out.cells.2.2.2.2.2.2.2.1
                have hs2 : wr.heap.size ≤ w2.heap.size := hb2.size
                clear hb2 c1 c2 c3 c4 c5 c6 c7 c8
                refine hK.out _ _ ?_ (fun hHeld => ?_)
                · exact trivial
                clear hK K
                try simp only [Act.put, List.setIfInBounds_toArray, List.set_cons_zero, List.set_cons_succ, List.getElem_toArray, List.getElem_cons_zero, List.getElem_cons_succ]
                refine wpAnyH_ready (rs := [6]) (by kernel_rfl) (by simp) ?_
                refine AllReadyH.cons rfl (fun K hK => ?_) AllReadyH.nil
                go_simp
                refine (rowQ HB2.out.rd HTX.out j (by omega) HFN.out).mono ?_
                rintro e w3 ⟨hm3, ⟨g3, r, k3, rfl, hrl, hrs, hF3⟩ | ⟨rfl, hoff⟩⟩
                rotate_left
                · exact ⟨rfl, DoQ.off HM5.out HB2.out hm3 ⟨rfl, hoff⟩⟩
                have HB3 := Lib.hid (HB2.out.read hm3 hrs.rd)
                have HF3 := Lib.hid hF3
                have HRL := Lib.hid hrl
                have HRV : Hid (RowV wC.heap.size w3 (.slice (some ⟨g3, 0, none⟩) N N) r) := Lib.hid (RowV.made hrs.row hrl (by have := hrs.ge; omega))
                have HRX : Hid (∀ b, Value.ownBlock (.slice (some ⟨g3, 0, none⟩) N N) = some b → ¬ Value.ownBlock (.slice xaC j xcC) = some b) := Lib.hid (fun b h1 h2 => by have h3 := (World.ownsRow.lt HO.out b h2).2; have h4 := hrs.ge; injection h1 with h1; simp only at h1; omega)
                have HS3 : Hid (OwnRs wC.heap.size w3 (.slice xaC j xcC) vs l) := Lib.hid (HS2.out.kept hm3 (fun b hb _ e => by have := HBR.out.Rlt; omega))
                have c0 := HB3.out.cells.2.2.2.2.2.2.2.1
                have hs3 := hm3.size
                clear hm3 hF3 hrl hrs
                refine hK.out _ _ ?_ (fun hHeld => ?_)
                · exact trivial
                clear hK K
                try simp only [Act.put, List.setIfInBounds_toArray, List.set_cons_zero, List.set_cons_succ, List.getElem_toArray, List.getElem_cons_zero, List.getElem_cons_succ]
                refine wpAnyH_ready (rs := [7]) (by kernel_rfl) (by simp) ?_
                refine AllReadyH.cons rfl (fun K hK => ?_) AllReadyH.nil
                go_simp
                have HB4 := Lib.hid (HB3.out.later ((Below.refl _ _).alloc (Nat.le_refl _) (.cells #[.slice (some ⟨g3, 0, none⟩) N N] 22)))
                have HS4 := Lib.hid (HS3.out.later ((Below.refl _ _).alloc (Nat.le_refl _) (.cells #[.slice (some ⟨g3, 0, none⟩) N N] 22)))
                have HRV4 := Lib.hid (HRV.out.kept (w2 := w3.alloc (.cells #[.slice (some ⟨g3, 0, none⟩) N N] 22)) (fun b hb => ((Below.refl w3.heap.size w3).alloc (Nat.le_refl _) (.cells #[.slice (some ⟨g3, 0, none⟩) N N] 22)).block b (HRV.out.lt b hb).2))
                have HO4 : Hid ((w3.alloc (.cells #[.slice (some ⟨g3, 0, none⟩) N N] 22)).ownsRow wC.heap.size 22 1 (.slice xaC j xcC) j vs) := Lib.hid (by have h := HS4.out.outer; rwa [HV.out] at h)
                have c0 := HB4.out.cells.2.2.2.2.2.2.2.1
                refine hK.out _ _ ?_ (fun hHeld => ?_)
                · exact trivial
                clear hK K
                try simp only [Act.put, List.setIfInBounds_toArray, List.set_cons_zero, List.set_cons_succ, List.getElem_toArray, List.getElem_cons_zero, List.getElem_cons_succ]
                refine wpAnyH_ready (rs := [8]) (by kernel_rfl) (by simp) ?_
                refine AllReadyH.cons rfl (fun K hK => ?_) AllReadyH.nil
                refine step_append_fresh rfl (.tmp 56) (.tmp 62) 36 rfl wC.heap.size 22 i2 _ 1 24 Tryd.underlying36 hi2 hx0 hx1 hx2 (by decide) (.slice xaC j xcC) j vs rfl HO4.out ⟨w3.heap.size, 0, none⟩ 1 [.slice (some ⟨g3, 0, none⟩) N N] rfl rfl (news_at _ _ _ _ rfl) (by intro u hu; simp at hu; subst hu; rfl) (by unfold maxLen; omega) (by omega) (by simp; omega) ?_
                intro g cp4 w4 hown hgrow hfr
                have HB5 := Lib.hid (HB4.out.grown hgrow (fun k hk => (World.ownsRow.lt HO4.out k hk).1))
                have HS5 : Hid (OwnRs wC.heap.size (w4.setCell ⟨bx, 7, none⟩ (.slice (some ⟨g, 0, none⟩) (j + 1) cp4)) (.slice (some ⟨g, 0, none⟩) (j + 1) cp4) (vs ++ [.slice (some ⟨g3, 0, none⟩) N N]) (l ++ [r])) := Lib.hid (
                  (HS4.out.push HRV4.out HRX.out HV.out hown hgrow).kept ((Mod.refl (fun b => b = bx) w4).setCell (p := ⟨bx, 7, none⟩) (.inr rfl) _) (fun b hb _ e => by have := HBR.out.bxlt; have := HBR.out.Rge; have := HBR.out.Rlt; omega))
                have c0 := HB5.out.cells.2.2.2.2.2.2.2.1
                have fz := HB5.out.cells.2.2.2.2.2.2.2.2.2 7
                have HB6 : Hid (BoxS base R v ws n k3 bx wC (w4.setCell ⟨bx, 7, none⟩ (.slice (some ⟨g, 0, none⟩) (j + 1) cp4)) en tm tr bm br (.slice xaA ms xcA) (.slice xaB mc xcB) (.slice (some ⟨g, 0, none⟩) (j + 1) cp4) (.slice none 0 0)) := Lib.hid (HB5.out.set_ (o := 7) rfl)
                clear hown hgrow hfr
                refine hK.out _ _ ?_ (fun hHeld => ?_)
                · exact trivial
                clear hK K
                try simp only [Act.put, List.setIfInBounds_toArray, List.set_cons_zero, List.set_cons_succ, List.getElem_toArray, List.getElem_cons_zero, List.getElem_cons_succ]
                refine wpAnyH_take (i := 9) (v := ?_) rfl (by kernel_rfl) (by kernel_rfl) (by kernel_rfl) (fun _ _ _ h => h) (Or.inl ⟨by rfl, ?_⟩) hHeld ?_
                rotate_left
                · intro Wz hWz; go_simp; (try with_reducible rfl)
                try simp only [Act.put, List.setIfInBounds_toArray, List.set_cons_zero, List.set_cons_succ, List.getElem_toArray, List.getElem_cons_zero, List.getElem_cons_succ]
                refine wpAnyH_ready (rs := [10]) (by kernel_rfl) (by simp) ?_
                refine AllReadyH.cons rfl (fun K hK => ?_) AllReadyH.nil
                go_simp
                refine hK.out _ _ ?_ (fun hHeld => ?_)
                · exact trivial
                clear hK K
                try simp only [Act.put, List.setIfInBounds_toArray, List.set_cons_zero, List.set_cons_succ, List.getElem_toArray, List.getElem_cons_zero, List.getElem_cons_succ]
                refine wpAnyH_done (by kernel_rfl) ?_ _
                clear hHeld
                go_wp2_with fail
                go_roundw
                case rel => exact ⟨j + 1, _, _, _, _, by go_num, by omega, Lib.hid (by simp [HL.out]), Lib.hid (by simp [HV.out]), Lib.hid (fun q hq => (List.mem_append.1 hq).elim (HN.out q) (fun h => by simp at h; subst h; exact HRL.out)), HB6, HS5, HF3⟩
                case measure => simp [intOf]; omega
              · go_simp
                refine hK.out _ _ ?_ (fun hHeld => ?_)
                · exact trivial
                clear hK K
                try simp only [Act.put, List.setIfInBounds_toArray, List.set_cons_zero, List.set_cons_succ, List.getElem_toArray, List.getElem_cons_zero, List.getElem_cons_succ]
                refine wpAnyH_ready (rs := [1, 5]) (by kernel_rfl) (by simp) ?_
                refine AllReadyH.cons rfl (fun K hK => ?_) (AllReadyH.cons rfl (fun K hK => ?_) AllReadyH.nil)
                · go_simp
                  refine hK.out _ _ ?_ (fun hHeld => ?_)
                  · exact trivial
                  clear hK K
                  try simp only [Act.put, List.setIfInBounds_toArray, List.set_cons_zero, List.set_cons_succ, List.getElem_toArray, List.getElem_cons_zero, List.getElem_cons_succ]
                  refine wpAnyH_ready (rs := [5]) (by kernel_rfl) (by simp) ?_
                  refine AllReadyH.cons rfl (fun K hK => ?_) AllReadyH.nil
                  go_simp
                  refine (nodesE en tm tr bm br xaA ms xcA xaB mc xcB xaC none j xcC 0 0 N _ (by omega) HNN.out).mono ?_
                  rintro e w2 ⟨rfl, hb2⟩
                  have HB2 := Lib.hid (HBR.out.drew.later hb2)
                  have HS2 := Lib.hid ((HS.out.later (Below.refl _ _).drew).later hb2)
                  have c0 := HB2.out.cells.2.2.2.2.2.2.2.1
                  have hs2 : wr.heap.size ≤ w2.heap.size := hb2.size
                  clear hb2 c1 c2 c3 c4 c5 c6 c7 c8
                  refine hK.out _ _ ?_ (fun hHeld => ?_)
                  · exact trivial
                  clear hK K
                  try simp only [Act.put, List.setIfInBounds_toArray, List.set_cons_zero, List.set_cons_succ, List.getElem_toArray, List.getElem_cons_zero, List.getElem_cons_succ]
                  refine wpAnyH_ready (rs := [6]) (by kernel_rfl) (by simp) ?_
                  refine AllReadyH.cons rfl (fun K hK => ?_) AllReadyH.nil
                  go_simp
                  refine (rowQ HB2.out.rd HTX.out j (by omega) HFN.out).mono ?_
                  rintro e w3 ⟨hm3, ⟨g3, r, k3, rfl, hrl, hrs, hF3⟩ | ⟨rfl, hoff⟩⟩
                  rotate_left
                  · exact ⟨rfl, DoQ.off HM5.out HB2.out hm3 ⟨rfl, hoff⟩⟩
                  have HB3 := Lib.hid (HB2.out.read hm3 hrs.rd)
                  have HF3 := Lib.hid hF3
                  have HRL := Lib.hid hrl
                  have HRV : Hid (RowV wC.heap.size w3 (.slice (some ⟨g3, 0, none⟩) N N) r) := Lib.hid (RowV.made hrs.row hrl (by have := hrs.ge; omega))
                  have HRX : Hid (∀ b, Value.ownBlock (.slice (some ⟨g3, 0, none⟩) N N) = some b → ¬ Value.ownBlock (.slice xaC j xcC) = some b) := Lib.hid (fun b h1 h2 => by have h3 := (World.ownsRow.lt HO.out b h2).2; have h4 := hrs.ge; injection h1 with h1; simp only at h1; omega)
                  have HS3 : Hid (OwnRs wC.heap.size w3 (.slice xaC j xcC) vs l) := Lib.hid (HS2.out.kept hm3 (fun b hb _ e => by have := HBR.out.Rlt; omega))
                  have c0 := HB3.out.cells.2.2.2.2.2.2.2.1
                  have hs3 := hm3.size
                  clear hm3 hF3 hrl hrs
                  refine hK.out _ _ ?_ (fun hHeld => ?_)
                  · exact trivial
                  clear hK K
                  try simp only [Act.put, List.setIfInBounds_toArray, List.set_cons_zero, List.set_cons_succ, List.getElem_toArray, List.getElem_cons_zero, List.getElem_cons_succ]
                  refine wpAnyH_ready (rs := [7]) (by kernel_rfl) (by simp) ?_
                  refine AllReadyH.cons rfl (fun K hK => ?_) AllReadyH.nil
                  go_simp
                  have HB4 := Lib.hid (HB3.out.later ((Below.refl _ _).alloc (Nat.le_refl _) (.cells #[.slice (some ⟨g3, 0, none⟩) N N] 22)))
                  have HS4 := Lib.hid (HS3.out.later ((Below.refl _ _).alloc (Nat.le_refl _) (.cells #[.slice (some ⟨g3, 0, none⟩) N N] 22)))
                  have HRV4 := Lib.hid (HRV.out.kept (w2 := w3.alloc (.cells #[.slice (some ⟨g3, 0, none⟩) N N] 22)) (fun b hb => ((Below.refl w3.heap.size w3).alloc (Nat.le_refl _) (.cells #[.slice (some ⟨g3, 0, none⟩) N N] 22)).block b (HRV.out.lt b hb).2))
                  have HO4 : Hid ((w3.alloc (.cells #[.slice (some ⟨g3, 0, none⟩) N N] 22)).ownsRow wC.heap.size 22 1 (.slice xaC j xcC) j vs) := Lib.hid (by have h := HS4.out.outer; rwa [HV.out] at h)
                  have c0 := HB4.out.cells.2.2.2.2.2.2.2.1
                  refine hK.out _ _ ?_ (fun hHeld => ?_)
                  · exact trivial
                  clear hK K
                  try simp only [Act.put, List.setIfInBounds_toArray, List.set_cons_zero, List.set_cons_succ, List.getElem_toArray, List.getElem_cons_zero, List.getElem_cons_succ]
                  refine wpAnyH_ready (rs := [8]) (by kernel_rfl) (by simp) ?_
                  refine AllReadyH.cons rfl (fun K hK => ?_) AllReadyH.nil
                  refine step_append_fresh rfl (.tmp 56) (.tmp 62) 36 rfl wC.heap.size 22 i2 _ 1 24 Tryd.underlying36 hi2 hx0 hx1 hx2 (by decide) (.slice xaC j xcC) j vs rfl HO4.out ⟨w3.heap.size, 0, none⟩ 1 [.slice (some ⟨g3, 0, none⟩) N N] rfl rfl (news_at _ _ _ _ rfl) (by intro u hu; simp at hu; subst hu; rfl) (by unfold maxLen; omega) (by omega) (by simp; omega) ?_
                  intro g cp4 w4 hown hgrow hfr
                  have HB5 := Lib.hid (HB4.out.grown hgrow (fun k hk => (World.ownsRow.lt HO4.out k hk).1))
                  have HS5 : Hid (OwnRs wC.heap.size (w4.setCell ⟨bx, 7, none⟩ (.slice (some ⟨g, 0, none⟩) (j + 1) cp4)) (.slice (some ⟨g, 0, none⟩) (j + 1) cp4) (vs ++ [.slice (some ⟨g3, 0, none⟩) N N]) (l ++ [r])) := Lib.hid (
                    (HS4.out.push HRV4.out HRX.out HV.out hown hgrow).kept ((Mod.refl (fun b => b = bx) w4).setCell (p := ⟨bx, 7, none⟩) (.inr rfl) _) (fun b hb _ e => by have := HBR.out.bxlt; have := HBR.out.Rge; have := HBR.out.Rlt; omega))
                  have c0 := HB5.out.cells.2.2.2.2.2.2.2.1
                  have fz := HB5.out.cells.2.2.2.2.2.2.2.2.2 7
                  have HB6 : Hid (BoxS base R v ws n k3 bx wC (w4.setCell ⟨bx, 7, none⟩ (.slice (some ⟨g, 0, none⟩) (j + 1) cp4)) en tm tr bm br (.slice xaA ms xcA) (.slice xaB mc xcB) (.slice (some ⟨g, 0, none⟩) (j + 1) cp4) (.slice none 0 0)) := Lib.hid (HB5.out.set_ (o := 7) rfl)
                  clear hown hgrow hfr
                  refine hK.out _ _ ?_ (fun hHeld => ?_)
                  · exact trivial
                  clear hK K
                  try simp only [Act.put, List.setIfInBounds_toArray, List.set_cons_zero, List.set_cons_succ, List.getElem_toArray, List.getElem_cons_zero, List.getElem_cons_succ]
                  refine wpAnyH_take (i := 9) (v := ?_) rfl (by kernel_rfl) (by kernel_rfl) (by kernel_rfl) (fun _ _ _ h => h) (Or.inl ⟨by rfl, ?_⟩) hHeld ?_
                  rotate_left
                  · intro Wz hWz; go_simp; (try with_reducible rfl)
                  try simp only [Act.put, List.setIfInBounds_toArray, List.set_cons_zero, List.set_cons_succ, List.getElem_toArray, List.getElem_cons_zero, List.getElem_cons_succ]
                  refine wpAnyH_ready (rs := [10]) (by kernel_rfl) (by simp) ?_
                  refine AllReadyH.cons rfl (fun K hK => ?_) AllReadyH.nil
                  go_simp
                  refine hK.out _ _ ?_ (fun hHeld => ?_)
                  · exact trivial
                  clear hK K
                  try simp only [Act.put, List.setIfInBounds_toArray, List.set_cons_zero, List.set_cons_succ, List.getElem_toArray, List.getElem_cons_zero, List.getElem_cons_succ]
                  refine wpAnyH_done (by kernel_rfl) ?_ _
                  clear hHeld
                  go_wp2_with fail
                  go_roundw
                  case rel => exact ⟨j + 1, _, _, _, _, by go_num, by omega, Lib.hid (by simp [HL.out]), Lib.hid (by simp [HV.out]), Lib.hid (fun q hq => (List.mem_append.1 hq).elim (HN.out q) (fun h => by simp at h; subst h; exact HRL.out)), HB6, HS5, HF3⟩
                  case measure => simp [intOf]; omega
                · go_simp
                  refine (nodesE en tm tr bm br xaA ms xcA xaB mc xcB xaC none j xcC 0 0 N _ (by omega) HNN.out).mono ?_
                  rintro e w2 ⟨rfl, hb2⟩
                  have HB2 := Lib.hid (HBR.out.drew.later hb2)
                  have HS2 := Lib.hid ((HS.out.later (Below.refl _ _).drew).later hb2)
                  have c0 := HB2.out.cells.2.2.2.2.2.2.2.1
                  have hs2 : wr.heap.size ≤ w2.heap.size := hb2.size
                  clear hb2 c1 c2 c3 c4 c5 c6 c7 c8
                  refine hK.out _ _ ?_ (fun hHeld => ?_)
                  · exact trivial
                  clear hK K
                  try simp only [Act.put, List.setIfInBounds_toArray, List.set_cons_zero, List.set_cons_succ, List.getElem_toArray, List.getElem_cons_zero, List.getElem_cons_succ]
                  refine wpAnyH_ready (rs := [1, 6]) (by kernel_rfl) (by simp) ?_
                  refine AllReadyH.cons rfl (fun K hK => ?_) (AllReadyH.cons rfl (fun K hK => ?_) AllReadyH.nil)
                  · go_simp
                    refine hK.out _ _ ?_ (fun hHeld => ?_)
                    · exact trivial
                    clear hK K
                    try simp only [Act.put, List.setIfInBounds_toArray, List.set_cons_zero, List.set_cons_succ, List.getElem_toArray, List.getElem_cons_zero, List.getElem_cons_succ]
                    refine wpAnyH_ready (rs := [6]) (by kernel_rfl) (by simp) ?_
                    refine AllReadyH.cons rfl (fun K hK => ?_) AllReadyH.nil
                    go_simp
                    refine (rowQ HB2.out.rd HTX.out j (by omega) HFN.out).mono ?_
                    rintro e w3 ⟨hm3, ⟨g3, r, k3, rfl, hrl, hrs, hF3⟩ | ⟨rfl, hoff⟩⟩
                    rotate_left
                    · exact ⟨rfl, DoQ.off HM5.out HB2.out hm3 ⟨rfl, hoff⟩⟩
                    have HB3 := Lib.hid (HB2.out.read hm3 hrs.rd)
                    have HF3 := Lib.hid hF3
                    have HRL := Lib.hid hrl
                    have HRV : Hid (RowV wC.heap.size w3 (.slice (some ⟨g3, 0, none⟩) N N) r) := Lib.hid (RowV.made hrs.row hrl (by have := hrs.ge; omega))
                    have HRX : Hid (∀ b, Value.ownBlock (.slice (some ⟨g3, 0, none⟩) N N) = some b → ¬ Value.ownBlock (.slice xaC j xcC) = some b) := Lib.hid (fun b h1 h2 => by have h3 := (World.ownsRow.lt HO.out b h2).2; have h4 := hrs.ge; injection h1 with h1; simp only at h1; omega)
                    have HS3 : Hid (OwnRs wC.heap.size w3 (.slice xaC j xcC) vs l) := Lib.hid (HS2.out.kept hm3 (fun b hb _ e => by have := HBR.out.Rlt; omega))
                    have c0 := HB3.out.cells.2.2.2.2.2.2.2.1
                    have hs3 := hm3.size
                    clear hm3 hF3 hrl hrs
                    refine hK.out _ _ ?_ (fun hHeld => ?_)
                    · exact trivial
                    clear hK K
                    try simp only [Act.put, List.setIfInBounds_toArray, List.set_cons_zero, List.set_cons_succ, List.getElem_toArray, List.getElem_cons_zero, List.getElem_cons_succ]
                    refine wpAnyH_ready (rs := [7]) (by kernel_rfl) (by simp) ?_
                    refine AllReadyH.cons rfl (fun K hK => ?_) AllReadyH.nil
                    go_simp
                    have HB4 := Lib.hid (HB3.out.later ((Below.refl _ _).alloc (Nat.le_refl _) (.cells #[.slice (some ⟨g3, 0, none⟩) N N] 22)))
                    have HS4 := Lib.hid (HS3.out.later ((Below.refl _ _).alloc (Nat.le_refl _) (.cells #[.slice (some ⟨g3, 0, none⟩) N N] 22)))
                    have HRV4 := Lib.hid (HRV.out.kept (w2 := w3.alloc (.cells #[.slice (some ⟨g3, 0, none⟩) N N] 22)) (fun b hb => ((Below.refl w3.heap.size w3).alloc (Nat.le_refl _) (.cells #[.slice (some ⟨g3, 0, none⟩) N N] 22)).block b (HRV.out.lt b hb).2))
                    have HO4 : Hid ((w3.alloc (.cells #[.slice (some ⟨g3, 0, none⟩) N N] 22)).ownsRow wC.heap.size 22 1 (.slice xaC j xcC) j vs) := Lib.hid (by have h := HS4.out.outer; rwa [HV.out] at h)
                    have c0 := HB4.out.cells.2.2.2.2.2.2.2.1
                    refine hK.out _ _ ?_ (fun hHeld => ?_)
                    · exact trivial
                    clear hK K
                    try simp only [Act.put, List.setIfInBounds_toArray, List.set_cons_zero, List.set_cons_succ, List.getElem_toArray, List.getElem_cons_zero, List.getElem_cons_succ]
                    refine wpAnyH_ready (rs := [8]) (by kernel_rfl) (by simp) ?_
                    refine AllReadyH.cons rfl (fun K hK => ?_) AllReadyH.nil
                    refine step_append_fresh rfl (.tmp 56) (.tmp 62) 36 rfl wC.heap.size 22 i2 _ 1 24 Tryd.underlying36 hi2 hx0 hx1 hx2 (by decide) (.slice xaC j xcC) j vs rfl HO4.out ⟨w3.heap.size, 0, none⟩ 1 [.slice (some ⟨g3, 0, none⟩) N N] rfl rfl (news_at _ _ _ _ rfl) (by intro u hu; simp at hu; subst hu; rfl) (by unfold maxLen; omega) (by omega) (by simp; omega) ?_
                    intro g cp4 w4 hown hgrow hfr
                    have HB5 := Lib.hid (HB4.out.grown hgrow (fun k hk => (World.ownsRow.lt HO4.out k hk).1))
                    have HS5 : Hid (OwnRs wC.heap.size (w4.setCell ⟨bx, 7, none⟩ (.slice (some ⟨g, 0, none⟩) (j + 1) cp4)) (.slice (some ⟨g, 0, none⟩) (j + 1) cp4) (vs ++ [.slice (some ⟨g3, 0, none⟩) N N]) (l ++ [r])) := Lib.hid (
                      (HS4.out.push HRV4.out HRX.out HV.out hown hgrow).kept ((Mod.refl (fun b => b = bx) w4).setCell (p := ⟨bx, 7, none⟩) (.inr rfl) _) (fun b hb _ e => by have := HBR.out.bxlt; have := HBR.out.Rge; have := HBR.out.Rlt; omega))
                    have c0 := HB5.out.cells.2.2.2.2.2.2.2.1
                    have fz := HB5.out.cells.2.2.2.2.2.2.2.2.2 7
                    have HB6 : Hid (BoxS base R v ws n k3 bx wC (w4.setCell ⟨bx, 7, none⟩ (.slice (some ⟨g, 0, none⟩) (j + 1) cp4)) en tm tr bm br (.slice xaA ms xcA) (.slice xaB mc xcB) (.slice (some ⟨g, 0, none⟩) (j + 1) cp4) (.slice none 0 0)) := Lib.hid (HB5.out.set_ (o := 7) rfl)
                    clear hown hgrow hfr
                    refine hK.out _ _ ?_ (fun hHeld => ?_)
                    · exact trivial
                    clear hK K
                    try simp only [Act.put, List.setIfInBounds_toArray, List.set_cons_zero, List.set_cons_succ, List.getElem_toArray, List.getElem_cons_zero, List.getElem_cons_succ]
                    refine wpAnyH_take (i := 9) (v := ?_) rfl (by kernel_rfl) (by kernel_rfl) (by kernel_rfl) (fun _ _ _ h => h) (Or.inl ⟨by rfl, ?_⟩) hHeld ?_
                    rotate_left
                    · intro Wz hWz; go_simp; (try with_reducible rfl)
                    try simp only [Act.put, List.setIfInBounds_toArray, List.set_cons_zero, List.set_cons_succ, List.getElem_toArray, List.getElem_cons_zero, List.getElem_cons_succ]
                    refine wpAnyH_ready (rs := [10]) (by kernel_rfl) (by simp) ?_
                    refine AllReadyH.cons rfl (fun K hK => ?_) AllReadyH.nil
                    go_simp
                    refine hK.out _ _ ?_ (fun hHeld => ?_)
                    · exact trivial
                    clear hK K
                    try simp only [Act.put, List.setIfInBounds_toArray, List.set_cons_zero, List.set_cons_succ, List.getElem_toArray, List.getElem_cons_zero, List.getElem_cons_succ]
                    refine wpAnyH_done (by kernel_rfl) ?_ _
                    clear hHeld
                    go_wp2_with fail
                    go_roundw
                    case rel => exact ⟨j + 1, _, _, _, _, by go_num, by omega, Lib.hid (by simp [HL.out]), Lib.hid (by simp [HV.out]), Lib.hid (fun q hq => (List.mem_append.1 hq).elim (HN.out q) (fun h => by simp at h; subst h; exact HRL.out)), HB6, HS5, HF3⟩
                    case measure => simp [intOf]; omega
                  · go_simp
                    refine (rowQ HB2.out.rd HTX.out j (by omega) HFN.out).mono ?_
                    rintro e w3 ⟨hm3, ⟨g3, r, k3, rfl, hrl, hrs, hF3⟩ | ⟨rfl, hoff⟩⟩
                    rotate_left
                    · exact ⟨rfl, DoQ.off HM5.out HB2.out hm3 ⟨rfl, hoff⟩⟩
                    have HB3 := Lib.hid (HB2.out.read hm3 hrs.rd)
                    have HF3 := Lib.hid hF3
                    have HRL := Lib.hid hrl
                    have HRV : Hid (RowV wC.heap.size w3 (.slice (some ⟨g3, 0, none⟩) N N) r) := Lib.hid (RowV.made hrs.row hrl (by have := hrs.ge; omega))
                    have HRX : Hid (∀ b, Value.ownBlock (.slice (some ⟨g3, 0, none⟩) N N) = some b → ¬ Value.ownBlock (.slice xaC j xcC) = some b) := Lib.hid (fun b h1 h2 => by have h3 := (World.ownsRow.lt HO.out b h2).2; have h4 := hrs.ge; injection h1 with h1; simp only at h1; omega)
                    have HS3 : Hid (OwnRs wC.heap.size w3 (.slice xaC j xcC) vs l) := Lib.hid (HS2.out.kept hm3 (fun b hb _ e => by have := HBR.out.Rlt; omega))
                    have c0 := HB3.out.cells.2.2.2.2.2.2.2.1
                    have hs3 := hm3.size
                    clear hm3 hF3 hrl hrs
                    refine hK.out _ _ ?_ (fun hHeld => ?_)
                    · exact trivial
                    clear hK K
                    try simp only [Act.put, List.setIfInBounds_toArray, List.set_cons_zero, List.set_cons_succ, List.getElem_toArray, List.getElem_cons_zero, List.getElem_cons_succ]
                    refine wpAnyH_ready (rs := [1, 7]) (by kernel_rfl) (by simp) ?_
                    refine AllReadyH.cons rfl (fun K hK => ?_) (AllReadyH.cons rfl (fun K hK => ?_) AllReadyH.nil)
                    · go_simp
                      refine hK.out _ _ ?_ (fun hHeld => ?_)
                      · exact trivial
                      clear hK K
                      try simp only [Act.put, List.setIfInBounds_toArray, List.set_cons_zero, List.set_cons_succ, List.getElem_toArray, List.getElem_cons_zero, List.getElem_cons_succ]
                      refine wpAnyH_ready (rs := [7]) (by kernel_rfl) (by simp) ?_
                      refine AllReadyH.cons rfl (fun K hK => ?_) AllReadyH.nil
                      go_simp
                      have HB4 := Lib.hid (HB3.out.later ((Below.refl _ _).alloc (Nat.le_refl _) (.cells #[.slice (some ⟨g3, 0, none⟩) N N] 22)))
                      have HS4 := Lib.hid (HS3.out.later ((Below.refl _ _).alloc (Nat.le_refl _) (.cells #[.slice (some ⟨g3, 0, none⟩) N N] 22)))
                      have HRV4 := Lib.hid (HRV.out.kept (w2 := w3.alloc (.cells #[.slice (some ⟨g3, 0, none⟩) N N] 22)) (fun b hb => ((Below.refl w3.heap.size w3).alloc (Nat.le_refl _) (.cells #[.slice (some ⟨g3, 0, none⟩) N N] 22)).block b (HRV.out.lt b hb).2))
                      have HO4 : Hid ((w3.alloc (.cells #[.slice (some ⟨g3, 0, none⟩) N N] 22)).ownsRow wC.heap.size 22 1 (.slice xaC j xcC) j vs) := Lib.hid (by have h := HS4.out.outer; rwa [HV.out] at h)
                      have c0 := HB4.out.cells.2.2.2.2.2.2.2.1
                      refine hK.out _ _ ?_ (fun hHeld => ?_)
                      · exact trivial
                      clear hK K
                      try simp only [Act.put, List.setIfInBounds_toArray, List.set_cons_zero, List.set_cons_succ, List.getElem_toArray, List.getElem_cons_zero, List.getElem_cons_succ]
                      refine wpAnyH_ready (rs := [8]) (by kernel_rfl) (by simp) ?_
                      refine AllReadyH.cons rfl (fun K hK => ?_) AllReadyH.nil
                      refine step_append_fresh rfl (.tmp 56) (.tmp 62) 36 rfl wC.heap.size 22 i2 _ 1 24 Tryd.underlying36 hi2 hx0 hx1 hx2 (by decide) (.slice xaC j xcC) j vs rfl HO4.out ⟨w3.heap.size, 0, none⟩ 1 [.slice (some ⟨g3, 0, none⟩) N N] rfl rfl (news_at _ _ _ _ rfl) (by intro u hu; simp at hu; subst hu; rfl) (by unfold maxLen; omega) (by omega) (by simp; omega) ?_
                      intro g cp4 w4 hown hgrow hfr
                      have HB5 := Lib.hid (HB4.out.grown hgrow (fun k hk => (World.ownsRow.lt HO4.out k hk).1))
                      have HS5 : Hid (OwnRs wC.heap.size (w4.setCell ⟨bx, 7, none⟩ (.slice (some ⟨g, 0, none⟩) (j + 1) cp4)) (.slice (some ⟨g, 0, none⟩) (j + 1) cp4) (vs ++ [.slice (some ⟨g3, 0, none⟩) N N]) (l ++ [r])) := Lib.hid (
                        (HS4.out.push HRV4.out HRX.out HV.out hown hgrow).kept ((Mod.refl (fun b => b = bx) w4).setCell (p := ⟨bx, 7, none⟩) (.inr rfl) _) (fun b hb _ e => by have := HBR.out.bxlt; have := HBR.out.Rge; have := HBR.out.Rlt; omega))
                      have c0 := HB5.out.cells.2.2.2.2.2.2.2.1
                      have fz := HB5.out.cells.2.2.2.2.2.2.2.2.2 7
                      have HB6 : Hid (BoxS base R v ws n k3 bx wC (w4.setCell ⟨bx, 7, none⟩ (.slice (some ⟨g, 0, none⟩) (j + 1) cp4)) en tm tr bm br (.slice xaA ms xcA) (.slice xaB mc xcB) (.slice (some ⟨g, 0, none⟩) (j + 1) cp4) (.slice none 0 0)) := Lib.hid (HB5.out.set_ (o := 7) rfl)
                      clear hown hgrow hfr
                      refine hK.out _ _ ?_ (fun hHeld => ?_)
                      · exact trivial
                      clear hK K
                      try simp only [Act.put, List.setIfInBounds_toArray, List.set_cons_zero, List.set_cons_succ, List.getElem_toArray, List.getElem_cons_zero, List.getElem_cons_succ]
                      refine wpAnyH_take (i := 9) (v := ?_) rfl (by kernel_rfl) (by kernel_rfl) (by kernel_rfl) (fun _ _ _ h => h) (Or.inl ⟨by rfl, ?_⟩) hHeld ?_
                      rotate_left
                      · intro Wz hWz; go_simp; (try with_reducible rfl)
                      try simp only [Act.put, List.setIfInBounds_toArray, List.set_cons_zero, List.set_cons_succ, List.getElem_toArray, List.getElem_cons_zero, List.getElem_cons_succ]
                      refine wpAnyH_ready (rs := [10]) (by kernel_rfl) (by simp) ?_
                      refine AllReadyH.cons rfl (fun K hK => ?_) AllReadyH.nil
                      go_simp
                      refine hK.out _ _ ?_ (fun hHeld => ?_)
                      · exact trivial
                      clear hK K
                      try simp only [Act.put, List.setIfInBounds_toArray, List.set_cons_zero, List.set_cons_succ, List.getElem_toArray, List.getElem_cons_zero, List.getElem_cons_succ]
                      refine wpAnyH_done (by kernel_rfl) ?_ _
                      clear hHeld
                      go_wp2_with fail
                      go_roundw
                      case rel => exact ⟨j + 1, _, _, _, _, by go_num, by omega, Lib.hid (by simp [HL.out]), Lib.hid (by simp [HV.out]), Lib.hid (fun q hq => (List.mem_append.1 hq).elim (HN.out q) (fun h => by simp at h; subst h; exact HRL.out)), HB6, HS5, HF3⟩
                      case measure => simp [intOf]; omega
                    · go_simp
                      have HB4 := Lib.hid (HB3.out.later ((Below.refl _ _).alloc (Nat.le_refl _) (.cells #[.slice (some ⟨g3, 0, none⟩) N N] 22)))
                      have HS4 := Lib.hid (HS3.out.later ((Below.refl _ _).alloc (Nat.le_refl _) (.cells #[.slice (some ⟨g3, 0, none⟩) N N] 22)))
                      have HRV4 := Lib.hid (HRV.out.kept (w2 := w3.alloc (.cells #[.slice (some ⟨g3, 0, none⟩) N N] 22)) (fun b hb => ((Below.refl w3.heap.size w3).alloc (Nat.le_refl _) (.cells #[.slice (some ⟨g3, 0, none⟩) N N] 22)).block b (HRV.out.lt b hb).2))
                      have HO4 : Hid ((w3.alloc (.cells #[.slice (some ⟨g3, 0, none⟩) N N] 22)).ownsRow wC.heap.size 22 1 (.slice xaC j xcC) j vs) := Lib.hid (by have h := HS4.out.outer; rwa [HV.out] at h)
                      have c0 := HB4.out.cells.2.2.2.2.2.2.2.1
                      refine hK.out _ _ ?_ (fun hHeld => ?_)
                      · exact trivial
                      clear hK K
                      try simp only [Act.put, List.setIfInBounds_toArray, List.set_cons_zero, List.set_cons_succ, List.getElem_toArray, List.getElem_cons_zero, List.getElem_cons_succ]
                      refine wpAnyH_ready (rs := [1]) (by kernel_rfl) (by simp) ?_
                      refine AllReadyH.cons rfl (fun K hK => ?_) AllReadyH.nil
                      go_simp
                      refine hK.out _ _ ?_ (fun hHeld => ?_)
                      · exact trivial
                      clear hK K
                      try simp only [Act.put, List.setIfInBounds_toArray, List.set_cons_zero, List.set_cons_succ, List.getElem_toArray, List.getElem_cons_zero, List.getElem_cons_succ]
                      refine wpAnyH_ready (rs := [8]) (by kernel_rfl) (by simp) ?_
                      refine AllReadyH.cons rfl (fun K hK => ?_) AllReadyH.nil
                      refine step_append_fresh rfl (.tmp 56) (.tmp 62) 36 rfl wC.heap.size 22 i2 _ 1 24 Tryd.underlying36 hi2 hx0 hx1 hx2 (by decide) (.slice xaC j xcC) j vs rfl HO4.out ⟨w3.heap.size, 0, none⟩ 1 [.slice (some ⟨g3, 0, none⟩) N N] rfl rfl (news_at _ _ _ _ rfl) (by intro u hu; simp at hu; subst hu; rfl) (by unfold maxLen; omega) (by omega) (by simp; omega) ?_
                      intro g cp4 w4 hown hgrow hfr
                      have HB5 := Lib.hid (HB4.out.grown hgrow (fun k hk => (World.ownsRow.lt HO4.out k hk).1))
                      have HS5 : Hid (OwnRs wC.heap.size (w4.setCell ⟨bx, 7, none⟩ (.slice (some ⟨g, 0, none⟩) (j + 1) cp4)) (.slice (some ⟨g, 0, none⟩) (j + 1) cp4) (vs ++ [.slice (some ⟨g3, 0, none⟩) N N]) (l ++ [r])) := Lib.hid (
                        (HS4.out.push HRV4.out HRX.out HV.out hown hgrow).kept ((Mod.refl (fun b => b = bx) w4).setCell (p := ⟨bx, 7, none⟩) (.inr rfl) _) (fun b hb _ e => by have := HBR.out.bxlt; have := HBR.out.Rge; have := HBR.out.Rlt; omega))
                      have c0 := HB5.out.cells.2.2.2.2.2.2.2.1
                      have fz := HB5.out.cells.2.2.2.2.2.2.2.2.2 7
                      have HB6 : Hid (BoxS base R v ws n k3 bx wC (w4.setCell ⟨bx, 7, none⟩ (.slice (some ⟨g, 0, none⟩) (j + 1) cp4)) en tm tr bm br (.slice xaA ms xcA) (.slice xaB mc xcB) (.slice (some ⟨g, 0, none⟩) (j + 1) cp4) (.slice none 0 0)) := Lib.hid (HB5.out.set_ (o := 7) rfl)
                      clear hown hgrow hfr
                      refine hK.out _ _ ?_ (fun hHeld => ?_)
                      · exact trivial
                      clear hK K
                      try simp only [Act.put, List.setIfInBounds_toArray, List.set_cons_zero, List.set_cons_succ, List.getElem_toArray, List.getElem_cons_zero, List.getElem_cons_succ]
                      refine wpAnyH_take (i := 9) (v := ?_) rfl (by kernel_rfl) (by kernel_rfl) (by kernel_rfl) (fun _ _ _ h => h) (Or.inl ⟨by rfl, ?_⟩) hHeld ?_
                      rotate_left
                      · intro Wz hWz; go_simp; (try with_reducible rfl)
                      try simp only [Act.put, List.setIfInBounds_toArray, List.set_cons_zero, List.set_cons_succ, List.getElem_toArray, List.getElem_cons_zero, List.getElem_cons_succ]
                      refine wpAnyH_ready (rs := [10]) (by kernel_rfl) (by simp) ?_
                      refine AllReadyH.cons rfl (fun K hK => ?_) AllReadyH.nil
                      go_simp
                      refine hK.out _ _ ?_ (fun hHeld => ?_)
                      · exact trivial
                      clear hK K
                      try simp only [Act.put, List.setIfInBounds_toArray, List.set_cons_zero, List.set_cons_succ, List.getElem_toArray, List.getElem_cons_zero, List.getElem_cons_succ]
                      refine wpAnyH_done (by kernel_rfl) ?_ _
                      clear hHeld
                      go_wp2_with fail
                      go_roundw
                      case rel => exact ⟨j + 1, _, _, _, _, by go_num, by omega, Lib.hid (by simp [HL.out]), Lib.hid (by simp [HV.out]), Lib.hid (fun q hq => (List.mem_append.1 hq).elim (HN.out q) (fun h => by simp at h; subst h; exact HRL.out)), HB6, HS5, HF3⟩
                      case measure => simp [intOf]; omega
            · obtain rfl : N = j := by omega
              have hF2 := HF.out
              rw [Nat.sub_self, rowsP] at hF2
              have HFn := Lib.hid hF2
              clear hF2 HF
              obtain ⟨wC2, hren⟩ : ∃ z, z = wr := ⟨_, rfl⟩
              subst hren
              obtain ⟨lC, hren⟩ : ∃ z, z = l := ⟨_, rfl⟩
              subst hren
              obtain ⟨kC, hren⟩ : ∃ z, z = k := ⟨_, rfl⟩
              subst hren
              have HM6 := Lib.hid (HM5.out.trans HBR.out.mod)
              have HLC := HL
              have HSC := HS
              have HSA := Lib.hid (HBR.out.owns HRA.out HSA.out)
              have HSB := Lib.hid (HBR.out.owns HRB.out HSB.out)
              have HB := Lib.hid HBR.out.restart
              have HF := HFn
              clear HL HS HBR HFn hlt hj
              have HNC := HN
              clear HN HV HO
              obtain ⟨vsC, hren⟩ : ∃ z, z = vs := ⟨_, rfl⟩
              subst hren
              go_wp2_with fail
              refine (mustQ HB.out.rd _ tTime rfl HF.out).mono ?_
              rintro e w10 ⟨hm, ⟨rfl, hr, hF⟩ | ⟨rfl, hoff⟩⟩
              rotate_left
              · exact ⟨rfl, DoQ.off HM6.out HB.out hm ⟨rfl, hoff⟩⟩
              have HBn := Lib.hid (HB.out.read hm hr)
              have HFn := Lib.hid hF
              clear hm hr hF HB HF
              have HB := HBn
              have HF := HFn
              clear HBn HFn
              obtain ⟨c0, c1, c2, c3, c4, c5, c6, c7, c8, _⟩ := HB.out.cells
              have hF2 := HF.out
              rw [HLA.out, HLB.out, HNN.out] at hF2
              have HFn := Lib.hid hF2
              clear hF2 HF
              have HF := HFn
              clear HFn
              go_wp2_with fail
              refine (nodesE en tm tr bm br xaA ms xcA xaB mc xcB xaC none N xcC 0 0 N _ (by omega) HNN.out).mono ?_
              rintro e wD ⟨rfl, hb2⟩
              have HBn := Lib.hid (HB.out.later hb2)
              clear hb2 HB c0 c1 c2 c3 c4 c5 c6 c7 c8
              have HB := HBn
              clear HBn
              have HM7 := Lib.hid (HM6.out.trans HB.out.mod)
              have HSA := Lib.hid (HB.out.owns HRA.out HSA.out)
              have HSB := Lib.hid (HB.out.owns HRB.out HSB.out)
              have HSC := Lib.hid (HB.out.rows HRC.out HSC.out)
              have HBn := Lib.hid HB.out.restart
              clear HB
              have HB := HBn
              clear HBn
              have HRD := Lib.hid HB.out.Rlt
              go_wp2_with fail
              have HS0 : Hid (OwnRs wD.heap.size wD (.slice none 0 0) [] []) := Lib.hid (OwnRs.nil _ _)
              have HL0 : Hid (runR ws (rowsP N (N - 0) [] (fun time => Rp.must tEnd (Rp.done ⟨en, tm, tr, bm, br, lA, lB, lC, time⟩))) _ = F) := HF
              clear HF
              go_loopw [70] (fun iv wr => ∃ (j k : Nat) (xv : Value) (vs : List Value) (l : List (List Int)), iv = .int .i64 (j : Int) ∧ j ≤ N ∧ Hid (l.length = j) ∧ Hid (vs.length = j) ∧ Hid (∀ r ∈ l, r.length = N) ∧ Hid (BoxS base R v ws n k bx wD wr en tm tr bm br (.slice xaA ms xcA) (.slice xaB mc xcB) (.slice xaC N xcC) xv) ∧ Hid (OwnRs wD.heap.size wr xv vs l) ∧ Hid (runR ws (rowsP N (N - j) l (fun time => Rp.must tEnd (Rp.done ⟨en, tm, tr, bm, br, lA, lB, lC, time⟩))) k = F)) (fun iv _ => N - (intOf iv).toNat)
              case atStart => exact ⟨0, _, _, [], [], rfl, Nat.zero_le _, Lib.hid rfl, Lib.hid rfl, Lib.hid (by simp), HB, HS0, HL0⟩
              case round =>
                obtain ⟨j, k, xv, vs, l, rfl, hj, HL, HV, HN, HBR, HS, HF⟩ := hrel
                clear HS0 HL0 HB
                have hout := HS.out.outer
                rw [HV.out] at hout
                obtain ⟨xaD, xcD, hxv⟩ := owns_shape hout
                subst hxv
                have HO := Lib.hid hout
                clear hout
                by_cases hlt : j < N
                · have hF2 := HF.out
                  rw [show N - j = (N - (j + 1)) + 1 by omega, rowsP, HL.out] at hF2
                  have HFN := Lib.hid hF2
                  obtain ⟨c0, c1, c2, c3, c4, c5, c6, c7, c8, _⟩ := HBR.out.cells
                  have HBS := HBR.out.mod.size
                  clear hF2 HF
                  go_wp2_with fail
                  refine wp_region_held_drew (S := fun _ => True) (by kernel_rfl) trivial (fun hHeld => ?_)
                  refine wpAnyH_take (i := 0) (v := ?_) rfl (by kernel_rfl) (by kernel_rfl) (by kernel_rfl) (fun _ _ _ h => h) (Or.inl ⟨by rfl, ?_⟩) hHeld ?_
                  rotate_left
                  · intro Wz hWz; go_simp; (try with_reducible rfl)
                  try simp only [Act.put, List.setIfInBounds_toArray, List.set_cons_zero, List.set_cons_succ, List.getElem_toArray, List.getElem_cons_zero]
                  refine wpAnyH_take (i := 2) (v := ?_) rfl (by kernel_rfl) (by kernel_rfl) (by kernel_rfl) (fun _ _ _ h => h) (Or.inl ⟨by rfl, ?_⟩) hHeld ?_
                  rotate_left
                  · intro Wz hWz; go_simp; (try with_reducible rfl)
                  try simp only [Act.put, List.setIfInBounds_toArray, List.set_cons_zero, List.set_cons_succ, List.getElem_toArray, List.getElem_cons_zero, List.getElem_cons_succ]
                  refine wpAnyH_take (i := 3) (v := ?_) rfl (by kernel_rfl) (by kernel_rfl) (by kernel_rfl) (fun _ _ _ h => h) (Or.inl ⟨by rfl, ?_⟩) hHeld ?_
                  rotate_left
                  · intro Wz hWz; go_simp; (try with_reducible rfl)
                  try simp only [Act.put, List.setIfInBounds_toArray, List.set_cons_zero, List.set_cons_succ, List.getElem_toArray, List.getElem_cons_zero, List.getElem_cons_succ]
                  refine wpAnyH_ready (rs := [1, 4]) (by kernel_rfl) (by simp) ?_
                  refine AllReadyH.cons rfl (fun K hK => ?_) (AllReadyH.cons rfl (fun K hK => ?_) AllReadyH.nil)
                  · go_simp
                    refine hK.out _ _ ?_ (fun hHeld => ?_)
                    · exact trivial
                    clear hK K
                    try simp only [Act.put, List.setIfInBounds_toArray, List.set_cons_zero, List.set_cons_succ, List.getElem_toArray, List.getElem_cons_zero, List.getElem_cons_succ]
                    refine wpAnyH_ready (rs := [4]) (by kernel_rfl) (by simp) ?_
                    refine AllReadyH.cons rfl (fun K hK => ?_) AllReadyH.nil
                    go_simp
                    refine hK.out _ _ ?_ (fun hHeld => ?_)
                    · exact trivial
                    clear hK K
                    try simp only [Act.put, List.setIfInBounds_toArray, List.set_cons_zero, List.set_cons_succ, List.getElem_toArray, List.getElem_cons_zero, List.getElem_cons_succ]
                    refine wpAnyH_ready (rs := [5]) (by kernel_rfl) (by simp) ?_
                    refine AllReadyH.cons rfl (fun K hK => ?_) AllReadyH.nil
                    go_simp
                    refine (nodesE en tm tr bm br xaA ms xcA xaB mc xcB xaC xaD N xcC j xcD N _ (by omega) HNN.out).mono ?_
                    rintro e w2 ⟨rfl, hb2⟩
                    have HB2 := Lib.hid (HBR.out.drew.later hb2)
                    have HS2 := Lib.hid ((HS.out.later (Below.refl _ _).drew).later hb2)
                    have c0 := HB2.out.cells.2.2.2.2.2.2.2.2.1
                    have hs2 : wr.heap.size ≤ w2.heap.size := hb2.size
                    clear hb2 c1 c2 c3 c4 c5 c6 c7 c8
                    refine hK.out _ _ ?_ (fun hHeld => ?_)
                    · exact trivial
                    clear hK K
                    try simp only [Act.put, List.setIfInBounds_toArray, List.set_cons_zero, List.set_cons_succ, List.getElem_toArray, List.getElem_cons_zero, List.getElem_cons_succ]
                    refine wpAnyH_ready (rs := [6]) (by kernel_rfl) (by simp) ?_
                    refine AllReadyH.cons rfl (fun K hK => ?_) AllReadyH.nil
                    go_simp
                    refine (rowQ HB2.out.rd HTX.out j (by omega) HFN.out).mono ?_
                    rintro e w3 ⟨hm3, ⟨g3, r, k3, rfl, hrl, hrs, hF3⟩ | ⟨rfl, hoff⟩⟩
                    rotate_left
                    · exact ⟨rfl, DoQ.off HM7.out HB2.out hm3 ⟨rfl, hoff⟩⟩
                    have HB3 := Lib.hid (HB2.out.read hm3 hrs.rd)
                    have HF3 := Lib.hid hF3
                    have HRL := Lib.hid hrl
                    have HRV : Hid (RowV wD.heap.size w3 (.slice (some ⟨g3, 0, none⟩) N N) r) := Lib.hid (RowV.made hrs.row hrl (by have := hrs.ge; omega))
                    have HRX : Hid (∀ b, Value.ownBlock (.slice (some ⟨g3, 0, none⟩) N N) = some b → ¬ Value.ownBlock (.slice xaD j xcD) = some b) := Lib.hid (fun b h1 h2 => by have h3 := (World.ownsRow.lt HO.out b h2).2; have h4 := hrs.ge; injection h1 with h1; simp only at h1; omega)
                    have HS3 : Hid (OwnRs wD.heap.size w3 (.slice xaD j xcD) vs l) := Lib.hid (HS2.out.kept hm3 (fun b hb _ e => by have := HBR.out.Rlt; omega))
                    have c0 := HB3.out.cells.2.2.2.2.2.2.2.2.1
                    have hs3 := hm3.size
                    clear hm3 hF3 hrl hrs
                    refine hK.out _ _ ?_ (fun hHeld => ?_)
                    · exact trivial
                    clear hK K
                    try simp only [Act.put, List.setIfInBounds_toArray, List.set_cons_zero, List.set_cons_succ, List.getElem_toArray, List.getElem_cons_zero, List.getElem_cons_succ]
                    refine wpAnyH_ready (rs := [7]) (by kernel_rfl) (by simp) ?_
                    refine AllReadyH.cons rfl (fun K hK => ?_) AllReadyH.nil
                    go_simp
                    have HB4 := Lib.hid (HB3.out.later ((Below.refl _ _).alloc (Nat.le_refl _) (.cells #[.slice (some ⟨g3, 0, none⟩) N N] 22)))
                    have HS4 := Lib.hid (HS3.out.later ((Below.refl _ _).alloc (Nat.le_refl _) (.cells #[.slice (some ⟨g3, 0, none⟩) N N] 22)))
                    have HRV4 := Lib.hid (HRV.out.kept (w2 := w3.alloc (.cells #[.slice (some ⟨g3, 0, none⟩) N N] 22)) (fun b hb => ((Below.refl w3.heap.size w3).alloc (Nat.le_refl _) (.cells #[.slice (some ⟨g3, 0, none⟩) N N] 22)).block b (HRV.out.lt b hb).2))
                    have HO4 : Hid ((w3.alloc (.cells #[.slice (some ⟨g3, 0, none⟩) N N] 22)).ownsRow wD.heap.size 22 1 (.slice xaD j xcD) j vs) := Lib.hid (by have h := HS4.out.outer; rwa [HV.out] at h)
                    have c0 := HB4.out.cells.2.2.2.2.2.2.2.2.1
                    refine hK.out _ _ ?_ (fun hHeld => ?_)
                    · exact trivial
                    clear hK K
                    try simp only [Act.put, List.setIfInBounds_toArray, List.set_cons_zero, List.set_cons_succ, List.getElem_toArray, List.getElem_cons_zero, List.getElem_cons_succ]
                    refine wpAnyH_ready (rs := [8]) (by kernel_rfl) (by simp) ?_
                    refine AllReadyH.cons rfl (fun K hK => ?_) AllReadyH.nil
                    refine step_append_fresh rfl (.tmp 74) (.tmp 80) 36 rfl wD.heap.size 22 i2 _ 1 24 Tryd.underlying36 hi2 hx0 hx1 hx2 (by decide) (.slice xaD j xcD) j vs rfl HO4.out ⟨w3.heap.size, 0, none⟩ 1 [.slice (some ⟨g3, 0, none⟩) N N] rfl rfl (news_at _ _ _ _ rfl) (by intro u hu; simp at hu; subst hu; rfl) (by unfold maxLen; omega) (by omega) (by simp; omega) ?_
                    intro g cp4 w4 hown hgrow hfr
                    have HB5 := Lib.hid (HB4.out.grown hgrow (fun k hk => (World.ownsRow.lt HO4.out k hk).1))
                    have HS5 : Hid (OwnRs wD.heap.size (w4.setCell ⟨bx, 8, none⟩ (.slice (some ⟨g, 0, none⟩) (j + 1) cp4)) (.slice (some ⟨g, 0, none⟩) (j + 1) cp4) (vs ++ [.slice (some ⟨g3, 0, none⟩) N N]) (l ++ [r])) := Lib.hid (
                      (HS4.out.push HRV4.out HRX.out HV.out hown hgrow).kept ((Mod.refl (fun b => b = bx) w4).setCell (p := ⟨bx, 8, none⟩) (.inr rfl) _) (fun b hb _ e => by have := HBR.out.bxlt; have := HBR.out.Rge; have := HBR.out.Rlt; omega))
                    have c0 := HB5.out.cells.2.2.2.2.2.2.2.2.1
                    have fz := HB5.out.cells.2.2.2.2.2.2.2.2.2 8
                    have HB6 : Hid (BoxS base R v ws n k3 bx wD (w4.setCell ⟨bx, 8, none⟩ (.slice (some ⟨g, 0, none⟩) (j + 1) cp4)) en tm tr bm br (.slice xaA ms xcA) (.slice xaB mc xcB) (.slice xaC N xcC) (.slice (some ⟨g, 0, none⟩) (j + 1) cp4)) := Lib.hid (HB5.out.set_ (o := 8) rfl)
                    clear hown hgrow hfr
                    refine hK.out _ _ ?_ (fun hHeld => ?_)
                    · exact trivial
                    clear hK K
                    try simp only [Act.put, List.setIfInBounds_toArray, List.set_cons_zero, List.set_cons_succ, List.getElem_toArray, List.getElem_cons_zero, List.getElem_cons_succ]
                    refine wpAnyH_take (i := 9) (v := ?_) rfl (by kernel_rfl) (by kernel_rfl) (by kernel_rfl) (fun _ _ _ h => h) (Or.inl ⟨by rfl, ?_⟩) hHeld ?_
                    rotate_left
                    · intro Wz hWz; go_simp; (try with_reducible rfl)
                    try simp only [Act.put, List.setIfInBounds_toArray, List.set_cons_zero, List.set_cons_succ, List.getElem_toArray, List.getElem_cons_zero, List.getElem_cons_succ]
                    refine wpAnyH_ready (rs := [10]) (by kernel_rfl) (by simp) ?_
                    refine AllReadyH.cons rfl (fun K hK => ?_) AllReadyH.nil
                    go_simp
                    refine hK.out _ _ ?_ (fun hHeld => ?_)
                    · exact trivial
                    clear hK K
                    try simp only [Act.put, List.setIfInBounds_toArray, List.set_cons_zero, List.set_cons_succ, List.getElem_toArray, List.getElem_cons_zero, List.getElem_cons_succ]
                    refine wpAnyH_done (by kernel_rfl) ?_ _
                    clear hHeld
                    go_wp2_with fail
                    go_roundw
                    case rel => exact ⟨j + 1, _, _, _, _, by go_num, by omega, Lib.hid (by simp [HL.out]), Lib.hid (by simp [HV.out]), Lib.hid (fun q hq => (List.mem_append.1 hq).elim (HN.out q) (fun h => by simp at h; subst h; exact HRL.out)), HB6, HS5, HF3⟩
                    case measure => simp [intOf]; omega
                  · go_simp
                    refine hK.out _ _ ?_ (fun hHeld => ?_)
                    · exact trivial
                    clear hK K
                    try simp only [Act.put, List.setIfInBounds_toArray, List.set_cons_zero, List.set_cons_succ, List.getElem_toArray, List.getElem_cons_zero, List.getElem_cons_succ]
                    refine wpAnyH_ready (rs := [1, 5]) (by kernel_rfl) (by simp) ?_
                    refine AllReadyH.cons rfl (fun K hK => ?_) (AllReadyH.cons rfl (fun K hK => ?_) AllReadyH.nil)
                    · go_simp
                      refine hK.out _ _ ?_ (fun hHeld => ?_)
                      · exact trivial
                      clear hK K
                      try simp only [Act.put, List.setIfInBounds_toArray, List.set_cons_zero, List.set_cons_succ, List.getElem_toArray, List.getElem_cons_zero, List.getElem_cons_succ]
                      refine wpAnyH_ready (rs := [5]) (by kernel_rfl) (by simp) ?_
                      refine AllReadyH.cons rfl (fun K hK => ?_) AllReadyH.nil
                      go_simp
                      refine (nodesE en tm tr bm br xaA ms xcA xaB mc xcB xaC xaD N xcC j xcD N _ (by omega) HNN.out).mono ?_
                      rintro e w2 ⟨rfl, hb2⟩
                      have HB2 := Lib.hid (HBR.out.drew.later hb2)
                      have HS2 := Lib.hid ((HS.out.later (Below.refl _ _).drew).later hb2)
                      have c0 := HB2.out.cells.2.2.2.2.2.2.2.2.1
                      have hs2 : wr.heap.size ≤ w2.heap.size := hb2.size
                      clear hb2 c1 c2 c3 c4 c5 c6 c7 c8
                      refine hK.out _ _ ?_ (fun hHeld => ?_)
                      · exact trivial
                      clear hK K
                      try simp only [Act.put, List.setIfInBounds_toArray, List.set_cons_zero, List.set_cons_succ, List.getElem_toArray, List.getElem_cons_zero, List.getElem_cons_succ]
                      refine wpAnyH_ready (rs := [6]) (by kernel_rfl) (by simp) ?_
                      refine AllReadyH.cons rfl (fun K hK => ?_) AllReadyH.nil
                      go_simp
                      refine (rowQ HB2.out.rd HTX.out j (by omega) HFN.out).mono ?_
                      rintro e w3 ⟨hm3, ⟨g3, r, k3, rfl, hrl, hrs, hF3⟩ | ⟨rfl, hoff⟩⟩
                      rotate_left
                      · exact ⟨rfl, DoQ.off HM7.out HB2.out hm3 ⟨rfl, hoff⟩⟩
                      have HB3 := Lib.hid (HB2.out.read hm3 hrs.rd)
                      have HF3 := Lib.hid hF3
                      have HRL := Lib.hid hrl
                      have HRV : Hid (RowV wD.heap.size w3 (.slice (some ⟨g3, 0, none⟩) N N) r) := Lib.hid (RowV.made hrs.row hrl (by have := hrs.ge; omega))
                      have HRX : Hid (∀ b, Value.ownBlock (.slice (some ⟨g3, 0, none⟩) N N) = some b → ¬ Value.ownBlock (.slice xaD j xcD) = some b) := Lib.hid (fun b h1 h2 => by have h3 := (World.ownsRow.lt HO.out b h2).2; have h4 := hrs.ge; injection h1 with h1; simp only at h1; omega)
                      have HS3 : Hid (OwnRs wD.heap.size w3 (.slice xaD j xcD) vs l) := Lib.hid (HS2.out.kept hm3 (fun b hb _ e => by have := HBR.out.Rlt; omega))
                      have c0 := HB3.out.cells.2.2.2.2.2.2.2.2.1
                      have hs3 := hm3.size
                      clear hm3 hF3 hrl hrs
                      refine hK.out _ _ ?_ (fun hHeld => ?_)
                      · exact trivial
                      clear hK K
                      try simp only [Act.put, List.setIfInBounds_toArray, List.set_cons_zero, List.set_cons_succ, List.getElem_toArray, List.getElem_cons_zero, List.getElem_cons_succ]
                      refine wpAnyH_ready (rs := [7]) (by kernel_rfl) (by simp) ?_
                      refine AllReadyH.cons rfl (fun K hK => ?_) AllReadyH.nil
                      go_simp
                      have HB4 := Lib.hid (HB3.out.later ((Below.refl _ _).alloc (Nat.le_refl _) (.cells #[.slice (some ⟨g3, 0, none⟩) N N] 22)))
                      have HS4 := Lib.hid (HS3.out.later ((Below.refl _ _).alloc (Nat.le_refl _) (.cells #[.slice (some ⟨g3, 0, none⟩) N N] 22)))
                      have HRV4 := Lib.hid (HRV.out.kept (w2 := w3.alloc (.cells #[.slice (some ⟨g3, 0, none⟩) N N] 22)) (fun b hb => ((Below.refl w3.heap.size w3).alloc (Nat.le_refl _) (.cells #[.slice (some ⟨g3, 0, none⟩) N N] 22)).block b (HRV.out.lt b hb).2))
                      have HO4 : Hid ((w3.alloc (.cells #[.slice (some ⟨g3, 0, none⟩) N N] 22)).ownsRow wD.heap.size 22 1 (.slice xaD j xcD) j vs) := Lib.hid (by have h := HS4.out.outer; rwa [HV.out] at h)
                      have c0 := HB4.out.cells.2.2.2.2.2.2.2.2.1
                      refine hK.out _ _ ?_ (fun hHeld => ?_)
                      · exact trivial
                      clear hK K
                      try simp only [Act.put, List.setIfInBounds_toArray, List.set_cons_zero, List.set_cons_succ, List.getElem_toArray, List.getElem_cons_zero, List.getElem_cons_succ]
                      refine wpAnyH_ready (rs := [8]) (by kernel_rfl) (by simp) ?_
                      refine AllReadyH.cons rfl (fun K hK => ?_) AllReadyH.nil
                      refine step_append_fresh rfl (.tmp 74) (.tmp 80) 36 rfl wD.heap.size 22 i2 _ 1 24 Tryd.underlying36 hi2 hx0 hx1 hx2 (by decide) (.slice xaD j xcD) j vs rfl HO4.out ⟨w3.heap.size, 0, none⟩ 1 [.slice (some ⟨g3, 0, none⟩) N N] rfl rfl (news_at _ _ _ _ rfl) (by intro u hu; simp at hu; subst hu; rfl) (by unfold maxLen; omega) (by omega) (by simp; omega) ?_
                      intro g cp4 w4 hown hgrow hfr
                      have HB5 := Lib.hid (HB4.out.grown hgrow (fun k hk => (World.ownsRow.lt HO4.out k hk).1))
                      have HS5 : Hid (OwnRs wD.heap.size (w4.setCell ⟨bx, 8, none⟩ (.slice (some ⟨g, 0, none⟩) (j + 1) cp4)) (.slice (some ⟨g, 0, none⟩) (j + 1) cp4) (vs ++ [.slice (some ⟨g3, 0, none⟩) N N]) (l ++ [r])) := Lib.hid (
                        (HS4.out.push HRV4.out HRX.out HV.out hown hgrow).kept ((Mod.refl (fun b => b = bx) w4).setCell (p := ⟨bx, 8, none⟩) (.inr rfl) _) (fun b hb _ e => by have := HBR.out.bxlt; have := HBR.out.Rge; have := HBR.out.Rlt; omega))
                      have c0 := HB5.out.cells.2.2.2.2.2.2.2.2.1
                      have fz := HB5.out.cells.2.2.2.2.2.2.2.2.2 8
                      have HB6 : Hid (BoxS base R v ws n k3 bx wD (w4.setCell ⟨bx, 8, none⟩ (.slice (some ⟨g, 0, none⟩) (j + 1) cp4)) en tm tr bm br (.slice xaA ms xcA) (.slice xaB mc xcB) (.slice xaC N xcC) (.slice (some ⟨g, 0, none⟩) (j + 1) cp4)) := Lib.hid (HB5.out.set_ (o := 8) rfl)
                      clear hown hgrow hfr
                      refine hK.out _ _ ?_ (fun hHeld => ?_)
                      · exact trivial
                      clear hK K
                      try simp only [Act.put, List.setIfInBounds_toArray, List.set_cons_zero, List.set_cons_succ, List.getElem_toArray, List.getElem_cons_zero, List.getElem_cons_succ]
                      refine wpAnyH_take (i := 9) (v := ?_) rfl (by kernel_rfl) (by kernel_rfl) (by kernel_rfl) (fun _ _ _ h => h) (Or.inl ⟨by rfl, ?_⟩) hHeld ?_
                      rotate_left
                      · intro Wz hWz; go_simp; (try with_reducible rfl)
                      try simp only [Act.put, List.setIfInBounds_toArray, List.set_cons_zero, List.set_cons_succ, List.getElem_toArray, List.getElem_cons_zero, List.getElem_cons_succ]
                      refine wpAnyH_ready (rs := [10]) (by kernel_rfl) (by simp) ?_
                      refine AllReadyH.cons rfl (fun K hK => ?_) AllReadyH.nil
                      go_simp
                      refine hK.out _ _ ?_ (fun hHeld => ?_)
                      · exact trivial
                      clear hK K
                      try simp only [Act.put, List.setIfInBounds_toArray, List.set_cons_zero, List.set_cons_succ, List.getElem_toArray, List.getElem_cons_zero, List.getElem_cons_succ]
                      refine wpAnyH_done (by kernel_rfl) ?_ _
                      clear hHeld
                      go_wp2_with fail
                      go_roundw
                      case rel => exact ⟨j + 1, _, _, _, _, by go_num, by omega, Lib.hid (by simp [HL.out]), Lib.hid (by simp [HV.out]), Lib.hid (fun q hq => (List.mem_append.1 hq).elim (HN.out q) (fun h => by simp at h; subst h; exact HRL.out)), HB6, HS5, HF3⟩
                      case measure => simp [intOf]; omega
                    · go_simp
                      refine (nodesE en tm tr bm br xaA ms xcA xaB mc xcB xaC xaD N xcC j xcD N _ (by omega) HNN.out).mono ?_
                      rintro e w2 ⟨rfl, hb2⟩
                      have HB2 := Lib.hid (HBR.out.drew.later hb2)
                      have HS2 := Lib.hid ((HS.out.later (Below.refl _ _).drew).later hb2)
                      have c0 := HB2.out.cells.2.2.2.2.2.2.2.2.1
                      have hs2 : wr.heap.size ≤ w2.heap.size := hb2.size
                      clear hb2 c1 c2 c3 c4 c5 c6 c7 c8
                      refine hK.out _ _ ?_ (fun hHeld => ?_)
                      · exact trivial
                      clear hK K
                      try simp only [Act.put, List.setIfInBounds_toArray, List.set_cons_zero, List.set_cons_succ, List.getElem_toArray, List.getElem_cons_zero, List.getElem_cons_succ]
                      refine wpAnyH_ready (rs := [1, 6]) (by kernel_rfl) (by simp) ?_
                      refine AllReadyH.cons rfl (fun K hK => ?_) (AllReadyH.cons rfl (fun K hK => ?_) AllReadyH.nil)
                      · go_simp
                        refine hK.out _ _ ?_ (fun hHeld => ?_)
                        · exact trivial
                        clear hK K
                        try simp only [Act.put, List.setIfInBounds_toArray, List.set_cons_zero, List.set_cons_succ, List.getElem_toArray, List.getElem_cons_zero, List.getElem_cons_succ]
                        refine wpAnyH_ready (rs := [6]) (by kernel_rfl) (by simp) ?_
                        refine AllReadyH.cons rfl (fun K hK => ?_) AllReadyH.nil
                        go_simp
                        refine (rowQ HB2.out.rd HTX.out j (by omega) HFN.out).mono ?_
                        rintro e w3 ⟨hm3, ⟨g3, r, k3, rfl, hrl, hrs, hF3⟩ | ⟨rfl, hoff⟩⟩
                        rotate_left
                        · exact ⟨rfl, DoQ.off HM7.out HB2.out hm3 ⟨rfl, hoff⟩⟩
                        have HB3 := Lib.hid (HB2.out.read hm3 hrs.rd)
                        have HF3 := Lib.hid hF3
                        have HRL := Lib.hid hrl
                        have HRV : Hid (RowV wD.heap.size w3 (.slice (some ⟨g3, 0, none⟩) N N) r) := Lib.hid (RowV.made hrs.row hrl (by have := hrs.ge; omega))
                        have HRX : Hid (∀ b, Value.ownBlock (.slice (some ⟨g3, 0, none⟩) N N) = some b → ¬ Value.ownBlock (.slice xaD j xcD) = some b) := Lib.hid (fun b h1 h2 => by have h3 := (World.ownsRow.lt HO.out b h2).2; have h4 := hrs.ge; injection h1 with h1; simp only at h1; omega)
                        have HS3 : Hid (OwnRs wD.heap.size w3 (.slice xaD j xcD) vs l) := Lib.hid (HS2.out.kept hm3 (fun b hb _ e => by have := HBR.out.Rlt; omega))
                        have c0 := HB3.out.cells.2.2.2.2.2.2.2.2.1
                        have hs3 := hm3.size
                        clear hm3 hF3 hrl hrs
                        refine hK.out _ _ ?_ (fun hHeld => ?_)
                        · exact trivial
                        clear hK K
                        try simp only [Act.put, List.setIfInBounds_toArray, List.set_cons_zero, List.set_cons_succ, List.getElem_toArray, List.getElem_cons_zero, List.getElem_cons_succ]
                        refine wpAnyH_ready (rs := [7]) (by kernel_rfl) (by simp) ?_
                        refine AllReadyH.cons rfl (fun K hK => ?_) AllReadyH.nil
                        go_simp
                        have HB4 := Lib.hid (HB3.out.later ((Below.refl _ _).alloc (Nat.le_refl _) (.cells #[.slice (some ⟨g3, 0, none⟩) N N] 22)))
                        have HS4 := Lib.hid (HS3.out.later ((Below.refl _ _).alloc (Nat.le_refl _) (.cells #[.slice (some ⟨g3, 0, none⟩) N N] 22)))
                        have HRV4 := Lib.hid (HRV.out.kept (w2 := w3.alloc (.cells #[.slice (some ⟨g3, 0, none⟩) N N] 22)) (fun b hb => ((Below.refl w3.heap.size w3).alloc (Nat.le_refl _) (.cells #[.slice (some ⟨g3, 0, none⟩) N N] 22)).block b (HRV.out.lt b hb).2))
                        have HO4 : Hid ((w3.alloc (.cells #[.slice (some ⟨g3, 0, none⟩) N N] 22)).ownsRow wD.heap.size 22 1 (.slice xaD j xcD) j vs) := Lib.hid (by have h := HS4.out.outer; rwa [HV.out] at h)
                        have c0 := HB4.out.cells.2.2.2.2.2.2.2.2.1
                        refine hK.out _ _ ?_ (fun hHeld => ?_)
                        · exact trivial
                        clear hK K
                        try simp only [Act.put, List.setIfInBounds_toArray, List.set_cons_zero, List.set_cons_succ, List.getElem_toArray, List.getElem_cons_zero, List.getElem_cons_succ]
                        refine wpAnyH_ready (rs := [8]) (by kernel_rfl) (by simp) ?_
                        refine AllReadyH.cons rfl (fun K hK => ?_) AllReadyH.nil
                        refine step_append_fresh rfl (.tmp 74) (.tmp 80) 36 rfl wD.heap.size 22 i2 _ 1 24 Tryd.underlying36 hi2 hx0 hx1 hx2 (by decide) (.slice xaD j xcD) j vs rfl HO4.out ⟨w3.heap.size, 0, none⟩ 1 [.slice (some ⟨g3, 0, none⟩) N N] rfl rfl (news_at _ _ _ _ rfl) (by intro u hu; simp at hu; subst hu; rfl) (by unfold maxLen; omega) (by omega) (by simp; omega) ?_
                        intro g cp4 w4 hown hgrow hfr
                        have HB5 := Lib.hid (HB4.out.grown hgrow (fun k hk => (World.ownsRow.lt HO4.out k hk).1))
                        have HS5 : Hid (OwnRs wD.heap.size (w4.setCell ⟨bx, 8, none⟩ (.slice (some ⟨g, 0, none⟩) (j + 1) cp4)) (.slice (some ⟨g, 0, none⟩) (j + 1) cp4) (vs ++ [.slice (some ⟨g3, 0, none⟩) N N]) (l ++ [r])) := Lib.hid (
                          (HS4.out.push HRV4.out HRX.out HV.out hown hgrow).kept ((Mod.refl (fun b => b = bx) w4).setCell (p := ⟨bx, 8, none⟩) (.inr rfl) _) (fun b hb _ e => by have := HBR.out.bxlt; have := HBR.out.Rge; have := HBR.out.Rlt; omega))
                        have c0 := HB5.out.cells.2.2.2.2.2.2.2.2.1
                        have fz := HB5.out.cells.2.2.2.2.2.2.2.2.2 8
                        have HB6 : Hid (BoxS base R v ws n k3 bx wD (w4.setCell ⟨bx, 8, none⟩ (.slice (some ⟨g, 0, none⟩) (j + 1) cp4)) en tm tr bm br (.slice xaA ms xcA) (.slice xaB mc xcB) (.slice xaC N xcC) (.slice (some ⟨g, 0, none⟩) (j + 1) cp4)) := Lib.hid (HB5.out.set_ (o := 8) rfl)
                        clear hown hgrow hfr
                        refine hK.out _ _ ?_ (fun hHeld => ?_)
                        · exact trivial
                        clear hK K
                        try simp only [Act.put, List.setIfInBounds_toArray, List.set_cons_zero, List.set_cons_succ, List.getElem_toArray, List.getElem_cons_zero, List.getElem_cons_succ]
                        refine wpAnyH_take (i := 9) (v := ?_) rfl (by kernel_rfl) (by kernel_rfl) (by kernel_rfl) (fun _ _ _ h => h) (Or.inl ⟨by rfl, ?_⟩) hHeld ?_
                        rotate_left
                        · intro Wz hWz; go_simp; (try with_reducible rfl)
                        try simp only [Act.put, List.setIfInBounds_toArray, List.set_cons_zero, List.set_cons_succ, List.getElem_toArray, List.getElem_cons_zero, List.getElem_cons_succ]
                        refine wpAnyH_ready (rs := [10]) (by kernel_rfl) (by simp) ?_
                        refine AllReadyH.cons rfl (fun K hK => ?_) AllReadyH.nil
                        go_simp
                        refine hK.out _ _ ?_ (fun hHeld => ?_)
                        · exact trivial
                        clear hK K
                        try simp only [Act.put, List.setIfInBounds_toArray, List.set_cons_zero, List.set_cons_succ, List.getElem_toArray, List.getElem_cons_zero, List.getElem_cons_succ]
                        refine wpAnyH_done (by kernel_rfl) ?_ _
                        clear hHeld
                        go_wp2_with fail
                        go_roundw
                        case rel => exact ⟨j + 1, _, _, _, _, by go_num, by omega, Lib.hid (by simp [HL.out]), Lib.hid (by simp [HV.out]), Lib.hid (fun q hq => (List.mem_append.1 hq).elim (HN.out q) (fun h => by simp at h; subst h; exact HRL.out)), HB6, HS5, HF3⟩
                        case measure => simp [intOf]; omega
                      · go_simp
                        refine (rowQ HB2.out.rd HTX.out j (by omega) HFN.out).mono ?_
                        rintro e w3 ⟨hm3, ⟨g3, r, k3, rfl, hrl, hrs, hF3⟩ | ⟨rfl, hoff⟩⟩
                        rotate_left
                        · exact ⟨rfl, DoQ.off HM7.out HB2.out hm3 ⟨rfl, hoff⟩⟩
                        have HB3 := Lib.hid (HB2.out.read hm3 hrs.rd)
                        have HF3 := Lib.hid hF3
                        have HRL := Lib.hid hrl
                        have HRV : Hid (RowV wD.heap.size w3 (.slice (some ⟨g3, 0, none⟩) N N) r) := Lib.hid (RowV.made hrs.row hrl (by have := hrs.ge; omega))
                        have HRX : Hid (∀ b, Value.ownBlock (.slice (some ⟨g3, 0, none⟩) N N) = some b → ¬ Value.ownBlock (.slice xaD j xcD) = some b) := Lib.hid (fun b h1 h2 => by have h3 := (World.ownsRow.lt HO.out b h2).2; have h4 := hrs.ge; injection h1 with h1; simp only at h1; omega)
                        have HS3 : Hid (OwnRs wD.heap.size w3 (.slice xaD j xcD) vs l) := Lib.hid (HS2.out.kept hm3 (fun b hb _ e => by have := HBR.out.Rlt; omega))
                        have c0 := HB3.out.cells.2.2.2.2.2.2.2.2.1
                        have hs3 := hm3.size
                        clear hm3 hF3 hrl hrs
                        refine hK.out _ _ ?_ (fun hHeld => ?_)
                        · exact trivial
                        clear hK K
                        try simp only [Act.put, List.setIfInBounds_toArray, List.set_cons_zero, List.set_cons_succ, List.getElem_toArray, List.getElem_cons_zero, List.getElem_cons_succ]
                        refine wpAnyH_ready (rs := [1, 7]) (by kernel_rfl) (by simp) ?_
                        refine AllReadyH.cons rfl (fun K hK => ?_) (AllReadyH.cons rfl (fun K hK => ?_) AllReadyH.nil)
                        · go_simp
                          refine hK.out _ _ ?_ (fun hHeld => ?_)
                          · exact trivial
                          clear hK K
                          try simp only [Act.put, List.setIfInBounds_toArray, List.set_cons_zero, List.set_cons_succ, List.getElem_toArray, List.getElem_cons_zero, List.getElem_cons_succ]
                          refine wpAnyH_ready (rs := [7]) (by kernel_rfl) (by simp) ?_
                          refine AllReadyH.cons rfl (fun K hK => ?_) AllReadyH.nil
                          go_simp
                          have HB4 := Lib.hid (HB3.out.later ((Below.refl _ _).alloc (Nat.le_refl _) (.cells #[.slice (some ⟨g3, 0, none⟩) N N] 22)))
                          have HS4 := Lib.hid (HS3.out.later ((Below.refl _ _).alloc (Nat.le_refl _) (.cells #[.slice (some ⟨g3, 0, none⟩) N N] 22)))
                          have HRV4 := Lib.hid (HRV.out.kept (w2 := w3.alloc (.cells #[.slice (some ⟨g3, 0, none⟩) N N] 22)) (fun b hb => ((Below.refl w3.heap.size w3).alloc (Nat.le_refl _) (.cells #[.slice (some ⟨g3, 0, none⟩) N N] 22)).block b (HRV.out.lt b hb).2))
                          have HO4 : Hid ((w3.alloc (.cells #[.slice (some ⟨g3, 0, none⟩) N N] 22)).ownsRow wD.heap.size 22 1 (.slice xaD j xcD) j vs) := Lib.hid (by have h := HS4.out.outer; rwa [HV.out] at h)
                          have c0 := HB4.out.cells.2.2.2.2.2.2.2.2.1
                          refine hK.out _ _ ?_ (fun hHeld => ?_)
                          · exact trivial
                          clear hK K
                          try simp only [Act.put, List.setIfInBounds_toArray, List.set_cons_zero, List.set_cons_succ, List.getElem_toArray, List.getElem_cons_zero, List.getElem_cons_succ]
                          refine wpAnyH_ready (rs := [8]) (by kernel_rfl) (by simp) ?_
                          refine AllReadyH.cons rfl (fun K hK => ?_) AllReadyH.nil
                          refine step_append_fresh rfl (.tmp 74) (.tmp 80) 36 rfl wD.heap.size 22 i2 _ 1 24 Tryd.underlying36 hi2 hx0 hx1 hx2 (by decide) (.slice xaD j xcD) j vs rfl HO4.out ⟨w3.heap.size, 0, none⟩ 1 [.slice (some ⟨g3, 0, none⟩) N N] rfl rfl (news_at _ _ _ _ rfl) (by intro u hu; simp at hu; subst hu; rfl) (by unfold maxLen; omega) (by omega) (by simp; omega) ?_
                          intro g cp4 w4 hown hgrow hfr
                          have HB5 := Lib.hid (HB4.out.grown hgrow (fun k hk => (World.ownsRow.lt HO4.out k hk).1))
                          have HS5 : Hid (OwnRs wD.heap.size (w4.setCell ⟨bx, 8, none⟩ (.slice (some ⟨g, 0, none⟩) (j + 1) cp4)) (.slice (some ⟨g, 0, none⟩) (j + 1) cp4) (vs ++ [.slice (some ⟨g3, 0, none⟩) N N]) (l ++ [r])) := Lib.hid (
                            (HS4.out.push HRV4.out HRX.out HV.out hown hgrow).kept ((Mod.refl (fun b => b = bx) w4).setCell (p := ⟨bx, 8, none⟩) (.inr rfl) _) (fun b hb _ e => by have := HBR.out.bxlt; have := HBR.out.Rge; have := HBR.out.Rlt; omega))
                          have c0 := HB5.out.cells.2.2.2.2.2.2.2.2.1
                          have fz := HB5.out.cells.2.2.2.2.2.2.2.2.2 8
                          have HB6 : Hid (BoxS base R v ws n k3 bx wD (w4.setCell ⟨bx, 8, none⟩ (.slice (some ⟨g, 0, none⟩) (j + 1) cp4)) en tm tr bm br (.slice xaA ms xcA) (.slice xaB mc xcB) (.slice xaC N xcC) (.slice (some ⟨g, 0, none⟩) (j + 1) cp4)) := Lib.hid (HB5.out.set_ (o := 8) rfl)
                          clear hown hgrow hfr
                          refine hK.out _ _ ?_ (fun hHeld => ?_)
                          · exact trivial
                          clear hK K
                          try simp only [Act.put, List.setIfInBounds_toArray, List.set_cons_zero, List.set_cons_succ, List.getElem_toArray, List.getElem_cons_zero, List.getElem_cons_succ]
                          refine wpAnyH_take (i := 9) (v := ?_) rfl (by kernel_rfl) (by kernel_rfl) (by kernel_rfl) (fun _ _ _ h => h) (Or.inl ⟨by rfl, ?_⟩) hHeld ?_
                          rotate_left
                          · intro Wz hWz; go_simp; (try with_reducible rfl)
                          try simp only [Act.put, List.setIfInBounds_toArray, List.set_cons_zero, List.set_cons_succ, List.getElem_toArray, List.getElem_cons_zero, List.getElem_cons_succ]
                          refine wpAnyH_ready (rs := [10]) (by kernel_rfl) (by simp) ?_
                          refine AllReadyH.cons rfl (fun K hK => ?_) AllReadyH.nil
                          go_simp
                          refine hK.out _ _ ?_ (fun hHeld => ?_)
                          · exact trivial
                          clear hK K
                          try simp only [Act.put, List.setIfInBounds_toArray, List.set_cons_zero, List.set_cons_succ, List.getElem_toArray, List.getElem_cons_zero, List.getElem_cons_succ]
                          refine wpAnyH_done (by kernel_rfl) ?_ _
                          clear hHeld
                          go_wp2_with fail
                          go_roundw
                          case rel => exact ⟨j + 1, _, _, _, _, by go_num, by omega, Lib.hid (by simp [HL.out]), Lib.hid (by simp [HV.out]), Lib.hid (fun q hq => (List.mem_append.1 hq).elim (HN.out q) (fun h => by simp at h; subst h; exact HRL.out)), HB6, HS5, HF3⟩
                          case measure => simp [intOf]; omega
                        · go_simp
                          have HB4 := Lib.hid (HB3.out.later ((Below.refl _ _).alloc (Nat.le_refl _) (.cells #[.slice (some ⟨g3, 0, none⟩) N N] 22)))
                          have HS4 := Lib.hid (HS3.out.later ((Below.refl _ _).alloc (Nat.le_refl _) (.cells #[.slice (some ⟨g3, 0, none⟩) N N] 22)))
                          have HRV4 := Lib.hid (HRV.out.kept (w2 := w3.alloc (.cells #[.slice (some ⟨g3, 0, none⟩) N N] 22)) (fun b hb => ((Below.refl w3.heap.size w3).alloc (Nat.le_refl _) (.cells #[.slice (some ⟨g3, 0, none⟩) N N] 22)).block b (HRV.out.lt b hb).2))
                          have HO4 : Hid ((w3.alloc (.cells #[.slice (some ⟨g3, 0, none⟩) N N] 22)).ownsRow wD.heap.size 22 1 (.slice xaD j xcD) j vs) := Lib.hid (by have h := HS4.out.outer; rwa [HV.out] at h)
                          have c0 := HB4.out.cells.2.2.2.2.2.2.2.2.1
                          refine hK.out _ _ ?_ (fun hHeld => ?_)
                          · exact trivial
                          clear hK K
                          try simp only [Act.put, List.setIfInBounds_toArray, List.set_cons_zero, List.set_cons_succ, List.getElem_toArray, List.getElem_cons_zero, List.getElem_cons_succ]
                          refine wpAnyH_ready (rs := [1]) (by kernel_rfl) (by simp) ?_
                          refine AllReadyH.cons rfl (fun K hK => ?_) AllReadyH.nil
                          go_simp
                          refine hK.out _ _ ?_ (fun hHeld => ?_)
                          · exact trivial
                          clear hK K
                          try simp only [Act.put, List.setIfInBounds_toArray, List.set_cons_zero, List.set_cons_succ, List.getElem_toArray, List.getElem_cons_zero, List.getElem_cons_succ]
                          refine wpAnyH_ready (rs := [8]) (by kernel_rfl) (by simp) ?_
                          refine AllReadyH.cons rfl (fun K hK => ?_) AllReadyH.nil
                          refine step_append_fresh rfl (.tmp 74) (.tmp 80) 36 rfl wD.heap.size 22 i2 _ 1 24 Tryd.underlying36 hi2 hx0 hx1 hx2 (by decide) (.slice xaD j xcD) j vs rfl HO4.out ⟨w3.heap.size, 0, none⟩ 1 [.slice (some ⟨g3, 0, none⟩) N N] rfl rfl (news_at _ _ _ _ rfl) (by intro u hu; simp at hu; subst hu; rfl) (by unfold maxLen; omega) (by omega) (by simp; omega) ?_
                          intro g cp4 w4 hown hgrow hfr
                          have HB5 := Lib.hid (HB4.out.grown hgrow (fun k hk => (World.ownsRow.lt HO4.out k hk).1))
                          have HS5 : Hid (OwnRs wD.heap.size (w4.setCell ⟨bx, 8, none⟩ (.slice (some ⟨g, 0, none⟩) (j + 1) cp4)) (.slice (some ⟨g, 0, none⟩) (j + 1) cp4) (vs ++ [.slice (some ⟨g3, 0, none⟩) N N]) (l ++ [r])) := Lib.hid (
                            (HS4.out.push HRV4.out HRX.out HV.out hown hgrow).kept ((Mod.refl (fun b => b = bx) w4).setCell (p := ⟨bx, 8, none⟩) (.inr rfl) _) (fun b hb _ e => by have := HBR.out.bxlt; have := HBR.out.Rge; have := HBR.out.Rlt; omega))
                          have c0 := HB5.out.cells.2.2.2.2.2.2.2.2.1
                          have fz := HB5.out.cells.2.2.2.2.2.2.2.2.2 8
                          have HB6 : Hid (BoxS base R v ws n k3 bx wD (w4.setCell ⟨bx, 8, none⟩ (.slice (some ⟨g, 0, none⟩) (j + 1) cp4)) en tm tr bm br (.slice xaA ms xcA) (.slice xaB mc xcB) (.slice xaC N xcC) (.slice (some ⟨g, 0, none⟩) (j + 1) cp4)) := Lib.hid (HB5.out.set_ (o := 8) rfl)
                          clear hown hgrow hfr
                          refine hK.out _ _ ?_ (fun hHeld => ?_)
                          · exact trivial
                          clear hK K
                          try simp only [Act.put, List.setIfInBounds_toArray, List.set_cons_zero, List.set_cons_succ, List.getElem_toArray, List.getElem_cons_zero, List.getElem_cons_succ]
                          refine wpAnyH_take (i := 9) (v := ?_) rfl (by kernel_rfl) (by kernel_rfl) (by kernel_rfl) (fun _ _ _ h => h) (Or.inl ⟨by rfl, ?_⟩) hHeld ?_
                          rotate_left
                          · intro Wz hWz; go_simp; (try with_reducible rfl)
                          try simp only [Act.put, List.setIfInBounds_toArray, List.set_cons_zero, List.set_cons_succ, List.getElem_toArray, List.getElem_cons_zero, List.getElem_cons_succ]
                          refine wpAnyH_ready (rs := [10]) (by kernel_rfl) (by simp) ?_
                          refine AllReadyH.cons rfl (fun K hK => ?_) AllReadyH.nil
                          go_simp
                          refine hK.out _ _ ?_ (fun hHeld => ?_)
                          · exact trivial
                          clear hK K
                          try simp only [Act.put, List.setIfInBounds_toArray, List.set_cons_zero, List.set_cons_succ, List.getElem_toArray, List.getElem_cons_zero, List.getElem_cons_succ]
                          refine wpAnyH_done (by kernel_rfl) ?_ _
                          clear hHeld
                          go_wp2_with fail
                          go_roundw
                          case rel => exact ⟨j + 1, _, _, _, _, by go_num, by omega, Lib.hid (by simp [HL.out]), Lib.hid (by simp [HV.out]), Lib.hid (fun q hq => (List.mem_append.1 hq).elim (HN.out q) (fun h => by simp at h; subst h; exact HRL.out)), HB6, HS5, HF3⟩
                          case measure => simp [intOf]; omega
                · obtain rfl : N = j := by omega
                  have hF2 := HF.out
                  rw [Nat.sub_self, rowsP] at hF2
                  have HFn := Lib.hid hF2
                  clear hF2 HF
                  obtain ⟨wD2, hren⟩ : ∃ z, z = wr := ⟨_, rfl⟩
                  subst hren
                  obtain ⟨lD, hren⟩ : ∃ z, z = l := ⟨_, rfl⟩
                  subst hren
                  obtain ⟨kD, hren⟩ : ∃ z, z = k := ⟨_, rfl⟩
                  subst hren
                  have HM8 := Lib.hid (HM7.out.trans HBR.out.mod)
                  have HLD := HL
                  have HSD := HS
                  have HSA := Lib.hid (HBR.out.owns HRA.out HSA.out)
                  have HSB := Lib.hid (HBR.out.owns HRB.out HSB.out)
                  have HSC := Lib.hid (HBR.out.rows HRC.out HSC.out)
                  have HB := Lib.hid HBR.out.restart
                  have HF := HFn
                  clear HL HS HBR HFn hlt hj
                  have HND := HN
                  clear HN HV HO
                  obtain ⟨vsD, hren⟩ : ∃ z, z = vs := ⟨_, rfl⟩
                  subst hren
                  go_wp2_with fail
                  refine (mustQ HB.out.rd _ tEnd rfl HF.out).mono ?_
                  rintro e wE ⟨hm, ⟨rfl, hr, hF⟩ | ⟨rfl, hoff⟩⟩
                  rotate_left
                  · exact ⟨rfl, DoQ.off HM8.out HB.out hm ⟨rfl, hoff⟩⟩
                  have HBn := Lib.hid (HB.out.read hm hr)
                  have HFn := Lib.hid hF
                  clear hm hr hF HB HF
                  have HB := HBn
                  have HF := HFn
                  clear HBn HFn
                  have HSA := Lib.hid (HB.out.owns HRA.out HSA.out)
                  have HSB := Lib.hid (HB.out.owns HRB.out HSB.out)
                  have HSC := Lib.hid (HB.out.rows HRC.out HSC.out)
                  have HSD := Lib.hid (HB.out.rows HRD.out HSD.out)
                  have HM9 := Lib.hid (HM8.out.trans HB.out.mod)
                  go_wp2_with fail
                  go_end0
                  refine ⟨HM9.out, .inl ⟨⟨en, tm, tr, bm, br, lA, lB, lC, lD⟩, _, ⟨xaA, xcA, xaB, xcB, xaC, xcC, xaD, xcD⟩, ?_, rfl, HB.out.rd, ?_, ?_⟩⟩
                  · exact HF.out.symm
                  · rw [HB.out.box]
                    simp only [insC, HLA.out, HLB.out, HLC.out, HLD.out]
                  · intro w2 hm
                    have hge := HB.out.Rge
                    have hc := (HSC.out.kept hm (fun b hb _ e => by have := HRC.out; omega)).rows (fun r hr => by have := HNC.out r hr; omega)
                    have hd := (HSD.out.kept hm (fun b hb _ e => by have := HRD.out; omega)).rows (fun r hr => by have := HND.out r hr; omega)
                    obtain ⟨a1, c1, e1, hc⟩ := hc
                    obtain ⟨a2, c2, e2, hd⟩ := hd
                    injection e1 with e1
                    injection e2 with e2
                    subst e1 e2
                    refine ⟨?_, ?_, hc, hd⟩
                    · have h := owns_sats (owns_kept HSA.out hm (fun b hb e => by have := (World.ownsRow.lt HSA.out b hb).1; have := HRA.out; omega)) HLA.out
                      simp only [HLA.out]
                      exact h
                    · have h := owns_cus (owns_kept HSB.out hm (fun b hb e => by have := (World.ownsRow.lt HSB.out b hb).1; have := HRB.out; omega)) HLB.out
                      simp only [HLB.out]
                      exact h
                  end Go.Proofs.YtnnddmojcaicbaaDoor

/- The fixed fact of layer 14. -/
import Derived.Test.YtchdpapaojkbhaaRSp
import Derived.Test.YtchdpapaojkbhaaReadies
import Derived.Test.YtchdpapaojkbhaaISetA
namespace Go.Proofs.Ytchdpapaojkbhaa
open Go.RowKit

/-- No way is shorter than a slope that no arc is below. -/
theorem WayF.pot {W : Nat → Nat → Option Int} {s i m : Nat} {d : Int} (φ : Nat → Int) (hφ : ∀ i k c, W i k = some c → φ k ≤ φ i + c) (h : WayF W s i m d) : φ i ≤ φ s + d := by
  induction h with
  | nil => omega
  | snoc _ hx ih => have := hφ _ _ _ hx; omega
/-- The plain instance, four from the depot, held for three. -/
def waitI : Ins := ⟨40, 1, 5, 1, 3, [(60, 3)], [(2, 5, 90, 1)], [[0, 0, 0], [0, 0, 0], [0, 0, 0]], [[0, 4, 0], [0, 0, 0], [0, 0, 0]]⟩
theorem wait_may : May waitI := May.of_err (by decide)
theorem wait_ready {l : List Int} (h : ReadyOf waitI l) : l = [7] := by
  obtain ⟨hl, h⟩ := h
  obtain ⟨d, hd, h2⟩ := h 0 (by decide)
  have h4 : LeastW (arcS waitI) 0 1 4 := by
    refine ⟨⟨1, WayF.one (by decide)⟩, fun k c hw => ?_⟩
    have := hw.pot (fun i => if i = 1 then 4 else 0) (fun i k c hc => by
      obtain ⟨⟨a1, a2, a3, a4, a5⟩, rfl⟩ := arcW_some.1 hc
      have hi : i < 2 := by simpa [inS, waitI] using a4
      have hk : k < 2 := by simpa [inS, waitI] using a5
      have : (i = 0 ∧ k = 1) ∨ (i = 1 ∧ k = 0) := by omega
      rcases this with ⟨rfl, rfl⟩ | ⟨rfl, rfl⟩
      · decide
      · decide)
    simpa using this
  have e : d = 4 := hd.unique h4
  subst e
  have hl1 : l.length = 1 := hl
  match l, hl1, h2 with
  | [v], _, h2 =>
    simp [waitI] at h2
    rw [h2]
set_option maxHeartbeats 4000000 in
set_option maxRecDepth 100000 in
theorem reach_awake (H : ReachSpec) (w : World) : Calls Try.prog 8 #[] w fun e w' => e = .returned (.bool true) ∧ Below w.heap.size w w' := by
  have HH := Lib.hid H
  have HON := Lib.hid (one_own w)
  clear H
  go_enter Try.func8, Try.ntmps8
  go_wp2_with fail
  refine HON.out.mono ?_
  rintro e w2 ⟨⟨A2, rfl, C, D, VK, VT, hown⟩, hb⟩
  have hF : Fresh (w2.alloc (.cells (insC A2 (makeI smallZ)) 34)) w2.heap.size (w.heap.size + 1 + 3) A2 (makeI smallZ) 3 C D VK VT (sqE smallZ.cost (nodesOf smallZ)) (sqE smallZ.time (nodesOf smallZ)) := ⟨heap_alloc_new w2 _, hown.later (below1 _ _), by decide, by decide, by decide⟩
  have hB := (hb.alloc hb.size (.cells (insC A2 (makeI smallZ)) 34))
  obtain ⟨X, hX⟩ : ∃ X, makeI smallZ = X := ⟨_, rfl⟩
  obtain ⟨LT, hLT⟩ : ∃ L, sqE smallZ.time (nodesOf smallZ) = L := ⟨_, rfl⟩
  obtain ⟨LK, hLK⟩ : ∃ L, sqE smallZ.cost (nodesOf smallZ) = L := ⟨_, rfl⟩
  have hsl : X.sats = [(60, 2)] := by rw [← hX]; rfl
  have HW : Hid ({ X with time := sqL 3 (putL LT 0 1 4), sats := X.sats.set 0 ((60 : Int), (3 : Int)) } = waitI) := Lib.hid (by rw [← hX, ← hLT]; rfl)
  rw [hX, hLT, hLK] at hF
  rw [hX] at hB ⊢
  clear hX hLT hLK hown hb HON
  obtain ⟨gx, hgx⟩ : ∃ g, g = w2.heap.size := ⟨_, rfl⟩

  rw [← hgx] at hF
  have HF := Lib.hid hF
  have HB := Lib.hid hB
  have hsz := Lib.hid (show X.sats[0]? = some ((60 : Int), (2 : Int)) by rw [hsl]; rfl)
  clear hsl
  unfold insC at *
  go_wp2_with fail
  obtain ⟨w3, hw3⟩ : ∃ z, z = w2.alloc (.cells #[.int .i64 X.en, .int .i64 X.tm, .int .i64 X.tr, .int .i64 X.bm, .int .i64 X.br, .slice A2.sa X.sats.length A2.sc, .slice A2.ca X.cus.length A2.cc, .slice A2.ka X.cost.length A2.kc, .slice A2.ta X.time.length A2.tc] 34) := ⟨_, rfl⟩
  rw [← hw3] at HF HB ⊢
  rw [← hgx]
  clear hw3 hgx hF hB
  obtain ⟨v0, hv0⟩ : ∃ v, v = w3.drew := ⟨_, rfl⟩
  have HF0 : Hid (Fresh v0 gx (w.heap.size + 1 + 3) A2 X 3 C D VK VT LK LT) := Lib.hid (by rw [hv0]; exact HF.out.later (Below.refl _ w3).drew)
  have HB0 : Hid (Below w.heap.size w v0) := Lib.hid (by rw [hv0]; exact HB.out.drew)
  obtain ⟨gt, hta, ht1, ht2, ht3⟩ := HF0.out.own.time.cell_ (i := 0) (k := 1) (by omega) (by omega)
  obtain ⟨gs, hsa, hs1, hs2, hs3⟩ := HF0.out.hold_ (k := 0) hsz.out 3
  have htl : 0 < X.time.length := by rw [HF0.out.klen.2]; omega
  have hsl : 0 < X.sats.length := by have := (List.getElem?_eq_some_iff.1 hsz.out).1; omega
  obtain ⟨-, -, -, -, -, k5, -, -, k8⟩ := HF0.out.fin.cells
  rw [hta] at k8
  rw [hsa] at k5
  have HTA := Lib.hid hta
  have HSA := Lib.hid hsa
  clear hta hsa hs1 hs2 hs3
  refine wp_region_held_drew (S := (fun Wz => Wz.heap[gx]? = v0.heap[gx]? ∧ Wz.heap[gt]? = v0.heap[gt]?)) (by kernel_rfl) (by rw [hv0]; exact ⟨rfl, rfl⟩) (fun hHeld => ?_)
  rw [← hv0] at hHeld ⊢
  clear hv0
  refine wpAnyH_take (i := 0) (v := ?_) rfl (by kernel_rfl) (by kernel_rfl) (by kernel_rfl) (fun _ _ _ h => h) (Or.inl ⟨by rfl, ?_⟩) hHeld ?_
  rotate_left
  · intro Wz hWz; clear hWz; go_simp; (try with_reducible rfl)
  try simp only [Act.put, List.setIfInBounds_toArray, List.set_cons_zero, List.set_cons_succ, List.getElem_toArray, List.getElem_cons_zero]
  refine wpAnyH_take (i := 1) (v := ?_) rfl (by kernel_rfl) (by kernel_rfl) (by kernel_rfl) (fun _ _ _ h => h) (Or.inl ⟨by rfl, ?_⟩) hHeld ?_
  rotate_left
  · intro Wz hWz; obtain ⟨e1, e2⟩ := hWz; have q8 := (cell_sameR e1 8).trans k8; have q5 := (cell_sameR e1 5).trans k5; have q9 := (cell_sameR e2 0).trans ht1; clear e1 e2; go_simp; (try with_reducible rfl)
  try simp only [Act.put, List.setIfInBounds_toArray, List.set_cons_zero, List.set_cons_succ, List.getElem_toArray, List.getElem_cons_zero, List.getElem_cons_succ]
  refine wpAnyH_take (i := 2) (v := ?_) rfl (by kernel_rfl) (by kernel_rfl) (by kernel_rfl) (fun _ _ _ h => h) (Or.inl ⟨by rfl, ?_⟩) hHeld ?_
  rotate_left
  · intro Wz hWz; clear hWz; go_simp; (try with_reducible rfl)
  try simp only [Act.put, List.setIfInBounds_toArray, List.set_cons_zero, List.set_cons_succ, List.getElem_toArray, List.getElem_cons_zero, List.getElem_cons_succ]
  refine wpAnyH_take (i := 3) (v := ?_) rfl (by kernel_rfl) (by kernel_rfl) (by kernel_rfl) (fun _ _ _ h => h) (Or.inl ⟨by rfl, ?_⟩) hHeld ?_
  rotate_left
  · intro Wz hWz; obtain ⟨e1, e2⟩ := hWz; have q8 := (cell_sameR e1 8).trans k8; have q5 := (cell_sameR e1 5).trans k5; have q9 := (cell_sameR e2 0).trans ht1; clear e1 e2; go_simp; (try with_reducible rfl)
  try simp only [Act.put, List.setIfInBounds_toArray, List.set_cons_zero, List.set_cons_succ, List.getElem_toArray, List.getElem_cons_zero, List.getElem_cons_succ]
  refine wpAnyH_take (i := 4) (v := ?_) rfl (by kernel_rfl) (by kernel_rfl) (by kernel_rfl) (fun _ _ _ h => h) (Or.inl ⟨by rfl, ?_⟩) hHeld ?_
  rotate_left
  · intro Wz hWz; clear hWz; go_simp; (try with_reducible rfl)
  try simp only [Act.put, List.setIfInBounds_toArray, List.set_cons_zero, List.set_cons_succ, List.getElem_toArray, List.getElem_cons_zero, List.getElem_cons_succ]
  refine wpAnyH_take (i := 5) (v := ?_) rfl (by kernel_rfl) (by kernel_rfl) (by kernel_rfl) (fun _ _ _ h => h) (Or.inl ⟨by rfl, ?_⟩) hHeld ?_
  rotate_left
  · intro Wz hWz; obtain ⟨e1, e2⟩ := hWz; have q8 := (cell_sameR e1 8).trans k8; have q5 := (cell_sameR e1 5).trans k5; have q9 := (cell_sameR e2 0).trans ht1; clear e1 e2; go_simp; (try with_reducible rfl)
  try simp only [Act.put, List.setIfInBounds_toArray, List.set_cons_zero, List.set_cons_succ, List.getElem_toArray, List.getElem_cons_zero, List.getElem_cons_succ]
  refine wpAnyH_take (i := 6) (v := ?_) rfl (by kernel_rfl) (by kernel_rfl) (by kernel_rfl) (fun _ _ _ h => h) (Or.inl ⟨by rfl, ?_⟩) hHeld ?_
  rotate_left
  · intro Wz hWz; clear hWz; go_simp; (try with_reducible rfl)
  try simp only [Act.put, List.setIfInBounds_toArray, List.set_cons_zero, List.set_cons_succ, List.getElem_toArray, List.getElem_cons_zero, List.getElem_cons_succ]
  have hn1 : gx ≠ VT 0 ∧ gt ≠ VT 0 := by
    obtain ⟨cur, hcur⟩ := rowIs_block (HF0.out.own.time.row 0 (by omega)).1
    have h2 := HF0.out.own.time.outer
    rw [HTA.out] at h2
    obtain ⟨c2, h2⟩ := own_block h2 (g := gt) rfl
    exact ⟨blk_types HF0.out.box hcur (by decide), blk_types h2 hcur (by decide)⟩
  have HF1 := Lib.hid (HF0.out.time_ (i := 0) (k := 1) (by omega) (by omega) 4)
  have HB1 := Lib.hid (HB0.out.setCell (p := ⟨VT 0, 1, none⟩) (by have h1 := HF0.out.own.bc; have h2 := HF0.out.own.cd; have h3 := (HF0.out.own.time.row 0 (by omega)).2; show w.heap.size ≤ VT 0; omega) (.int .i64 4))
  refine wpAnyH_ready (rs := [7]) (by kernel_rfl) (by simp) ?_
  refine AllReadyH.cons rfl (fun K hK => ?_) AllReadyH.nil
  go_simp
  refine hK.out _ _ ?_ (fun hHeld => ?_)
  · exact ⟨(heap_setCell_other _ _ _ _ hn1.1).trans hHeld.1, (heap_setCell_other _ _ _ _ hn1.2).trans hHeld.2⟩
  clear hK K ht2 ht3 hn1
  try simp only [Act.put, List.setIfInBounds_toArray, List.set_cons_zero, List.set_cons_succ, List.getElem_toArray, List.getElem_cons_zero, List.getElem_cons_succ]
  obtain ⟨v1, hv⟩ : ∃ z, z = v0.setCell ⟨VT 0, 1, none⟩ (.int .i64 4) := ⟨_, rfl⟩
  rw [← hv] at HF1 HB1 hHeld ⊢
  clear hv
  refine wpAnyH_take (i := 8) (v := ?_) rfl (by kernel_rfl) (by kernel_rfl) (by kernel_rfl) (fun _ _ _ h => h) (Or.inl ⟨by rfl, ?_⟩) hHeld ?_
  rotate_left
  · intro Wz hWz; clear hWz; go_simp; (try with_reducible rfl)
  try simp only [Act.put, List.setIfInBounds_toArray, List.set_cons_zero, List.set_cons_succ, List.getElem_toArray, List.getElem_cons_zero, List.getElem_cons_succ]
  refine wpAnyH_take (i := 9) (v := ?_) rfl (by kernel_rfl) (by kernel_rfl) (by kernel_rfl) (fun _ _ _ h => h) (Or.inl ⟨by rfl, ?_⟩) hHeld ?_
  rotate_left
  · intro Wz hWz; clear hWz; go_simp; (try with_reducible rfl)
  try simp only [Act.put, List.setIfInBounds_toArray, List.set_cons_zero, List.set_cons_succ, List.getElem_toArray, List.getElem_cons_zero, List.getElem_cons_succ]
  obtain ⟨g9, hg9, k1, k2, hf2⟩ := HF1.out.hold_ (k := 0) hsz.out 3
  have hgg : gs = g9 := by
    have h := HSA.out.symm.trans hg9
    injection h with h
    injection h
  subst hgg
  have hge : w.heap.size ≤ gs := by
    have hs := HF1.out.own.sats
    rw [show ({ X with time := sqL 3 (putL LT 0 1 4) } : Ins).sats = X.sats from rfl, hg9] at hs
    have := (World.ownsRow.lt hs gs rfl).1
    omega
  have hn2 : gx ≠ gs ∧ gt ≠ gs := by
    have hs := HF1.out.own.sats
    rw [show ({ X with time := sqL 3 (putL LT 0 1 4) } : Ins).sats = X.sats from rfl, hg9] at hs
    obtain ⟨c1, h1⟩ := own_block hs (g := gs) rfl
    have h2 := HF1.out.own.time.outer
    rw [HTA.out] at h2
    obtain ⟨c2, h2⟩ := own_block h2 (g := gt) rfl
    exact ⟨blk_types HF1.out.box h1 (by decide), blk_types h2 h1 (by decide)⟩
  have HF2 := Lib.hid hf2
  have HB2 := Lib.hid (HB1.out.setCell (p := ⟨gs, 1, none⟩) hge (.int .i64 3))
  clear hg9 hf2 hge
  refine wpAnyH_ready (rs := [10]) (by kernel_rfl) (by simp) ?_
  refine AllReadyH.cons rfl (fun K hK => ?_) AllReadyH.nil
  go_simp
  refine hK.out _ _ ?_ (fun hHeld => ?_)
  · exact ⟨(heap_setCell_other _ _ _ _ hn2.1).trans hHeld.1, (heap_setCell_other _ _ _ _ hn2.2).trans hHeld.2⟩
  clear hK K k1 k2 hn2
  try simp only [Act.put, List.setIfInBounds_toArray, List.set_cons_zero, List.set_cons_succ, List.getElem_toArray, List.getElem_cons_zero, List.getElem_cons_succ]
  refine wpAnyH_done (by kernel_rfl) ?_ _
  clear hHeld
  obtain ⟨v2, hv⟩ : ∃ z, z = v1.setCell ⟨gs, 1, none⟩ (.int .i64 3) := ⟨_, rfl⟩
  rw [← hv] at HF2 HB2 ⊢
  clear hv
  have HF3 : Hid (Fin v2 gx A2 waitI) := Lib.hid (by
    have h := HF2.out.fin
    rw [show ({ ({ X with time := sqL 3 (putL LT 0 1 4) } : Ins) with sats := ({ X with time := sqL 3 (putL LT 0 1 4) } : Ins).sats.set 0 (((60 : Int), (2 : Int)).1, 3) } : Ins) = waitI from HW.out] at h
    exact h)
  obtain ⟨Y, hY⟩ : ∃ Y, waitI = Y := ⟨_, rfl⟩
  have HMY : Hid (May Y) := Lib.hid (by rw [← hY]; exact wait_may)
  have HRY : Hid (∀ l, ReadyOf Y l → l = [7]) := Lib.hid (by rw [← hY]; exact fun l h => wait_ready h)
  rw [hY] at HF3
  clear hY HF0 HF1 HF2 HB0 HB1 HW htl hsl
  obtain ⟨c0, c1, c2, c3, c4, c5, c6, c7, c8⟩ := HF3.out.cells
  unfold insC at *
  go_wp2_with fail
  refine (HH.out.ready A2 Y _ HF3.out.is_ HMY.out).mono ?_
  rintro e w5 ⟨l, a, c, rfl, hn, hr, hb⟩
  have hl := HRY.out l hr
  subst hl
  obtain ⟨b, off, v, rfl, hv, q0⟩ := hn.at_ (k := 0) (by decide)
  have hv7 : v = 7 := by simpa using hv.symm
  subst hv7
  have HB5 := Lib.hid (HB2.out.trans (hb.mono HB2.out.size))
  have HIA := Lib.hid (inst_awake w5)
  rw [Nat.add_zero] at q0
  clear c0 c1 c2 c3 c4 c5 c6 c7 c8 hn hr hb hv HB2 HF3
  go_wp2_with (go_at_call 22; refine HIA.out.mono ?_; rintro e w6 ⟨rfl, hb6⟩; have HB6 := Lib.hid (HB5.out.trans (hb6.mono HB5.out.size)); clear hb6)
  go_ret
  exact ⟨rfl, HB6.out⟩
end Go.Proofs.Ytchdpapaojkbhaa

/- The fixed fact of layer 17. -/
import Derived.Test.YtmnbpnjakbihdaaPlX
import Derived.Test.YtmnbpnjakbihdaaFreshT
import Derived.Test.YtmnbpnjakbihdaaMayMk
import Derived.Test.YtmnbpnjakbihdaaIOne
namespace Go.Proofs.Ytmnbpnjakbihdaa
open Go.RowKit

variable {w wr w2 : World} {g : Nat}
/-- The plain instance, five from the depot, seven from the satellite. -/
def roadI : Ins := ⟨40, 1, 5, 1, 3, [(60, 2)], [(2, 5, 90, 1)], [[0, 5, 0], [0, 0, 7], [0, 0, 0]], [[0, 0, 0], [0, 0, 0], [0, 0, 0]]⟩
theorem road_may : May roadI := May.of_err (by decide)
def roadP : Pl := ⟨[[(0, 2)]], [(0, [0])]⟩
theorem road_zero : PErr roadI roadP 0 := by
  refine .inr ⟨by decide, by decide, .inr ⟨?_, ?_, .inr ⟨?_, .inr ⟨⟨?_, ?_, ?_⟩, .inr ⟨?_, rfl⟩⟩⟩⟩⟩
  · intro k t hk
    match k, hk with
    | 0, hk =>
      simp [roadP] at hk
      subst hk
      refine ⟨by simp, fun j s hj => ?_⟩
      match j, hj with
      | 0, hj =>
        simp at hj
        subst hj
        exact ⟨by decide, fun o ho => by simp at ho, by decide, by decide⟩
  · intro k t hk
    match k, hk with
    | 0, hk =>
      simp [roadP] at hk
      subst hk
      refine ⟨by decide, by simp, fun j s hj => ?_⟩
      match j, hj with
      | 0, hj =>
        simp at hj
        subst hj
        exact ⟨by decide, by simp [flatB]⟩
  · intro c hc
    have : c = 0 := by simp [roadI] at hc; omega
    subst this
    simp [flatB, roadP]
  · intro t ht
    simp [roadP] at ht
    subst ht
    decide
  · intro t ht
    simp [roadP] at ht
    subst ht
    decide
  · intro s hs
    have : s = 0 := by simp [roadI] at hs; omega
    subst this
    decide
  · intro s hs
    have : s = 0 := by simp [roadI] at hs; omega
    subst this
    decide
theorem road_none : PErr roadI ⟨[], []⟩ 8 := by
  refine .inr ⟨by decide, by decide, .inr ⟨fun k t hk => by simp at hk, fun k t hk => by simp at hk, .inl ⟨fun h => ?_, rfl⟩⟩⟩
  have := h 0 (by decide)
  simp [flatB] at this
theorem road_cost : costP roadI roadP = 12 := by decide +kernel
theorem IsPl.nil (w : World) (B : Nat) : IsPl B w ⟨none, 0, none, 0⟩ ⟨[], []⟩ := ⟨⟨rfl, .inl rfl⟩, ⟨rfl, .inl rfl⟩, by simp, by simp⟩
/-- A plan of one truck that stops once, one bike that stops once. -/
theorem one_plan {b1 b2 b3 b4 : Nat} (s : Int) (m : Int) (s2 c : Int) (h1 : w.heap[b1]? = some (.cells #[.int .i64 s, .int .i64 m] 63 (0, 0))) (h2 : w.heap[b2]? = some (.cells #[.slice (some ⟨b1, 0, none⟩) 1 1] 58 (0, 0))) (h3 : w.heap[b3]? = some (.cells #[.int .i64 c] 3 (0, 0))) (h4 : w.heap[b4]? = some (.cells #[.int .i64 s2, .slice (some ⟨b3, 0, none⟩) 1 1] 55 (0, 0))) :
    IsPl w.heap.size w ⟨some ⟨b2, 0, none⟩, 1, some ⟨b4, 0, none⟩, 1⟩ ⟨[[(s, m)]], [(s2, [c])]⟩ := by
  have l1 := (Array.getElem?_eq_some_iff.1 h1).1
  have l2 := (Array.getElem?_eq_some_iff.1 h2).1
  have l3 := (Array.getElem?_eq_some_iff.1 h3).1
  have l4 := (Array.getElem?_eq_some_iff.1 h4).1
  refine ⟨⟨rfl, .inr ⟨b2, 0, rfl, l2, fun k r hk => ?_⟩⟩, ⟨rfl, .inr ⟨b4, 0, rfl, l4, fun k r hk => ?_⟩⟩, by simp, by simp⟩
  · match k, hk with
    | 0, hk =>
      simp at hk
      subst hk
      refine ⟨by simp, some ⟨b1, 0, none⟩, 1, by simp [World.cell?, h2], ⟨rfl, .inr ⟨b1, 0, rfl, l1, fun k x hk => ?_⟩⟩, by simp⟩
      match k, hk with
      | 0, hk =>
        simp at hk
        subst hk
        simp [World.cell?, h1]
  · match k, hk with
    | 0, hk =>
      simp at hk
      subst hk
      refine ⟨by simp, some ⟨b3, 0, none⟩, 1, by simp [World.cell?, h4], by simp [World.cell?, h4], rfl, .inr ⟨b3, 0, rfl, l3, fun k x hk => ?_⟩⟩
      match k, hk with
      | 0, hk =>
        simp at hk
        subst hk
        simp [World.cell?, h3]
set_option maxHeartbeats 4000000 in
set_option maxRecDepth 100000 in
theorem plan_awake (w : World) : Calls Try.prog 9 #[] w fun e w' => e = .returned (.bool true) ∧ Below w.heap.size w w' := by
  have HON := Lib.hid (one_own w)
  go_enter Try.func9, Try.ntmps9
  go_wp2_with fail
  refine HON.out.mono ?_
  rintro e w2 ⟨⟨A2, rfl, C, D, VK, VT, hown⟩, hb⟩
  have hF : Fresh (w2.alloc (.cells (insC A2 (makeI smallZ)) 37)) w2.heap.size (w.heap.size + 1 + 3) A2 (makeI smallZ) 3 C D VK VT (sqE smallZ.cost (nodesOf smallZ)) (sqE smallZ.time (nodesOf smallZ)) := ⟨heap_alloc_new w2 _, hown.later (below1 _ _), by decide, by decide, by decide⟩
  have hB := (hb.alloc hb.size (.cells (insC A2 (makeI smallZ)) 37))
  obtain ⟨X, hX⟩ : ∃ X, makeI smallZ = X := ⟨_, rfl⟩
  obtain ⟨LT, hLT⟩ : ∃ L, sqE smallZ.time (nodesOf smallZ) = L := ⟨_, rfl⟩
  obtain ⟨LK, hLK⟩ : ∃ L, sqE smallZ.cost (nodesOf smallZ) = L := ⟨_, rfl⟩
  have HW : Hid ({ X with cost := sqL 3 (putL (putL LK 0 1 5) 1 2 7) } = roadI) := Lib.hid (by rw [← hX, ← hLK]; rfl)
  rw [hX, hLT, hLK] at hF
  rw [hX] at hB ⊢
  clear hX hLT hLK hown hb HON
  obtain ⟨gx, hgx⟩ : ∃ g, g = w2.heap.size := ⟨_, rfl⟩
  rw [← hgx] at hF
  have HF := Lib.hid hF
  have HB := Lib.hid hB
  unfold insC at *
  go_wp2_with fail
  obtain ⟨w3, hw3⟩ : ∃ z, z = w2.alloc (.cells #[.int .i64 X.en, .int .i64 X.tm, .int .i64 X.tr, .int .i64 X.bm, .int .i64 X.br, .slice A2.sa X.sats.length A2.sc, .slice A2.ca X.cus.length A2.cc, .slice A2.ka X.cost.length A2.kc, .slice A2.ta X.time.length A2.tc] 37) := ⟨_, rfl⟩
  rw [← hw3] at HF HB ⊢
  rw [← hgx]
  clear hw3 hgx hF hB
  obtain ⟨v0, hv0⟩ : ∃ v, v = w3.drew := ⟨_, rfl⟩
  have HF0 : Hid (Fresh v0 gx (w.heap.size + 1 + 3) A2 X 3 C D VK VT LK LT) := Lib.hid (by rw [hv0]; exact HF.out.later (Below.refl _ w3).drew)
  have HB0 : Hid (Below w.heap.size w v0) := Lib.hid (by rw [hv0]; exact HB.out.drew)
  obtain ⟨gk, hka, a0, a2, a3⟩ := HF0.out.own.cost.cell_ (i := 0) (k := 1) (by omega) (by omega)
  obtain ⟨gk2, hka2, b0, b2, b3⟩ := HF0.out.own.cost.cell_ (i := 1) (k := 2) (by omega) (by omega)
  obtain rfl : gk = gk2 := by
    have h := hka.symm.trans hka2
    injection h with h
    injection h
  have hkl := HF0.out.klen.1
  obtain ⟨-, -, -, -, -, -, -, k7, -⟩ := HF0.out.fin.cells
  rw [hka, hkl] at k7
  have HKA := Lib.hid hka
  have HN1 : Hid (gx ≠ VK 0 ∧ gk ≠ VK 0 ∧ gx ≠ VK 1 ∧ gk ≠ VK 1) := Lib.hid (by
    obtain ⟨cur, hcur⟩ := rowIs_block (HF0.out.own.cost.row 0 (by omega)).1
    obtain ⟨cur1, hcur1⟩ := rowIs_block (HF0.out.own.cost.row 1 (by omega)).1
    have h2 := HF0.out.own.cost.outer
    rw [hka] at h2
    obtain ⟨c2, h2⟩ := own_block h2 (g := gk) rfl
    exact ⟨blk_types HF0.out.box hcur (by decide), blk_types h2 hcur (by decide), blk_types HF0.out.box hcur1 (by decide), blk_types h2 hcur1 (by decide)⟩)
  have HGE : Hid (w.heap.size ≤ VK 0 ∧ w.heap.size ≤ VK 1) := Lib.hid (by
    have h1 := HF0.out.own.bc
    have h3 := (HF0.out.own.cost.row 0 (by omega)).2
    have h4 := (HF0.out.own.cost.row 1 (by omega)).2
    omega)
  have HF1 := Lib.hid (HF0.out.cost_ (i := 0) (k := 1) (by omega) (by omega) 5)
  have HB1 := Lib.hid (HB0.out.setCell (p := ⟨VK 0, 1, none⟩) HGE.out.1 (.int .i64 5))
  obtain ⟨v1, hv1⟩ : ∃ z, z = v0.setCell ⟨VK 0, 1, none⟩ (.int .i64 5) := ⟨_, rfl⟩
  have HE1 : Hid (v1.heap[gx]? = v0.heap[gx]? ∧ v1.heap[gk]? = v0.heap[gk]?) := Lib.hid (by rw [hv1]; exact ⟨heap_setCell_other _ _ _ _ HN1.out.1, heap_setCell_other _ _ _ _ HN1.out.2.1⟩)
  rw [← hv1] at HF1 HB1
  obtain ⟨gk3, hka3, d0, d2, d3⟩ := HF1.out.own.cost.cell_ (i := 1) (k := 2) (by omega) (by omega)
  have HF2 := Lib.hid (HF1.out.cost_ (i := 1) (k := 2) (by omega) (by omega) 7)
  have HB2 := Lib.hid (HB1.out.setCell (p := ⟨VK 1, 2, none⟩) HGE.out.2 (.int .i64 7))
  obtain ⟨v2, hv2⟩ : ∃ z, z = v1.setCell ⟨VK 1, 2, none⟩ (.int .i64 7) := ⟨_, rfl⟩
  have HE2 : Hid (v2.heap[gx]? = v1.heap[gx]? ∧ v2.heap[gk]? = v1.heap[gk]?) := Lib.hid (by rw [hv2]; exact ⟨heap_setCell_other _ _ _ _ HN1.out.2.2.1, heap_setCell_other _ _ _ _ HN1.out.2.2.2⟩)
  rw [← hv2] at HF2 HB2
  have HS0 : Hid (v0.cell? ⟨gx, 7, none⟩ = some (.slice (some ⟨gk, 0, none⟩) 3 A2.kc) ∧ v0.cell? ⟨gk, 0, none⟩ = some (.slice (some ⟨VK 0, 0, none⟩) 3 3) ∧ v0.cell? ⟨gk, 1, none⟩ = some (.slice (some ⟨VK 1, 0, none⟩) 3 3)) := Lib.hid ⟨k7, a0, b0⟩
  have HS1 : Hid (v1.cell? ⟨gx, 7, none⟩ = some (.slice (some ⟨gk, 0, none⟩) 3 A2.kc) ∧ v1.cell? ⟨gk, 0, none⟩ = some (.slice (some ⟨VK 0, 0, none⟩) 3 3) ∧ v1.cell? ⟨gk, 1, none⟩ = some (.slice (some ⟨VK 1, 0, none⟩) 3 3)) := Lib.hid ⟨(World.cell?_of_block (by exact HE1.out.1)).trans k7, (World.cell?_of_block (by exact HE1.out.2)).trans a0, (World.cell?_of_block (by exact HE1.out.2)).trans b0⟩
  have HS2 : Hid (v2.cell? ⟨gx, 7, none⟩ = some (.slice (some ⟨gk, 0, none⟩) 3 A2.kc) ∧ v2.cell? ⟨gk, 0, none⟩ = some (.slice (some ⟨VK 0, 0, none⟩) 3 3) ∧ v2.cell? ⟨gk, 1, none⟩ = some (.slice (some ⟨VK 1, 0, none⟩) 3 3)) := Lib.hid ⟨(World.cell?_of_block (by exact HE2.out.1)).trans HS1.out.1, (World.cell?_of_block (by exact HE2.out.2)).trans HS1.out.2.1, (World.cell?_of_block (by exact HE2.out.2)).trans HS1.out.2.2⟩
  clear hka hka2 hka3 d0 b2 b3 hkl
  have hl3 : X.cost.length = 3 := HF.out.klen.1
  refine wp_region_held_drew (S := fun Wz => Wz.cell? ⟨gx, 7, none⟩ = some (.slice (some ⟨gk, 0, none⟩) 3 A2.kc) ∧ Wz.cell? ⟨gk, 0, none⟩ = some (.slice (some ⟨VK 0, 0, none⟩) 3 3) ∧ Wz.cell? ⟨gk, 1, none⟩ = some (.slice (some ⟨VK 1, 0, none⟩) 3 3)) (by kernel_rfl) (by rw [← hv0]; exact HS0.out) (fun hHeld => ?_)
  rw [← hv0] at hHeld ⊢
  clear hv0
  refine wpAnyH_take (i := 0) (v := ?_) rfl (by kernel_rfl) (by kernel_rfl) (by kernel_rfl) (fun _ _ _ h => h) (Or.inl ⟨by rfl, ?_⟩) hHeld ?_
  rotate_left
  · intro Wz hWz; clear hWz; go_simp; (try with_reducible rfl)
  try simp only [Act.put, List.setIfInBounds_toArray, List.set_cons_zero, List.set_cons_succ, List.getElem_toArray, List.getElem_cons_zero]
  refine wpAnyH_take (i := 1) (v := ?_) rfl (by kernel_rfl) (by kernel_rfl) (by kernel_rfl) (fun _ _ _ h => h) (Or.inl ⟨by rfl, ?_⟩) hHeld ?_
  rotate_left
  · intro Wz hWz; obtain ⟨s0, s1, s2⟩ := hWz; go_simp; (try with_reducible rfl)
  try simp only [Act.put, List.setIfInBounds_toArray, List.set_cons_zero, List.set_cons_succ, List.getElem_toArray, List.getElem_cons_zero, List.getElem_cons_succ]
  refine wpAnyH_take (i := 2) (v := ?_) rfl (by kernel_rfl) (by kernel_rfl) (by kernel_rfl) (fun _ _ _ h => h) (Or.inl ⟨by rfl, ?_⟩) hHeld ?_
  rotate_left
  · intro Wz hWz; clear hWz; go_simp; (try with_reducible rfl)
  try simp only [Act.put, List.setIfInBounds_toArray, List.set_cons_zero, List.set_cons_succ, List.getElem_toArray, List.getElem_cons_zero, List.getElem_cons_succ]
  refine wpAnyH_take (i := 3) (v := ?_) rfl (by kernel_rfl) (by kernel_rfl) (by kernel_rfl) (fun _ _ _ h => h) (Or.inl ⟨by rfl, ?_⟩) hHeld ?_
  rotate_left
  · intro Wz hWz; obtain ⟨s0, s1, s2⟩ := hWz; go_simp; (try with_reducible rfl)
  try simp only [Act.put, List.setIfInBounds_toArray, List.set_cons_zero, List.set_cons_succ, List.getElem_toArray, List.getElem_cons_zero, List.getElem_cons_succ]
  refine wpAnyH_take (i := 4) (v := ?_) rfl (by kernel_rfl) (by kernel_rfl) (by kernel_rfl) (fun _ _ _ h => h) (Or.inl ⟨by rfl, ?_⟩) hHeld ?_
  rotate_left
  · intro Wz hWz; clear hWz; go_simp; (try with_reducible rfl)
  try simp only [Act.put, List.setIfInBounds_toArray, List.set_cons_zero, List.set_cons_succ, List.getElem_toArray, List.getElem_cons_zero, List.getElem_cons_succ]
  refine wpAnyH_take (i := 5) (v := ?_) rfl (by kernel_rfl) (by kernel_rfl) (by kernel_rfl) (fun _ _ _ h => h) (Or.inl ⟨by rfl, ?_⟩) hHeld ?_
  rotate_left
  · intro Wz hWz; obtain ⟨s0, s1, s2⟩ := hWz; go_simp; (try with_reducible rfl)
  try simp only [Act.put, List.setIfInBounds_toArray, List.set_cons_zero, List.set_cons_succ, List.getElem_toArray, List.getElem_cons_zero, List.getElem_cons_succ]
  refine wpAnyH_take (i := 6) (v := ?_) rfl (by kernel_rfl) (by kernel_rfl) (by kernel_rfl) (fun _ _ _ h => h) (Or.inl ⟨by rfl, ?_⟩) hHeld ?_
  rotate_left
  · intro Wz hWz; clear hWz; go_simp; (try with_reducible rfl)
  try simp only [Act.put, List.setIfInBounds_toArray, List.set_cons_zero, List.set_cons_succ, List.getElem_toArray, List.getElem_cons_zero, List.getElem_cons_succ]
  refine wpAnyH_take (i := 7) (v := ?_) rfl (by kernel_rfl) (by kernel_rfl) (by kernel_rfl) (fun _ _ _ h => h) (Or.inl ⟨by rfl, ?_⟩) hHeld ?_
  rotate_left
  · intro Wz hWz; obtain ⟨s0, s1, s2⟩ := hWz; go_simp; (try with_reducible rfl)
  try simp only [Act.put, List.setIfInBounds_toArray, List.set_cons_zero, List.set_cons_succ, List.getElem_toArray, List.getElem_cons_zero, List.getElem_cons_succ]
  refine wpAnyH_take (i := 8) (v := ?_) rfl (by kernel_rfl) (by kernel_rfl) (by kernel_rfl) (fun _ _ _ h => h) (Or.inl ⟨by rfl, ?_⟩) hHeld ?_
  rotate_left
  · intro Wz hWz; clear hWz; go_simp; (try with_reducible rfl)
  try simp only [Act.put, List.setIfInBounds_toArray, List.set_cons_zero, List.set_cons_succ, List.getElem_toArray, List.getElem_cons_zero, List.getElem_cons_succ]
  refine wpAnyH_ready (rs := [9]) (by kernel_rfl) (by simp) ?_
  refine AllReadyH.cons rfl (fun K hK => ?_) AllReadyH.nil
  go_simp
  rw [← hv1]
  clear hv1
  refine hK.out _ _ ?_ (fun hHeld => ?_)
  · exact HS1.out
  clear hK K
  try simp only [Act.put, List.setIfInBounds_toArray, List.set_cons_zero, List.set_cons_succ, List.getElem_toArray, List.getElem_cons_zero, List.getElem_cons_succ]
  refine wpAnyH_take (i := 10) (v := ?_) rfl (by kernel_rfl) (by kernel_rfl) (by kernel_rfl) (fun _ _ _ h => h) (Or.inl ⟨by rfl, ?_⟩) hHeld ?_
  rotate_left
  · intro Wz hWz; clear hWz; go_simp; (try with_reducible rfl)
  try simp only [Act.put, List.setIfInBounds_toArray, List.set_cons_zero, List.set_cons_succ, List.getElem_toArray, List.getElem_cons_zero, List.getElem_cons_succ]
  refine wpAnyH_ready (rs := [11]) (by kernel_rfl) (by simp) ?_
  refine AllReadyH.cons rfl (fun K hK => ?_) AllReadyH.nil
  go_simp
  rw [← hv2]
  clear hv2
  refine hK.out _ _ ?_ (fun hHeld => ?_)
  · exact HS2.out
  clear hK K
  try simp only [Act.put, List.setIfInBounds_toArray, List.set_cons_zero, List.set_cons_succ, List.getElem_toArray, List.getElem_cons_zero, List.getElem_cons_succ]
  refine wpAnyH_done (by kernel_rfl) ?_ _
  clear hHeld
  have HF3 : Hid (Fin v2 gx A2 roadI) := Lib.hid (by
    have h := HF2.out.fin
    have e : ({ ({ X with cost := sqL 3 (putL LK 0 1 5) } : Ins) with cost := sqL 3 (putL (putL LK 0 1 5) 1 2 7) } : Ins) = roadI := HW.out
    rw [e] at h
    exact h)
  obtain ⟨Y, hY⟩ : ∃ Y, roadI = Y := ⟨_, rfl⟩
  have HMY : Hid (May Y) := Lib.hid (by rw [← hY]; exact road_may)
  have HP0 : Hid (PErr Y roadP 0) := Lib.hid (by rw [← hY]; exact road_zero)
  have HPN : Hid (PErr Y ⟨[], []⟩ 8) := Lib.hid (by rw [← hY]; exact road_none)
  have HPC : Hid (costP Y roadP = 12) := Lib.hid (by rw [← hY]; exact road_cost)
  rw [hY] at HF3
  clear hY HF0 HF1 HF2 HB0 HB1 HW HF HB HKA HN1 HGE HE1 HE2 HS0 HS1 HS2 k7 a0 a2 a3 b0 hl3
  obtain ⟨z, hz⟩ : ∃ z, v2.heap.size = z := ⟨_, rfl⟩
  have k1 := CBox.make (Below.refl _ v2) #[.int .i64 0, .int .i64 2] 63
  rw [hz] at k1
  obtain ⟨V1, hV1⟩ : ∃ V, v2.alloc (.cells #[.int .i64 0, .int .i64 2] 63) = V := ⟨_, rfl⟩
  have z1 : V1.heap.size = z + 1 := by rw [← hV1]; simp [hz]
  rw [hV1] at k1
  have k2 := CBox.make k1.below #[.slice (some ⟨z, 0, none⟩) 1 1] 58
  rw [z1] at k2
  obtain ⟨V2, hV2⟩ : ∃ V, V1.alloc (.cells #[.slice (some ⟨z, 0, none⟩) 1 1] 58) = V := ⟨_, rfl⟩
  have z2 : V2.heap.size = z + 2 := by rw [← hV2]; simp [z1]
  rw [hV2] at k2
  have k3 := CBox.make k2.below #[.int .i64 0] 3
  rw [z2] at k3
  obtain ⟨V3, hV3⟩ : ∃ V, V2.alloc (.cells #[.int .i64 0] 3) = V := ⟨_, rfl⟩
  have z3 : V3.heap.size = z + 3 := by rw [← hV3]; simp [z2]
  rw [hV3] at k3
  have k4 := CBox.make k3.below #[.int .i64 0, .slice (some ⟨z + 2, 0, none⟩) 1 1] 55
  rw [z3] at k4
  obtain ⟨V4, hV4⟩ : ∃ V, V3.alloc (.cells #[.int .i64 0, .slice (some ⟨z + 2, 0, none⟩) 1 1] 55) = V := ⟨_, rfl⟩
  have z4 : V4.heap.size = z + 4 := by rw [← hV4]; simp [z3]
  rw [hV4] at k4
  have HK5 : Hid (CBox v2 (V4.alloc (.cells #[.slice (some ⟨z + 1, 0, none⟩) 1 1, .slice (some ⟨z + 3, 0, none⟩) 1 1] 42)) (z + 4) #[.slice (some ⟨z + 1, 0, none⟩) 1 1, .slice (some ⟨z + 3, 0, none⟩) 1 1] 42) := Lib.hid (by
    have := CBox.make k4.below #[.slice (some ⟨z + 1, 0, none⟩) 1 1, .slice (some ⟨z + 3, 0, none⟩) 1 1] 42
    rwa [z4] at this)
  have HPL : Hid (IsPl V4.heap.size V4 ⟨some ⟨z + 1, 0, none⟩, 1, some ⟨z + 3, 0, none⟩, 1⟩ roadP) := Lib.hid (one_plan (b1 := z) (b2 := z + 1) (b3 := z + 2) (b4 := z + 3) 0 2 0 0
    (by rw [← hV4, ← hV3, ← hV2]; exact (((k1.alloc _).alloc _).alloc _).blk) (by rw [← hV4, ← hV3]; exact ((k2.alloc _).alloc _).blk) (by rw [← hV4]; exact (k3.alloc _).blk) k4.blk)
  have HF5 := Lib.hid (HF3.out.later HK5.out.below)
  have HPL5 : Hid (IsPl (V4.alloc (.cells #[.slice (some ⟨z + 1, 0, none⟩) 1 1, .slice (some ⟨z + 3, 0, none⟩) 1 1] 42)).heap.size (V4.alloc (.cells #[.slice (some ⟨z + 1, 0, none⟩) 1 1, .slice (some ⟨z + 3, 0, none⟩) 1 1] 42)) ⟨some ⟨z + 1, 0, none⟩, 1, some ⟨z + 3, 0, none⟩, 1⟩ roadP) := Lib.hid ((HPL.out.later ((Below.refl _ _).alloc (Nat.le_refl _) _)).mono (by simp))
  have HBB : Hid (Below w.heap.size w (V4.alloc (.cells #[.slice (some ⟨z + 1, 0, none⟩) 1 1, .slice (some ⟨z + 3, 0, none⟩) 1 1] 42))) := Lib.hid (HB2.out.trans (HK5.out.below.mono HB2.out.size))
  have HCO : Hid (∀ W, IsIns W.heap.size W A2 Y → IsPl W.heap.size W ⟨some ⟨z + 1, 0, none⟩, 1, some ⟨z + 3, 0, none⟩, 1⟩ roadP → Calls Try.prog 14 #[.agg (insC A2 Y), .agg #[.slice (some ⟨z + 1, 0, none⟩) 1 1, .slice (some ⟨z + 3, 0, none⟩) 1 1]] W fun e w' => e = .returned (.tuple #[.int .i64 12, .int .i64 0]) ∧ Below W.heap.size W w') := Lib.hid (fun W h1 h2 => by
    refine (pcost_ok A2 Y ⟨some ⟨z + 1, 0, none⟩, 1, some ⟨z + 3, 0, none⟩, 1⟩ roadP W h1 h2 HMY.out).mono ?_
    rintro e w' ⟨u, v, rfl, hpe, hv, _, hb⟩
    obtain rfl : u = 0 := hpe.unique HP0.out
    obtain rfl : v = 12 := (hv rfl).trans HPC.out
    exact ⟨rfl, hb⟩)
  have HCH : Hid (∀ W, IsIns W.heap.size W A2 Y → IsPl W.heap.size W ⟨some ⟨z + 1, 0, none⟩, 1, some ⟨z + 3, 0, none⟩, 1⟩ roadP → Calls Try.prog 15 #[.agg (insC A2 Y), .agg #[.slice (some ⟨z + 1, 0, none⟩) 1 1, .slice (some ⟨z + 3, 0, none⟩) 1 1]] W fun e w' => e = .returned (.int .i64 0) ∧ Below W.heap.size W w') := Lib.hid (fun W h1 h2 => by
    refine (pcheck_ok A2 Y ⟨some ⟨z + 1, 0, none⟩, 1, some ⟨z + 3, 0, none⟩, 1⟩ roadP W h1 h2 HMY.out).mono ?_
    rintro e w' ⟨u, rfl, hpe, hb⟩
    obtain rfl : u = 0 := hpe.unique HP0.out
    exact ⟨rfl, hb⟩)
  have HCN : Hid (∀ W, IsIns W.heap.size W A2 Y → Calls Try.prog 15 #[.agg (insC A2 Y), .agg #[.slice none 0 0, .slice none 0 0]] W fun e w' => e = .returned (.int .i64 8) ∧ Below W.heap.size W w') := Lib.hid (fun W h1 => by
    refine (pcheck_ok A2 Y ⟨none, 0, none, 0⟩ ⟨[], []⟩ W h1 (IsPl.nil W _) HMY.out).mono ?_
    rintro e w' ⟨u, rfl, hpe, hb⟩
    obtain rfl : u = 8 := hpe.unique HPN.out
    exact ⟨rfl, hb⟩)
  obtain ⟨c0, c1, c2, c3, c4, c5, c6, c7, c8⟩ := HF5.out.cells
  obtain ⟨p0, p1⟩ := HK5.out.cell2
  clear k1 k2 k3 k4 HPL HF3 HB2
  unfold insC at *
  go_upto_region 4 with fail
  clear hV1 hV2 hV3 hV4
  obtain ⟨W5, hW5⟩ : ∃ W5, V4.alloc (.cells #[.slice (some ⟨z + 1, 0, none⟩) 1 1, .slice (some ⟨z + 3, 0, none⟩) 1 1] 42) = W5 := ⟨_, rfl⟩
  rw [hW5] at HK5 HF5 HPL5 HBB c0 c1 c2 c3 c4 c5 c6 c7 c8 p0 p1 ⊢
  clear hW5 z1 z2 z3 z4 hz
  have h12 : ((12 : Int) == 12) = true := rfl
  have h88 : ((8 : Int) == 8) = true := rfl
  have h00 : ((0 : Int) == 0) = true := rfl
  go_wp2_with (first
    | (go_at_call 14; refine (HCO.out _ HF5.out.is_ HPL5.out).mono ?_; rintro e w6 ⟨rfl, hb6⟩; clear c0 c1 c2 c3 c4 c5 c6 c7 c8 p0 p1; have HF6 := Lib.hid (HF5.out.later hb6); have HPL6 := Lib.hid ((HPL5.out.later hb6).mono hb6.size); have HK6 := Lib.hid (HK5.out.later hb6); have HB6 := Lib.hid (HBB.out.trans (hb6.mono HBB.out.size)); obtain ⟨c0, c1, c2, c3, c4, c5, c6, c7, c8⟩ := HF6.out.cells; obtain ⟨p0, p1⟩ := HK6.out.cell2; clear hb6)
    | (go_at_call_of 15 (Value.agg #[.slice none 0 0, .slice none 0 0]); refine (HCN.out _ HF7.out.is_).mono ?_; rintro e w8 ⟨rfl, hb8⟩; have HB8 := Lib.hid (HB7.out.trans (hb8.mono HB7.out.size)); clear hb8)
    | (go_at_call 15; refine (HCH.out _ HF6.out.is_ HPL6.out).mono ?_; rintro e w7 ⟨rfl, hb7⟩; clear c0 c1 c2 c3 c4 c5 c6 c7 c8 p0 p1; have HF7 := Lib.hid (HF6.out.later hb7); have HB7 := Lib.hid (HB6.out.trans (hb7.mono HB6.out.size)); obtain ⟨c0, c1, c2, c3, c4, c5, c6, c7, c8⟩ := HF7.out.cells; clear hb7))
  go_ret
  exact ⟨rfl, HB8.out⟩
end Go.Proofs.Ytmnbpnjakbihdaa

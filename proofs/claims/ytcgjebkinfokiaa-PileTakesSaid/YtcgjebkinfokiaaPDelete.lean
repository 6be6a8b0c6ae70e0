/- The library's Delete of one thing out of a row. -/
import Derived.Test.YtcgjebkinfokiaaPPush
import Derived.Laws.IdiomCopy
namespace Go.Proofs.Ytcgjebkinfokiaa
open Go.RowKit
open Go.Sort (swp size_swp HoldsK putRowK flatK setMany size_setMany get_setMany)

theorem flat_take (l : List It) : ∀ k, (l.flatMap encIt).take (k * 2) = (l.take k).flatMap encIt := by
  induction l with
  | nil => intro k; simp
  | cons x r ih =>
    intro k
    cases k with
    | zero => simp
    | succ k =>
      rw [List.flatMap_cons, List.take_succ_cons, List.flatMap_cons, ← ih k]
      have e : (k + 1) * 2 = k * 2 + 1 + 1 := by omega
      rw [e]
      rfl
theorem flat_drop (l : List It) : ∀ k, (l.flatMap encIt).drop (k * 2) = (l.drop k).flatMap encIt := by
  induction l with
  | nil => intro k; simp
  | cons x r ih =>
    intro k
    cases k with
    | zero => simp
    | succ k =>
      rw [List.flatMap_cons, List.drop_succ_cons, ← ih k]
      have e : (k + 1) * 2 = k * 2 + 1 + 1 := by omega
      rw [e]
      rfl
theorem flatL_mk (l : List It) : flatL l.toArray = l.flatMap encIt := rfl
theorem flat_erase (l : List It) (k : Nat) : (l.eraseIdx k).flatMap encIt = (l.flatMap encIt).take (k * 2) ++ (l.flatMap encIt).drop ((k + 1) * 2) := by
  rw [flat_take, flat_drop, List.eraseIdx_eq_take_drop_succ, List.flatMap_append]

theorem heap_setCells (g : Nat) : ∀ (vs : List Value) (s : Nat) (w : World) (cur : Array Value) (e : TypeId) (fr : Nat × Nat), w.heap[g]? = some (.cells cur e fr) → (w.setCells g s vs).heap[g]? = some (.cells (setMany cur s vs) e fr)
  | [], _, _, _, _, _, h => h
  | v :: r, s, w, cur, e, fr, h => by
    rw [World.setCells, setMany]
    exact heap_setCells g r (s + 1) _ _ e fr (by simp [World.setCell, Array.getElem?_modify, h])
theorem Mod.setCells {S : Nat → Prop} {a : World} (g : Nat) (hg : S g) : ∀ (vs : List Value) (s : Nat) (w : World), Mod S a w → Mod S a (w.setCells g s vs)
  | [], _, _, h => h
  | v :: r, s, w, h => by
    rw [World.setCells]
    exact Mod.setCells g hg r (s + 1) _ (h.setCell (p := ⟨g, s, none⟩) (.inr hg) v)

theorem take_many (cur : Array Value) (n k : Nat) (L : List Value) (hk : k ≤ n) (hn : (n + 1) * 2 ≤ cur.size) (hL : cur.toList.take ((n + 1) * 2) = L) (z : List Value) :
    (setMany (setMany cur (k * 2) (L.drop ((k + 1) * 2))) (n * 2) z).toList.take (n * 2) = L.take (k * 2) ++ L.drop ((k + 1) * 2) := by
  have hl : L.length = (n + 1) * 2 := by rw [← hL, List.length_take]; simp; omega
  apply List.ext_getElem?
  intro t
  by_cases ht : t < n * 2
  · rw [List.getElem?_take, if_pos ht]
    have hsz : t < (setMany (setMany cur (k * 2) (L.drop ((k + 1) * 2))) (n * 2) z).size := by rw [size_setMany, size_setMany]; omega
    rw [Array.getElem?_toList, Array.getElem?_eq_getElem hsz]
    have h1 := get_setMany z (n * 2) (setMany cur (k * 2) (L.drop ((k + 1) * 2))) t (by rw [size_setMany]; omega)
    have h2 := get_setMany (L.drop ((k + 1) * 2)) (k * 2) cur t (by omega)
    rw [getElem!_pos _ t hsz, if_neg (by omega)] at h1
    rw [h1, h2]
    have hc : ∀ u, u < (n + 1) * 2 → L[u]? = some cur[u]! := by
      intro u hu
      rw [← hL, List.getElem?_take, if_pos hu, Array.getElem?_toList, Array.getElem?_eq_getElem (by omega), getElem!_pos cur u (by omega)]
    by_cases hkt : k * 2 ≤ t
    · have hd : (L.drop ((k + 1) * 2)).length = (n - k) * 2 := by rw [List.length_drop, hl]; omega
      rw [if_pos ⟨hkt, by rw [hd]; omega⟩, List.getElem?_append_right (by rw [List.length_take]; omega), List.length_take, Nat.min_eq_left (by omega)]
      have hlt : t - k * 2 < (L.drop ((k + 1) * 2)).length := by rw [hd]; omega
      rw [getElem!_pos _ (t - k * 2) hlt, List.getElem?_eq_getElem hlt]
    · rw [if_neg (fun h => hkt h.1), List.getElem?_append_left (by rw [List.length_take]; omega), List.getElem?_take, if_pos (by omega)]
      exact (hc t (by omega)).symm
  · rw [List.getElem?_eq_none (by simp [List.length_take]; omega), List.getElem?_eq_none (by simp [List.length_append, List.length_take, List.length_drop, hl]; omega)]

theorem zero_it (w : World) : (zeroValue 31).run Try.prog w = .ok (.agg #[.int .i64 0, .int .i64 0]) w := by
  obtain ⟨i0, hi, hz0, _, _⟩ := info_parts3 infoIt
  simp [zeroValue, typeInfo, hi, hz0]
theorem run_clear_two (g n c : Nat) (w : World) (hc : ∀ j, j < 2 → (w.cell? ⟨g, n * 2 + j, none⟩).isSome = true) (hf : ∀ j, j < 2 → w.frozen? ⟨g, n * 2 + j, none⟩ = false) (ty : TypeId) :
    (Builtin.clear_ #[26] ty #[.slice (some ⟨g, n * 2, none⟩) 1 c]).run Try.prog w = .ok (.tuple #[]) (w.setCells g (n * 2) [.int .i64 0, .int .i64 0]) := by
  have hst := run_storeCells_cells (P := Try.prog) g (n * 2) [.int .i64 0, .int .i64 0] 0 w (by simpa using hc) (by simpa using hf) (by intro v hv; simp at hv; subst hv; rfl)
  simp only [Nat.add_zero] at hst
  have hzc : (Builtin.zeroCells (Value.cells (.agg #[.int .i64 0, .int .i64 0])) 1).toList = [.int .i64 0, .int .i64 0] := by
    apply List.ext_getElem
    · simp [Builtin.zeroCells, Value.cells]
    · intro i h1 h2
      match i, h2 with
      | 0, _ => simp [Builtin.zeroCells, Value.cells]
      | 1, _ => simp [Builtin.zeroCells, Value.cells]
  simp [Builtin.clear_, run_underlying Try.underlying26, hzc, hst]

/-- What Delete leaves. -/
def Deleted (w : World) (base g n cap k : Nat) (l : List It) (w' : World) : Prop :=
  RowW w' base (.slice (some ⟨g, 0, none⟩) n cap) (l.eraseIdx k).toArray ∧ Mod (· = g) w w'
theorem Deleted.drewn {w : World} {base g n cap k : Nat} {l : List It} {s1 s2 : Nat} {u1 u2 : List Value} (h : Deleted w base g n cap k l ((w.setCells g s1 u1).setCells g s2 u2)) : Deleted w base g n cap k l ((w.drew.setCells g s1 u1).setCells g s2 u2) := by
  have e : ∀ (vs : List Value) (s : Nat) (W : World), W.drew.setCells g s vs = (W.setCells g s vs).drew := by
    intro vs
    induction vs with
    | nil => intro s W; rfl
    | cons v r ih => intro s W; rw [World.setCells, World.setCells, ← ih]; rfl
  rw [e, e]
  exact ⟨h.1, h.2.drew⟩
theorem row_parts {w : World} {base g n cap : Nat} {l : List It} (h : RowW w base (.slice (some ⟨g, 0, none⟩) (n + 1) cap) l.toArray) (hn : l.length = n + 1) :
    ∃ cur, w.heap[g]? = some (.cells cur 31 (0, 0)) ∧ base ≤ g ∧ n + 1 ≤ cap ∧ cap ≤ maxLen ∧ cur.size = cap * 2 ∧ cur.toList.take ((n + 1) * 2) = flatL l.toArray := by
  have hs : l.toArray.size = n + 1 := by simp [hn]
  rcases h.2 with ⟨e, _⟩ | ⟨g', cap', cur, e, hb, hg, hc, hm, hz, ht⟩
  · cases e
  · injection e with e1 e2 e3
    injection e1 with e1
    injection e1 with e1
    subst e1 e3
    rw [hs] at hc ht
    exact ⟨cur, hg, hb, hc, hm, hz, ht⟩
theorem deleted_of {w : World} {base g n cap k : Nat} {l : List It} {cur : Array Value} (hg : w.heap[g]? = some (.cells cur 31 (0, 0))) (hb : base ≤ g) (hn : l.length = n + 1) (hcap : n + 1 ≤ cap) (hm : cap ≤ maxLen) (hz : cur.size = cap * 2) (ht : cur.toList.take ((n + 1) * 2) = flatL l.toArray) (hk : k ≤ n) :
    Deleted w base g n cap k l ((w.setCells g (0 + k * 2) ((flatL l.toArray).drop ((k + 1) * 2))).setCells g (n * 2) [.int .i64 0, .int .i64 0]) := by
  have hs : (l.eraseIdx k).toArray.size = n := by
    simp [List.length_eraseIdx, hn, show k < n + 1 by omega]
  have h1 := heap_setCells g ((flatL l.toArray).drop ((k + 1) * 2)) (0 + k * 2) w cur _ _ hg
  have h2 := heap_setCells g [.int .i64 0, .int .i64 0] (n * 2) _ _ _ _ h1
  rw [Nat.zero_add] at h2 ⊢
  refine ⟨⟨by rw [flatL_length], .inr ⟨g, cap, _, by rw [hs], hb, h2, by omega, hm, by rw [size_setMany, size_setMany]; exact hz, ?_⟩⟩, ?_⟩
  · rw [hs, take_many cur n k (flatL l.toArray) hk (by rw [hz]; exact Nat.mul_le_mul_right 2 hcap) ht, flatL_mk, flatL_mk, flat_erase]
  · exact Mod.setCells (S := fun k => k = g) g rfl _ _ _ (Mod.setCells (S := fun k => k = g) g rfl _ _ _ (Mod.refl (fun k => k = g) w))

set_option maxHeartbeats 2000000 in
set_option maxRecDepth 100000 in
theorem delete_any (base g n cap k : Nat) (l : List It) (w : World) (hn : l.length = n + 1) (hbig : n ≤ 500) (hk : k ≤ n) (hR : RowW w base (.slice (some ⟨g, 0, none⟩) (n + 1) cap) l.toArray) :
    Calls Try.prog 11 #[.slice (some ⟨g, 0, none⟩) (n + 1) cap, .int .i64 k, .int .i64 ((k : Int) + 1)] w fun e w' => e = .returned (.slice (some ⟨g, 0, none⟩) n cap) ∧ Deleted w base g n cap k l w' := by
  obtain ⟨i0, hi, hz0, hz1, hz2⟩ := info_parts3 infoIt
  obtain ⟨cur, hg, hb, hcap, hm, hz, ht⟩ := row_parts hR hn
  have hD := deleted_of (base := base) hg hb hn hcap hm hz ht hk
  have hm' := hm
  unfold maxLen at hm'
  obtain ⟨news, hnews⟩ : ∃ news, news = (flatL l.toArray).drop ((k + 1) * 2) := ⟨_, rfl⟩
  rw [← hnews] at hD
  have hfl : (flatL l.toArray).length = (n + 1) * 2 := by rw [flatL_length]; simp [hn]
  have hlen : news.length = (n - k) * 2 := by rw [hnews, List.length_drop, hfl]; omega
  have hcell : ∀ j, j < cap * 2 → (w.cell? ⟨g, j, none⟩).isSome = true := fun j hj => by rw [cell_of_row w g j cur _ _ hg, Array.getElem?_eq_getElem (by omega)]; rfl
  have hfree : ∀ j, w.frozen? ⟨g, j, none⟩ = false := fun j => by simp [World.frozen?, hg]
  have hread : ∀ t u, news[t]? = some u → w.cell? ⟨g, (k + 1) * 2 + t, none⟩ = some u := fun t u hu => by
    have htl : t < news.length := (List.getElem?_eq_some_iff.1 hu).1
    rw [hnews, List.getElem?_drop, ← ht, List.getElem?_take, if_pos (by omega), Array.getElem?_toList] at hu
    rw [cell_of_row w g _ cur _ _ hg]
    exact hu
  obtain ⟨A, hA, hsrc⟩ : ∃ A : Addr, (if cap = k + 1 then some (⟨g, 0, none⟩ : Addr) else some ⟨g, (k + 1) * 2, none⟩) = some A ∧ Hid (∀ t u, news[t]? = some u → w.drew.cell? (A.add t) = some u) := by
    by_cases h : cap = k + 1
    · refine ⟨⟨g, 0, none⟩, by simp [h], fun t u hu => ?_⟩
      have h0 : news.length = 0 := by rw [hlen]; omega
      rw [List.length_eq_zero_iff.1 h0] at hu
      simp at hu
    · refine ⟨⟨g, (k + 1) * 2, none⟩, by simp [h], fun t u hu => ?_⟩
      rw [Addr.add_lit]
      exact hread t u hu
  have s2 : Hid (∀ u ∈ news, u.oneCell' = true) := by
    intro u hu
    rw [hnews] at hu
    have hu2 := List.mem_of_mem_drop hu
    unfold flatL at hu2
    obtain ⟨x, _, hx⟩ := List.mem_flatMap.1 hu2
    simp [encIt] at hx
    rcases hx with rfl | rfl <;> rfl
  have s3 : Hid (∀ t, t < news.length → (w.drew.cell? ⟨g, 0 + k * 2 + t, none⟩).isSome = true ∧ w.drew.frozen? ⟨g, 0 + k * 2 + t, none⟩ = false) := fun t htl => ⟨hcell _ (by omega), hfree _⟩
  have s1 := Lib.hid hlen
  obtain ⟨W1, hW1⟩ : ∃ W1, W1 = w.drew.setCells g (0 + k * 2) news := ⟨_, rfl⟩
  have hh1 : W1.heap[g]? = some (.cells (setMany cur (0 + k * 2) news) 31 (0, 0)) := by rw [hW1]; exact heap_setCells g news _ w.drew cur _ _ hg
  have hcl := fun ty => run_clear_two g n (cap - n) W1 (fun j hj => by rw [cell_of_row W1 g _ _ _ _ hh1, Array.getElem?_eq_getElem (by rw [size_setMany]; omega)]; rfl) (fun j _ => by simp [World.frozen?, hh1]) ty
  have HD : Hid (Deleted w base g n cap k l (W1.setCells g (n * 2) [.int .i64 0, .int .i64 0])) := Lib.hid (by
    rw [hW1]
    exact hD.drewn)
  have hW : Hid (W1 = w.drew.setCells g (0 + k * 2) news) := hW1
  clear hR hg hb hm hz ht hD hnews hfl hcell hfree hread hW1 hh1 hlen
  have HN := Lib.hid hn; clear hn
  have hkc : k ≤ cap := by omega
  have hkc1 : k + 1 ≤ cap := by omega
  have hk0 : (0 : Int) ≤ (k : Int) + 1 := by omega
  go_enter Try.func11, Try.ntmps11
  go_wp2_with fail
  go_region_law (refine step_append_room rfl (.tmp 22) (.tmp 25) 26 rfl 31 i0 2 Try.underlying26 hi hz1 g 0 k cap (by simp [Act.eval, Act.put]) A (n - k) (cap - (k + 1)) news (by simp [Act.eval, Act.put]) s1.out hsrc.out s2.out (by omega) s3.out ?_; rw [← hW.out])
  go_wp2_with fail
  go_ret
  exact ⟨rfl, HD.out⟩
end Go.Proofs.Ytcgjebkinfokiaa

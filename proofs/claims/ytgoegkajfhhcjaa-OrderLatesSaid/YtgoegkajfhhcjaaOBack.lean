/- Package order: the walk back to a cycle: plain theory; slices.Index of a bool; slices.Reverse of what lies in a row's end. -/
import Derived.Test.YtgoegkajfhhcjaaSortW
import Derived.Test.YtgoegkajfhhcjaaRepO
import Derived.Test.YtgoegkajfhhcjaaTurned
import Derived.Sort.OwnSortedInts
namespace Go.Proofs.Ytgoegkajfhhcjaa
open Go.RowKit

variable {l : List Ar} {N i k m j f c : Nat} {out : List Nat} {ws : List Int} {x : Ar} {v : Nat → Nat} {pl : Nat → Int}
/-- To each node that is left an arc leads from one that is left. -/
theorem Stuck.back_ (h : Stuck l N out) (hok : ∀ x ∈ l, okA (N : Int) x = true) (hi : i < N) (hio : i ∉ out) : ∃ (k : Nat) (x : Ar) (f : Nat), l[k]? = some x ∧ x.2.1 = (i : Int) ∧ x.1 = (f : Int) ∧ f < N ∧ f ∉ out := by
  apply Classical.byContradiction
  intro hn
  refine h.2.2 i hi ⟨hio, fun x hx hxi => ?_⟩
  obtain ⟨k, hk⟩ := List.getElem?_of_mem hx
  have := okA_true.1 (hok x hx)
  refine ⟨x.1.toNat, by omega, ?_⟩
  apply Classical.byContradiction
  intro h2
  exact hn ⟨k, x, x.1.toNat, hk, hxi, by omega, by omega, h2⟩
theorem Stuck.left_ (h : Stuck l N out) : ∃ i, i < N ∧ i ∉ out := by
  apply Classical.byContradiction
  intro hn
  have h1 : ∀ i, i < N → i ∈ out := fun i hi => by
    apply Classical.byContradiction
    intro h2
    exact hn ⟨i, hi, h2⟩
  have h2 := nodup_le N (List.range N ++ []) (by simp [List.nodup_range]) (fun i hi => by simpa using hi)
  have h3 : (List.range N).length ≤ out.length := by
    clear h2 hn
    have : ∀ (a b : List Nat), a.Nodup → (∀ i ∈ a, i ∈ b) → a.length ≤ b.length := fun a => by
      induction a with
      | nil => intro b _ _; simp
      | cons y r ih =>
        intro b hn hb
        have hy := hb y (List.mem_cons_self ..)
        have hnd := List.nodup_cons.1 hn
        have h4 := ih (b.erase y) hnd.2 (fun i hi => by
          have hiy : i ≠ y := fun e => hnd.1 (e ▸ hi)
          exact (List.mem_erase_of_ne hiy).2 (hb i (List.mem_cons_of_mem _ hi)))
        have h5 := List.length_erase_of_mem hy
        have h6 : 0 < b.length := List.length_pos_of_mem hy
        simp
        omega
    exact this _ _ List.nodup_range (fun i hi => h1 i (by simpa using hi))
  have := h.2.1
  simp at h3
  omega

/-- The walk back: m arcs so far, v is where it has been, by the number of arcs; place tells of each node but the last when it was there. -/
structure Trail (l : List Ar) (N : Nat) (out : List Nat) (ws : List Int) (v : Nat → Nat) (m : Nat) (pl : Nat → Int) : Prop where
  len : ws.length = m
  ins : ∀ t, t ≤ m → v t < N ∧ v t ∉ out
  way : ∀ t, t ≤ m → ∀ s : Int, ∃ W, joinO l ((ws.drop t).reverse) (v m : Int) s = some ((v t : Int), W)
  at_ : ∀ t, t < m → pl (v t) = (t : Int)
  no : ∀ i, i < N → (∀ t, t < m → v t ≠ i) → pl i = -1
theorem Trail.start (hi : i < N) (hio : i ∉ out) : Trail l N out [] (fun _ => i) 0 (fun _ => -1) :=
  ⟨rfl, fun _ _ => ⟨hi, hio⟩, fun t _ s => ⟨s, by simp [joinO]⟩, fun t ht => by omega, fun _ _ _ => rfl⟩
/-- The last one is new: its place is told. -/
theorem Trail.short (h : Trail l N out ws v m pl) (hn : pl (v m) = -1) : m < N := by
  have h1 := nodup_le N ((List.range (m + 1)).map v) (by
    unfold List.Nodup
    rw [List.pairwise_map]
    refine List.nodup_range.imp_of_mem (fun {a b} ha hb hne e => ?_)
    simp at ha hb
    rcases Nat.lt_trichotomy a b with q | q | q
    · have h2 := h.at_ a (by omega)
      by_cases e2 : b = m
      · subst e2; rw [e, hn] at h2; omega
      · have h3 := h.at_ b (by omega); rw [e, h3] at h2; omega
    · exact hne q
    · have h2 := h.at_ b (by omega)
      by_cases e2 : a = m
      · subst e2; rw [← e, hn] at h2; omega
      · have h3 := h.at_ a (by omega); rw [← e, h3] at h2; omega) (fun i hi => by
    rw [List.mem_map] at hi
    obtain ⟨t, ht, rfl⟩ := hi
    exact (h.ins t (by simp at ht; omega)).1)
  simp at h1
  omega
/-- One arc more, back from the last node, whose place has been told. -/
theorem Trail.step (h : Trail l N out ws v m pl) (hn : pl (v m) = -1) (hx : l[k]? = some x) (h1 : x.2.1 = ((v m : Nat) : Int)) (h2 : x.1 = (f : Int)) (hf : f < N) (hfo : f ∉ out) :
    Trail l N out (ws ++ [(k : Int)]) (fun t => if t ≤ m then v t else f) (m + 1) (fun i => if i = v m then (m : Int) else pl i) := by
  have e0 : ∀ t, t ≤ m → (if t ≤ m then v t else f) = v t := fun t ht => if_pos ht
  have e1 : (if m + 1 ≤ m then v (m + 1) else f) = f := if_neg (by omega)
  refine ⟨by simp [h.len], fun t ht => ?_, fun t ht s => ?_, fun t ht => ?_, fun i hi hno => ?_⟩
  · by_cases e : t ≤ m
    · rw [e0 t e]; exact h.ins t e
    · rw [if_neg e]; exact ⟨hf, hfo⟩
  · show ∃ W, joinO l _ ((if m + 1 ≤ m then v (m + 1) else f : Nat) : Int) s = some (((if t ≤ m then v t else f : Nat) : Int), W)
    rw [e1]
    by_cases e : t ≤ m
    · rw [e0 t e, List.drop_append_of_le_length (by rw [h.len]; exact e), List.reverse_append]
      obtain ⟨W, hW⟩ := h.way t e (wrap64 (s + x.2.2))
      refine ⟨W, ?_⟩
      have ha : arcNo l (k : Int) = some x := by simp [arcNo, hx]
      simp only [List.reverse_singleton, List.singleton_append, joinO, ha, h2, if_true, h1]
      exact hW
    · have : t = m + 1 := by omega
      subst this
      rw [e1, List.drop_of_length_le (by simp [h.len])]
      exact ⟨s, by simp [joinO]⟩
  · rw [e0 t (by omega)]
    by_cases e : t = m
    · subst e; rw [if_pos rfl]
    · rw [if_neg (fun e2 => by have h3 := h.at_ t (by omega); rw [e2, hn] at h3; omega)]
      exact h.at_ t (by omega)
  · have h3 : i ≠ v m := fun e2 => by have := hno m (by omega); rw [e0 m (Nat.le_refl _)] at this; exact this e2.symm
    rw [if_neg h3]
    exact h.no i hi (fun t ht => by have := hno t (by omega); rw [e0 t (by omega)] at this; exact this)
/-- It has been where it is now: from there on it is a cycle. -/
theorem Trail.cycle (h : Trail l N out ws v m pl) (hn : pl (v m) ≠ -1) : ∃ t, t < m ∧ pl (v m) = (t : Int) ∧ ∃ W, joinO l ((ws.drop t).reverse) (v m : Int) 0 = some ((v m : Int), W) := by
  apply Classical.byContradiction
  intro hno
  refine hn (h.no _ (h.ins m (Nat.le_refl _)).1 (fun t ht e => ?_))
  refine hno ⟨t, ht, by rw [← e]; exact h.at_ t ht, ?_⟩
  obtain ⟨W, hW⟩ := h.way t (by omega) 0
  exact ⟨W, by rw [hW, e]⟩
/-- The other way round: the arcs to a node. -/
theorem mem_into {q : Int} : q ∈ outK (turned l) i ↔ ∃ (k : Nat) (x : Ar), q = (k : Int) ∧ l[k]? = some x ∧ x.2.1 = (i : Int) := by
  rw [mem_outK]
  constructor
  · rintro ⟨k, y, e, hy, hi⟩
    rw [turned, List.getElem?_map] at hy
    cases hx : l[k]? with
    | none => rw [hx] at hy; cases hy
    | some x => rw [hx] at hy; simp at hy; subst hy; exact ⟨k, x, e, hx, hi⟩
  · rintro ⟨k, x, e, hx, hi⟩
    exact ⟨k, (x.2.1, x.1, x.2.2), e, by rw [turned, List.getElem?_map, hx]; rfl, hi⟩

/-! ### slices.Reverse, slices.Index -/
variable {w w2 : World} {g off cap : Nat} {zs : List Int}
theorem reverse_at (h : ∀ (j : Nat) (x : Int), zs[j]? = some x → w.cell? ⟨g, off + j, none⟩ = some (.int .i64 x)) (hf : ∀ j, w.frozen? ⟨g, j, none⟩ = false) (hg : g < w.heap.size) (hbig : zs.length ≤ 100000) (cap : Nat) :
    Calls Try.prog 34 #[.slice (some ⟨g, off, none⟩) zs.length cap] w fun e w' => e = .returned (.tuple #[]) ∧ IsInts w'.heap.size w' (some ⟨g, off, none⟩) zs.length zs.reverse ∧ Mod (fun k => k = g) w w' := by
  have hH : Go.Sort.Holds (Value.int .i64) w g off zs.toArray := fun j hj => by
    have hj' : j < zs.length := by simpa using hj
    refine ⟨?_, hf _⟩
    rw [h j _ (List.getElem?_eq_getElem hj')]
    simp [hj']
  refine (Try.slices_Reverse_int g off cap zs w hH (by omega)).mono ?_
  rintro e w' ⟨rfl, n, rfl⟩
  refine ⟨rfl, ⟨by simp, .inr ⟨g, off, rfl, by simpa [Go.Sort.putRow, Go.Sort.mapBlock, Go.Sort.ahead] using hg, fun j x hx => ?_⟩⟩, ⟨rfl, rfl, rfl, by simp [Go.Sort.putRow, Go.Sort.mapBlock, Go.Sort.ahead], fun k _ hs => heap_mapBlock (Go.Sort.ahead w n) g k _ hs⟩⟩
  have hj : j < zs.reverse.length := (List.getElem?_eq_some_iff.1 hx).1
  rw [Go.Sort.cell?_putRow (Value.int .i64) (Go.Sort.ahead w n) g off zs.toArray zs.reverse.toArray hH (by simp) j (by simpa using hj)]
  obtain ⟨h1, rfl⟩ := List.getElem?_eq_some_iff.1 hx
  simp only [List.length_reverse] at hj
  simp [hj]

set_option maxHeartbeats 1000000 in
theorem index_any {b : Nat → Bool} (hr : w.rowIs g 4 N (fun i => .bool (b i))) (hN : N ≤ 1000000) (cap : Nat) :
    Calls Try.prog 22 #[.slice (some ⟨g, 0, none⟩) N cap, .bool true] w fun e w' => w' = w ∧ ((∃ i, i < N ∧ b i = true ∧ e = .returned (.int .i64 (i : Int))) ∨ ((∀ i, i < N → b i = false) ∧ e = .returned (.int .i64 (-1)))) := by
  have HR := Lib.hid hr
  have HB0 : Hid (∀ i, i < 0 → b i = false) := Lib.hid (fun i hi => by omega)
  clear hr
  go_enter Try.func22, Try.ntmps22
  go_wp2_with fail
  go_loop [8] (fun iv => ∃ k : Nat, iv = .int .i64 k ∧ k ≤ N ∧ Hid (∀ i, i < k → b i = false)) (fun iv => N - (intOf iv).toNat)
  case atStart => exact ⟨0, rfl, Nat.zero_le _, HB0⟩
  case round =>
    obtain ⟨k, rfl, hk, HB⟩ := hrel
    clear HB0
    by_cases hlt : k < N
    · have r0 := HR.out.cell hlt
      cases hb : b k with
      | true =>
        rw [hb] at r0
        have HBK := Lib.hid hb
        clear hb
        go_wp2_with fail
        go_ret
        exact ⟨rfl, .inl ⟨k, hlt, HBK.out, rfl⟩⟩
      | false =>
        rw [hb] at r0
        have HN : Hid (∀ i, i < k + 1 → b i = false) := Lib.hid (fun i hi => by
          by_cases e : i = k
          · subst e; exact hb
          · exact HB.out i (by omega))
        clear hb
        go_wp2_with fail
        go_round
        case rel => exact ⟨k + 1, by go_num, by omega, HN⟩
        case measure => simp [intOf]; omega
    · go_wp2_with fail
      go_ret
      exact ⟨rfl, .inr ⟨fun i hi => HB.out i (by omega), rfl⟩⟩
theorem index_none (a : Option Addr) (cap : Nat) (w : World) :
    Calls Try.prog 22 #[.slice a 0 cap, .bool true] w fun e w' => w' = w ∧ e = .returned (.int .i64 (-1)) := by
  go_enter Try.func22, Try.ntmps22
  go_wp2_with fail
  refine wp_loop_rounds 1 ?_
  rw [rounds_succ]
  go_wp2_with fail
  go_ret
  exact ⟨rfl, rfl⟩
end Go.Proofs.Ytgoegkajfhhcjaa

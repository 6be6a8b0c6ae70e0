/- What the law's own do has told so far: a captured variable, a row of numbers. -/
import Derived.Test.YtnepnfjghafccaaSteps
import Derived.Test.YtnepnfjghafccaaPAppend
import Derived.OwnWalk
namespace Go.Proofs.Ytnepnfjghafccaa
open Go.RowKit

def numsV (t : List Int) : List Value := t.map (Value.int .i64)
/-- The variable at block bt holds a slice of just these numbers, in a row of its own from block B on. -/
structure Told (B bt : Nat) (tv : Value) (t : List Int) (w : World) : Prop where
  cell : w.heap[bt]? = some (.cells #[tv] 35 (0, 0))
  row : w.ownsRow B 2 1 tv t.length (numsV t)
  lt : bt < B
  size : B ≤ w.heap.size
variable {B bt : Nat} {tv : Value} {t : List Int} {w w' w4 : World}
theorem Told.shape (h : Told B bt tv t w) : ∃ a cap, tv = .slice a t.length cap := by
  rcases h.row.2 with ⟨rfl, h2⟩ | ⟨g, cap, cur, rfl, _⟩
  · exact ⟨none, 0, by rw [h2]⟩
  · exact ⟨_, cap, rfl⟩
theorem Told.kept {S : Nat → Prop} (h : Told B bt tv t w) (hm : Mod S w w') (h1 : ¬ S bt) (h2 : ∀ b, B ≤ b → ¬ S b) : Told B bt tv t w' := by
  refine ⟨(hm.block bt (lt_of_block h.cell) h1).trans h.cell, ⟨h.row.1, ?_⟩, h.lt, Nat.le_trans h.size hm.size⟩
  rcases h.row.2 with h3 | ⟨g, cap, cur, rfl, hb, hg, r⟩
  · exact .inl h3
  · refine .inr ⟨g, cap, cur, rfl, hb, ?_, r⟩
    rw [hm.block g (Array.getElem?_eq_some_iff.1 hg).1 (h2 g hb)]
    exact hg
theorem Told.below (h : Told B bt tv t w) (hb : Below w.heap.size w w') : Told B bt tv t w' := h.kept (Mod.of_below (fun _ => False) hb) (fun h => h) (fun _ _ h => h)
theorem Told.drewN (h : Told B bt tv t w) (m : Nat) : Told B bt tv t (w.drewN m) := h.below (below_drewN (Below.refl _ _) m)
theorem Told.apart (h : Told B bt tv t w) : ∀ k, tv.ownBlock = some k → B ≤ k := fun k hk => (World.ownsRow.lt h.row k hk).1
/-- One number more. -/
theorem Told.push {x : Int} {g cap : Nat} {o : Obj} (h : Told B bt tv t w) (hown : w4.ownsRow B 2 1 (.slice (some ⟨g, 0, none⟩) (t.length + 1) cap) (t.length + 1) (numsV t ++ [.int .i64 x])) (hgrow : (w.alloc o).grownBy w4 tv.ownBlock) :
    Told B bt (.slice (some ⟨g, 0, none⟩) (t.length + 1) cap) (t ++ [x]) (w4.setCell ⟨bt, 0, none⟩ (.slice (some ⟨g, 0, none⟩) (t.length + 1) cap)) ∧
    Mod (fun b => b = bt ∨ tv.ownBlock = some b) w (w4.setCell ⟨bt, 0, none⟩ (.slice (some ⟨g, 0, none⟩) (t.length + 1) cap)) ∧ w4.cell? ⟨bt, 0, none⟩ = some tv ∧ w4.frozen? ⟨bt, 0, none⟩ = false := by
  have hlt := lt_of_block h.cell
  have hm : Mod (fun b => b = bt ∨ tv.ownBlock = some b) w w4 := ((Mod.refl _ w).alloc o).grown hgrow (fun k hk => .inr (.inr hk))
  have hc : w4.heap[bt]? = some (.cells #[tv] 35 (0, 0)) := by
    rw [hgrow.block bt (by simp; omega) (fun e => by have := h.apart bt e.symm; have := h.lt; omega), RowKit.Below.heap_alloc _ _ _ hlt]
    exact h.cell
  refine ⟨⟨?_, ?_, h.lt, ?_⟩, hm.setCell (p := ⟨bt, 0, none⟩) (.inr (.inl rfl)) _, cell_of_one hc, free_of_one hc⟩
  · exact one_setCell hc
  · have e : numsV (t ++ [x]) = numsV t ++ [.int .i64 x] := by simp [numsV]
    rw [e, List.length_append]
    refine ownsRow_setCell_other hown (fun e => ?_) _
    have h5 : B ≤ bt := (World.ownsRow.lt hown _ e).1
    have := h.lt
    omega
  · have := hm.size
    have := h.size
    simp [World.setCell]
    omega
theorem Told.owned (h : Told B bt tv t w) (o : Obj) : (w.alloc o).ownsRow B 2 1 tv t.length (numsV t) := h.row.alloc o

set_option maxHeartbeats 1000000 in
/-- The law's yes. -/
theorem yes_any (h : Told B bt tv t w) (ht : t.length ≤ 1000) (p : Bool) : Calls Try.prog 12 #[.bool p, .pointer (some ⟨bt, 0, none⟩)] w fun e w' =>
    e = .returned (.tuple #[]) ∧ (∃ tv', Told B bt tv' (t ++ [if p then 1 else 0]) w') ∧ Mod (fun b => b = bt ∨ tv.ownBlock = some b) w w' := by
  obtain ⟨i0, hi, hz0, hz1, hz2⟩ := info_parts infoI
  have HT := Lib.hid h
  obtain ⟨ta, tc, hv⟩ := h.shape
  subst hv
  have c0 := cell_of_one h.cell
  have hsz := h.size
  clear h
  cases p with
  | true =>
    go_enter Try.func12, Try.ntmps12
    go_wp2_with (at_builtin; refine wpList_append_fresh rfl (.tmp 4) (.tmp 5) 35 rfl B 2 i0 _ 1 8 Try.underlying35 hi hz0 hz1 hz2 (by decide) (.slice ta t.length tc) t.length (numsV t) rfl (HT.out.owned _) ⟨w.heap.size, 0, none⟩ 1 [.int .i64 1] rfl rfl (by intro j u hj; match j, hj with | 0, hj => simp at hj; subst hj; simp [Addr.add]) (by intro u hu; simp at hu; subst hu; rfl) (by unfold maxLen; omega) (by omega) (by simp; omega) ?_; intro g cap w4 hown hgrow hfr; obtain ⟨h1, h2, h3, h4⟩ := HT.out.push hown hgrow; have H1 := Lib.hid h1; have H2 := Lib.hid h2; clear h1 h2 hown hgrow hfr)
    go_end0
    exact ⟨rfl, ⟨_, H1.out⟩, H2.out⟩
  | false =>
    go_enter Try.func12, Try.ntmps12
    go_wp2_with (at_builtin; refine wpList_append_fresh rfl (.tmp 7) (.tmp 8) 35 rfl B 2 i0 _ 1 8 Try.underlying35 hi hz0 hz1 hz2 (by decide) (.slice ta t.length tc) t.length (numsV t) rfl (HT.out.owned _) ⟨w.heap.size, 0, none⟩ 1 [.int .i64 0] rfl rfl (by intro j u hj; match j, hj with | 0, hj => simp at hj; subst hj; simp [Addr.add]) (by intro u hu; simp at hu; subst hu; rfl) (by unfold maxLen; omega) (by omega) (by simp; omega) ?_; intro g cap w4 hown hgrow hfr; obtain ⟨h1, h2, h3, h4⟩ := HT.out.push hown hgrow; have H1 := Lib.hid h1; have H2 := Lib.hid h2; clear h1 h2 hown hgrow hfr)
    go_end0
    exact ⟨rfl, ⟨_, H1.out⟩, H2.out⟩

theorem nums_at {B : Nat} {a : Option Addr} {cap : Nat} (h : w.ownsRow B 2 1 (.slice a t.length cap) t.length (numsV t)) (hl : 0 < t.length) : ∃ g, a = some ⟨g, 0, none⟩ ∧ t.length ≤ cap ∧ cap ≤ maxLen ∧ ∀ k x, t[k]? = some x → w.cell? ⟨g, k, none⟩ = some (.int .i64 x) := by
  rcases h.2 with ⟨_, h0⟩ | ⟨g, cap', cur, hv, _, _, hc, hm, _⟩
  · omega
  · injection hv with e1 e2 e3
    subst e1 e3
    refine ⟨g, rfl, hc, hm, fun k x hk => ?_⟩
    have := World.ownsRow.cells h (g := g) rfl k (.int .i64 x) (by simp [numsV, hk])
    simpa [Addr.add_lit] using this

set_option maxHeartbeats 1000000 in
theorem equal_any {B C : Nat} {a b : Option Addr} {ca cb : Nat} (h1 : w.ownsRow B 2 1 (.slice a t.length ca) t.length (numsV t)) (h2 : w.ownsRow C 2 1 (.slice b t.length cb) t.length (numsV t)) (ht : t.length ≤ 1000) :
    Calls Try.prog 21 #[.slice a t.length ca, .slice b t.length cb] w fun e w' => e = .returned (.bool true) ∧ ∃ m, w' = w.drewN m := by
  have H1 := Lib.hid h1
  have H2 := Lib.hid h2
  clear h1 h2
  go_enter Try.func21, Try.ntmps21
  go_wp2_with fail
  go_loopw [13] (fun i wr => ∃ k m : Nat, i = .int .i64 k ∧ k ≤ t.length ∧ wr = w.drewN m) (fun i _ => t.length - (intOf i).toNat)
  case atStart => exact ⟨0, 0, rfl, Nat.zero_le _, rfl⟩
  case round =>
    obtain ⟨k, m, rfl, hk, rfl⟩ := hrel
    by_cases hlt : k < t.length
    · obtain ⟨x, hx⟩ : ∃ x, t[k]? = some x := ⟨_, List.getElem?_eq_getElem hlt⟩
      obtain ⟨g1, e1, hc1, hm1, f1⟩ := nums_at H1.out (by omega)
      obtain ⟨g2, e2, hc2, hm2, f2⟩ := nums_at H2.out (by omega)
      subst e1 e2
      have c1 := f1 k x hx
      have c2 := f2 k x hx
      clear f1 f2 hx
      unfold maxLen at hm1 hm2
      go_wp2_with fail
      go_quiet (fail)
      go_wp2_with fail
      go_roundw
      case rel => exact ⟨k + 1, _, by go_num, by omega, rfl⟩
      case measure => simp [intOf]; omega
    · go_wp2_with fail
      go_ret
      exact ⟨rfl, _, rfl⟩
theorem alloc_one {w : World} {b : Nat} {u : Value} {T : TypeId} (h : w.heap[b]? = some (.cells #[u] T (0, 0))) (o : Obj) : (w.alloc o).cell? ⟨b, 0, none⟩ = some u :=
  (World.cell?_alloc_past _ _ _ (lt_of_block h)).trans (cell_of_one h)
theorem news_one (w : World) (x : Value) (T : TypeId) : ∀ (j : Nat) (u : Value), [x][j]? = some u → (w.alloc (.cells #[x] T)).cell? ((⟨w.heap.size, 0, none⟩ : Addr).add j) = some u := by
  intro j u hj
  match j, hj with
  | 0, hj =>
    simp at hj
    subst hj
    rw [Addr.add_lit]
    exact cell_of_one (heap_alloc_new w _)
theorem news_at (w : World) (x : Value) (T : TypeId) (z : Nat) (hz : w.heap.size = z) : ∀ (j : Nat) (u : Value), [x][j]? = some u → (w.alloc (.cells #[x] T)).cell? ((⟨z, 0, none⟩ : Addr).add j) = some u := by
  subst hz
  exact news_one w x T
theorem one_int (x : Int) : ∀ u ∈ [Value.int .i64 x], u.oneCell' = true := by
  intro u hu
  simp at hu
  subst hu
  rfl
end Go.Proofs.Ytnepnfjghafccaa

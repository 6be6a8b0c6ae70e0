/- Package path: begun. -/
import Derived.Test.YtmmhdjibigopfaaRepeat
import Derived.Test.YtmmhdjibigopfaaPErr
namespace Go.Proofs.Ytmmhdjibigopfaa
open Go.RowKit

variable {w w2 wr : World} {base N g cap : Nat} {f f2 : Nat → Int} {v : Value}
theorem IntRow.set_ {k : Nat} (h : IntRow w base (.slice (some ⟨g, 0, none⟩) N cap) N f) (hk : k < N) (u : Int) : IntRow (w.setCell ⟨g, k, none⟩ (.int .i64 u)) base (.slice (some ⟨g, 0, none⟩) N cap) N (fun t => if t = k then u else f t) := by
  have := (World.ownsRow.stored h k (.int .i64 u)).1
  rw [rowF_set hk] at this
  exact this
theorem IntRow.congr (h : IntRow w base v N f) (e : ∀ i, i < N → f i = f2 i) : IntRow w base v N f2 := by
  unfold IntRow
  rw [← rowF_congr e]
  exact h
theorem IntRow.kept {S : Nat → Prop} (h : IntRow w base v N f) (hm : Mod S w w2) (hs : ∀ k, v.ownBlock = some k → ¬ S k) : IntRow w2 base v N f := owns_kept h hm hs
theorem IntRow.rebase {base' : Nat} (h : IntRow w base v N f) (hb : base' ≤ base) : IntRow w base' v N f := owns_rebase h hb
theorem IntRow.base_ (h : IntRow w base (.slice (some ⟨g, 0, none⟩) N cap) N f) : base ≤ g ∧ g < w.heap.size := World.ownsRow.lt h g rfl
/-- What is told at the start. -/
def far0 (s : Nat) : Nat → Option Int := fun i => if i = s then some 0 else none

/-- What begun has, ahead of its last stores. -/
structure BegW (w wr : World) (rs gf gb N : Nat) : Prop where
  below : Below w.heap.size w wr
  res : wr.heap[rs]? = some (.cells #[.slice none 0 0, .slice none 0 0] 31 (0, 0))
  ge : w.heap.size ≤ rs
  far : LongRow wr (rs + 1) (.slice (some ⟨gf, 0, none⟩) N N) N (fun _ => 1152921504606846976)
  by_ : IntRow wr (rs + 1) (.slice (some ⟨gb, 0, none⟩) N N) N (fun _ => -1)
  ne : gf ≠ gb
theorem BegW.alloc {rs gf gb : Nat} (h : BegW w wr rs gf gb N) (o : Obj) : BegW w (wr.alloc o) rs gf gb N :=
  ⟨h.below.alloc h.below.size _, (Below.heap_alloc _ _ _ (Array.getElem?_eq_some_iff.1 h.res).1).trans h.res, h.ge, h.far.below ((Below.refl _ _).alloc (Nat.le_refl _) _), h.by_.below ((Below.refl _ _).alloc (Nat.le_refl _) _), h.ne⟩
theorem valI_far0 (s t : Nat) : (if t = s then 0 else 1152921504606846976) = valI (far0 s) t := by
  by_cases e : t = s <;> simp [valI, far0, e]
theorem BegW.done {rs gf gb s : Nat} (h : BegW w wr rs gf gb N) (hs : s < N) (x y : Value) :
    let W := ((wr.setCell ⟨gf, s, none⟩ (.int .i64 0)).setCell ⟨rs, 0, none⟩ x).setCell ⟨rs, 1, none⟩ y
    W.heap[rs]? = some (.cells #[x, y] 31 (0, 0)) ∧ LongRow W w.heap.size (.slice (some ⟨gf, 0, none⟩) N N) N (valI (far0 s)) ∧ IntRow W w.heap.size (.slice (some ⟨gb, 0, none⟩) N N) N (fun _ => -1) ∧ Below w.heap.size w W := by
  intro W
  have h1 := h.far.base_
  have h2 := h.by_.base_
  have hge := h.ge
  have hne := h.ne
  have hm1 : Mod (fun k => k = gf) wr (wr.setCell ⟨gf, s, none⟩ (.int .i64 0)) := (Mod.refl (fun k => k = gf) wr).setCell (p := ⟨gf, s, none⟩) (.inr rfl) _
  have hm2 : Mod (fun k => k = rs) (wr.setCell ⟨gf, s, none⟩ (.int .i64 0)) W := ((Mod.refl (fun k => k = rs) _).setCell (p := ⟨rs, 0, none⟩) (.inr rfl) _).setCell (p := ⟨rs, 1, none⟩) (.inr rfl) _
  have hr := (hm1.block rs (Array.getElem?_eq_some_iff.1 h.res).1 (by omega)).trans h.res
  refine ⟨(tree_stored hr x y).1, ((h.far.set_ hs 0).congr (fun i _ => valI_far0 s i)).kept hm2 (fun k hk (e : k = rs) => by have e2 : gf = k := Option.some.inj hk; omega) |>.rebase (by omega), ((h.by_.kept hm1 (fun k hk (e : k = gf) => by have e2 : gb = k := Option.some.inj hk; omega)).kept hm2 (fun k hk (e : k = rs) => by have e2 : gb = k := Option.some.inj hk; omega)).rebase (by omega), ?_⟩
  refine ((Mod.of_below (fun k => k = gf ∨ k = rs) h.below).trans ((hm1.mono (fun _ _ hk => .inl hk)).trans (hm2.mono (fun _ _ hk => .inr hk)))).below (Nat.le_refl _) (fun k hk => by omega)
theorem BegW.make {w1 w2 : World} {gf gb : Nat} (h1 : LongRow w1 (w.heap.size + 2) (.slice (some ⟨gf, 0, none⟩) N N) N (fun _ => 1152921504606846976)) (hb1 : Below (w.heap.size + 2) ((w.alloc (.cells #[.slice none 0 0, .slice none 0 0] 31)).alloc (.cells #[.int .i64 1152921504606846976] 2)) w1)
    (h2 : IntRow w2 (w1.heap.size + 1) (.slice (some ⟨gb, 0, none⟩) N N) N (fun _ => -1)) (hb2 : Below (w1.heap.size + 1) (w1.alloc (.cells #[.int .i64 (-1)] 3)) w2) : BegW w w2 w.heap.size gf gb N := by
  have hs1 : w.heap.size + 2 ≤ w1.heap.size := by have := hb1.size; simp at this; omega
  have hb2' : Below w1.heap.size w1 w2 := ((Below.refl w1.heap.size w1).alloc (Nat.le_refl _) _).trans (hb2.mono (by omega))
  have hb1' : Below w.heap.size w w1 := (((Below.refl _ w).alloc (Nat.le_refl _) _).alloc (by simp) _).trans (hb1.mono (by omega))
  have b1 := h1.base_
  have b2 := h2.base_
  refine ⟨hb1'.trans (hb2'.mono (by omega)), ?_, Nat.le_refl _, (h1.below hb2').rebase (by omega), h2.rebase (by omega), by omega⟩
  rw [hb2'.block _ (by omega), hb1.block _ (by omega)]
  exact heap_alloc2_old _ _ _
theorem begun_res {rs gf gb : Nat} {o : Obj} (h0 : BegW w w2 rs gf gb N) (h : BegW w (w2.alloc o) rs gf gb N) : (w2.alloc o).cell? ⟨rs, 0, none⟩ = some (.slice none 0 0) ∧ (w2.alloc o).cell? ⟨rs, 1, none⟩ = some (.slice none 0 0) ∧ (∀ k, (w2.alloc o).frozen? ⟨rs, k, none⟩ = false) ∧ ¬ gf = w2.heap.size ∧ ¬ gf = rs ∧ ¬ rs = w2.heap.size := by
  have := h0.far.base_
  have hl := (Array.getElem?_eq_some_iff.1 h0.res).1
  exact ⟨by simp [World.cell?, h.res], by simp [World.cell?, h.res], fun k => by simp [World.frozen?, h.res], by omega, by omega, by omega⟩
theorem infoTreeB : (Try.prog.info? 31).map (fun i => i.size) = some 2 := by kernel_rfl

set_option maxHeartbeats 1000000 in
set_option maxRecDepth 100000 in
theorem begun_any (N s : Nat) (hs : s < N) (hN : N ≤ 1000) (w : World) :
    Calls Try.prog 28 #[.int .i64 (N : Int), .int .i64 (s : Int)] w fun e w' => ∃ gf gb, e = .returned (.agg #[.slice (some ⟨gf, 0, none⟩) N N, .slice (some ⟨gb, 0, none⟩) N N]) ∧
      LongRow w' w.heap.size (.slice (some ⟨gf, 0, none⟩) N N) N (valI (far0 s)) ∧ IntRow w' w.heap.size (.slice (some ⟨gb, 0, none⟩) N N) N (fun _ => -1) ∧ gf ≠ gb ∧ Below w.heap.size w w' := by
  have h1 : 1 ≤ N := by omega
  have hs1 : (0 : Int) ≤ (s : Int) := by omega
  have hs2 : (s : Int) < (N : Int) := by omega
  obtain ⟨big, hbig⟩ : ∃ b : Int, b = 1152921504606846976 := ⟨_, rfl⟩
  have HBIG := Lib.hid hbig; clear hbig
  go_enter Try.func28, Try.ntmps28
  go_wp2_with (first
    | (go_at_call 37; refine (repLongs 1152921504606846976 N _ _ h1 hN (by simp)).mono ?_; rintro e w1 ⟨gf, rfl, hr1, hb1⟩; have HR1 := Lib.hid hr1; have HB1 := Lib.hid hb1; clear hr1 hb1)
    | (go_at_call 38; refine (repInts (-1) N _ _ h1 hN (by simp)).mono ?_; rintro e w2 ⟨gb, rfl, hr2, hb2⟩; have HB0 := Lib.hid (BegW.make (by simpa using HR1.out) (by simpa using HB1.out) (by simpa using hr2) (by simpa using hb2)); have HW2 := Lib.hid (HB0.out.alloc (.cells #[.slice (some ⟨gf, 0, none⟩) N N, .slice (some ⟨gb, 0, none⟩) N N] 31)); have q1 := HW2.out.far.cell hs; have q2 := HW2.out.far.frozen s; obtain ⟨q4, q5, q6, q7, q8, q9⟩ := begun_res HB0.out HW2.out; clear hr2 hb2))
  obtain ⟨g1, g2, g3, g4⟩ := HW2.out.done hs (.slice (some ⟨gf, 0, none⟩) N N) (.slice (some ⟨gb, 0, none⟩) N N)
  exact bodyPost_ret (v := .agg #[.slice (some ⟨gf, 0, none⟩) N N, .slice (some ⟨gb, 0, none⟩) N N]) (results_cell_row rfl _ _ w.heap.size 31 _ (0, 0) _ rfl g1 Try.underlying31 rfl infoTreeB) rfl ⟨gf, gb, rfl, g2, g3, HW2.out.ne, g4⟩
end Go.Proofs.Ytmmhdjibigopfaa

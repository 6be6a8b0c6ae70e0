/- Joined: WFill, Que. -/
import Derived.Test.YtbenmebmfihleaaMLift
import Derived.Deep.RegionHeld3
import Derived.StillTailTactics
section
/- A node is full from now on. -/
namespace Go.Proofs.Ytbenmebmfihleaa
open Go.RowKit

variable {w wr w2 w4 : World} {E : Env} {fl st : Nat → Int} {hi nx hi2 nx2 : Nat → Nat} {mn mn2 : Nat → Int} {fv : Nat → Value} {Q : Nat → List Nat} {top : Int} {N g c : Nat}
theorem infoIntF : (Try.prog.info? 3).map (fun i => (i.zero, i.size, i.bytes)) = some (some (.int .i64 0), 1, 8) := by kernel_rfl
theorem fill_no (H : Wk E fl st hi nx mn fv Q top wr) (u : Nat) (h : u = E.s ∨ u = E.t) :
    Calls Try.prog 48 #[.pointer (some ⟨E.p, 0, none⟩), .int .i64 (u : Int)] wr fun e w' => e = .returned (.tuple #[]) ∧ Below wr.heap.size wr w' := by
  obtain ⟨_, _, a2, a3, _⟩ := H.cellW
  by_cases h1 : u = E.s
  · have hd1 : ((u : Int) != (E.s : Int)) = false := by simp [h1]
    clear h h1
    go_enter Try.func48, Try.ntmps48
    go_wp2_with fail
    go_end0
    exact ⟨rfl, Below.refl _ _⟩
  · have hd1 : ((u : Int) != (E.s : Int)) = true := by simp; omega
    have hd2 : ((u : Int) != (E.t : Int)) = false := by simp; omega
    clear h h1
    go_enter Try.func48, Try.ntmps48
    go_wp2_with fail
    go_end0
    exact ⟨rfl, Below.refl _ _⟩
/-- Blocks from D on are as they were, but the row's. -/
def Aside (E : Env) (w w2 : World) (v : Value) : Prop := ∀ b, E.D ≤ b → b < w.heap.size → v.ownBlock ≠ some b → w2.heap[b]? = w.heap[b]?
/-- What the region reads that it does not write. -/
def FillS (E : Env) (u k : Nat) (W : World) : Prop := W.cell? ⟨E.p, 10, none⟩ = some (.slice (some ⟨E.ub, 0, none⟩) (2 * E.N) (2 * E.N)) ∧ W.cell? ⟨E.p, 7, none⟩ = some (.slice (some ⟨E.hb, 0, none⟩) E.N E.N) ∧ W.cell? ⟨E.hb, u, none⟩ = some (.int .i64 (k : Int)) ∧ (E.Ok ∧ E.D ≤ W.heap.size)
theorem FillS.mod {S : Nat → Prop} {u k : Nat} (h : FillS E u k w) (hm : Mod S w w2) (h1 : ¬ S E.p) (h2 : ¬ S E.hb) : FillS E u k w2 := by
  obtain ⟨a, b, c, o, d⟩ := h
  have d1 := o.dp
  have d2 := o.dh
  exact ⟨(hm.cell (p := ⟨E.p, 10, none⟩) (Nat.lt_of_lt_of_le d1 d) h1).trans a, (hm.cell (p := ⟨E.p, 7, none⟩) (Nat.lt_of_lt_of_le d1 d) h1).trans b, (hm.cell (p := ⟨E.hb, u, none⟩) (Nat.lt_of_lt_of_le d2 d) h2).trans c, o, Nat.le_trans d hm.size⟩
set_option maxHeartbeats 4000000 in
set_option maxRecDepth 100000 in
theorem fill_yes (H : Wk E fl st hi nx mn fv Q top wr) (u : Nat) (hu : u < E.N) (hb : hi u < 2 * E.N) (_hN : E.N ≤ 1000) (h1 : u ≠ E.s) (h2 : u ≠ E.t) (hq : (Q (hi u)).length ≤ 1000) :
    Calls Try.prog 48 #[.pointer (some ⟨E.p, 0, none⟩), .int .i64 (u : Int)] wr fun e w' => e = .returned (.tuple #[]) ∧ Below E.C wr w' ∧
      (∃ fv2, Wk E fl st hi nx mn fv2 (fun j => if j = hi u then Q (hi u) ++ [u] else Q j) (max top (hi u : Int)) w') ∧ Aside E wr w' (fv (hi u)) := by
  obtain ⟨i0, hi0, hz0, hz1, hz2⟩ := info_parts infoIntF
  have hd1 : ((u : Int) != (E.s : Int)) = true := by simp; omega
  have hd2 : ((u : Int) != (E.t : Int)) = true := by simp; omega
  clear h1 h2
  obtain ⟨k, hk⟩ : ∃ k, hi u = k := ⟨_, rfl⟩
  have HK := Lib.hid hk
  rw [hk] at hb hq ⊢
  have hbi : (k : Int) < 2 * (E.N : Int) := by omega
  obtain ⟨n, hn⟩ : ∃ n, (Q k).length = n := ⟨_, rfl⟩
  rw [hn] at hq
  obtain ⟨va, vc, hv⟩ := owns_shape (H.rows k hb)
  rw [hn] at hv
  have H1 := H.later (((Below.refl wr.heap.size wr).drew).alloc (Nat.le_refl _) (.cells #[.int .i64 (u : Int)] 3))
  obtain ⟨_, _, a2, a3, _, _, _, a7, _, _, a10, a11, _⟩ := H.cellW
  have r0 := H.high.cell hu
  rw [hk] at r0
  have r1 := H.full.cell hb
  have s1 := H1.full.cell hb
  rw [hv] at r1 s1
  have s2 : (wr.alloc (.cells #[.int .i64 (u : Int)] 3)).cell? ⟨E.ub, k, none⟩ = some (.slice va n vc) := s1
  have HSZ := Lib.hid H1.size
  have HO1 := Lib.hid H.ord
  have HVK := Lib.hid hv
  have HF0 : Hid (FillS E u k wr.drew) := Lib.hid ⟨a10, a7, r0, H.ord, H.size⟩
  have HO : Hid ((wr.drew.alloc (.cells #[.int .i64 (u : Int)] 3)).ownsRow E.D 3 1 (.slice va n vc) n (nodeV (Q k))) := Lib.hid (by have := H1.rows k hb; rw [hv, hn] at this; exact this)
  have HPU : Hid (∀ G cp w4, w4.ownsRow E.D 3 1 (.slice (some ⟨G, 0, none⟩) (n + 1) cp) (n + 1) (nodeV (Q k) ++ [.int .i64 (u : Int)]) → (wr.drew.alloc (.cells #[.int .i64 (u : Int)] 3)).grownBy w4 (Value.slice va n vc).ownBlock → ((Value.slice va n vc).ownBlock = some G ∨ G = (wr.drew.alloc (.cells #[.int .i64 (u : Int)] 3)).heap.size) →
      Wk E fl st hi nx mn (fun j => if j = k then .slice (some ⟨G, 0, none⟩) (n + 1) cp else fv j) (fun j => if j = k then Q k ++ [u] else Q j) top (w4.setCell ⟨E.ub, k, none⟩ (.slice (some ⟨G, 0, none⟩) (n + 1) cp)) ∧
      w4.cell? ⟨E.ub, k, none⟩ = some (.slice va n vc) ∧ w4.frozen? ⟨E.ub, k, none⟩ = false ∧ FillS E u k w4 ∧ Below E.C wr w4 ∧ Aside E wr w4 (.slice va n vc)) := Lib.hid (fun G cp w4 hown hgrow hfr => by
    have o := H.ord
    have hlt := World.ownsRow.lt (H1.rows k hb)
    rw [hv] at hlt
    have hfx : ∀ b, b < E.D → ¬ (Value.slice va n vc).ownBlock = some b := fun b h1 h2 => by have := (hlt b h2).1; omega
    subst hn
    rw [← hv] at hgrow hfr ⊢
    obtain ⟨p1, p2, p3⟩ := H1.pushQ hb hown hgrow hfr
    rw [hv] at hgrow
    have hsz := H1.size
    refine ⟨p1, p2, p3, HF0.out.mod (((Mod.refl (fun b => (Value.slice va (Q k).length vc).ownBlock = some b) _).alloc _).grown hgrow (fun b hb2 => .inr hb2)) (hfx _ o.dp) (hfx _ o.dh), ?_, fun b hb1 hb2 hb3 => (hgrow.block b (by simp; omega) (fun e => by rw [hv] at hb3; exact hb3 e.symm)).trans (RowKit.Below.heap_alloc wr.drew _ b hb2)⟩
    exact (((Below.refl E.C wr).drew).alloc (by have := H.size; have := o.cp; have := o.dp; exact Nat.le_trans (by omega : E.C ≤ E.D) H.size) _).grown hgrow (Nat.le_trans (by have := o.cp; have := o.dp; omega) hsz) (fun b hb2 => by have := (hlt b hb2).1; have := o.cp; have := o.dp; omega))
  clear H H1 hn hv hk
  go_enter Try.func48, Try.ntmps48
  go_wp2_with fail
  refine wp_region_held_drew (S := FillS E u k) (by kernel_rfl) HF0.out (fun hHeld => ?_)
  refine wpAnyH_take (i := 0) (v := ?_) rfl (by kernel_rfl) (by kernel_rfl) (by kernel_rfl) (fun _ _ _ h => h) (Or.inl ⟨by rfl, ?_⟩) hHeld ?_
  rotate_left
  · intro W0 hW; obtain ⟨hW1, hW2, hW3, hW4⟩ := hW; go_simp; (try with_reducible rfl)
  try simp only [Act.put, List.setIfInBounds_toArray, List.set_cons_zero, List.set_cons_succ, List.getElem_toArray, List.getElem_cons_zero]
  refine wpAnyH_take (i := 1) (v := ?_) rfl (by kernel_rfl) (by kernel_rfl) (by kernel_rfl) (fun _ _ _ h => h) (Or.inl ⟨by rfl, ?_⟩) hHeld ?_
  rotate_left
  · intro W0 hW; obtain ⟨hW1, hW2, hW3, hW4⟩ := hW; go_simp; (try with_reducible rfl)
  try simp only [Act.put, List.setIfInBounds_toArray, List.set_cons_zero, List.set_cons_succ, List.getElem_toArray, List.getElem_cons_zero, List.getElem_cons_succ]
  refine wpAnyH_take (i := 2) (v := ?_) rfl (by kernel_rfl) (by kernel_rfl) (by kernel_rfl) (fun _ _ _ h => h) (Or.inl ⟨by rfl, ?_⟩) hHeld ?_
  rotate_left
  · intro W0 hW; obtain ⟨hW1, hW2, hW3, hW4⟩ := hW; go_simp; (try with_reducible rfl)
  try simp only [Act.put, List.setIfInBounds_toArray, List.set_cons_zero, List.set_cons_succ, List.getElem_toArray, List.getElem_cons_zero, List.getElem_cons_succ]
  refine wpAnyH_take (i := 3) (v := ?_) rfl (by kernel_rfl) (by kernel_rfl) (by kernel_rfl) (fun _ _ _ h => h) (Or.inl ⟨by rfl, ?_⟩) hHeld ?_
  rotate_left
  · intro W0 hW; obtain ⟨hW1, hW2, hW3, hW4⟩ := hW; go_simp; (try with_reducible rfl)
  try simp only [Act.put, List.setIfInBounds_toArray, List.set_cons_zero, List.set_cons_succ, List.getElem_toArray, List.getElem_cons_zero, List.getElem_cons_succ]
  refine wpAnyH_take (i := 4) (v := ?_) rfl (by kernel_rfl) (by kernel_rfl) (by kernel_rfl) (fun _ _ _ h => h) (Or.inl ⟨by rfl, ?_⟩) hHeld ?_
  rotate_left
  · intro W0 hW; obtain ⟨hW1, hW2, hW3, hW4⟩ := hW; go_simp; (try with_reducible rfl)
  try simp only [Act.put, List.setIfInBounds_toArray, List.set_cons_zero, List.set_cons_succ, List.getElem_toArray, List.getElem_cons_zero, List.getElem_cons_succ]
  refine wpAnyH_take (i := 5) (v := ?_) rfl (by kernel_rfl) (by kernel_rfl) (by kernel_rfl) (fun _ _ _ h => h) (Or.inl ⟨by rfl, ?_⟩) hHeld ?_
  rotate_left
  · intro W0 hW; obtain ⟨hW1, hW2, hW3, hW4⟩ := hW; go_simp; (try with_reducible rfl)
  try simp only [Act.put, List.setIfInBounds_toArray, List.set_cons_zero, List.set_cons_succ, List.getElem_toArray, List.getElem_cons_zero, List.getElem_cons_succ]
  refine wpAnyH_take (i := 6) (v := ?_) rfl (by kernel_rfl) (by kernel_rfl) (by kernel_rfl) (fun _ _ _ h => h) (Or.inl ⟨by rfl, ?_⟩) hHeld ?_
  rotate_left
  · intro W0 hW; obtain ⟨hW1, hW2, hW3, hW4⟩ := hW; go_simp; (try with_reducible rfl)
  try simp only [Act.put, List.setIfInBounds_toArray, List.set_cons_zero, List.set_cons_succ, List.getElem_toArray, List.getElem_cons_zero, List.getElem_cons_succ]
  refine wpAnyH_take (i := 7) (v := ?_) rfl (by kernel_rfl) (by kernel_rfl) (by kernel_rfl) (fun _ _ _ h => h) (Or.inl ⟨by rfl, ?_⟩) hHeld ?_
  rotate_left
  · intro W0 hW; obtain ⟨hW1, hW2, hW3, hW4⟩ := hW; go_simp; (try with_reducible rfl)
  try simp only [Act.put, List.setIfInBounds_toArray, List.set_cons_zero, List.set_cons_succ, List.getElem_toArray, List.getElem_cons_zero, List.getElem_cons_succ]
  refine wpAnyH_take (i := 8) (v := ?_) rfl (by kernel_rfl) (by kernel_rfl) (by kernel_rfl) (fun _ _ _ h => h) (Or.inl ⟨by rfl, ?_⟩) hHeld ?_
  rotate_left
  · intro W0 hW; obtain ⟨hW1, hW2, hW3, hW4⟩ := hW; go_simp; (try with_reducible rfl)
  try simp only [Act.put, List.setIfInBounds_toArray, List.set_cons_zero, List.set_cons_succ, List.getElem_toArray, List.getElem_cons_zero, List.getElem_cons_succ]
  refine wpAnyH_take (i := 9) (v := ?_) rfl (by kernel_rfl) (by kernel_rfl) (by kernel_rfl) (fun _ _ _ h => h) (Or.inl ⟨by rfl, ?_⟩) hHeld ?_
  rotate_left
  · intro W0 hW; obtain ⟨hW1, hW2, hW3, hW4⟩ := hW; go_simp; (try with_reducible rfl)
  try simp only [Act.put, List.setIfInBounds_toArray, List.set_cons_zero, List.set_cons_succ, List.getElem_toArray, List.getElem_cons_zero, List.getElem_cons_succ]
  refine wpAnyH_take (i := 10) (v := ?_) rfl (by kernel_rfl) (by kernel_rfl) (by kernel_rfl) (fun _ _ _ h => h) (Or.inl ⟨by rfl, ?_⟩) hHeld ?_
  rotate_left
  · intro W0 hW; obtain ⟨hW1, hW2, hW3, hW4⟩ := hW; go_simp; (try with_reducible rfl)
  try simp only [Act.put, List.setIfInBounds_toArray, List.set_cons_zero, List.set_cons_succ, List.getElem_toArray, List.getElem_cons_zero, List.getElem_cons_succ]
  refine wpAnyH_take (i := 11) (v := ?_) rfl (by kernel_rfl) (by kernel_rfl) (by kernel_rfl) (fun _ _ _ h => h) (Or.inl ⟨by rfl, ?_⟩) hHeld ?_
  rotate_left
  · intro W0 hW; obtain ⟨hW1, hW2, hW3, hW4⟩ := hW; go_simp; (try with_reducible rfl)
  try simp only [Act.put, List.setIfInBounds_toArray, List.set_cons_zero, List.set_cons_succ, List.getElem_toArray, List.getElem_cons_zero, List.getElem_cons_succ]
  refine wpAnyH_take (i := 12) (v := ?_) rfl (by kernel_rfl) (by kernel_rfl) (by kernel_rfl) (fun _ _ _ h => h) (Or.inl ⟨by rfl, ?_⟩) hHeld ?_
  rotate_left
  · intro W0 hW; obtain ⟨hW1, hW2, hW3, hW4⟩ := hW; go_simp; (try with_reducible rfl)
  try simp only [Act.put, List.setIfInBounds_toArray, List.set_cons_zero, List.set_cons_succ, List.getElem_toArray, List.getElem_cons_zero, List.getElem_cons_succ]
  refine wpAnyH_take (i := 13) (v := ?_) rfl (by kernel_rfl) (by kernel_rfl) (by kernel_rfl) (fun _ _ _ h => h) (Or.inl ⟨by rfl, ?_⟩) hHeld ?_
  rotate_left
  · intro W0 hW; obtain ⟨hW1, hW2, hW3, hW4⟩ := hW; go_simp; (try with_reducible rfl)
  try simp only [Act.put, List.setIfInBounds_toArray, List.set_cons_zero, List.set_cons_succ, List.getElem_toArray, List.getElem_cons_zero, List.getElem_cons_succ]
  refine wpAnyH_take (i := 14) (v := ?_) rfl (by kernel_rfl) (by kernel_rfl) (by kernel_rfl) (fun _ _ _ h => h) (Or.inl ⟨by rfl, ?_⟩) hHeld ?_
  rotate_left
  · intro W0 hW; obtain ⟨hW1, hW2, hW3, hW4⟩ := hW; go_simp; (try with_reducible rfl)
  try simp only [Act.put, List.setIfInBounds_toArray, List.set_cons_zero, List.set_cons_succ, List.getElem_toArray, List.getElem_cons_zero, List.getElem_cons_succ]
  refine wpAnyH_take (i := 15) (v := ?_) rfl (by kernel_rfl) (by kernel_rfl) (by kernel_rfl) (fun _ _ _ h => h) (Or.inl ⟨by rfl, ?_⟩) hHeld ?_
  rotate_left
  · intro W0 hW; obtain ⟨hW1, hW2, hW3, hW4⟩ := hW; go_simp; (try with_reducible rfl)
  try simp only [Act.put, List.setIfInBounds_toArray, List.set_cons_zero, List.set_cons_succ, List.getElem_toArray, List.getElem_cons_zero, List.getElem_cons_succ]
  refine wpAnyH_take (i := 16) (v := ?_) rfl (by kernel_rfl) (by kernel_rfl) (by kernel_rfl) (fun _ _ _ h => h) (Or.inl ⟨by rfl, ?_⟩) hHeld ?_
  rotate_left
  · intro W0 hW; obtain ⟨hW1, hW2, hW3, hW4⟩ := hW; go_simp; (try with_reducible rfl)
  try simp only [Act.put, List.setIfInBounds_toArray, List.set_cons_zero, List.set_cons_succ, List.getElem_toArray, List.getElem_cons_zero, List.getElem_cons_succ]
  refine wpAnyH_take (i := 17) (v := ?_) rfl (by kernel_rfl) (by kernel_rfl) (by kernel_rfl) (fun _ _ _ h => h) (Or.inl ⟨by rfl, ?_⟩) hHeld ?_
  rotate_left
  · intro W0 hW; obtain ⟨hW1, hW2, hW3, hW4⟩ := hW; go_simp; (try with_reducible rfl)
  try simp only [Act.put, List.setIfInBounds_toArray, List.set_cons_zero, List.set_cons_succ, List.getElem_toArray, List.getElem_cons_zero, List.getElem_cons_succ]
  refine wpAnyH_take (i := 18) (v := ?_) rfl (by kernel_rfl) (by kernel_rfl) (by kernel_rfl) (fun _ _ _ h => h) (Or.inl ⟨by rfl, ?_⟩) hHeld ?_
  rotate_left
  · intro W0 hW; obtain ⟨hW1, hW2, hW3, hW4⟩ := hW; go_simp; (try with_reducible rfl)
  try simp only [Act.put, List.setIfInBounds_toArray, List.set_cons_zero, List.set_cons_succ, List.getElem_toArray, List.getElem_cons_zero, List.getElem_cons_succ]
  refine wpAnyH_take (i := 19) (v := ?_) rfl (by kernel_rfl) (by kernel_rfl) (by kernel_rfl) (fun _ _ _ h => h) (Or.inl ⟨by rfl, ?_⟩) hHeld ?_
  rotate_left
  · intro W0 hW; obtain ⟨hW1, hW2, hW3, hW4⟩ := hW; go_simp; (try with_reducible rfl)
  try simp only [Act.put, List.setIfInBounds_toArray, List.set_cons_zero, List.set_cons_succ, List.getElem_toArray, List.getElem_cons_zero, List.getElem_cons_succ]
  refine wpAnyH_take (i := 20) (v := ?_) rfl (by kernel_rfl) (by kernel_rfl) (by kernel_rfl) (fun _ _ _ h => h) (Or.inl ⟨by rfl, ?_⟩) hHeld ?_
  rotate_left
  · intro W0 hW; obtain ⟨hW1, hW2, hW3, hW4⟩ := hW; go_simp; (try with_reducible rfl)
  try simp only [Act.put, List.setIfInBounds_toArray, List.set_cons_zero, List.set_cons_succ, List.getElem_toArray, List.getElem_cons_zero, List.getElem_cons_succ]
  refine wpAnyH_take (i := 21) (v := ?_) rfl (by kernel_rfl) (by kernel_rfl) (by kernel_rfl) (fun _ _ _ h => h) (Or.inl ⟨by rfl, ?_⟩) hHeld ?_
  rotate_left
  · intro W0 hW; obtain ⟨hW1, hW2, hW3, hW4⟩ := hW; go_simp; (try with_reducible rfl)
  try simp only [Act.put, List.setIfInBounds_toArray, List.set_cons_zero, List.set_cons_succ, List.getElem_toArray, List.getElem_cons_zero, List.getElem_cons_succ]
  refine wpAnyH_take (i := 22) (v := ?_) rfl (by kernel_rfl) (by kernel_rfl) (by kernel_rfl) (fun _ _ _ h => h) (Or.inl ⟨by rfl, ?_⟩) hHeld ?_
  rotate_left
  · intro W0 hW; obtain ⟨hW1, hW2, hW3, hW4⟩ := hW; go_simp; (try with_reducible rfl)
  try simp only [Act.put, List.setIfInBounds_toArray, List.set_cons_zero, List.set_cons_succ, List.getElem_toArray, List.getElem_cons_zero, List.getElem_cons_succ]
  refine wpAnyH_take (i := 24) (v := ?_) rfl (by kernel_rfl) (by kernel_rfl) (by kernel_rfl) (fun _ _ _ h => h) (Or.inl ⟨by rfl, ?_⟩) hHeld ?_
  rotate_left
  · intro W0 hW; obtain ⟨hW1, hW2, hW3, hW4⟩ := hW; go_simp; (try with_reducible rfl)
  try simp only [Act.put, List.setIfInBounds_toArray, List.set_cons_zero, List.set_cons_succ, List.getElem_toArray, List.getElem_cons_zero, List.getElem_cons_succ]
  refine wpAnyH_ready (rs := [23, 25]) (by kernel_rfl) (by simp) ?_
  refine AllReadyH.cons rfl (fun K hK => ?_) (AllReadyH.cons rfl (fun K hK => ?_) AllReadyH.nil)
  · go_simp
    refine hK.out _ _ ?_ (fun hHeld => ?_)
    · exact hHeld
    clear hK K
    try simp only [Act.put, List.setIfInBounds_toArray, List.set_cons_zero, List.set_cons_succ, List.getElem_toArray, List.getElem_cons_zero, List.getElem_cons_succ]
    refine wpAnyH_ready (rs := [25]) (by kernel_rfl) (by simp) ?_
    refine AllReadyH.cons rfl (fun K hK => ?_) AllReadyH.nil
    go_simp
    refine hK.out _ _ ?_ (fun hHeld => ?_)
    · exact hHeld.mod ((Mod.refl (fun _ => False) _).alloc _) (fun h => h) (fun h => h)
    clear hK K
    try simp only [Act.put, List.setIfInBounds_toArray, List.set_cons_zero, List.set_cons_succ, List.getElem_toArray, List.getElem_cons_zero, List.getElem_cons_succ]
    refine wpAnyH_ready (rs := [26]) (by kernel_rfl) (by simp) ?_
    refine AllReadyH.cons rfl (fun K hK => ?_) AllReadyH.nil
    refine step_append_fresh rfl (.tmp 41) (.tmp 43) 61 rfl E.D 3 i0 _ 1 8 Try.underlying61 hi0 hz0 hz1 hz2 (by decide) (.slice va n vc) n (nodeV (Q k)) rfl HO.out ⟨wr.heap.size, 0, none⟩ 1 [.int .i64 (u : Int)] rfl rfl (news_at _ _ _ _ rfl) (one_int _) (by unfold maxLen; omega) (by omega) HSZ.out ?_
    intro G cp w4 hown hgrow hfr
    obtain ⟨hpq, r4, f4, x4, hB4, has⟩ := HPU.out G cp w4 hown hgrow hfr
    have HAS := Lib.hid has
    clear hown hgrow hfr has
    refine hK.out _ _ ?_ (fun hHeld => ?_)
    · exact x4
    clear hK K
    try simp only [Act.put, List.setIfInBounds_toArray, List.set_cons_zero, List.set_cons_succ, List.getElem_toArray, List.getElem_cons_zero, List.getElem_cons_succ]
    refine wpAnyH_take (i := 27) (v := ?_) rfl (by kernel_rfl) (by kernel_rfl) (by kernel_rfl) (fun _ _ _ h => h) (Or.inl ⟨by rfl, ?_⟩) hHeld ?_
    rotate_left
    · intro W0 hW; obtain ⟨hW1, hW2, hW3, hW4⟩ := hW; go_simp; (try with_reducible rfl)
    try simp only [Act.put, List.setIfInBounds_toArray, List.set_cons_zero, List.set_cons_succ, List.getElem_toArray, List.getElem_cons_zero, List.getElem_cons_succ]
    refine wpAnyH_ready (rs := [28]) (by kernel_rfl) (by simp) ?_
    refine AllReadyH.cons rfl (fun K hK => ?_) AllReadyH.nil
    go_simp
    refine hK.out _ _ ?_ (fun hHeld => ?_)
    · exact x4.mod ((Mod.refl (fun b => b = E.ub) _).setCell (p := ⟨E.ub, k, none⟩) (.inr rfl) _) HO1.out.pu HO1.out.hu
    clear hK K
    try simp only [Act.put, List.setIfInBounds_toArray, List.set_cons_zero, List.set_cons_succ, List.getElem_toArray, List.getElem_cons_zero, List.getElem_cons_succ]
    refine wpAnyH_done (by kernel_rfl) ?_ _
    clear hHeld
    obtain ⟨_, _, _, _, _, _, _, x7, _, _, _, x11, x12⟩ := hpq.cellW
    have x0 := hpq.high.cell hu
    rw [HK.out] at x0
    by_cases hmx : top < (k : Int)
    · have HP := Lib.hid (hpq.setTop (k : Int)).drew
      have HB : Hid (Below E.C wr ((w4.setCell ⟨E.ub, k, none⟩ (.slice (some ⟨G, 0, none⟩) (n + 1) cp)).setCell ⟨E.p, 11, none⟩ (.int .i64 (k : Int))).drew) := Lib.hid ((hB4.setCell (p := ⟨E.ub, k, none⟩) HO1.out.cu _).setCell (p := ⟨E.p, 11, none⟩) HO1.out.cp _).drew
      have HMX : Hid (max top (k : Int) = (k : Int)) := Lib.hid (by omega)
      clear hpq hB4
      go_wp2_with fail
      go_region
      go_wp2_with fail
      go_end0
      exact ⟨rfl, HB.out, ⟨_, by rw [HMX.out]; exact HP.out⟩, fun b h1 h2 h3 => ((heap_setCell_other _ _ _ _ (fun e => by have h4 : b = E.p := e; have := HO1.out.dp; omega)).trans (heap_setCell_other _ _ _ _ (fun e => by have h4 : b = E.ub := e; have := HO1.out.du; omega))).trans (HAS.out b h1 h2 (by rw [HVK.out] at h3; exact h3))⟩
    · have HP := Lib.hid (hpq.setTop top).drew
      have HB : Hid (Below E.C wr ((w4.setCell ⟨E.ub, k, none⟩ (.slice (some ⟨G, 0, none⟩) (n + 1) cp)).setCell ⟨E.p, 11, none⟩ (.int .i64 top)).drew) := Lib.hid ((hB4.setCell (p := ⟨E.ub, k, none⟩) HO1.out.cu _).setCell (p := ⟨E.p, 11, none⟩) HO1.out.cp _).drew
      have HMX : Hid (max top (k : Int) = top) := Lib.hid (by omega)
      clear hpq hB4
      go_wp2_with fail
      go_region
      go_wp2_with fail
      go_end0
      exact ⟨rfl, HB.out, ⟨_, by rw [HMX.out]; exact HP.out⟩, fun b h1 h2 h3 => ((heap_setCell_other _ _ _ _ (fun e => by have h4 : b = E.p := e; have := HO1.out.dp; omega)).trans (heap_setCell_other _ _ _ _ (fun e => by have h4 : b = E.ub := e; have := HO1.out.du; omega))).trans (HAS.out b h1 h2 (by rw [HVK.out] at h3; exact h3))⟩
  · go_simp
    refine hK.out _ _ ?_ (fun hHeld => ?_)
    · exact hHeld.mod ((Mod.refl (fun _ => False) _).alloc _) (fun h => h) (fun h => h)
    clear hK K
    try simp only [Act.put, List.setIfInBounds_toArray, List.set_cons_zero, List.set_cons_succ, List.getElem_toArray, List.getElem_cons_zero, List.getElem_cons_succ]
    refine wpAnyH_ready (rs := [23]) (by kernel_rfl) (by simp) ?_
    refine AllReadyH.cons rfl (fun K hK => ?_) AllReadyH.nil
    go_simp
    refine hK.out _ _ ?_ (fun hHeld => ?_)
    · exact hHeld
    clear hK K
    try simp only [Act.put, List.setIfInBounds_toArray, List.set_cons_zero, List.set_cons_succ, List.getElem_toArray, List.getElem_cons_zero, List.getElem_cons_succ]
    refine wpAnyH_ready (rs := [26]) (by kernel_rfl) (by simp) ?_
    refine AllReadyH.cons rfl (fun K hK => ?_) AllReadyH.nil
    refine step_append_fresh rfl (.tmp 41) (.tmp 43) 61 rfl E.D 3 i0 _ 1 8 Try.underlying61 hi0 hz0 hz1 hz2 (by decide) (.slice va n vc) n (nodeV (Q k)) rfl HO.out ⟨wr.heap.size, 0, none⟩ 1 [.int .i64 (u : Int)] rfl rfl (news_at _ _ _ _ rfl) (one_int _) (by unfold maxLen; omega) (by omega) HSZ.out ?_
    intro G cp w4 hown hgrow hfr
    obtain ⟨hpq, r4, f4, x4, hB4, has⟩ := HPU.out G cp w4 hown hgrow hfr
    have HAS := Lib.hid has
    clear hown hgrow hfr has
    refine hK.out _ _ ?_ (fun hHeld => ?_)
    · exact x4
    clear hK K
    try simp only [Act.put, List.setIfInBounds_toArray, List.set_cons_zero, List.set_cons_succ, List.getElem_toArray, List.getElem_cons_zero, List.getElem_cons_succ]
    refine wpAnyH_take (i := 27) (v := ?_) rfl (by kernel_rfl) (by kernel_rfl) (by kernel_rfl) (fun _ _ _ h => h) (Or.inl ⟨by rfl, ?_⟩) hHeld ?_
    rotate_left
    · intro W0 hW; obtain ⟨hW1, hW2, hW3, hW4⟩ := hW; go_simp; (try with_reducible rfl)
    try simp only [Act.put, List.setIfInBounds_toArray, List.set_cons_zero, List.set_cons_succ, List.getElem_toArray, List.getElem_cons_zero, List.getElem_cons_succ]
    refine wpAnyH_ready (rs := [28]) (by kernel_rfl) (by simp) ?_
    refine AllReadyH.cons rfl (fun K hK => ?_) AllReadyH.nil
    go_simp
    refine hK.out _ _ ?_ (fun hHeld => ?_)
    · exact x4.mod ((Mod.refl (fun b => b = E.ub) _).setCell (p := ⟨E.ub, k, none⟩) (.inr rfl) _) HO1.out.pu HO1.out.hu
    clear hK K
    try simp only [Act.put, List.setIfInBounds_toArray, List.set_cons_zero, List.set_cons_succ, List.getElem_toArray, List.getElem_cons_zero, List.getElem_cons_succ]
    refine wpAnyH_done (by kernel_rfl) ?_ _
    clear hHeld
    obtain ⟨_, _, _, _, _, _, _, x7, _, _, _, x11, x12⟩ := hpq.cellW
    have x0 := hpq.high.cell hu
    rw [HK.out] at x0
    by_cases hmx : top < (k : Int)
    · have HP := Lib.hid (hpq.setTop (k : Int)).drew
      have HB : Hid (Below E.C wr ((w4.setCell ⟨E.ub, k, none⟩ (.slice (some ⟨G, 0, none⟩) (n + 1) cp)).setCell ⟨E.p, 11, none⟩ (.int .i64 (k : Int))).drew) := Lib.hid ((hB4.setCell (p := ⟨E.ub, k, none⟩) HO1.out.cu _).setCell (p := ⟨E.p, 11, none⟩) HO1.out.cp _).drew
      have HMX : Hid (max top (k : Int) = (k : Int)) := Lib.hid (by omega)
      clear hpq hB4
      go_wp2_with fail
      go_region
      go_wp2_with fail
      go_end0
      exact ⟨rfl, HB.out, ⟨_, by rw [HMX.out]; exact HP.out⟩, fun b h1 h2 h3 => ((heap_setCell_other _ _ _ _ (fun e => by have h4 : b = E.p := e; have := HO1.out.dp; omega)).trans (heap_setCell_other _ _ _ _ (fun e => by have h4 : b = E.ub := e; have := HO1.out.du; omega))).trans (HAS.out b h1 h2 (by rw [HVK.out] at h3; exact h3))⟩
    · have HP := Lib.hid (hpq.setTop top).drew
      have HB : Hid (Below E.C wr ((w4.setCell ⟨E.ub, k, none⟩ (.slice (some ⟨G, 0, none⟩) (n + 1) cp)).setCell ⟨E.p, 11, none⟩ (.int .i64 top)).drew) := Lib.hid ((hB4.setCell (p := ⟨E.ub, k, none⟩) HO1.out.cu _).setCell (p := ⟨E.p, 11, none⟩) HO1.out.cp _).drew
      have HMX : Hid (max top (k : Int) = top) := Lib.hid (by omega)
      clear hpq hB4
      go_wp2_with fail
      go_region
      go_wp2_with fail
      go_end0
      exact ⟨rfl, HB.out, ⟨_, by rw [HMX.out]; exact HP.out⟩, fun b h1 h2 h3 => ((heap_setCell_other _ _ _ _ (fun e => by have h4 : b = E.p := e; have := HO1.out.dp; omega)).trans (heap_setCell_other _ _ _ _ (fun e => by have h4 : b = E.ub := e; have := HO1.out.du; omega))).trans (HAS.out b h1 h2 (by rw [HVK.out] at h3; exact h3))⟩
end Go.Proofs.Ytbenmebmfihleaa
end
section
/- Which nodes are full: in rows by height. -/
namespace Go.Proofs.Ytbenmebmfihleaa
open Go.RowKit

variable {w wr w2 w4 : World} {E : Env} {fl st st2 : Nat → Int} {hi nx hi2 nx2 : Nat → Nat} {mn mn2 : Nat → Int} {fv : Nat → Value} {Q : Nat → List Nat} {top m : Int} {N g c u v : Nat} {a : La}
theorem nodup_le1 : ∀ (N : Nat) (o : List Nat), o.Nodup → (∀ i ∈ o, i < N) → o.length ≤ N
  | 0, o, _, h => by
    have : o = [] := List.eq_nil_iff_forall_not_mem.2 (fun i hi => by have := h i hi; omega)
    subst this
    exact Nat.le_refl _
  | N + 1, o, hn, h => by
    have hn2 : (o.erase N).Nodup := hn.erase N
    have h1 := nodup_le1 N (o.erase N) hn2 (fun i hi => by
      have hm := (hn.mem_erase_iff.1 hi)
      have := h i hm.2
      omega)
    by_cases hN : N ∈ o
    · have hl := List.length_erase_of_mem hN
      have hpos : 0 < o.length := List.length_pos_of_mem hN
      omega
    · rw [List.erase_of_not_mem hN] at h1
      omega
/-- Each node at which something stays, but the first and the last one, and u, is in one row, up to top. -/
structure Que (E : Env) (st : Nat → Int) (Q : Nat → List Nat) (top : Int) (u : Nat) : Prop where
  nd : ∀ h, h < 2 * E.N → (Q h).Nodup
  one : ∀ h h2 i, h < 2 * E.N → h2 < 2 * E.N → i ∈ Q h → i ∈ Q h2 → h = h2
  mem : ∀ h, h < 2 * E.N → ∀ i ∈ Q h, i < E.N ∧ 0 < st i ∧ i ≠ E.s ∧ i ≠ E.t ∧ i ≠ u
  all : ∀ i, i < E.N → i ≠ E.s → i ≠ E.t → i ≠ u → 0 < st i → ∃ h, h < 2 * E.N ∧ (h : Int) ≤ top ∧ i ∈ Q h
  lo : -1 ≤ top
  hiT : top < 2 * (E.N : Int)
theorem Que.len (h : Que E st Q top u) {g : Nat} (hg : g < 2 * E.N) : (Q g).length ≤ E.N := nodup_le1 _ _ (h.nd g hg) (fun i hi => (h.mem g hg i hi).1)
/-- What comes to v leaves the rows as they are, where something stayed there, or where all may stay. -/
theorem Que.more (h : Que E st Q top u) (he : ∀ i, i ≠ u → i ≠ v → st2 i = st i) (hp : v ≠ E.s → 0 < st2 v) (hv : v = E.s ∨ v = E.t ∨ 0 < st v) : Que E st2 Q top u := by
  refine ⟨h.nd, h.one, fun g hg i hi => ?_, fun i hi h1 h2 h3 h4 => ?_, h.lo, h.hiT⟩
  · obtain ⟨a, b, c, d, e⟩ := h.mem g hg i hi
    refine ⟨a, ?_, c, d, e⟩
    by_cases ev : i = v
    · subst ev; exact hp c
    · rw [he i e ev]; exact b
  · refine h.all i hi h1 h2 h3 ?_
    by_cases ev : i = v
    · subst ev
      rcases hv with hv | hv | hv
      · exact absurd hv h1
      · exact absurd hv h2
      · exact hv
    · rw [← he i h3 ev]; exact h4
/-- v becomes full. -/
theorem Que.fill (h : Que E st Q top u) (he : ∀ i, i ≠ u → i ≠ v → st2 i = st i) (hp : 0 < st2 v) (hv : v < E.N) (hz : st v = 0) (hvs : v ≠ E.s) (hvt : v ≠ E.t) (hvu : v ≠ u) {k : Nat} (hk : k < 2 * E.N) :
    Que E st2 (fun j => if j = k then Q k ++ [v] else Q j) (max top (k : Int)) u := by
  have no : ∀ g, g < 2 * E.N → v ∉ Q g := fun g hg hm => by have := (h.mem g hg v hm).2.1; omega
  have mem : ∀ g i, i ∈ (if g = k then Q k ++ [v] else Q g) → (i ∈ Q g ∨ (i = v ∧ g = k)) := fun g i hi => by
    by_cases e : g = k
    · rw [if_pos e, List.mem_append] at hi
      subst e
      rcases hi with hi | hi
      · exact .inl hi
      · exact .inr ⟨by simpa using hi, rfl⟩
    · rw [if_neg e] at hi; exact .inl hi
  have h1 := h.lo
  have h2 := h.hiT
  refine ⟨fun g hg => ?_, fun g g2 i hg hg2 hi hi2 => ?_, fun g hg i hi => ?_, fun i hi a1 a2 a3 a4 => ?_, by omega, by omega⟩
  · by_cases e : g = k
    · subst e
      simp only [if_true]
      rw [List.nodup_append]
      refine ⟨h.nd g hg, by simp, fun a ha b hb => ?_⟩
      simp at hb
      subst hb
      intro e
      subst e
      exact no g hg ha
    · simp only [e, if_false]; exact h.nd g hg
  · rcases mem g i hi with m1 | ⟨m1, m2⟩
    · rcases mem g2 i hi2 with n1 | ⟨n1, n2⟩
      · exact h.one g g2 i hg hg2 m1 n1
      · subst n1; exact absurd m1 (no g hg)
    · rcases mem g2 i hi2 with n1 | ⟨n1, n2⟩
      · subst m1; exact absurd n1 (no g2 hg2)
      · omega
  · rcases mem g i hi with m1 | ⟨m1, _⟩
    · obtain ⟨a, b, c, d, e⟩ := h.mem g hg i m1
      refine ⟨a, ?_, c, d, e⟩
      rw [he i e (fun e2 => by subst e2; exact no g hg m1)]
      exact b
    · subst m1
      exact ⟨hv, hp, hvs, hvt, hvu⟩
  · by_cases e : i = v
    · subst e
      exact ⟨k, hk, by omega, by simp⟩
    · obtain ⟨g, b1, b2, b3⟩ := h.all i hi a1 a2 a3 (by rw [← he i a3 e]; exact a4)
      refine ⟨g, b1, by omega, ?_⟩
      by_cases e2 : g = k
      · subst e2; simp [b3]
      · simp [e2, b3]
/-- The last of the highest row is taken. -/
theorem Que.take (h : Que E st Q top E.N) {k : Nat} {q : List Nat} (hk : k < 2 * E.N) (hq : Q k = q ++ [u]) (hte : top = (k : Int)) : Que E st (fun j => if j = k then q else Q j) top u ∧ u < E.N ∧ 0 < st u ∧ u ≠ E.s ∧ u ≠ E.t := by
  have hu : u ∈ Q k := by rw [hq]; simp
  obtain ⟨c1, c2, c3, c4, _⟩ := h.mem k hk u hu
  have hnd := h.nd k hk
  rw [hq, List.nodup_append] at hnd
  have sub : ∀ g i, i ∈ (if g = k then q else Q g) → i ∈ Q g ∧ (g = k → i ∈ q) := fun g i hi => by
    by_cases e : g = k
    · rw [if_pos e] at hi
      subst e
      exact ⟨by rw [hq]; simp [hi], fun _ => hi⟩
    · rw [if_neg e] at hi; exact ⟨hi, fun e2 => absurd e2 e⟩
  refine ⟨⟨fun g hg => ?_, fun g g2 i hg hg2 hi hi2 => h.one g g2 i hg hg2 (sub g i hi).1 (sub g2 i hi2).1, fun g hg i hi => ?_, fun i hi a1 a2 a3 a4 => ?_, h.lo, h.hiT⟩, c1, c2, c3, c4⟩
  · by_cases e : g = k
    · simp only [e, if_true]; exact hnd.1
    · simp only [e, if_false]; exact h.nd g hg
  · obtain ⟨a, b, c, d, _⟩ := h.mem g hg i (sub g i hi).1
    refine ⟨a, b, c, d, fun e => ?_⟩
    subst e
    have e2 := h.one g k i hg hk (sub g i hi).1 hu
    exact hnd.2.2 i ((sub g i hi).2 e2) i (by simp) rfl
  · obtain ⟨g, b1, b2, b3⟩ := h.all i hi a1 a2 (by omega) a4
    refine ⟨g, b1, b2, ?_⟩
    by_cases e2 : g = k
    · subst e2
      rw [hq, List.mem_append] at b3
      rcases b3 with b3 | b3
      · simp [b3]
      · exact absurd (by simpa using b3) a3
    · simp [e2, b3]
/-- The highest row is empty. -/
theorem Que.down (h : Que E st Q top u) {k : Nat} (hq : Q k = []) (hte : top = (k : Int)) : Que E st Q (top - 1) u := by
  have := h.hiT
  refine ⟨h.nd, h.one, h.mem, fun i hi a1 a2 a3 a4 => ?_, by omega, by omega⟩
  obtain ⟨g, b1, b2, b3⟩ := h.all i hi a1 a2 a3 a4
  refine ⟨g, b1, ?_, b3⟩
  by_cases e : g = k
  · subst e; rw [hq] at b3; cases b3
  · omega
/-- u is empty: none is left out. -/
theorem Que.done (h : Que E st Q top u) (hz : st u ≤ 0) : Que E st Q top E.N :=
  ⟨h.nd, h.one, fun g hg i hi => by obtain ⟨a, b, c, d, _⟩ := h.mem g hg i hi; exact ⟨a, b, c, d, by omega⟩, fun i hi a1 a2 _ a4 => h.all i hi a1 a2 (fun e => by subst e; omega) a4, h.lo, h.hiT⟩

/-! ### What stays -/
def exc (E : Env) (fl : Nat → Int) : Nat → Int := fun i => netTo E.l fl (i : Int) E.l.length
theorem Wk.congrStays (h : Wk E fl st hi nx mn fv Q top wr) (e : ∀ i, i < E.N → st i = st2 i) : Wk E fl st2 hi nx mn fv Q top wr :=
  ⟨h.pipes, h.lanes, h.work, h.flow, h.stays.congr (fun g hg => by rw [e g hg]), h.high, h.many, h.next, h.full, h.rows, h.apart, h.ord, h.size⟩
theorem Wk.congrFlow {fl2 : Nat → Int} (h : Wk E fl st hi nx mn fv Q top wr) (e : ∀ i, i < E.len → fl i = fl2 i) : Wk E fl2 st hi nx mn fv Q top wr :=
  ⟨h.pipes, h.lanes, h.work, h.flow.congr (fun g hg => by rw [e g hg]), h.stays, h.high, h.many, h.next, h.full, h.rows, h.apart, h.ord, h.size⟩
theorem exc_bound (hc : Caps E fl) (hl : E.l.length ≤ 20000) (i : Nat) : -21990232555520000 ≤ exc E fl i ∧ exc E fl i ≤ 21990232555520000 := by
  have h := sumP_bound (l := E.l) (g := brings fl (i : Int)) (B := 1099511627776) (by omega) (fun k x hx => by
    have := hc k x hx
    unfold brings
    split <;> split <;> omega) E.l.length
  unfold exc netTo
  omega
theorem exc_push (hn : E.Net) (hu : u < E.N) (ha : a ∈ E.L u) (i : Nat) : exc E (push fl a m) i = exc E fl i + (if i = a.2.1 then m else 0) - (if i = u then m else 0) := netTo_push hn.lanes hu ha m i
end Go.Proofs.Ytbenmebmfihleaa
end

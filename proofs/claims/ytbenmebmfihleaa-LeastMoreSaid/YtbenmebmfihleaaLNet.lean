/- The law's maker of nets: the walk. -/
import Derived.Test.YtbenmebmfihleaaMLNet
namespace Go.Proofs.Ytbenmebmfihleaa
open Go.RowKit

variable {len lb : Nat} {l : List Pi} {w w2 wr : World} {r g : Nat} {f t c d N : Int} {lv : Value} {xs : List Pi} {S : Nat → Prop}
theorem infoPipeL : (Try.prog.info? 47).map (fun i => (i.zero, i.size, i.bytes)) = some (some (.agg #[.int .i64 0, .int .i64 0, .int .i64 0, .int .i64 0]), 4, 32) := by kernel_rfl
theorem infoNetL : (Try.prog.info? 27).map (fun i => i.size) = some 2 := by kernel_rfl
/-- The pipe of the round; the net's number of nodes. -/
def PipeS (lb g : Nat) (f t c d N : Int) (W : World) : Prop := W.cell? ⟨lb, 0, none⟩ = some (.int .u8 f) ∧ W.cell? ⟨lb, 1, none⟩ = some (.int .u8 t) ∧ W.cell? ⟨lb, 2, none⟩ = some (.int .u8 c) ∧ W.cell? ⟨lb, 3, none⟩ = some (.int .u8 d) ∧ W.cell? ⟨g, 0, none⟩ = some (.int .i64 N) ∧ lb < W.heap.size ∧ g < W.heap.size
theorem PipeS.mod (h : PipeS lb g f t c d N w) (hm : Mod S w w2) (h1 : ¬ S lb) (h2 : ¬ S g) : PipeS lb g f t c d N w2 :=
  ⟨(hm.cell (p := ⟨lb, 0, none⟩) h.2.2.2.2.2.1 h1).trans h.1, (hm.cell (p := ⟨lb, 1, none⟩) h.2.2.2.2.2.1 h1).trans h.2.1, (hm.cell (p := ⟨lb, 2, none⟩) h.2.2.2.2.2.1 h1).trans h.2.2.1, (hm.cell (p := ⟨lb, 3, none⟩) h.2.2.2.2.2.1 h1).trans h.2.2.2.1, (hm.cell (p := ⟨g, 0, none⟩) h.2.2.2.2.2.2 h2).trans h.2.2.2.2.1, Nat.lt_of_lt_of_le h.2.2.2.2.2.1 hm.size, Nat.lt_of_lt_of_le h.2.2.2.2.2.2 hm.size⟩
theorem PipeS.made (h : NMakeW w wr r g N lv xs) (f t c d : Int) (T : TypeId) : PipeS wr.heap.size g f t c d N (wr.alloc (.cells #[.int .u8 f, .int .u8 t, .int .u8 c, .int .u8 d] T)).drew := by
  refine ⟨by simp, by simp, by simp, by simp, ?_, by simp, by have := h.ltg; simp; omega⟩
  exact (World.cell?_alloc_past _ _ _ h.ltg).trans h.c0
theorem PipeS.last (h : PipeS lb g f t c d N w) (hm : Mod (fun b => b = g) w w2) (hne : lb ≠ g) (hc : w2.cell? ⟨g, 0, none⟩ = some (.int .i64 N)) : PipeS lb g f t c d N w2 :=
  ⟨(hm.cell (p := ⟨lb, 0, none⟩) h.2.2.2.2.2.1 hne).trans h.1, (hm.cell (p := ⟨lb, 1, none⟩) h.2.2.2.2.2.1 hne).trans h.2.1, (hm.cell (p := ⟨lb, 2, none⟩) h.2.2.2.2.2.1 hne).trans h.2.2.1, (hm.cell (p := ⟨lb, 3, none⟩) h.2.2.2.2.2.1 hne).trans h.2.2.2.1, hc, Nat.lt_of_lt_of_le h.2.2.2.2.2.1 hm.size, Nat.lt_of_lt_of_le h.2.2.2.2.2.2 hm.size⟩
theorem newsP_at (w : World) (y : Pi) (T : TypeId) (z : Nat) (hz : w.heap.size = z) : ∀ (j : Nat) (u : Value), (encP y)[j]? = some u → (w.alloc (.cells #[.int .i64 y.1, .int .i64 y.2.1, .int .i64 y.2.2.1, .int .i64 y.2.2.2] T)).cell? ((⟨z, 0, none⟩ : Addr).add j) = some u := by
  subst hz
  intro j u hj
  rw [Addr.add_lit]
  match j, hj with
  | 0, hj => simp [encP] at hj; subst hj; simp
  | 1, hj => simp [encP] at hj; subst hj; simp
  | 2, hj => simp [encP] at hj; subst hj; simp
  | 3, hj => simp [encP] at hj; subst hj; simp
theorem oneP (y : Pi) : ∀ u ∈ encP y, u.oneCell' = true := by
  intro u hu
  simp [encP] at hu
  rcases hu with rfl | rfl | rfl | rfl <;> rfl
theorem NMakeW.done (h : NMakeW w wr r g N lv xs) :
    ((wr.setCell ⟨r, 0, none⟩ (.int .i64 N)).setCell ⟨r, 1, none⟩ lv).heap[r]? = some (.cells #[.int .i64 N, lv] 27 (0, 0)) ∧
    ((wr.setCell ⟨r, 0, none⟩ (.int .i64 N)).setCell ⟨r, 1, none⟩ lv).ownsRow w.heap.size 47 4 lv xs.length (flatP xs) ∧
    Below w.heap.size w ((wr.setCell ⟨r, 0, none⟩ (.int .i64 N)).setCell ⟨r, 1, none⟩ lv) := by
  have h1 := h.ge
  have h2 := h.lt
  have hm : Mod (fun b => b = r) wr ((wr.setCell ⟨r, 0, none⟩ (.int .i64 N)).setCell ⟨r, 1, none⟩ lv) :=
    ((Mod.refl (fun b => b = r) wr).setCell (p := ⟨r, 0, none⟩) (.inr rfl) _).setCell (p := ⟨r, 1, none⟩) (.inr rfl) _
  exact ⟨heap_setCell_same _ _ _ _ _ _ (heap_setCell_same _ _ _ _ _ _ h.res), owns_rebase (owns_kept h.row hm (fun k hk => by have := (World.ownsRow.lt h.row k hk).1; omega)) (by omega),
    ((Mod.of_below (fun b => b = r) h.below).trans hm).below (Nat.le_refl _) (fun k hk => by omega)⟩

set_option maxHeartbeats 2000000 in
set_option maxRecDepth 100000 in
theorem net_any (n : Int) (hn : 0 ≤ n) (hn2 : n ≤ 255) (a : Option Addr) (cap : Nat) (w : World) (hbig : len ≤ 9223372036854775807) (hl : IsLP w.heap.size w a len l) :
    Calls Try.prog 9 #[.int .u8 n, .slice a len cap] w fun e w' => ∃ lv, e = .returned (.agg #[.int .i64 (2 + n % 5), lv]) ∧ w'.ownsRow w.heap.size 47 4 lv (pipesTo (2 + n % 5) l len).length (flatP (pipesTo (2 + n % 5) l len)) ∧ Below w.heap.size w w' := by
  obtain ⟨i0, hi, hz0, hz1, hz2⟩ := info_parts infoPipeL
  have HL := Lib.hid hl; clear hl
  go_enter Try.func9, Try.ntmps9
  go_wp2_with fail
  have HG0 : Hid (NMakeW w ((w.alloc (.cells #[.int .i64 0, .slice none 0 0] 27)).alloc (.cells #[.int .i64 (2 + n % 5), .slice none 0 0] 27)) w.heap.size (w.heap.size + 1) (2 + n % 5) (.slice none 0 0) (pipesTo (2 + n % 5) l 0)) :=
    Lib.hid ⟨((Below.refl _ w).alloc (Nat.le_refl _) _).alloc (by simp) _, heap_alloc2_old _ _ _, heap_alloc2_new _ _ _, World.ownsRow_nil _ _ _ 4, Nat.le_refl _, by omega⟩
  obtain ⟨N, hN⟩ : ∃ N, 2 + n % 5 = N := ⟨_, rfl⟩
  have hN1 : 2 ≤ N := by omega
  have hN8 : N ≤ 6 := by omega
  have hN0 : ¬ N = 0 := by omega
  have hNb : (N == 0) = false := by simpa using hN0
  obtain ⟨g, hg⟩ : ∃ g, g = w.heap.size + 1 := ⟨_, rfl⟩
  rw [hN, ← hg] at HG0
  rw [hN, ← hg]
  have HNN := Lib.hid hN
  clear hN hg
  go_loopw [15] (fun i wr => ∃ (k : Nat) (lv : Value), i = .int .i64 k ∧ k ≤ len ∧ Hid (NMakeW w wr w.heap.size g N lv (pipesTo N l k))) (fun i _ => len - (intOf i).toNat)
  case atStart => exact ⟨0, _, rfl, Nat.zero_le _, HG0⟩
  case round =>
    obtain ⟨k, lv, rfl, hk, HX⟩ := hrel
    clear HG0
    by_cases hlt : k < len
    · obtain ⟨b, off, x, rfl, hx, e0, e1, e2, e3, hsm⟩ := (HL.out.later HX.out.below).at_ hlt
      have HXX := Lib.hid hx
      clear hx
      obtain ⟨f, t, c, d⟩ := x
      simp only [SmallP] at e0 e1 e2 e3 hsm
      obtain ⟨hf0, hf1, ht0, ht1, hc0, hc1, hd0, hd1⟩ := hsm
      have HX1 := Lib.hid (HX.out.later ((Below.refl wr.heap.size wr).alloc (Nat.le_refl _) (.cells #[.int .u8 f, .int .u8 t, .int .u8 c, .int .u8 d] 54)).drew)
      by_cases h24 : k < 14
      · have HN := Lib.hid (pipesTo_on (N := N) HXX.out h24)
        obtain ⟨va, vc, hv⟩ := owns_shape HX.out.row
        subst hv
        have hml : (pipesTo N l k).length ≤ 14 := pipesTo_len _ _ _
        have HO := HX1.out.row
        have c1 := HX1.out.c1
        have c3 := HX1.out.c0
        have HAB : Hid ((Value.slice va (pipesTo N l k).length vc).ownBlock ≠ some wr.heap.size) := Lib.hid (fun e => by have := (World.ownsRow.lt HX.out.row wr.heap.size e).2; omega)
        have HGG : Hid (g + 1 ≤ wr.heap.size) := Lib.hid HX.out.ltg
        have HOG : Hid ((Value.slice va (pipesTo N l k).length vc).ownBlock ≠ some g) := Lib.hid (fun e => by have := (World.ownsRow.lt HX.out.row g e).1; omega)
        have HA0 := Lib.hid (PipeS.made HX.out f t c d 54)
        have h24i : (k : Int) < 14 := by omega
        clear HX
        go_wp2_with fail
        refine wp_region_held_drew (S := PipeS wr.heap.size g f t c d N) (by kernel_rfl) HA0.out (fun hHeld => ?_)
        refine wpAnyH_take (i := 0) (v := ?_) rfl (by kernel_rfl) (by kernel_rfl) (by kernel_rfl) (fun _ _ _ h => h) (Or.inl ⟨by rfl, ?_⟩) hHeld ?_
        rotate_left
        · intro W0 hW; obtain ⟨hW1, hW2, hW3, hW4, hW5, hW6, hW7⟩ := hW; go_simp; (try with_reducible rfl)
        try simp only [Act.put, List.setIfInBounds_toArray, List.set_cons_zero, List.set_cons_succ, List.getElem_toArray, List.getElem_cons_zero]
        refine wpAnyH_take (i := 2) (v := ?_) rfl (by kernel_rfl) (by kernel_rfl) (by kernel_rfl) (fun _ _ _ h => h) (Or.inl ⟨by rfl, ?_⟩) hHeld ?_
        rotate_left
        · intro W0 hW; obtain ⟨hW1, hW2, hW3, hW4, hW5, hW6, hW7⟩ := hW; go_simp; (try with_reducible rfl)
        try simp only [Act.put, List.setIfInBounds_toArray, List.set_cons_zero, List.set_cons_succ, List.getElem_toArray, List.getElem_cons_zero, List.getElem_cons_succ]
        refine wpAnyH_take (i := 3) (v := ?_) rfl (by kernel_rfl) (by kernel_rfl) (by kernel_rfl) (fun _ _ _ h => h) (Or.inl ⟨by rfl, ?_⟩) hHeld ?_
        rotate_left
        · intro W0 hW; obtain ⟨hW1, hW2, hW3, hW4, hW5, hW6, hW7⟩ := hW; go_simp; (try with_reducible rfl)
        try simp only [Act.put, List.setIfInBounds_toArray, List.set_cons_zero, List.set_cons_succ, List.getElem_toArray, List.getElem_cons_zero, List.getElem_cons_succ]
        refine wpAnyH_take (i := 4) (v := ?_) rfl (by kernel_rfl) (by kernel_rfl) (by kernel_rfl) (fun _ _ _ h => h) (Or.inl ⟨by rfl, ?_⟩) hHeld ?_
        rotate_left
        · intro W0 hW; obtain ⟨hW1, hW2, hW3, hW4, hW5, hW6, hW7⟩ := hW; go_simp; (try with_reducible rfl)
        try simp only [Act.put, List.setIfInBounds_toArray, List.set_cons_zero, List.set_cons_succ, List.getElem_toArray, List.getElem_cons_zero, List.getElem_cons_succ]
        refine wpAnyH_take (i := 5) (v := ?_) rfl (by kernel_rfl) (by kernel_rfl) (by kernel_rfl) (fun _ _ _ h => h) (Or.inl ⟨by rfl, ?_⟩) hHeld ?_
        rotate_left
        · intro W0 hW; obtain ⟨hW1, hW2, hW3, hW4, hW5, hW6, hW7⟩ := hW; go_simp; (try with_reducible rfl)
        try simp only [Act.put, List.setIfInBounds_toArray, List.set_cons_zero, List.set_cons_succ, List.getElem_toArray, List.getElem_cons_zero, List.getElem_cons_succ]
        refine wpAnyH_take (i := 6) (v := ?_) rfl (by kernel_rfl) (by kernel_rfl) (by kernel_rfl) (fun _ _ _ h => h) (Or.inl ⟨by rfl, ?_⟩) hHeld ?_
        rotate_left
        · intro W0 hW; obtain ⟨hW1, hW2, hW3, hW4, hW5, hW6, hW7⟩ := hW; go_simp; (try with_reducible rfl)
        try simp only [Act.put, List.setIfInBounds_toArray, List.set_cons_zero, List.set_cons_succ, List.getElem_toArray, List.getElem_cons_zero, List.getElem_cons_succ]
        refine wpAnyH_take (i := 7) (v := ?_) rfl (by kernel_rfl) (by kernel_rfl) (by kernel_rfl) (fun _ _ _ h => h) (Or.inl ⟨by rfl, ?_⟩) hHeld ?_
        rotate_left
        · intro W0 hW; obtain ⟨hW1, hW2, hW3, hW4, hW5, hW6, hW7⟩ := hW; go_simp; (try with_reducible rfl)
        try simp only [Act.put, List.setIfInBounds_toArray, List.set_cons_zero, List.set_cons_succ, List.getElem_toArray, List.getElem_cons_zero, List.getElem_cons_succ]
        refine wpAnyH_take (i := 8) (v := ?_) rfl (by kernel_rfl) (by kernel_rfl) (by kernel_rfl) (fun _ _ _ h => h) (Or.inl ⟨by rfl, ?_⟩) hHeld ?_
        rotate_left
        · intro W0 hW; obtain ⟨hW1, hW2, hW3, hW4, hW5, hW6, hW7⟩ := hW; go_simp; (try with_reducible rfl)
        try simp only [Act.put, List.setIfInBounds_toArray, List.set_cons_zero, List.set_cons_succ, List.getElem_toArray, List.getElem_cons_zero, List.getElem_cons_succ]
        refine wpAnyH_take (i := 9) (v := ?_) rfl (by kernel_rfl) (by kernel_rfl) (by kernel_rfl) (fun _ _ _ h => h) (Or.inl ⟨by rfl, ?_⟩) hHeld ?_
        rotate_left
        · intro W0 hW; obtain ⟨hW1, hW2, hW3, hW4, hW5, hW6, hW7⟩ := hW; go_simp; (try with_reducible rfl)
        try simp only [Act.put, List.setIfInBounds_toArray, List.set_cons_zero, List.set_cons_succ, List.getElem_toArray, List.getElem_cons_zero, List.getElem_cons_succ]
        refine wpAnyH_take (i := 10) (v := ?_) rfl (by kernel_rfl) (by kernel_rfl) (by kernel_rfl) (fun _ _ _ h => h) (Or.inl ⟨by rfl, ?_⟩) hHeld ?_
        rotate_left
        · intro W0 hW; obtain ⟨hW1, hW2, hW3, hW4, hW5, hW6, hW7⟩ := hW; go_simp; (try with_reducible rfl)
        try simp only [Act.put, List.setIfInBounds_toArray, List.set_cons_zero, List.set_cons_succ, List.getElem_toArray, List.getElem_cons_zero, List.getElem_cons_succ]
        refine wpAnyH_take (i := 11) (v := ?_) rfl (by kernel_rfl) (by kernel_rfl) (by kernel_rfl) (fun _ _ _ h => h) (Or.inl ⟨by rfl, ?_⟩) hHeld ?_
        rotate_left
        · intro W0 hW; obtain ⟨hW1, hW2, hW3, hW4, hW5, hW6, hW7⟩ := hW; go_simp; (try with_reducible rfl)
        try simp only [Act.put, List.setIfInBounds_toArray, List.set_cons_zero, List.set_cons_succ, List.getElem_toArray, List.getElem_cons_zero, List.getElem_cons_succ]
        refine wpAnyH_take (i := 12) (v := ?_) rfl (by kernel_rfl) (by kernel_rfl) (by kernel_rfl) (fun _ _ _ h => h) (Or.inl ⟨by rfl, ?_⟩) hHeld ?_
        rotate_left
        · intro W0 hW; obtain ⟨hW1, hW2, hW3, hW4, hW5, hW6, hW7⟩ := hW; go_simp; (try with_reducible rfl)
        try simp only [Act.put, List.setIfInBounds_toArray, List.set_cons_zero, List.set_cons_succ, List.getElem_toArray, List.getElem_cons_zero, List.getElem_cons_succ]
        refine wpAnyH_take (i := 13) (v := ?_) rfl (by kernel_rfl) (by kernel_rfl) (by kernel_rfl) (fun _ _ _ h => h) (Or.inl ⟨by rfl, ?_⟩) hHeld ?_
        rotate_left
        · intro W0 hW; obtain ⟨hW1, hW2, hW3, hW4, hW5, hW6, hW7⟩ := hW; go_simp; (try with_reducible rfl)
        try simp only [Act.put, List.setIfInBounds_toArray, List.set_cons_zero, List.set_cons_succ, List.getElem_toArray, List.getElem_cons_zero, List.getElem_cons_succ]
        refine wpAnyH_take (i := 14) (v := ?_) rfl (by kernel_rfl) (by kernel_rfl) (by kernel_rfl) (fun _ _ _ h => h) (Or.inl ⟨by rfl, ?_⟩) hHeld ?_
        rotate_left
        · intro W0 hW; obtain ⟨hW1, hW2, hW3, hW4, hW5, hW6, hW7⟩ := hW; go_simp; (try with_reducible rfl)
        try simp only [Act.put, List.setIfInBounds_toArray, List.set_cons_zero, List.set_cons_succ, List.getElem_toArray, List.getElem_cons_zero, List.getElem_cons_succ]
        refine wpAnyH_take (i := 15) (v := ?_) rfl (by kernel_rfl) (by kernel_rfl) (by kernel_rfl) (fun _ _ _ h => h) (Or.inl ⟨by rfl, ?_⟩) hHeld ?_
        rotate_left
        · intro W0 hW; obtain ⟨hW1, hW2, hW3, hW4, hW5, hW6, hW7⟩ := hW; go_simp; (try with_reducible rfl)
        try simp only [Act.put, List.setIfInBounds_toArray, List.set_cons_zero, List.set_cons_succ, List.getElem_toArray, List.getElem_cons_zero, List.getElem_cons_succ]
        refine wpAnyH_take (i := 16) (v := ?_) rfl (by kernel_rfl) (by kernel_rfl) (by kernel_rfl) (fun _ _ _ h => h) (Or.inl ⟨by rfl, ?_⟩) hHeld ?_
        rotate_left
        · intro W0 hW; obtain ⟨hW1, hW2, hW3, hW4, hW5, hW6, hW7⟩ := hW; go_simp; (try with_reducible rfl)
        try simp only [Act.put, List.setIfInBounds_toArray, List.set_cons_zero, List.set_cons_succ, List.getElem_toArray, List.getElem_cons_zero, List.getElem_cons_succ]
        refine wpAnyH_take (i := 17) (v := ?_) rfl (by kernel_rfl) (by kernel_rfl) (by kernel_rfl) (fun _ _ _ h => h) (Or.inl ⟨by rfl, ?_⟩) hHeld ?_
        rotate_left
        · intro W0 hW; obtain ⟨hW1, hW2, hW3, hW4, hW5, hW6, hW7⟩ := hW; go_simp; (try with_reducible rfl)
        try simp only [Act.put, List.setIfInBounds_toArray, List.set_cons_zero, List.set_cons_succ, List.getElem_toArray, List.getElem_cons_zero, List.getElem_cons_succ]
        refine wpAnyH_take (i := 18) (v := ?_) rfl (by kernel_rfl) (by kernel_rfl) (by kernel_rfl) (fun _ _ _ h => h) (Or.inl ⟨by rfl, ?_⟩) hHeld ?_
        rotate_left
        · intro W0 hW; obtain ⟨hW1, hW2, hW3, hW4, hW5, hW6, hW7⟩ := hW; go_simp; (try with_reducible rfl)
        try simp only [Act.put, List.setIfInBounds_toArray, List.set_cons_zero, List.set_cons_succ, List.getElem_toArray, List.getElem_cons_zero, List.getElem_cons_succ]
        refine wpAnyH_take (i := 19) (v := ?_) rfl (by kernel_rfl) (by kernel_rfl) (by kernel_rfl) (fun _ _ _ h => h) (Or.inl ⟨by rfl, ?_⟩) hHeld ?_
        rotate_left
        · intro W0 hW; obtain ⟨hW1, hW2, hW3, hW4, hW5, hW6, hW7⟩ := hW; go_simp; (try with_reducible rfl)
        try simp only [Act.put, List.setIfInBounds_toArray, List.set_cons_zero, List.set_cons_succ, List.getElem_toArray, List.getElem_cons_zero, List.getElem_cons_succ]
        refine wpAnyH_take (i := 20) (v := ?_) rfl (by kernel_rfl) (by kernel_rfl) (by kernel_rfl) (fun _ _ _ h => h) (Or.inl ⟨by rfl, ?_⟩) hHeld ?_
        rotate_left
        · intro W0 hW; obtain ⟨hW1, hW2, hW3, hW4, hW5, hW6, hW7⟩ := hW; go_simp; (try with_reducible rfl)
        try simp only [Act.put, List.setIfInBounds_toArray, List.set_cons_zero, List.set_cons_succ, List.getElem_toArray, List.getElem_cons_zero, List.getElem_cons_succ]
        have wf : IntKind.i64.wrap f = f := by rw [IntKind.wrap_i64]; omega
        have wt : IntKind.i64.wrap t = t := by rw [IntKind.wrap_i64]; omega
        have wc : IntKind.i64.wrap c = c := by rw [IntKind.wrap_i64]; omega
        have wd : IntKind.i64.wrap d = d := by rw [IntKind.wrap_i64]; omega
        have mf : f.tmod N = f % N := Int.tmod_eq_emod_of_nonneg hf0
        have mt : t.tmod N = t % N := Int.tmod_eq_emod_of_nonneg ht0
        simp only [wf, wt, wc, wd, mf, mt]
        clear wf wt wc wd mf mt
        have HX2 := Lib.hid (HX1.out.later ((Below.refl ((wr.alloc (.cells #[.int .u8 f, .int .u8 t, .int .u8 c, .int .u8 d] 54)).drew).heap.size ((wr.alloc (.cells #[.int .u8 f, .int .u8 t, .int .u8 c, .int .u8 d] 54)).drew)).alloc (Nat.le_refl _) (.cells #[.int .i64 (f % N), .int .i64 (t % N), .int .i64 c, .int .i64 d] 47)))
        have c2 : ((wr.alloc (.cells #[.int .u8 f, .int .u8 t, .int .u8 c, .int .u8 d] 54)).alloc (.cells #[.int .i64 (f % N), .int .i64 (t % N), .int .i64 c, .int .i64 d] 47)).cell? ⟨g, 1, none⟩ = some (.slice va (pipesTo N l k).length vc) := HX2.out.c1
        refine wpAnyH_ready (rs := [1, 21]) (by kernel_rfl) (by simp) ?_
        refine AllReadyH.cons rfl (fun K hK => ?_) (AllReadyH.cons rfl (fun K hK => ?_) AllReadyH.nil)
        · go_simp
          refine hK.out _ _ ?_ (fun hHeld => ?_)
          · exact hHeld
          clear hK K
          try simp only [Act.put, List.setIfInBounds_toArray, List.set_cons_zero, List.set_cons_succ, List.getElem_toArray, List.getElem_cons_zero, List.getElem_cons_succ]
          refine wpAnyH_ready (rs := [21]) (by kernel_rfl) (by simp) ?_
          refine AllReadyH.cons rfl (fun K hK => ?_) AllReadyH.nil
          go_simp
          refine hK.out _ _ ?_ (fun hHeld => ?_)
          · exact hHeld.mod ((Mod.refl (fun _ => False) _).alloc _) (fun h => h) (fun h => h)
          clear hK K
          try simp only [Act.put, List.setIfInBounds_toArray, List.set_cons_zero, List.set_cons_succ, List.getElem_toArray, List.getElem_cons_zero, List.getElem_cons_succ]
          refine wpAnyH_ready (rs := [22]) (by kernel_rfl) (by simp) ?_
          refine AllReadyH.cons rfl (fun K hK => ?_) AllReadyH.nil
          refine step_append_fresh rfl (.tmp 23) (.tmp 43) 25 rfl (g + 1) 47 i0 _ 4 32 Try.underlying25 hi hz0 hz1 hz2 (by decide) (.slice va (pipesTo N l k).length vc) (pipesTo N l k).length (flatP (pipesTo N l k)) rfl HX2.out.row ⟨wr.heap.size + 1, 0, none⟩ 1 (encP (pipeOf N (f, t, c, d))) rfl rfl (newsP_at _ (pipeOf N (f, t, c, d)) _ _ (by simp)) (oneP _) (by unfold maxLen; omega) (by omega) (by have := HGG.out; simp; omega) ?_
          intro g' cp4 w4 hown hgrow hfr
          obtain ⟨hp, _, c4, d4⟩ := HX2.out.push hown hgrow
          have HP := Lib.hid hp
          have x4 : PipeS wr.heap.size g f t c d N w4 := HA0.out.mod (((Mod.refl (fun k2 => (Value.slice va (pipesTo N l k).length vc).ownBlock = some k2) ((wr.alloc (.cells #[.int .u8 f, .int .u8 t, .int .u8 c, .int .u8 d] 54)).drew)).alloc (.cells #[.int .i64 (f % N), .int .i64 (t % N), .int .i64 c, .int .i64 d] 47)).grown hgrow (fun k hk => .inr hk)) HAB.out HOG.out
          clear hown hgrow hfr hp
          refine hK.out _ _ ?_ (fun hHeld => ?_)
          · exact x4
          clear hK K
          try simp only [Act.put, List.setIfInBounds_toArray, List.set_cons_zero, List.set_cons_succ, List.getElem_toArray, List.getElem_cons_zero, List.getElem_cons_succ]
          refine wpAnyH_take (i := 23) (v := ?_) rfl (by kernel_rfl) (by kernel_rfl) (by kernel_rfl) (fun _ _ _ h => h) (Or.inl ⟨by rfl, ?_⟩) hHeld ?_
          rotate_left
          · intro W0 hW; obtain ⟨hW1, hW2, hW3, hW4, hW5, hW6, hW7⟩ := hW; go_simp; (try with_reducible rfl)
          try simp only [Act.put, List.setIfInBounds_toArray, List.set_cons_zero, List.set_cons_succ, List.getElem_toArray, List.getElem_cons_zero, List.getElem_cons_succ]
          refine wpAnyH_ready (rs := [24]) (by kernel_rfl) (by simp) ?_
          refine AllReadyH.cons rfl (fun K hK => ?_) AllReadyH.nil
          go_simp
          refine hK.out _ _ ?_ (fun hHeld => ?_)
          · exact x4.last ((Mod.refl (fun b => b = g) _).setCell (p := ⟨g, 1, none⟩) (.inr rfl) _) (by have := HGG.out; omega) HP.out.c0
          clear hK K
          try simp only [Act.put, List.setIfInBounds_toArray, List.set_cons_zero, List.set_cons_succ, List.getElem_toArray, List.getElem_cons_zero, List.getElem_cons_succ]
          refine wpAnyH_done (by kernel_rfl) ?_ _
          clear hHeld
          go_wp2_with fail
          go_roundw
          case rel => exact ⟨k + 1, _, by go_num, by omega, Lib.hid (HP.out.turn HN.out.symm)⟩
          case measure => simp [intOf]; omega
        · go_simp
          refine hK.out _ _ ?_ (fun hHeld => ?_)
          · exact hHeld.mod ((Mod.refl (fun _ => False) _).alloc _) (fun h => h) (fun h => h)
          clear hK K
          try simp only [Act.put, List.setIfInBounds_toArray, List.set_cons_zero, List.set_cons_succ, List.getElem_toArray, List.getElem_cons_zero, List.getElem_cons_succ]
          refine wpAnyH_ready (rs := [1]) (by kernel_rfl) (by simp) ?_
          refine AllReadyH.cons rfl (fun K hK => ?_) AllReadyH.nil
          go_simp
          refine hK.out _ _ ?_ (fun hHeld => ?_)
          · exact hHeld
          clear hK K
          try simp only [Act.put, List.setIfInBounds_toArray, List.set_cons_zero, List.set_cons_succ, List.getElem_toArray, List.getElem_cons_zero, List.getElem_cons_succ]
          refine wpAnyH_ready (rs := [22]) (by kernel_rfl) (by simp) ?_
          refine AllReadyH.cons rfl (fun K hK => ?_) AllReadyH.nil
          refine step_append_fresh rfl (.tmp 23) (.tmp 43) 25 rfl (g + 1) 47 i0 _ 4 32 Try.underlying25 hi hz0 hz1 hz2 (by decide) (.slice va (pipesTo N l k).length vc) (pipesTo N l k).length (flatP (pipesTo N l k)) rfl HX2.out.row ⟨wr.heap.size + 1, 0, none⟩ 1 (encP (pipeOf N (f, t, c, d))) rfl rfl (newsP_at _ (pipeOf N (f, t, c, d)) _ _ (by simp)) (oneP _) (by unfold maxLen; omega) (by omega) (by have := HGG.out; simp; omega) ?_
          intro g' cp4 w4 hown hgrow hfr
          obtain ⟨hp, _, c4, d4⟩ := HX2.out.push hown hgrow
          have HP := Lib.hid hp
          have x4 : PipeS wr.heap.size g f t c d N w4 := HA0.out.mod (((Mod.refl (fun k2 => (Value.slice va (pipesTo N l k).length vc).ownBlock = some k2) ((wr.alloc (.cells #[.int .u8 f, .int .u8 t, .int .u8 c, .int .u8 d] 54)).drew)).alloc (.cells #[.int .i64 (f % N), .int .i64 (t % N), .int .i64 c, .int .i64 d] 47)).grown hgrow (fun k hk => .inr hk)) HAB.out HOG.out
          clear hown hgrow hfr hp
          refine hK.out _ _ ?_ (fun hHeld => ?_)
          · exact x4
          clear hK K
          try simp only [Act.put, List.setIfInBounds_toArray, List.set_cons_zero, List.set_cons_succ, List.getElem_toArray, List.getElem_cons_zero, List.getElem_cons_succ]
          refine wpAnyH_take (i := 23) (v := ?_) rfl (by kernel_rfl) (by kernel_rfl) (by kernel_rfl) (fun _ _ _ h => h) (Or.inl ⟨by rfl, ?_⟩) hHeld ?_
          rotate_left
          · intro W0 hW; obtain ⟨hW1, hW2, hW3, hW4, hW5, hW6, hW7⟩ := hW; go_simp; (try with_reducible rfl)
          try simp only [Act.put, List.setIfInBounds_toArray, List.set_cons_zero, List.set_cons_succ, List.getElem_toArray, List.getElem_cons_zero, List.getElem_cons_succ]
          refine wpAnyH_ready (rs := [24]) (by kernel_rfl) (by simp) ?_
          refine AllReadyH.cons rfl (fun K hK => ?_) AllReadyH.nil
          go_simp
          refine hK.out _ _ ?_ (fun hHeld => ?_)
          · exact x4.last ((Mod.refl (fun b => b = g) _).setCell (p := ⟨g, 1, none⟩) (.inr rfl) _) (by have := HGG.out; omega) HP.out.c0
          clear hK K
          try simp only [Act.put, List.setIfInBounds_toArray, List.set_cons_zero, List.set_cons_succ, List.getElem_toArray, List.getElem_cons_zero, List.getElem_cons_succ]
          refine wpAnyH_done (by kernel_rfl) ?_ _
          clear hHeld
          go_wp2_with fail
          go_roundw
          case rel => exact ⟨k + 1, _, by go_num, by omega, Lib.hid (HP.out.turn HN.out.symm)⟩
          case measure => simp [intOf]; omega
      · have HN := Lib.hid (pipesTo_off (N := N) (l := l) (show 14 ≤ k by omega))
        have h24i : ¬ (k : Int) < 14 := by omega
        have HX3 := Lib.hid (HX.out.later ((Below.refl wr.heap.size wr).alloc (Nat.le_refl _) (.cells #[.int .u8 f, .int .u8 t, .int .u8 c, .int .u8 d] 54)))
        clear HX HX1
        go_wp2_with fail
        go_roundw
        case rel => exact ⟨k + 1, _, by go_num, by omega, Lib.hid (HX3.out.turn HN.out.symm)⟩
        case measure => simp [intOf]; omega
    · obtain rfl : k = len := by omega
      obtain ⟨va, vc, hv⟩ := owns_shape HX.out.row
      subst hv
      have x0 := HX.out.c0
      have x1 := HX.out.c1
      have r0 := cell_of_row _ _ 0 _ _ _ HX.out.res
      have r1 := cell_of_row _ _ 1 _ _ _ HX.out.res
      have d0 := frozen_of_row _ _ 0 _ _ HX.out.res
      have d1 := frozen_of_row _ _ 1 _ _ HX.out.res
      go_wp2_with fail
      rw [HNN.out]
      obtain ⟨g1, g2, g3⟩ := HX.out.done
      exact bodyPost_ret (v := .agg #[.int .i64 N, .slice va (pipesTo N l k).length vc]) (results_cell_row rfl _ _ w.heap.size 27 _ (0, 0) _ rfl g1 Try.underlying27 rfl infoNetL) rfl ⟨_, rfl, g2, g3⟩
end Go.Proofs.Ytbenmebmfihleaa

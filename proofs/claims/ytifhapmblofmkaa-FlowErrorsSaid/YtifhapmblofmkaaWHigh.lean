/- How high the nodes lie first. -/
import Derived.Test.YtifhapmblofmkaaFSteps
import Derived.Test.YtifhapmblofmkaaFLanes
import Derived.BigQuiet
import Derived.BigRegion
import Derived.Deep.QuietTactic
import Derived.Deep.RegionWith
import Derived.Deep.RegionHeld3
import Derived.StillTailTactics
namespace Go.Proofs.Ytifhapmblofmkaa
open Go.RowKit

variable {w wr w2 : World} {a : Option Addr} {len cap lb p N s t k v : Nat} {l : List Pi} {far : Nat → Int} {L : Nat → List La} {V : Nat → Value} {x5 x6 x7 x8 x9 x10 x11 : Value}
theorem Lanes.mono2 {B B2 : Nat} (h : Lanes B w lb N V L) (hb : B ≤ B2) : Lanes B2 w lb N V L := by
  refine ⟨Nat.lt_of_lt_of_le h.lt hb, h.out, fun i hi => ?_⟩
  obtain ⟨a, c, e, h2⟩ := h.row i hi
  refine ⟨a, c, e, h2.1, ?_⟩
  rcases h2.2 with h3 | ⟨b, off, e2, h3, h4⟩
  · exact .inl h3
  · exact .inr ⟨b, off, e2, by omega, h4⟩
def opH (l : List Pi) (a : La) : Bool := a.2.2 && decide (0 < room l a.1)
abbrev wsV (N s t lb len cap : Nat) (a : Option Addr) (x5 x6 x7 x8 x9 x10 x11 : Value) : Array Value := #[.int .i64 (N : Int), .slice a len cap, .int .i64 (s : Int), .int .i64 (t : Int), .slice (some ⟨lb, 0, none⟩) N N, x5, x6, x7, x8, x9, x10, x11]
/-- The work as it is ahead of the heights, and the variable that the closure captured. -/
structure HiW (w0 wr : World) (p g : Nat) (ws : Array Value) : Prop where
  below : Below w0.heap.size w0 wr
  blk : wr.heap[p]? = some (.cells ws 60 (0, 0))
  box : wr.heap[g]? = some (.cells #[.pointer (some ⟨p, 0, none⟩)] 51 (0, 0))
theorem HiW.later {w0 : World} {g : Nat} {ws : Array Value} (h : HiW w0 wr p g ws) (hb : Below wr.heap.size wr w2) : HiW w0 w2 p g ws :=
  ⟨h.below.trans (hb.mono h.below.size), (hb.block p (Array.getElem?_eq_some_iff.1 h.blk).1).trans h.blk, (hb.block g (Array.getElem?_eq_some_iff.1 h.box).1).trans h.box⟩
theorem HiW.cells {w0 : World} {g : Nat} (h : HiW w0 wr p g (wsV N s t lb len cap a x5 x6 x7 x8 x9 x10 x11)) : wr.cell? ⟨p, 0, none⟩ = some (.int .i64 (N : Int)) ∧ wr.cell? ⟨p, 1, none⟩ = some (.slice a len cap) ∧ wr.cell? ⟨p, 2, none⟩ = some (.int .i64 (s : Int)) ∧ wr.cell? ⟨p, 3, none⟩ = some (.int .i64 (t : Int)) ∧ wr.cell? ⟨p, 4, none⟩ = some (.slice (some ⟨lb, 0, none⟩) N N) ∧ wr.cell? ⟨g, 0, none⟩ = some (.pointer (some ⟨p, 0, none⟩)) := by
  have h1 := h.blk
  have h2 := h.box
  unfold wsV at h1
  simp [World.cell?, h1, h2]
theorem HiW.set_ {w0 : World} {g G i : Nat} {ws : Array Value} {z : Value} (h : HiW w0 wr p g ws) (h1 : p ≠ G) (h2 : g ≠ G) (h3 : w0.heap.size ≤ G) : HiW w0 (wr.setCell ⟨G, i, none⟩ z) p g ws :=
  ⟨h.below.setCell h3 _, (heap_setCell_other _ _ _ _ h1).trans h.blk, (heap_setCell_other _ _ _ _ h2).trans h.box⟩
theorem HiW.three {w0 : World} {g : Nat} (h : HiW w0 wr p g (wsV N s t lb len cap a x5 x6 x7 x8 x9 x10 x11)) : wr.cell? ⟨p, 3, none⟩ = some (.int .i64 (t : Int)) ∧ wr.cell? ⟨p, 4, none⟩ = some (.slice (some ⟨lb, 0, none⟩) N N) ∧ wr.cell? ⟨g, 0, none⟩ = some (.pointer (some ⟨p, 0, none⟩)) := h.cells.2.2.2
set_option maxHeartbeats 2000000 in
theorem high1_any {w0 : World} {g : Nat} (h : HiW w0 wr p g (wsV N s t lb len cap a x5 x6 x7 x8 x9 x10 x11)) (hl : IsPipes w0.heap.size w0 a len l) (k v : Nat) (bk : Bool) (hk : k < len) :
    Calls Try.prog 32 #[.agg #[.int .i64 (k : Int), .int .i64 (v : Int), .bool bk], .pointer (some ⟨g, 0, none⟩)] wr fun e w' => e = .returned (.bool (opH l (k, v, bk))) ∧ Below wr.heap.size wr w' := by
  have HB := Lib.hid ((Below.refl wr.heap.size wr).alloc (Nat.le_refl _) (.cells #[.int .i64 (k : Int), .int .i64 (v : Int), .bool bk] 63))
  have H1 := h.later HB.out
  obtain ⟨c0, c1, c2, c3, c4, c5⟩ := H1.cells
  obtain ⟨pb, off, x, ha, _, hxx, e0, e1, e2, e3⟩ := (hl.later H1.below).at_ hk
  subst ha
  have HO : Hid (opH l (k, v, bk) = (bk && decide (0 < x.2.2.1))) := Lib.hid (by simp [opH, room_of hxx])
  generalize opH l (k, v, bk) = ov at HO ⊢
  have hkl : (k : Int) < (len : Int) := by omega
  clear h H1 hl hxx
  cases bk with
  | true =>
    by_cases h0 : 0 < x.2.2.1
    · have HV : Hid (ov = true) := Lib.hid (by rw [HO.out]; simp [h0])
      have d0 : decide (0 < x.2.2.1) = true := by simp [h0]
      clear HO
      go_enter Try.func32, Try.ntmps32
      go_wp2_with fail
      go_quiet (fail)
      go_wp2_with fail
      go_ret
      exact ⟨by rw [HV.out]; simp , below_drewN HB.out _⟩
    · have HV : Hid (ov = false) := Lib.hid (by rw [HO.out]; simp [h0])
      have d0 : decide (0 < x.2.2.1) = false := by simpa using h0
      clear HO
      go_enter Try.func32, Try.ntmps32
      go_wp2_with fail
      go_quiet (fail)
      go_wp2_with fail
      go_ret
      exact ⟨by rw [HV.out]; simp , below_drewN HB.out _⟩
  | false =>
    have HV : Hid (ov = false) := Lib.hid (by rw [HO.out]; simp)
    clear HO
    go_enter Try.func32, Try.ntmps32
    go_wp2_with fail
    go_quiet (fail)
    go_wp2_with fail
    go_ret
    exact ⟨by rw [HV.out]; rfl, below_drewN HB.out _⟩
theorem high1_op {w0 : World} {g : Nat} (h : HiW w0 wr p g (wsV N s t lb len cap a x5 x6 x7 x8 x9 x10 x11)) (hl : IsPipes w0.heap.size w0 a len l) (k v : Nat) (bk : Bool) (hk : k < len) :
    Calls Try.prog 32 (#[.agg #[.int .i64 (k : Int), .int .i64 (v : Int), .bool bk]] ++ #[.pointer (some ⟨g, 0, none⟩)]) wr fun e w' => e = .returned (.bool (opH l (k, v, bk))) ∧ Below wr.heap.size wr w' := by
  have e : (#[.agg #[.int .i64 (k : Int), .int .i64 (v : Int), .bool bk]] ++ #[.pointer (some ⟨g, 0, none⟩)] : Array Value) = #[.agg #[.int .i64 (k : Int), .int .i64 (v : Int), .bool bk], .pointer (some ⟨g, 0, none⟩)] := rfl
  rw [e]
  exact high1_any h hl k v bk hk
/-- How high they lie first. -/
def hi0 (N s : Nat) (far : Nat → Int) (i : Nat) : Nat := if i = s then N else if far i < 0 then N + 1 else (far i).toNat
set_option maxHeartbeats 1000000 in
set_option maxRecDepth 100000 in
theorem heights_any (w : World) (hblk : w.heap[p]? = some (.cells (wsV N s t lb len cap a x5 x6 x7 x8 x9 x10 x11) 60 (0, 0))) (hN1 : 1 ≤ N) (hN : N ≤ 1000) (hs : s < N) (ht : t < N) (hl : IsPipes w.heap.size w a len l) (hL : Lanes w.heap.size w lb N V L) (hlo : LanesOk l N L) (hLn : ∀ i, (L i).length ≤ 40000) :
    Calls Try.prog 27 #[.pointer (some ⟨p, 0, none⟩)] w fun e w' => ∃ G far, e = .returned (.slice (some ⟨G, 0, none⟩) N N) ∧ w'.rowIs G 3 N (fun i => .int .i64 (hi0 N s far i : Int)) ∧ w.heap.size ≤ G ∧ Below w.heap.size w w' ∧ FarOk L (opH l) N t far := by
  have hmf : ∀ (fn : Fn) (first cap : Array Value) (w : World), (Instr.makeFunc fn first cap).run Try.prog w = .ok (.func fn first cap) w := fun _ _ _ _ => rfl
  have hHF : ∀ (args : Array Value) (W : World), (callFunc 32 args).run Try.prog W = .ok (.enter 32 args) W := enters_of Try.func32 (by kernel_rfl) rfl
  have HHF := Lib.hid hHF
  have HW : Hid (HiW w (w.alloc (.cells #[.pointer (some ⟨p, 0, none⟩)] 51)) p w.heap.size (wsV N s t lb len cap a x5 x6 x7 x8 x9 x10 x11)) := Lib.hid ⟨(Below.refl _ w).alloc (Nat.le_refl _) _, (Below.heap_alloc _ _ _ (Array.getElem?_eq_some_iff.1 hblk).1).trans hblk, heap_alloc_new _ _⟩
  have HL := Lib.hid hl
  have HLL := Lib.hid hL
  have HLO := Lib.hid hlo
  have HLN := Lib.hid hLn
  have HLT : Hid (∀ u, u < N → ∀ a ∈ L u, a.2.1 < N) := Lib.hid (fun u hu a ha => by obtain ⟨_, _, _, h, _⟩ := hlo.sound u hu a ha; exact h)
  have HOP : Hid (∀ w5, HiW w w5 p w.heap.size (wsV N s t lb len cap a x5 x6 x7 x8 x9 x10 x11) → ∀ W, Below w5.heap.size w5 W → ∀ u, u < N → ∀ k v bk, (k, v, bk) ∈ L u → Calls Try.prog 32 (#[.agg #[.int .i64 (k : Int), .int .i64 (v : Int), .bool bk]] ++ #[.pointer (some ⟨w.heap.size, 0, none⟩)]) W fun e w' => e = .returned (.bool (opH l (k, v, bk))) ∧ Below W.heap.size W w') :=
    Lib.hid (fun w5 h5 W hW u hu k v bk hm => high1_op (h5.later hW) HL.out k v bk (by
      obtain ⟨x, hx, _⟩ := HLO.out.sound u hu _ hm
      have h1 := (List.getElem?_eq_some_iff.1 hx).1
      have := HL.out.1
      simp only at h1
      omega))
  obtain ⟨c0, c1, c2, c3, c4, c5⟩ := HW.out.cells
  have HPL : Hid (p < w.heap.size) := Lib.hid (Array.getElem?_eq_some_iff.1 hblk).1
  clear hHF hblk hl hL hlo hLn
  have HWd := Lib.hid (HW.out.later (Below.refl _ _).drew)
  have HST := Lib.hid (steps_any N t hN1 hN ht _ ((HLL.out.later HWd.out.below).mono2 HWd.out.below.size) HLN.out HLT.out (opH l) 32 #[.pointer (some ⟨w.heap.size, 0, none⟩)] HHF.out (HOP.out _ HWd.out))
  have HT3 := HWd.out.three
  go_enter Try.func27, Try.ntmps27
  go_wp2_with fail
  refine wp_region_held_drew (S := fun W => W.cell? ⟨p, 3, none⟩ = some (.int .i64 (t : Int)) ∧ W.cell? ⟨p, 4, none⟩ = some (.slice (some ⟨lb, 0, none⟩) N N) ∧ W.cell? ⟨w.heap.size, 0, none⟩ = some (.pointer (some ⟨p, 0, none⟩))) (by kernel_rfl) HT3 (fun hHeld => ?_)
  refine wpAnyH_take (i := 0) (v := ?_) rfl (by kernel_rfl) (by kernel_rfl) (by kernel_rfl) (fun _ _ _ h => h) (Or.inl ⟨by rfl, ?_⟩) hHeld ?_
  rotate_left
  · intro W0 hW; obtain ⟨hW1, hW2, hW3⟩ := hW; go_simp; (try with_reducible rfl)
  try simp only [Act.put, List.setIfInBounds_toArray, List.set_cons_zero, List.set_cons_succ, List.getElem_toArray, List.getElem_cons_zero]
  refine wpAnyH_take (i := 1) (v := ?_) rfl (by kernel_rfl) (by kernel_rfl) (by kernel_rfl) (fun _ _ _ h => h) (Or.inl ⟨by rfl, ?_⟩) hHeld ?_
  rotate_left
  · intro W0 hW; obtain ⟨hW1, hW2, hW3⟩ := hW; go_simp; (try with_reducible rfl)
  try simp only [Act.put, List.setIfInBounds_toArray, List.set_cons_zero, List.set_cons_succ, List.getElem_toArray, List.getElem_cons_zero, List.getElem_cons_succ]
  refine wpAnyH_take (i := 2) (v := ?_) rfl (by kernel_rfl) (by kernel_rfl) (by kernel_rfl) (fun _ _ _ h => h) (Or.inl ⟨by rfl, ?_⟩) hHeld ?_
  rotate_left
  · intro W0 hW; obtain ⟨hW1, hW2, hW3⟩ := hW; go_simp; (try with_reducible rfl)
  try simp only [Act.put, List.setIfInBounds_toArray, List.set_cons_zero, List.set_cons_succ, List.getElem_toArray, List.getElem_cons_zero, List.getElem_cons_succ]
  refine wpAnyH_take (i := 3) (v := ?_) rfl (by kernel_rfl) (by kernel_rfl) (by kernel_rfl) (fun _ _ _ h => h) (Or.inl ⟨by rfl, ?_⟩) hHeld ?_
  rotate_left
  · intro W0 hW; obtain ⟨hW1, hW2, hW3⟩ := hW; go_simp; (try with_reducible rfl)
  try simp only [Act.put, List.setIfInBounds_toArray, List.set_cons_zero, List.set_cons_succ, List.getElem_toArray, List.getElem_cons_zero, List.getElem_cons_succ]
  refine wpAnyH_take (i := 4) (v := ?_) rfl (by kernel_rfl) (by kernel_rfl) (by kernel_rfl) (fun _ _ _ h => h) (Or.inl ⟨by rfl, ?_⟩) hHeld ?_
  rotate_left
  · intro W0 hW; obtain ⟨hW1, hW2, hW3⟩ := hW; go_simp; (try with_reducible rfl)
  try simp only [Act.put, List.setIfInBounds_toArray, List.set_cons_zero, List.set_cons_succ, List.getElem_toArray, List.getElem_cons_zero, List.getElem_cons_succ]
  refine wpAnyH_take (i := 5) (v := ?_) rfl (by kernel_rfl) (by kernel_rfl) (by kernel_rfl) (fun _ _ _ h => h) (Or.inl ⟨by rfl, ?_⟩) hHeld ?_
  rotate_left
  · intro W0 hW; obtain ⟨hW1, hW2, hW3⟩ := hW; go_simp; (try with_reducible rfl)
  try simp only [Act.put, List.setIfInBounds_toArray, List.set_cons_zero, List.set_cons_succ, List.getElem_toArray, List.getElem_cons_zero, List.getElem_cons_succ]
  refine wpAnyH_take (i := 6) (v := ?_) rfl (by kernel_rfl) (by kernel_rfl) (by kernel_rfl) (fun _ _ _ h => h) (Or.inl ⟨by rfl, ?_⟩) hHeld ?_
  rotate_left
  · intro W0 hW; obtain ⟨hW1, hW2, hW3⟩ := hW; go_simp; (try with_reducible rfl)
  try simp only [Act.put, List.setIfInBounds_toArray, List.set_cons_zero, List.set_cons_succ, List.getElem_toArray, List.getElem_cons_zero, List.getElem_cons_succ]
  refine wpAnyH_take (i := 7) (v := ?_) rfl (by kernel_rfl) (by kernel_rfl) (by kernel_rfl) (fun _ _ _ h => h) (Or.inl ⟨by rfl, ?_⟩) hHeld ?_
  rotate_left
  · intro W0 hW; obtain ⟨hW1, hW2, hW3⟩ := hW; go_simp; (try with_reducible rfl)
  try simp only [Act.put, List.setIfInBounds_toArray, List.set_cons_zero, List.set_cons_succ, List.getElem_toArray, List.getElem_cons_zero, List.getElem_cons_succ]
  refine wpAnyH_take (i := 8) (v := ?_) rfl (by kernel_rfl) (by kernel_rfl) (by kernel_rfl) (fun _ _ _ h => h) (Or.inl ⟨by rfl, ?_⟩) hHeld ?_
  rotate_left
  · intro W0 hW; obtain ⟨hW1, hW2, hW3⟩ := hW; go_simp; (try with_reducible rfl)
  try simp only [Act.put, List.setIfInBounds_toArray, List.set_cons_zero, List.set_cons_succ, List.getElem_toArray, List.getElem_cons_zero, List.getElem_cons_succ]
  refine wpAnyH_ready (rs := [9]) (by kernel_rfl) (by simp) ?_
  refine AllReadyH.cons rfl (fun K hK => ?_) AllReadyH.nil
  go_simp
  refine HST.out.mono ?_; rintro e w6 ⟨G, far, rfl, hrow, hge, hb6, hfar⟩; have HRW := Lib.hid hrow; have HFR := Lib.hid hfar; have HW6 := Lib.hid (HWd.out.later hb6); have HGE := Lib.hid hge; clear hrow hge hb6 hfar; go_wp2_with fail
  refine hK.out _ _ ?_ (fun hHeld => ?_)
  · exact HW6.out.three
  clear hK K
  try simp only [Act.put, List.setIfInBounds_toArray, List.set_cons_zero, List.set_cons_succ, List.getElem_toArray, List.getElem_cons_zero, List.getElem_cons_succ]
  refine wpAnyH_take (i := 10) (v := ?_) rfl (by kernel_rfl) (by kernel_rfl) (by kernel_rfl) (fun _ _ _ h => h) (Or.inl ⟨by rfl, ?_⟩) hHeld ?_
  rotate_left
  · intro W0 hW; go_simp; (try with_reducible rfl)
  try simp only [Act.put, List.setIfInBounds_toArray, List.set_cons_zero, List.set_cons_succ, List.getElem_toArray, List.getElem_cons_zero, List.getElem_cons_succ]
  refine wpAnyH_done (by kernel_rfl) ?_ _
  clear hHeld
  have HPG : Hid (p < w.heap.size ∧ w.heap.size < G) := Lib.hid ⟨HPL.out, by have h := HGE.out; simp at h; omega⟩
  have hNw : IntKind.i64.wrap ((N : Int) + 1) = (N : Int) + 1 := by rw [IntKind.wrap_i64]; omega
  clear HST HT3 HWd c0 c1 c2 c3 c4 c5
  go_wp2_with fail
  go_loopw [18] (fun i wr => ∃ k : Nat, i = .int .i64 k ∧ k ≤ N ∧ Hid (HiW w wr p w.heap.size (wsV N s t lb len cap a x5 x6 x7 x8 x9 x10 x11) ∧ wr.rowIs G 3 N (fun i => .int .i64 (if i < k ∧ far i < 0 then (N : Int) + 1 else far i)))) (fun i _ => N - (intOf i).toNat)
  case atStart => exact ⟨0, rfl, Nat.zero_le _, Lib.hid ⟨HW6.out, HRW.out.congr (fun i _ => by rw [if_neg (by omega)])⟩⟩
  case round =>
    obtain ⟨k, rfl, hk, HR⟩ := hrel
    by_cases hlt : k < N
    · have r0 := HR.out.2.cell hlt
      have f0 := HR.out.2.frozen k
      rw [if_neg (by omega)] at r0
      obtain ⟨c0, _, _, _, _, c5⟩ := HR.out.1.cells
      obtain ⟨fk, hfk⟩ : ∃ z, far k = z := ⟨_, rfl⟩
      have HFK := Lib.hid hfk
      rw [hfk] at r0
      clear hfk
      by_cases h0 : fk < 0
      · have HN : Hid (HiW w (wr.setCell ⟨G, k, none⟩ (.int .i64 ((N : Int) + 1))) p w.heap.size (wsV N s t lb len cap a x5 x6 x7 x8 x9 x10 x11) ∧ (wr.setCell ⟨G, k, none⟩ (.int .i64 ((N : Int) + 1))).rowIs G 3 N (fun i => .int .i64 (if i < k + 1 ∧ far i < 0 then (N : Int) + 1 else far i))) :=
          Lib.hid ⟨HR.out.1.set_ (by have := HPG.out; omega) (by have := HPG.out; omega) (by have := HPG.out; omega), (HR.out.2.set k _).congr (fun i _ => by
            by_cases e : i = k
            · subst e; rw [if_pos rfl, if_pos (by have := HFK.out; omega)]
            · rw [if_neg e]; congr 1
              by_cases e2 : i < k ∧ far i < 0
              · rw [if_pos e2, if_pos (by omega)]
              · rw [if_neg e2, if_neg (by omega)])⟩
        go_wp2_with fail
        go_roundw
        case rel => exact ⟨k + 1, by go_num, by omega, HN⟩
        case measure => simp [intOf]; omega
      · have HN : Hid (HiW w wr p w.heap.size (wsV N s t lb len cap a x5 x6 x7 x8 x9 x10 x11) ∧ wr.rowIs G 3 N (fun i => .int .i64 (if i < k + 1 ∧ far i < 0 then (N : Int) + 1 else far i))) :=
          Lib.hid ⟨HR.out.1, HR.out.2.congr (fun i _ => by
            congr 1
            by_cases e2 : i < k ∧ far i < 0
            · rw [if_pos e2, if_pos (by omega)]
            · rw [if_neg e2, if_neg (fun h => by
                by_cases e : i = k
                · subst e; have := HFK.out; omega
                · omega)])⟩
        go_wp2_with fail
        go_roundw
        case rel => exact ⟨k + 1, by go_num, by omega, HN⟩
        case measure => simp [intOf]; omega
    · obtain rfl : k = N := by omega
      obtain ⟨c0, _, c2, _, _, c5⟩ := HR.out.1.cells
      have f0 := HR.out.2.frozen s
      have r0 := HR.out.2.cell hs
      have HZ := Lib.hid ((HR.out.2.set s (.int .i64 (k : Int))).drew.congr (g := fun i => .int .i64 (hi0 k s far i : Int)) (fun i hi => by
        unfold hi0
        by_cases e : i = s
        · rw [if_pos e, if_pos e]
        · rw [if_neg e, if_neg e]
          congr 1
          by_cases e2 : far i < 0
          · rw [if_pos ⟨hi, e2⟩, if_pos e2]; omega
          · rw [if_neg (fun h => e2 h.2), if_neg e2]; omega))
      have HBZ := Lib.hid ((HR.out.1.below.setCell (p := ⟨G, s, none⟩) (by have := HPG.out; show w.heap.size ≤ G; omega) (.int .i64 (k : Int))).drew)
      go_wp2_with fail
      go_region
      go_wp2_with fail
      go_ret
      exact ⟨G, far, rfl, HZ.out, by have := HPG.out; omega, HBZ.out, HFR.out⟩
end Go.Proofs.Ytifhapmblofmkaa

/- Joined: WHigh, WMade. -/
import Derived.Test.YtbenmebmfihleaaFSteps
import Derived.Test.YtbenmebmfihleaaFLanes
import Derived.BigQuiet
import Derived.BigRegion
import Derived.Deep.QuietTactic
import Derived.Deep.RegionWith
import Derived.Deep.RegionHeld3
import Derived.StillTailTactics
import Derived.Test.YtbenmebmfihleaaMWSend
section
/- How high the nodes lie first. -/
namespace Go.Proofs.Ytbenmebmfihleaa
open Go.RowKit

variable {w wr w2 : World} {a : Option Addr} {len cap lb p N s t k v : Nat} {l : List Pi} {far : Nat → Int} {L : Nat → List La} {V : Nat → Value} {x5 x6 x7 x8 x9 x10 x11 : Value}
theorem Lanes.mono2 {B B2 : Nat} (h : Lanes B w lb N V L) (hb : B ≤ B2) : Lanes B2 w lb N V L := by
  refine ⟨Nat.lt_of_lt_of_le h.lt hb, h.out, fun i hi => ?_⟩
  obtain ⟨a, c, e, h2⟩ := h.row i hi
  refine ⟨a, c, e, h2.1, ?_⟩
  rcases h2.2 with h3 | ⟨b, off, e2, h3, h4⟩
  · exact .inl h3
  · exact .inr ⟨b, off, e2, by omega, h4⟩
def opH (l : List Pi) (a : La) : Bool := a.2.2 && decide (0 < room l a.1)
abbrev wsV (N s t lb len cap : Nat) (a : Option Addr) (x5 x6 x7 x8 x9 x10 x11 : Value) : Array Value := #[.int .i64 (N : Int), .slice a len cap, .int .i64 (s : Int), .int .i64 (t : Int), .slice (some ⟨lb, 0, none⟩) N N, x5, x6, x7, x8, x9, x10, x11]
/-- The work as it is ahead of the heights, and the variable that the closure captured. -/
structure HiW (w0 wr : World) (p g : Nat) (ws : Array Value) : Prop where
  below : Below w0.heap.size w0 wr
  blk : wr.heap[p]? = some (.cells ws 64 (0, 0))
  box : wr.heap[g]? = some (.cells #[.pointer (some ⟨p, 0, none⟩)] 55 (0, 0))
theorem HiW.later {w0 : World} {g : Nat} {ws : Array Value} (h : HiW w0 wr p g ws) (hb : Below wr.heap.size wr w2) : HiW w0 w2 p g ws :=
  ⟨h.below.trans (hb.mono h.below.size), (hb.block p (Array.getElem?_eq_some_iff.1 h.blk).1).trans h.blk, (hb.block g (Array.getElem?_eq_some_iff.1 h.box).1).trans h.box⟩
theorem HiW.cells {w0 : World} {g : Nat} (h : HiW w0 wr p g (wsV N s t lb len cap a x5 x6 x7 x8 x9 x10 x11)) : wr.cell? ⟨p, 0, none⟩ = some (.int .i64 (N : Int)) ∧ wr.cell? ⟨p, 1, none⟩ = some (.slice a len cap) ∧ wr.cell? ⟨p, 2, none⟩ = some (.int .i64 (s : Int)) ∧ wr.cell? ⟨p, 3, none⟩ = some (.int .i64 (t : Int)) ∧ wr.cell? ⟨p, 4, none⟩ = some (.slice (some ⟨lb, 0, none⟩) N N) ∧ wr.cell? ⟨g, 0, none⟩ = some (.pointer (some ⟨p, 0, none⟩)) := by
  have h1 := h.blk
  have h2 := h.box
  unfold wsV at h1
  simp [World.cell?, h1, h2]
theorem HiW.set_ {w0 : World} {g G i : Nat} {ws : Array Value} {z : Value} (h : HiW w0 wr p g ws) (h1 : p ≠ G) (h2 : g ≠ G) (h3 : w0.heap.size ≤ G) : HiW w0 (wr.setCell ⟨G, i, none⟩ z) p g ws :=
  ⟨h.below.setCell h3 _, (heap_setCell_other _ _ _ _ h1).trans h.blk, (heap_setCell_other _ _ _ _ h2).trans h.box⟩
theorem HiW.three {w0 : World} {g : Nat} (h : HiW w0 wr p g (wsV N s t lb len cap a x5 x6 x7 x8 x9 x10 x11)) : wr.cell? ⟨p, 3, none⟩ = some (.int .i64 (t : Int)) ∧ wr.cell? ⟨p, 4, none⟩ = some (.slice (some ⟨lb, 0, none⟩) N N) ∧ wr.cell? ⟨g, 0, none⟩ = some (.pointer (some ⟨p, 0, none⟩)) := h.cells.2.2.2
set_option maxHeartbeats 2000000 in
theorem high1_any {w0 : World} {g : Nat} (h : HiW w0 wr p g (wsV N s t lb len cap a x5 x6 x7 x8 x9 x10 x11)) (hl : IsPipes w0.heap.size w0 a len l) (k v : Nat) (bk : Bool) (hk : k < len) :
    Calls Try.prog 47 #[.agg #[.int .i64 (k : Int), .int .i64 (v : Int), .bool bk], .pointer (some ⟨g, 0, none⟩)] wr fun e w' => e = .returned (.bool (opH l (k, v, bk))) ∧ Below wr.heap.size wr w' := by
  have HB := Lib.hid ((Below.refl wr.heap.size wr).alloc (Nat.le_refl _) (.cells #[.int .i64 (k : Int), .int .i64 (v : Int), .bool bk] 81))
  have H1 := h.later HB.out
  obtain ⟨c0, c1, c2, c3, c4, c5⟩ := H1.cells
  obtain ⟨pb, off, x, ha, _, hxx, e0, e1, e2, e3⟩ := (hl.later H1.below).at_ hk
  subst ha
  have HO : Hid (opH l (k, v, bk) = (bk && decide (0 < x.2.2.1))) := Lib.hid (by simp [opH, room_of hxx])
  generalize opH l (k, v, bk) = ov at HO ⊢
  have hkl : (k : Int) < (len : Int) := by omega
  clear h H1 hl hxx
  cases bk with
  | true =>
    by_cases h0 : 0 < x.2.2.1
    · have HV : Hid (ov = true) := Lib.hid (by rw [HO.out]; simp [h0])
      have d0 : decide (0 < x.2.2.1) = true := by simp [h0]
      clear HO
      go_enter Try.func47, Try.ntmps47
      go_wp2_with fail
      go_quiet (fail)
      go_wp2_with fail
      go_ret
      exact ⟨by rw [HV.out]; simp , below_drewN HB.out _⟩
    · have HV : Hid (ov = false) := Lib.hid (by rw [HO.out]; simp [h0])
      have d0 : decide (0 < x.2.2.1) = false := by simpa using h0
      clear HO
      go_enter Try.func47, Try.ntmps47
      go_wp2_with fail
      go_quiet (fail)
      go_wp2_with fail
      go_ret
      exact ⟨by rw [HV.out]; simp , below_drewN HB.out _⟩
  | false =>
    have HV : Hid (ov = false) := Lib.hid (by rw [HO.out]; simp)
    clear HO
    go_enter Try.func47, Try.ntmps47
    go_wp2_with fail
    go_quiet (fail)
    go_wp2_with fail
    go_ret
    exact ⟨by rw [HV.out]; rfl, below_drewN HB.out _⟩
theorem high1_op {w0 : World} {g : Nat} (h : HiW w0 wr p g (wsV N s t lb len cap a x5 x6 x7 x8 x9 x10 x11)) (hl : IsPipes w0.heap.size w0 a len l) (k v : Nat) (bk : Bool) (hk : k < len) :
    Calls Try.prog 47 (#[.agg #[.int .i64 (k : Int), .int .i64 (v : Int), .bool bk]] ++ #[.pointer (some ⟨g, 0, none⟩)]) wr fun e w' => e = .returned (.bool (opH l (k, v, bk))) ∧ Below wr.heap.size wr w' := by
  have e : (#[.agg #[.int .i64 (k : Int), .int .i64 (v : Int), .bool bk]] ++ #[.pointer (some ⟨g, 0, none⟩)] : Array Value) = #[.agg #[.int .i64 (k : Int), .int .i64 (v : Int), .bool bk], .pointer (some ⟨g, 0, none⟩)] := rfl
  rw [e]
  exact high1_any h hl k v bk hk
/-- How high they lie first. -/
def hi0 (N s : Nat) (far : Nat → Int) (i : Nat) : Nat := if i = s then N else if far i < 0 then N + 1 else (far i).toNat
set_option maxHeartbeats 1000000 in
set_option maxRecDepth 100000 in
theorem heights_any (w : World) (hblk : w.heap[p]? = some (.cells (wsV N s t lb len cap a x5 x6 x7 x8 x9 x10 x11) 64 (0, 0))) (hN1 : 1 ≤ N) (hN : N ≤ 1000) (hs : s < N) (ht : t < N) (hl : IsPipes w.heap.size w a len l) (hL : Lanes w.heap.size w lb N V L) (hlo : LanesOk l N L) (hLn : ∀ i, (L i).length ≤ 40000) :
    Calls Try.prog 35 #[.pointer (some ⟨p, 0, none⟩)] w fun e w' => ∃ G far, e = .returned (.slice (some ⟨G, 0, none⟩) N N) ∧ w'.rowIs G 3 N (fun i => .int .i64 (hi0 N s far i : Int)) ∧ w.heap.size ≤ G ∧ Below w.heap.size w w' ∧ FarOk L (opH l) N t far := by
  have hmf : ∀ (fn : Fn) (first cap : Array Value) (w : World), (Instr.makeFunc fn first cap).run Try.prog w = .ok (.func fn first cap) w := fun _ _ _ _ => rfl
  have hHF : ∀ (args : Array Value) (W : World), (callFunc 47 args).run Try.prog W = .ok (.enter 47 args) W := enters_of Try.func47 (by kernel_rfl) rfl
  have HHF := Lib.hid hHF
  have HW : Hid (HiW w (w.alloc (.cells #[.pointer (some ⟨p, 0, none⟩)] 55)) p w.heap.size (wsV N s t lb len cap a x5 x6 x7 x8 x9 x10 x11)) := Lib.hid ⟨(Below.refl _ w).alloc (Nat.le_refl _) _, (Below.heap_alloc _ _ _ (Array.getElem?_eq_some_iff.1 hblk).1).trans hblk, heap_alloc_new _ _⟩
  have HL := Lib.hid hl
  have HLL := Lib.hid hL
  have HLO := Lib.hid hlo
  have HLN := Lib.hid hLn
  have HLT : Hid (∀ u, u < N → ∀ a ∈ L u, a.2.1 < N) := Lib.hid (fun u hu a ha => by obtain ⟨_, _, _, h, _⟩ := hlo.sound u hu a ha; exact h)
  have HOP : Hid (∀ w5, HiW w w5 p w.heap.size (wsV N s t lb len cap a x5 x6 x7 x8 x9 x10 x11) → ∀ W, Below w5.heap.size w5 W → ∀ u, u < N → ∀ k v bk, (k, v, bk) ∈ L u → Calls Try.prog 47 (#[.agg #[.int .i64 (k : Int), .int .i64 (v : Int), .bool bk]] ++ #[.pointer (some ⟨w.heap.size, 0, none⟩)]) W fun e w' => e = .returned (.bool (opH l (k, v, bk))) ∧ Below W.heap.size W w') :=
    Lib.hid (fun w5 h5 W hW u hu k v bk hm => high1_op (h5.later hW) HL.out k v bk (by
      obtain ⟨x, hx, _⟩ := HLO.out.sound u hu _ hm
      have h1 := (List.getElem?_eq_some_iff.1 hx).1
      have := HL.out.1
      simp only at h1
      omega))
  obtain ⟨c0, c1, c2, c3, c4, c5⟩ := HW.out.cells
  have HPL : Hid (p < w.heap.size) := Lib.hid (Array.getElem?_eq_some_iff.1 hblk).1
  clear hHF hblk hl hL hlo hLn
  have HWd := Lib.hid (HW.out.later (Below.refl _ _).drew)
  have HST := Lib.hid (steps_any N t hN1 hN ht _ ((HLL.out.later HWd.out.below).mono2 HWd.out.below.size) HLN.out HLT.out (opH l) 47 #[.pointer (some ⟨w.heap.size, 0, none⟩)] HHF.out (HOP.out _ HWd.out))
  have HT3 := HWd.out.three
  go_enter Try.func35, Try.ntmps35
  go_wp2_with fail
  refine wp_region_held_drew (S := fun W => W.cell? ⟨p, 3, none⟩ = some (.int .i64 (t : Int)) ∧ W.cell? ⟨p, 4, none⟩ = some (.slice (some ⟨lb, 0, none⟩) N N) ∧ W.cell? ⟨w.heap.size, 0, none⟩ = some (.pointer (some ⟨p, 0, none⟩))) (by kernel_rfl) HT3 (fun hHeld => ?_)
  refine wpAnyH_take (i := 0) (v := ?_) rfl (by kernel_rfl) (by kernel_rfl) (by kernel_rfl) (fun _ _ _ h => h) (Or.inl ⟨by rfl, ?_⟩) hHeld ?_
  rotate_left
  · intro W0 hW; obtain ⟨hW1, hW2, hW3⟩ := hW; go_simp; (try with_reducible rfl)
  try simp only [Act.put, List.setIfInBounds_toArray, List.set_cons_zero, List.set_cons_succ, List.getElem_toArray, List.getElem_cons_zero]
  refine wpAnyH_take (i := 1) (v := ?_) rfl (by kernel_rfl) (by kernel_rfl) (by kernel_rfl) (fun _ _ _ h => h) (Or.inl ⟨by rfl, ?_⟩) hHeld ?_
  rotate_left
  · intro W0 hW; obtain ⟨hW1, hW2, hW3⟩ := hW; go_simp; (try with_reducible rfl)
  try simp only [Act.put, List.setIfInBounds_toArray, List.set_cons_zero, List.set_cons_succ, List.getElem_toArray, List.getElem_cons_zero, List.getElem_cons_succ]
  refine wpAnyH_take (i := 2) (v := ?_) rfl (by kernel_rfl) (by kernel_rfl) (by kernel_rfl) (fun _ _ _ h => h) (Or.inl ⟨by rfl, ?_⟩) hHeld ?_
  rotate_left
  · intro W0 hW; obtain ⟨hW1, hW2, hW3⟩ := hW; go_simp; (try with_reducible rfl)
  try simp only [Act.put, List.setIfInBounds_toArray, List.set_cons_zero, List.set_cons_succ, List.getElem_toArray, List.getElem_cons_zero, List.getElem_cons_succ]
  refine wpAnyH_take (i := 3) (v := ?_) rfl (by kernel_rfl) (by kernel_rfl) (by kernel_rfl) (fun _ _ _ h => h) (Or.inl ⟨by rfl, ?_⟩) hHeld ?_
  rotate_left
  · intro W0 hW; obtain ⟨hW1, hW2, hW3⟩ := hW; go_simp; (try with_reducible rfl)
  try simp only [Act.put, List.setIfInBounds_toArray, List.set_cons_zero, List.set_cons_succ, List.getElem_toArray, List.getElem_cons_zero, List.getElem_cons_succ]
  refine wpAnyH_take (i := 4) (v := ?_) rfl (by kernel_rfl) (by kernel_rfl) (by kernel_rfl) (fun _ _ _ h => h) (Or.inl ⟨by rfl, ?_⟩) hHeld ?_
  rotate_left
  · intro W0 hW; obtain ⟨hW1, hW2, hW3⟩ := hW; go_simp; (try with_reducible rfl)
  try simp only [Act.put, List.setIfInBounds_toArray, List.set_cons_zero, List.set_cons_succ, List.getElem_toArray, List.getElem_cons_zero, List.getElem_cons_succ]
  refine wpAnyH_take (i := 5) (v := ?_) rfl (by kernel_rfl) (by kernel_rfl) (by kernel_rfl) (fun _ _ _ h => h) (Or.inl ⟨by rfl, ?_⟩) hHeld ?_
  rotate_left
  · intro W0 hW; obtain ⟨hW1, hW2, hW3⟩ := hW; go_simp; (try with_reducible rfl)
  try simp only [Act.put, List.setIfInBounds_toArray, List.set_cons_zero, List.set_cons_succ, List.getElem_toArray, List.getElem_cons_zero, List.getElem_cons_succ]
  refine wpAnyH_take (i := 6) (v := ?_) rfl (by kernel_rfl) (by kernel_rfl) (by kernel_rfl) (fun _ _ _ h => h) (Or.inl ⟨by rfl, ?_⟩) hHeld ?_
  rotate_left
  · intro W0 hW; obtain ⟨hW1, hW2, hW3⟩ := hW; go_simp; (try with_reducible rfl)
  try simp only [Act.put, List.setIfInBounds_toArray, List.set_cons_zero, List.set_cons_succ, List.getElem_toArray, List.getElem_cons_zero, List.getElem_cons_succ]
  refine wpAnyH_take (i := 7) (v := ?_) rfl (by kernel_rfl) (by kernel_rfl) (by kernel_rfl) (fun _ _ _ h => h) (Or.inl ⟨by rfl, ?_⟩) hHeld ?_
  rotate_left
  · intro W0 hW; obtain ⟨hW1, hW2, hW3⟩ := hW; go_simp; (try with_reducible rfl)
  try simp only [Act.put, List.setIfInBounds_toArray, List.set_cons_zero, List.set_cons_succ, List.getElem_toArray, List.getElem_cons_zero, List.getElem_cons_succ]
  refine wpAnyH_take (i := 8) (v := ?_) rfl (by kernel_rfl) (by kernel_rfl) (by kernel_rfl) (fun _ _ _ h => h) (Or.inl ⟨by rfl, ?_⟩) hHeld ?_
  rotate_left
  · intro W0 hW; obtain ⟨hW1, hW2, hW3⟩ := hW; go_simp; (try with_reducible rfl)
  try simp only [Act.put, List.setIfInBounds_toArray, List.set_cons_zero, List.set_cons_succ, List.getElem_toArray, List.getElem_cons_zero, List.getElem_cons_succ]
  refine wpAnyH_ready (rs := [9]) (by kernel_rfl) (by simp) ?_
  refine AllReadyH.cons rfl (fun K hK => ?_) AllReadyH.nil
  go_simp
  refine HST.out.mono ?_; rintro e w6 ⟨G, far, rfl, hrow, hge, hb6, hfar⟩; have HRW := Lib.hid hrow; have HFR := Lib.hid hfar; have HW6 := Lib.hid (HWd.out.later hb6); have HGE := Lib.hid hge; clear hrow hge hb6 hfar; go_wp2_with fail
  refine hK.out _ _ ?_ (fun hHeld => ?_)
  · exact HW6.out.three
  clear hK K
  try simp only [Act.put, List.setIfInBounds_toArray, List.set_cons_zero, List.set_cons_succ, List.getElem_toArray, List.getElem_cons_zero, List.getElem_cons_succ]
  refine wpAnyH_take (i := 10) (v := ?_) rfl (by kernel_rfl) (by kernel_rfl) (by kernel_rfl) (fun _ _ _ h => h) (Or.inl ⟨by rfl, ?_⟩) hHeld ?_
  rotate_left
  · intro W0 hW; go_simp; (try with_reducible rfl)
  try simp only [Act.put, List.setIfInBounds_toArray, List.set_cons_zero, List.set_cons_succ, List.getElem_toArray, List.getElem_cons_zero, List.getElem_cons_succ]
  refine wpAnyH_done (by kernel_rfl) ?_ _
  clear hHeld
  have HPG : Hid (p < w.heap.size ∧ w.heap.size < G) := Lib.hid ⟨HPL.out, by have h := HGE.out; simp at h; omega⟩
  have hNw : IntKind.i64.wrap ((N : Int) + 1) = (N : Int) + 1 := by rw [IntKind.wrap_i64]; omega
  clear HST HT3 HWd c0 c1 c2 c3 c4 c5
  go_wp2_with fail
  go_loopw [18] (fun i wr => ∃ k : Nat, i = .int .i64 k ∧ k ≤ N ∧ Hid (HiW w wr p w.heap.size (wsV N s t lb len cap a x5 x6 x7 x8 x9 x10 x11) ∧ wr.rowIs G 3 N (fun i => .int .i64 (if i < k ∧ far i < 0 then (N : Int) + 1 else far i)))) (fun i _ => N - (intOf i).toNat)
  case atStart => exact ⟨0, rfl, Nat.zero_le _, Lib.hid ⟨HW6.out, HRW.out.congr (fun i _ => by rw [if_neg (by omega)])⟩⟩
  case round =>
    obtain ⟨k, rfl, hk, HR⟩ := hrel
    by_cases hlt : k < N
    · have r0 := HR.out.2.cell hlt
      have f0 := HR.out.2.frozen k
      rw [if_neg (by omega)] at r0
      obtain ⟨c0, _, _, _, _, c5⟩ := HR.out.1.cells
      obtain ⟨fk, hfk⟩ : ∃ z, far k = z := ⟨_, rfl⟩
      have HFK := Lib.hid hfk
      rw [hfk] at r0
      clear hfk
      by_cases h0 : fk < 0
      · have HN : Hid (HiW w (wr.setCell ⟨G, k, none⟩ (.int .i64 ((N : Int) + 1))) p w.heap.size (wsV N s t lb len cap a x5 x6 x7 x8 x9 x10 x11) ∧ (wr.setCell ⟨G, k, none⟩ (.int .i64 ((N : Int) + 1))).rowIs G 3 N (fun i => .int .i64 (if i < k + 1 ∧ far i < 0 then (N : Int) + 1 else far i))) :=
          Lib.hid ⟨HR.out.1.set_ (by have := HPG.out; omega) (by have := HPG.out; omega) (by have := HPG.out; omega), (HR.out.2.set k _).congr (fun i _ => by
            by_cases e : i = k
            · subst e; rw [if_pos rfl, if_pos (by have := HFK.out; omega)]
            · rw [if_neg e]; congr 1
              by_cases e2 : i < k ∧ far i < 0
              · rw [if_pos e2, if_pos (by omega)]
              · rw [if_neg e2, if_neg (by omega)])⟩
        go_wp2_with fail
        go_roundw
        case rel => exact ⟨k + 1, by go_num, by omega, HN⟩
        case measure => simp [intOf]; omega
      · have HN : Hid (HiW w wr p w.heap.size (wsV N s t lb len cap a x5 x6 x7 x8 x9 x10 x11) ∧ wr.rowIs G 3 N (fun i => .int .i64 (if i < k + 1 ∧ far i < 0 then (N : Int) + 1 else far i))) :=
          Lib.hid ⟨HR.out.1, HR.out.2.congr (fun i _ => by
            congr 1
            by_cases e2 : i < k ∧ far i < 0
            · rw [if_pos e2, if_pos (by omega)]
            · rw [if_neg e2, if_neg (fun h => by
                by_cases e : i = k
                · subst e; have := HFK.out; omega
                · omega)])⟩
        go_wp2_with fail
        go_roundw
        case rel => exact ⟨k + 1, by go_num, by omega, HN⟩
        case measure => simp [intOf]; omega
    · obtain rfl : k = N := by omega
      obtain ⟨c0, _, c2, _, _, c5⟩ := HR.out.1.cells
      have f0 := HR.out.2.frozen s
      have r0 := HR.out.2.cell hs
      have HZ := Lib.hid ((HR.out.2.set s (.int .i64 (k : Int))).drew.congr (g := fun i => .int .i64 (hi0 k s far i : Int)) (fun i hi => by
        unfold hi0
        by_cases e : i = s
        · rw [if_pos e, if_pos e]
        · rw [if_neg e, if_neg e]
          congr 1
          by_cases e2 : far i < 0
          · rw [if_pos ⟨hi, e2⟩, if_pos e2]; omega
          · rw [if_neg (fun h => e2 h.2), if_neg e2]; omega))
      have HBZ := Lib.hid ((HR.out.1.below.setCell (p := ⟨G, s, none⟩) (by have := HPG.out; show w.heap.size ≤ G; omega) (.int .i64 (k : Int))).drew)
      go_wp2_with fail
      go_region
      go_wp2_with fail
      go_ret
      exact ⟨G, far, rfl, HZ.out, by have := HPG.out; omega, HBZ.out, HFR.out⟩
end Go.Proofs.Ytbenmebmfihleaa
end
section
/- The work's rows while they are made, in whatever order; the first flows. -/
namespace Go.Proofs.Ytbenmebmfihleaa
open Go.RowKit

variable {w w2 wr w4 : World} {a : Option Addr} {len cap lb p N s t k v i : Nat} {l : List Pi} {o : Nat → Option Nat} {c : Nat → Value} {x : Value} {far : Nat → Int}
/-- Row i: its type, its length, what it holds first. (0 flow, 1 stays, 2 next, 3 many, 4 full.) -/
abbrev zT (i : Nat) : TypeId := match i with | 0 => 2 | 1 => 2 | 2 => 3 | 3 => 3 | _ => 61
abbrev zN (len N : Nat) (i : Nat) : Nat := match i with | 0 => len | 1 => N | 2 => N | 3 => 2 * N | _ => 2 * N
abbrev zV (i : Nat) : Value := match i with | 0 => .int .i64 0 | 1 => .int .i64 0 | 2 => .int .i64 0 | 3 => .int .i64 0 | _ => .slice none 0 0
/-- The rows that are made lie apart, behind block p, that holds the work; c: what its cells hold. -/
structure BW (w w2 wr : World) (p lb N s t len cap : Nat) (a : Option Addr) (o : Nat → Option Nat) (c : Nat → Value) : Prop where
  box : NBox w wr w.heap.size (N : Int) a len cap
  since : Below p w2 wr
  gp : w.heap.size < p
  blk : wr.heap[p]? = some (.cells (wsV N s t lb len cap a (c 0) (c 1) (.slice none 0 0) (c 3) (c 2) (c 4) (.int .i64 0)) 64 (0, 0))
  rows : ∀ i b, o i = some b → wr.rowIs b (zT i) (zN len N i) (fun _ => zV i) ∧ p < b
  ne : ∀ i j b, i ≠ j → o i = some b → o j ≠ some b
def putO (o : Nat → Option Nat) (i b : Nat) : Nat → Option Nat := fun j => if j = i then some b else o j
def putC (c : Nat → Value) (i : Nat) (x : Value) : Nat → Value := fun j => if j = i then x else c j
theorem BW.lt (h : BW w w2 wr p lb N s t len cap a o c) : p < wr.heap.size := (Array.getElem?_eq_some_iff.1 h.blk).1
theorem BW.drew (h : BW w w2 wr p lb N s t len cap a o c) : BW w w2 wr.drew p lb N s t len cap a o c := ⟨h.box.later (Below.refl _ _).drew, h.since.drew, h.gp, h.blk, h.rows, h.ne⟩
theorem BW.mk_ (h : BW w w2 wr p lb N s t len cap a o c) (i : Nat) : BW w w2 (wr.alloc (.cells (madeCells #[zV i] (zN len N i)) (zT i))) p lb N s t len cap a (putO o i wr.heap.size) c := by
  have hlt := h.lt
  refine ⟨h.box.alloc _, h.since.alloc (by omega) _, h.gp, (Below.heap_alloc _ _ _ hlt).trans h.blk, fun j b hj => ?_, fun j k b hjk hj hk => ?_⟩
  · unfold putO at hj
    by_cases e : j = i
    · subst e
      rw [if_pos rfl] at hj
      injection hj with hj
      subst hj
      exact ⟨World.rowIs_made _ _ _ _, hlt⟩
    · rw [if_neg e] at hj
      obtain ⟨h1, h2⟩ := h.rows j b hj
      exact ⟨h1.alloc _, h2⟩
  · unfold putO at hj hk
    by_cases e : j = i
    · rw [if_pos e] at hj
      rw [if_neg (fun e2 => hjk (e.trans e2.symm))] at hk
      injection hj with hj
      have := (h.rows k b hk).1.lt
      omega
    · rw [if_neg e] at hj
      by_cases e2 : k = i
      · rw [if_pos e2] at hk
        injection hk with hk
        have := (h.rows j b hj).1.lt
        omega
      · rw [if_neg e2] at hk
        exact h.ne j k b hjk hj hk
theorem BW.st_ (h : BW w w2 wr p lb N s t len cap a o c) (f i : Nat) (x : Value) (hf : (wsV N s t lb len cap a (c 0) (c 1) (.slice none 0 0) (c 3) (c 2) (c 4) (.int .i64 0)).setIfInBounds f x = wsV N s t lb len cap a (putC c i x 0) (putC c i x 1) (.slice none 0 0) (putC c i x 3) (putC c i x 2) (putC c i x 4) (.int .i64 0)) :
    BW w w2 (wr.setCell ⟨p, f, none⟩ x) p lb N s t len cap a o (putC c i x) := by
  have hlt := h.lt
  have hgp := h.gp
  refine ⟨⟨h.box.below.setCell (p := ⟨p, f, none⟩) (by show w.heap.size ≤ p; omega) _, h.box.ge, (heap_setCell_other _ _ _ _ (by show w.heap.size ≠ p; omega)).trans h.box.blk⟩, h.since.setCell (p := ⟨p, f, none⟩) (Nat.le_refl _) _, hgp, ?_, fun j b hj => ?_, h.ne⟩
  · rw [heap_setCell_same _ _ _ _ _ _ h.blk, hf]
  · obtain ⟨h1, h2⟩ := h.rows j b hj
    exact ⟨h1.setOther (by show b ≠ p; omega) _, h2⟩
theorem BW.st0 (h : BW w w2 wr p lb N s t len cap a o c) (x : Value) : BW w w2 (wr.setCell ⟨p, 5, none⟩ x) p lb N s t len cap a o (putC c 0 x) := h.st_ 5 0 x rfl
theorem BW.st1 (h : BW w w2 wr p lb N s t len cap a o c) (x : Value) : BW w w2 (wr.setCell ⟨p, 6, none⟩ x) p lb N s t len cap a o (putC c 1 x) := h.st_ 6 1 x rfl
theorem BW.st2 (h : BW w w2 wr p lb N s t len cap a o c) (x : Value) : BW w w2 (wr.setCell ⟨p, 9, none⟩ x) p lb N s t len cap a o (putC c 2 x) := h.st_ 9 2 x rfl
theorem BW.st3 (h : BW w w2 wr p lb N s t len cap a o c) (x : Value) : BW w w2 (wr.setCell ⟨p, 8, none⟩ x) p lb N s t len cap a o (putC c 3 x) := h.st_ 8 3 x rfl
theorem BW.st4 (h : BW w w2 wr p lb N s t len cap a o c) (x : Value) : BW w w2 (wr.setCell ⟨p, 10, none⟩ x) p lb N s t len cap a o (putC c 4 x) := h.st_ 10 4 x rfl
theorem BW.congr {o2 : Nat → Option Nat} {c2 : Nat → Value} (h : BW w w2 wr p lb N s t len cap a o c) (e : ∀ j, o j = o2 j) (e2 : ∀ j, c j = c2 j) : BW w w2 wr p lb N s t len cap a o2 c2 := by
  have h1 : o = o2 := funext e
  have h2 : c = c2 := funext e2
  subst h1 h2
  exact h
theorem BW.two (h : BW w w2 wr p lb N s t len cap a o c) : wr.cell? ⟨w.heap.size, 0, none⟩ = some (.int .i64 (N : Int)) ∧ wr.cell? ⟨w.heap.size, 1, none⟩ = some (.slice a len cap) := ⟨h.box.c0, h.box.c1⟩
theorem BW.cells (h : BW w w2 wr p lb N s t len cap a o c) : wr.cell? ⟨p, 5, none⟩ = some (c 0) ∧ wr.cell? ⟨p, 6, none⟩ = some (c 1) ∧ wr.cell? ⟨p, 9, none⟩ = some (c 2) ∧ wr.cell? ⟨p, 8, none⟩ = some (c 3) ∧ wr.cell? ⟨p, 10, none⟩ = some (c 4) ∧ wr.cell? ⟨p, 7, none⟩ = some (.slice none 0 0) ∧
    wr.frozen? ⟨p, 5, none⟩ = false ∧ wr.frozen? ⟨p, 6, none⟩ = false ∧ wr.frozen? ⟨p, 9, none⟩ = false ∧ wr.frozen? ⟨p, 8, none⟩ = false ∧ wr.frozen? ⟨p, 10, none⟩ = false ∧ wr.frozen? ⟨p, 7, none⟩ = false := by
  have h1 := h.blk
  unfold wsV at h1
  simp [World.cell?, World.frozen?, h1]

/-! ### What flows first -/
variable {E : Env} {fl : Nat → Int} {hi nx : Nat → Nat} {Q : Nat → List Nat} {top m : Int} {st : Nat → Int} {j : Nat}
/-- The first j lanes of the first node are full; nothing flows but out of it. -/
structure First (E : Env) (fl : Nat → Int) (j : Nat) : Prop where
  cap : ∀ (k : Nat) (x : Pi), E.l[k]? = some x → 0 ≤ fl k ∧ fl k ≤ x.2.2.1
  only : ∀ (k : Nat) (x : Pi), E.l[k]? = some x → fl k ≠ 0 → x.1 = (E.s : Int)
  sat : ∀ (i : Nat) (a : La), i < j → (E.L E.s)[i]? = some a → a.2.2 = false → lft E.l fl a ≤ 0
  exc : ∀ i, i < E.N → i ≠ E.s → 0 ≤ netTo E.l fl (i : Int) E.l.length
theorem First.begin_ (hn : E.Net) : First E (fun _ => 0) 0 := by
  refine ⟨fun k x hx => ?_, fun k x _ h => absurd rfl h, fun i a h => by omega, fun i _ _ => ?_⟩
  · have := okP_true.1 (hn.ok x (List.mem_of_getElem? hx))
    omega
  · have : netTo E.l (fun _ => 0) (i : Int) E.l.length = 0 := by
      unfold netTo
      rw [sumP_congr (h := fun _ _ => 0) (fun k x _ => by simp [brings]) _, sumP_nil]
    omega
theorem First.caps (h : First E fl j) (hn : E.Net) : Caps E fl := fun k x hx => by
  have := h.cap k x hx
  have := okP_true.1 (hn.ok x (List.mem_of_getElem? hx))
  omega
/-- A lane back from the first node: nothing flows there. -/
theorem First.back (h : First E fl j) (hn : E.Net) {a : La} (ha : a ∈ E.L E.s) (hb : a.2.2 = true) : lft E.l fl a = 0 := by
  obtain ⟨x, hx, hne, _, _, hd⟩ := lane_of hn.lanes hn.sN ha
  rw [if_pos hb] at hd
  unfold lft
  rw [if_pos hb]
  apply Classical.byContradiction
  intro h0
  have := h.only a.1 x hx h0
  omega
theorem First.skip (h : First E fl j) {a : La} (hj : (E.L E.s)[j]? = some a) (hz : lft E.l fl a ≤ 0) : First E fl (j + 1) :=
  ⟨h.cap, h.only, fun i b hi hb hbb => by
    by_cases e : i = j
    · subst e; rw [hj] at hb; injection hb with hb; subst hb; exact hz
    · exact h.sat i b (by omega) hb hbb, h.exc⟩
theorem First.send (h : First E fl j) (hn : E.Net) {a : La} (hj : (E.L E.s)[j]? = some a) (hp : 0 < lft E.l fl a) : First E (push fl a (lft E.l fl a)) (j + 1) := by
  have ha := List.mem_of_getElem? hj
  have hf : a.2.2 = false := by
    cases e : a.2.2 with
    | false => rfl
    | true => have := h.back hn ha e; omega
  obtain ⟨x, hx, hne, _, _, hd⟩ := lane_of hn.lanes hn.sN ha
  rw [hf, if_neg (by simp)] at hd
  refine ⟨cap_push h.cap (by omega) (Int.le_refl _), fun k y hy h0 => ?_, fun i b hi hb hbb => ?_, fun i hi hs => ?_⟩
  · by_cases e : k = a.1
    · subst e; rw [hx] at hy; injection hy with hy; subst hy; exact hd.1
    · simp only [push, e, if_false] at h0
      exact h.only k y hy h0
  · by_cases e : b.1 = a.1
    · rw [lft_push_same b e (by rw [hbb, hf])]
      have : lft E.l fl b = lft E.l fl a := by simp [lft, e, hbb, hf]
      omega
    · rw [lft_push b e]
      by_cases e2 : i = j
      · subst e2; rw [hj] at hb; injection hb with hb; subst hb; exact absurd rfl e
      · exact h.sat i b (by omega) hb hbb
  · rw [netTo_push hn.lanes hn.sN ha]
    have := h.exc i hi hs
    rw [if_neg hs]
    split <;> omega
/-- All is begun. -/
theorem First.pr (h : First E fl j) (hn : E.Net) (hj : (E.L E.s).length ≤ j) (hf : FarOk E.L (opH E.l) E.N E.t far) (hhi : ∀ i, hi i = hi0 E.N E.s far i) : PRE E fl hi (fun _ => 0) := by
  have hN := hn.n2
  have up : ∀ i, i < E.N → hi i ≤ E.N + 1 := fun i hi2 => by
    rw [hhi]
    unfold hi0
    have := hf.small i hi2
    split
    · omega
    · split <;> omega
  refine ⟨h.cap, h.exc, by rw [hhi]; simp [hi0], ?_, fun i hi2 => by have := up i hi2; omega, fun i _ => Nat.zero_le _, fun u hu q a ha hp => ?_⟩
  · rw [hhi]
    have := hf.start
    simp [hi0, this, (show ¬ E.t = E.s from fun e => hn.st e.symm)]
  · simp only [Nat.not_lt_zero, if_false]
    have ham := List.mem_of_getElem? ha
    obtain ⟨x, hx, hne, hvN, _, hd⟩ := lane_of hn.lanes hu ham
    by_cases b : a.2.2 = true
    · rw [if_pos b] at hd
      unfold lft at hp
      rw [if_pos b] at hp
      have h1 := h.only a.1 x hx (by omega)
      have h2 : a.2.1 = E.s := by omega
      have h3 : hi a.2.1 = E.N := by rw [hhi, h2]; simp [hi0]
      have := up u hu
      omega
    · rw [if_neg b] at hd
      by_cases hus : u = E.s
      · subst hus
        have := h.sat q a (by have := (List.getElem?_eq_some_iff.1 ha).1; omega) ha (by simpa using b)
        omega
      · have h0 : fl a.1 = 0 := Classical.byContradiction fun h0 => by
          have := h.only a.1 x hx h0
          omega
        have hroom : 0 < room E.l a.1 := by
          unfold lft at hp
          rw [if_neg b] at hp
          omega
        by_cases hv : 0 ≤ far a.2.1
        · obtain ⟨c1, c2⟩ := hf.closed a.2.1 hvN hv (a.1, u, true) (hn.lanes.all a.1 x u a.2.1 hx hd.1 hd.2 hne).2 (by simp [opH, hroom])
          simp only at c1 c2
          have e1 : hi u = (far u).toNat := by rw [hhi]; unfold hi0; rw [if_neg hus, if_neg (by omega)]
          by_cases hvs : a.2.1 = E.s
          · have e2 : hi a.2.1 = E.N := by rw [hhi, hvs]; simp [hi0]
            have := up u hu
            omega
          · have e2 : hi a.2.1 = (far a.2.1).toNat := by rw [hhi]; unfold hi0; rw [if_neg hvs, if_neg (by omega)]
            omega
        · have e2 : E.N ≤ hi a.2.1 := by
            rw [hhi]
            unfold hi0
            split
            · omega
            · rw [if_pos (by omega)]; omega
          have := up u hu
          omega
theorem Que.begin_ (hn : E.Net) : Que E (exc E (fun _ => 0)) (fun _ => []) 0 E.s := by
  have hN := hn.n2
  refine ⟨fun _ _ => List.nodup_nil, fun _ _ _ _ _ h => (nomatch h), fun _ _ _ h => (nomatch h), fun i hi h1 h2 h3 h4 => ?_, by omega, by omega⟩
  have : exc E (fun _ => 0) i = 0 := by
    unfold exc netTo
    rw [sumP_congr (h := fun _ _ => 0) (fun k x _ => by simp [brings]) _, sumP_nil]
  omega
theorem Que.free (h : Que E st Q top E.s) : Que E st Q top E.N :=
  ⟨h.nd, h.one, fun g hg i hi => by obtain ⟨a, b, c, d, _⟩ := h.mem g hg i hi; exact ⟨a, b, c, d, by omega⟩, fun i hi a1 a2 _ a4 => h.all i hi a1 a2 a1 a4, h.lo, h.hiT⟩
abbrev mkE (p lb fb sb hb mb nb ub D N s t len cap : Nat) (a : Option Addr) (l : List Pi) (V : Nat → Value) : Env := { C := p, p := p, lb := lb, fb := fb, sb := sb, hb := hb, mb := mb, nb := nb, ub := ub, D := D, N := N, s := s, t := t, len := len, cap := cap, a := a, l := l, V := V, L := fun i => lanesU l i l.length }
theorem exc_zero (E : Env) (i : Nat) : exc E (fun _ => 0) i = 0 := by
  unfold exc netTo
  rw [sumP_congr (h := fun _ _ => 0) (fun k x _ => by simp [brings]) _, sumP_nil]
theorem cnt_next (k : Nat) (hi : Nat → Nat) (g : Nat) : cnt (k + 1) hi g = cnt k hi g + (if hi k = g then 1 else 0) := rfl
end Go.Proofs.Ytbenmebmfihleaa
end

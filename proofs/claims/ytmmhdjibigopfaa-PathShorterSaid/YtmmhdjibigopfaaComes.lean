/- The law's own way to which nodes one comes: rounds over all arcs. -/
import Derived.Test.YtmmhdjibigopfaaPath
import Derived.StillTailTactics
namespace Go.Proofs.Ytmmhdjibigopfaa
open Go.RowKit

variable {w wr w2 : World} {a : Option Addr} {len cap C N g s k : Nat} {l : List Ar} {c : Nat → Bool} {n : Int}
/-- What it has: the graph's box; the marks. -/
structure ComesW (w wr : World) (g C N : Nat) (a : Option Addr) (len cap : Nat) (c : Nat → Bool) : Prop where
  box : Box w wr g (N : Int) a len cap
  marks : wr.rowIs C 4 N (fun i => .bool (c i))
  lt : g < C
theorem ComesW.later (h : ComesW w wr g C N a len cap c) (hb : Below wr.heap.size wr w2) : ComesW w w2 g C N a len cap c := ⟨h.box.later hb, rowIs_below h.marks hb, h.lt⟩
/-- A node's mark is written: true. -/
theorem ComesW.mark (h : ComesW w wr g C N a len cap c) (k : Nat) : ComesW w (wr.setCell ⟨C, k, none⟩ (.bool true)) g C N a len cap (setC c k) := by
  have h1 := h.lt
  have h2 := h.box.ge
  refine ⟨h.box.set_ (by omega) (by omega) _ _, (h.marks.set k (.bool true)).congr (fun i _ => ?_), h1⟩
  by_cases e : i = k <;> simp [setC, e]
/-- .. what it was. -/
theorem ComesW.same {v : Bool} (h : ComesW w wr g C N a len cap c) (hv : c k = v) : ComesW w (wr.setCell ⟨C, k, none⟩ (.bool v)) g C N a len cap c := by
  have h1 := h.lt
  have h2 := h.box.ge
  refine ⟨h.box.set_ (by omega) (by omega) _ _, (h.marks.set k (.bool v)).congr (fun i _ => ?_), h1⟩
  by_cases e : i = k
  · subst e; simp [hv]
  · simp [e]
theorem ComesW.start (h : Box w wr g (N : Int) a len cap) (hC : wr.heap.size = C) (s : Nat) :
    ComesW w (wr.alloc (.cells ((madeCells #[.bool false] N).setIfInBounds s (.bool true)) 4)) g C N a len cap (setC (fun _ => false) s) := by
  subst hC
  have e1 : wr.alloc (.cells ((madeCells #[.bool false] N).setIfInBounds s (.bool true)) 4) = (wr.alloc (.cells (madeCells #[.bool false] N) 4)).setCell ⟨wr.heap.size, s, none⟩ (.bool true) := (World.setCell_alloc_at _ _ _ _ _ rfl).symm
  rw [e1]
  have h0 : ComesW w (wr.alloc (.cells (madeCells #[.bool false] N) 4)) g wr.heap.size N a len cap (fun _ => false) := ⟨h.alloc _, World.rowIs_made _ _ _ _, h.lt⟩
  exact h0.mark s

set_option maxHeartbeats 4000000 in
set_option maxRecDepth 100000 in
theorem comes_any (N s : Nat) (hs : s < N) (hN : N ≤ 1000) (hlen : len ≤ 20000) (hok : ∀ x ∈ l, okA (N : Int) x = true) (a : Option Addr) (cap : Nat) (w : World) (hl : IsArcs w.heap.size w a len l) :
    Calls Try.prog 14 #[.agg #[.int .i64 (N : Int), .slice a len cap], .int .i64 (s : Int)] w fun e w' => ∃ (C : Nat) (c : Nat → Bool), e = .returned (.slice (some ⟨C, 0, none⟩) N N) ∧
      w'.rowIs C 4 N (fun i => .bool (c i)) ∧ w.heap.size ≤ C ∧ (∀ i, i < N → (c i = true ↔ Comes l s i)) ∧ Below w.heap.size w w' := by
  have hmk := run_make_row' (P := Try.prog) 44 4 (.bool false) 1 Try.underlying44 infoBool rfl .i64 .i64 N (by omega) (by omega)
  have HLn : Hid (l.length = len) := Lib.hid hl.1
  have HL := Lib.hid hl; clear hl
  have HOK := Lib.hid hok; clear hok
  have hs1 : (0 : Int) ≤ (s : Int) := by omega
  have hs2 : (s : Int) < (N : Int) := by omega
  have HW0 := Lib.hid (ComesW.start (Box.make (Below.refl _ w) (N : Int) a len cap) (C := w.heap.size + 1) (by simp) s)
  have HR0 := Lib.hid (Rounds.begin_ (l := l) hs)
  have m0 := (World.rowIs_made (w.alloc (.cells #[.int .i64 (N : Int), .slice a len cap] 26)) (.bool false) N 4).cell hs
  have m1 := (World.rowIs_made (w.alloc (.cells #[.int .i64 (N : Int), .slice a len cap] 26)) (.bool false) N 4).frozen s
  have e1 : (w.alloc (.cells #[.int .i64 (N : Int), .slice a len cap] 26)).heap.size = w.heap.size + 1 := by simp
  rw [e1] at m0 m1
  clear e1
  go_enter Try.func14, Try.ntmps14
  go_wp2_with fail
  clear hmk m0 m1
  obtain ⟨C, hC⟩ : ∃ C, C = w.heap.size + 1 := ⟨_, rfl⟩
  rw [← hC] at HW0 ⊢
  clear hC
  go_loopw [16] (fun i wr => ∃ (rd : Nat) (c : Nat → Bool), i = .int .i64 rd ∧ rd ≤ N ∧ Hid (ComesW w wr w.heap.size C N a len cap c) ∧ Hid (Rounds l N s c rd)) (fun i _ => N - (intOf i).toNat)
  case atStart => exact ⟨0, _, rfl, Nat.zero_le _, HW0, HR0⟩
  case round =>
    obtain ⟨rd, c, rfl, hrd, HX, HR⟩ := hrel
    clear HW0 HR0
    by_cases hlt : rd < N
    · have x1 := HX.out.box.c1
      have HP0 := Lib.hid HR.out.pass
      go_wp2_with fail
      clear x1
      go_loopw [21] (fun i wr => ∃ (q : Nat) (c : Nat → Bool), i = .int .i64 q ∧ q ≤ len ∧ Hid (ComesW w wr w.heap.size C N a len cap c) ∧ Hid (Pass l N s c rd q)) (fun i _ => len - (intOf i).toNat)
      case atStart => exact ⟨0, _, rfl, Nat.zero_le _, HX, HP0⟩
      case round =>
        clear HX HR HP0
        obtain ⟨q, c, rfl, hq, HX, HP⟩ := hrel
        by_cases hlt2 : q < len
        · obtain ⟨b, off, x, rfl, hb, hx, e0, e1, e2⟩ := (HX.out.box.arcs HL.out).at_ hlt2
          have hxok := okA_true.1 (HOK.out x (List.mem_of_getElem? hx))
          have HXX := Lib.hid hx
          clear hx hb
          obtain ⟨f0, t0, wt⟩ := x
          simp only at e0 e1 e2 hxok
          obtain ⟨f, rfl⟩ : ∃ f : Nat, f0 = (f : Int) := ⟨f0.toNat, by omega⟩
          obtain ⟨t, rfl⟩ : ∃ t : Nat, t0 = (t : Int) := ⟨t0.toNat, by omega⟩
          have hf : f < N := by omega
          have ht : t < N := by omega
          have f1 : (0 : Int) ≤ (f : Int) := by omega
          have f2 : (f : Int) < (N : Int) := by omega
          have t1 : (0 : Int) ≤ (t : Int) := by omega
          have t2 : (t : Int) < (N : Int) := by omega
          clear hxok
          go_wp2_with fail
          obtain ⟨w2, hw2⟩ : ∃ w2, w2 = World.drew (wr.alloc (.cells #[.int .i64 (f : Int), .int .i64 (t : Int), .int .i64 wt] 41)) := ⟨_, rfl⟩
          have HX2 : Hid (ComesW w w2 w.heap.size C N (some ⟨b, off, none⟩) len cap c) := Lib.hid (by rw [hw2]; exact HX.out.later ((Below.refl wr.heap.size wr).alloc (Nat.le_refl _) (.cells #[.int .i64 (f : Int), .int .i64 (t : Int), .int .i64 wt] 41)).drew)
          have d0 : w2.cell? ⟨wr.heap.size, 0, none⟩ = some (.int .i64 (f : Int)) := by rw [hw2]; simp
          have d1 : w2.cell? ⟨wr.heap.size, 1, none⟩ = some (.int .i64 (t : Int)) := by rw [hw2]; simp
          have cf := HX2.out.marks.cell hf
          have ct := HX2.out.marks.cell ht
          have ft := HX2.out.marks.frozen t
          refine wp_region_still_tail 16 (by kernel_rfl) (by kernel_rfl) ?_
          simp only [List.take_succ_cons, List.take_zero, List.drop_succ_cons, List.drop_zero]
          change wpStill _ _ (World.drew (wr.alloc (.cells #[.int .i64 (f : Int), .int .i64 (t : Int), .int .i64 wt] 41))) (fun a' => wpList _ _ _ _ a' (World.drew (wr.alloc (.cells #[.int .i64 (f : Int), .int .i64 (t : Int), .int .i64 wt] 41)))) _ _
          rw [← hw2]
          clear hw2 HX
          cases hct : c t with
          | true =>
            rw [hct] at ct
            have HN := Lib.hid (HP.out.skip HXX.out (fun _ => by simpa using hct))
            have HS := Lib.hid (HX2.out.same hct)
            clear hct cf
            repeat still_step
            refine wpStill_nil ?_
            go_wp2_with fail
            go_roundw
            case rel => exact ⟨q + 1, c, by go_num, by omega, HS, HN⟩
            case measure => simp [intOf]; omega
          | false =>
            cases hcf : c f with
            | true =>
              rw [hct] at ct
              rw [hcf] at cf
              have HN := Lib.hid (HP.out.mark HXX.out rfl rfl hf ht hcf hct)
              have HS := Lib.hid (HX2.out.mark t)
              clear hct hcf
              repeat still_step
              refine wpStill_nil ?_
              go_wp2_with fail
              go_roundw
              case rel => exact ⟨q + 1, _, by go_num, by omega, HS, HN⟩
              case measure => simp [intOf]; omega
            | false =>
              rw [hct] at ct
              rw [hcf] at cf
              have HN := Lib.hid (HP.out.skip HXX.out (fun h => by simp [hcf] at h))
              have HS := Lib.hid (HX2.out.same hct)
              clear hct hcf
              repeat still_step
              refine wpStill_nil ?_
              go_wp2_with fail
              go_roundw
              case rel => exact ⟨q + 1, c, by go_num, by omega, HS, HN⟩
              case measure => simp [intOf]; omega
        · have HN := Lib.hid (HP.out.done (by have := HLn.out; omega))
          go_wp2_with fail
          go_roundw
          case rel => exact ⟨rd + 1, c, by go_num, by omega, HX, HN⟩
          case measure => simp [intOf]; omega
    · obtain rfl : rd = N := by omega
      go_wp2_with fail
      go_ret
      exact ⟨C, c, rfl, HX.out.marks, by have := HX.out.lt; omega, fun i hi => HR.out.done hs HOK.out hi, HX.out.box.below⟩
end Go.Proofs.Ytmmhdjibigopfaa

/- The law's own test of a flow. -/
import Derived.Test.YtbenmebmfihleaaMFlowT
import Derived.BigQuiet
import Derived.Deep.QuietTactic
import Derived.Deep.LoopGhost
import Derived.LoopTactic
namespace Go.Proofs.Ytbenmebmfihleaa
open Go.RowKit

variable {len N : Nat} {l : List Pi} {xs : List Int} {s t k i : Nat} {x : Pi} {z : Int}
/-- What it answers. -/
noncomputable def flowsV (N : Nat) (l : List Pi) (xs : List Int) (s t : Nat) : Int × Bool := open Classical in
  if xs.length = l.length ∧ IsFlow l N (flOf xs) s t then (netTo l (flOf xs) (t : Int) l.length, true) else (0, false)
theorem flowsV_no (h : ¬ (xs.length = l.length ∧ IsFlow l N (flOf xs) s t)) : flowsV N l xs s t = (0, false) := by rw [flowsV, if_neg h]
theorem flowsV_yes (h : xs.length = l.length ∧ IsFlow l N (flOf xs) s t) : flowsV N l xs s t = (netTo l (flOf xs) (t : Int) l.length, true) := by rw [flowsV, if_pos h]
theorem flOf_at (h : xs[k]? = some z) : flOf xs k = z := by simp [flOf, List.getD, h]
/-- The first k are within their rooms. -/
def CapsTo (l : List Pi) (xs : List Int) (k : Nat) : Prop := ∀ (j : Nat) (x : Pi), j < k → l[j]? = some x → 0 ≤ flOf xs j ∧ flOf xs j ≤ x.2.2.1
theorem CapsTo.on (h : CapsTo l xs k) (hx : l[k]? = some x) (h1 : 0 ≤ flOf xs k) (h2 : flOf xs k ≤ x.2.2.1) : CapsTo l xs (k + 1) := fun j y hj hy => by
  by_cases e : j = k
  · subst e
    rw [hx] at hy
    cases hy
    exact ⟨h1, h2⟩
  · exact h j y (by omega) hy
/-- What is brought to a node is no great number. -/
theorem net_small (h : CapsTo l xs l.length) (hr : ∀ x ∈ l, x.2.2.1 ≤ 1099511627776) (i : Int) (k : Nat) (hk : k ≤ 20) : -21990232555520 ≤ netTo l (flOf xs) i k ∧ netTo l (flOf xs) i k ≤ 21990232555520 := by
  have hb := sumP_bound (l := l) (g := brings (flOf xs) i) (B := 1099511627776) (by omega) (fun k x hx => by
    have h1 := h k x (List.getElem?_eq_some_iff.1 hx).1 hx
    have h2 := hr x (List.mem_of_getElem? hx)
    unfold brings
    by_cases a : x.2.1 = i
    · by_cases b : x.1 = i
      · simp [a, b]
      · simp only [a, b, if_true, if_false]; omega
    · by_cases b : x.1 = i
      · simp only [a, b, if_true, if_false]; omega
      · simp [a, b]) k
  unfold netTo
  omega
/-- Nothing stays at the first i nodes but at the two. -/
def ConsTo (l : List Pi) (xs : List Int) (s t i : Nat) : Prop := ∀ j : Nat, j < i → j ≠ s → j ≠ t → netTo l (flOf xs) (j : Int) l.length = 0
theorem ConsTo.on (h : ConsTo l xs s t i) (h1 : i ≠ s → i ≠ t → netTo l (flOf xs) (i : Int) l.length = 0) : ConsTo l xs s t (i + 1) := fun j hj a b => by
  by_cases e : j = i
  · subst e; exact h1 a b
  · exact h j (by omega) a b

set_option maxHeartbeats 2000000 in
set_option maxRecDepth 100000 in
theorem flows_any (hN : N ≤ 1000) (hlen : len ≤ 20) (hr : ∀ x ∈ l, x.2.2.1 ≤ 1099511627776) (hs : s < N) (ht : t < N) (m c : Nat) (b : Option Addr) (a : Option Addr) (cap : Nat) (w : World) (hm : m ≤ 9223372036854775807) (hl : IsPipes w.heap.size w a len l) (hi : IsNums w.heap.size w b m xs) :
    Calls Try.prog 16 #[.agg #[.int .i64 (N : Int), .slice a len cap], .slice b m c, .int .i64 (s : Int), .int .i64 (t : Int)] w fun e w' => e = .returned (.tuple #[.int .i64 (flowsV N l xs s t).1, .bool (flowsV N l xs s t).2]) ∧ Below w.heap.size w w' := by
  have HG := Lib.hid (NBox.make (Below.refl _ w) (N : Int) a len cap)
  have hll := hl.1
  have hxl := hi.1
  have HL := Lib.hid hl
  have HI := Lib.hid hi
  by_cases hml : m = len
  · subst hml
    have HXL : Hid (xs.length = l.length) := Lib.hid (by omega)
    have HLL := Lib.hid hll
    have HR := Lib.hid hr
    have HC0 : Hid (CapsTo l xs 0) := Lib.hid (fun j x hj => by omega)
    have x1 := HG.out.c1
    clear hl hi hll hxl hr
    go_enter Try.func16, Try.ntmps16
    go_wp2_with fail
    clear x1
    go_loopw [26] (fun iv wr => ∃ k : Nat, iv = .int .i64 k ∧ k ≤ m ∧ Hid (NBox w wr w.heap.size (N : Int) a m cap) ∧ Hid (CapsTo l xs k)) (fun iv _ => m - (intOf iv).toNat)
    case atStart => exact ⟨0, rfl, Nat.zero_le _, HG, HC0⟩
    case round =>
      obtain ⟨k, rfl, hk, HX, HC⟩ := hrel
      clear HG HC0
      by_cases hlt : k < m
      · obtain ⟨bp, op, x, rfl, _, hx, e0, e1, e2, e3⟩ := (HX.out.pipes HL.out).at_ hlt
        obtain ⟨bn, on, z, rfl, hz, ez⟩ := (HI.out.later HX.out.below).at_ hlt
        have hfz := flOf_at hz
        have HXX := Lib.hid hx
        have HX1 := Lib.hid (HX.out.alloc (.cells #[.int .i64 x.1, .int .i64 x.2.1, .int .i64 x.2.2.1, .int .i64 x.2.2.2] 47))
        obtain ⟨f, u, r, d⟩ := x
        simp only at e0 e1 e2 e3 HX1
        have y2 : (wr.alloc (.cells #[.int .i64 f, .int .i64 u, .int .i64 r, .int .i64 d] 47)).cell? ⟨wr.heap.size, 2, none⟩ = some (.int .i64 r) := by simp
        have ez1 : (wr.alloc (.cells #[.int .i64 f, .int .i64 u, .int .i64 r, .int .i64 d] 47)).cell? ⟨bn, on + k, none⟩ = some (.int .i64 z) := (World.cell?_alloc_past _ _ _ (World.block_lt_of_cell? _ _ ez)).trans ez
        have HFZ := Lib.hid hfz
        clear hx hz hfz ez
        by_cases h1 : z < 0
        · have HV := Lib.hid (flowsV_no (N := N) (s := s) (t := t) (l := l) (xs := xs) (fun h => by have := (h.2.cap k _ HXX.out).1; rw [HFZ.out] at this; omega))
          have h1b : decide (z < 0) = true := by simpa using h1
          go_wp2_with fail
          go_quiet (fail)
          go_wp2_with fail
          go_ret2
          exact ⟨by rw [HV.out]; rfl, below_drewN HX1.out.below _⟩
        · have h1b : decide (z < 0) = false := by simpa using h1
          by_cases h2 : r < z
          · have HV := Lib.hid (flowsV_no (N := N) (s := s) (t := t) (l := l) (xs := xs) (fun h => by have := (h.2.cap k _ HXX.out).2; rw [HFZ.out] at this; simp only at this; omega))
            have h2b : decide (r < z) = true := by simpa using h2
            go_wp2_with fail
            go_quiet (fail)
            go_wp2_with fail
            go_ret2
            exact ⟨by rw [HV.out]; rfl, below_drewN HX1.out.below _⟩
          · have h2b : decide (r < z) = false := by simpa using h2
            have HN := Lib.hid (HC.out.on HXX.out (by rw [HFZ.out]; omega) (by rw [HFZ.out]; simp only; omega))
            go_wp2_with fail
            go_quiet (fail)
            have HX2 := Lib.hid (HX1.out.later (below_drewN (Below.refl _ _) nq))
            go_wp2_with fail
            go_roundw
            case rel => exact ⟨k + 1, by go_num, by omega, HX2, HN⟩
            case measure => simp [intOf]; omega
      · have HCA : Hid (CapsTo l xs l.length) := Lib.hid (fun j x hj hx => HC.out j x (by have := HLL.out; omega) hx)
        have HO0 : Hid (ConsTo l xs s t 0) := Lib.hid (fun j hj => by omega)
        have x0 := HX.out.c0
        clear HC
        go_wp2_with fail
        clear x0
        go_loopw [12, 48] (fun mv iv wr => ∃ (i : Nat) (much : Int), iv = .int .i64 i ∧ mv = .int .i64 much ∧ i ≤ N ∧ (t < i → much = netTo l (flOf xs) (t : Int) l.length) ∧ Hid (NBox w wr w.heap.size (N : Int) a m cap) ∧ Hid (ConsTo l xs s t i)) (fun _ iv _ => N - (intOf iv).toNat)
        case atStart => exact ⟨0, 0, rfl, rfl, Nat.zero_le _, fun h => by omega, HX, HO0⟩
        case round =>
          obtain ⟨i, much, rfl, rfl, hiN, hmu, HX, HO⟩ := hrel
          clear HO0
          by_cases hlt2 : i < N
          · have x1 := HX.out.c1
            have HN0 : Hid (netTo l (flOf xs) (i : Int) 0 = 0) := Lib.hid rfl
            have HMU := Lib.hid hmu
            clear hmu
            go_wp2_with fail
            clear x1
            go_loopw [14, 54] (fun nv kv wr => ∃ (k : Nat) (d : Int), kv = .int .i64 k ∧ nv = .int .i64 d ∧ k ≤ m ∧ Hid (netTo l (flOf xs) (i : Int) k = d) ∧ Hid (NBox w wr w.heap.size (N : Int) a m cap)) (fun _ kv _ => m - (intOf kv).toNat)
            case atStart => exact ⟨0, 0, rfl, rfl, Nat.zero_le _, HN0, HX⟩
            case round =>
              clear HN0 HX
              obtain ⟨k, d, rfl, rfl, hk, HD, HX⟩ := hrel
              by_cases hltk : k < m
              · obtain ⟨bp, op, x, rfl, _, hx, e0, e1, e2, e3⟩ := (HX.out.pipes HL.out).at_ hltk
                obtain ⟨bn, on, z, rfl, hz, ez⟩ := (HI.out.later HX.out.below).at_ hltk
                have hfz := flOf_at hz
                have hz1 := HCA.out k x (List.getElem?_eq_some_iff.1 hx).1 hx
                have hz2 := HR.out x (List.mem_of_getElem? hx)
                have hsm := net_small HCA.out HR.out (i : Int) k (by omega)
                have hst : netTo l (flOf xs) (i : Int) (k + 1) = d + ((if x.2.1 = (i : Int) then z else 0) - (if x.1 = (i : Int) then z else 0)) := by
                  unfold netTo
                  rw [sumP_step hx]
                  have := HD.out
                  unfold netTo at this
                  rw [this, brings, hfz]
                rw [HD.out] at hsm
                rw [hfz] at hz1
                have HX1 := Lib.hid (HX.out.alloc (.cells #[.int .i64 x.1, .int .i64 x.2.1, .int .i64 x.2.2.1, .int .i64 x.2.2.2] 47))
                obtain ⟨f, u, r, q⟩ := x
                simp only at e0 e1 e2 e3 HX1 hz1 hz2 hst
                have hzb : 0 ≤ z ∧ z ≤ 1099511627776 := by omega
                have ez1 : (wr.alloc (.cells #[.int .i64 f, .int .i64 u, .int .i64 r, .int .i64 q] 47)).cell? ⟨bn, on + k, none⟩ = some (.int .i64 z) := (World.cell?_alloc_past _ _ _ (World.block_lt_of_cell? _ _ ez)).trans ez
                clear hx hz hfz ez hz1 hz2
                by_cases hu : u = (i : Int)
                · by_cases hf : f = (i : Int)
                  · rw [if_pos hu, if_pos hf] at hst
                    have HN := Lib.hid hst
                    clear hst
                    subst hu hf
                    go_wp2_with fail
                    go_roundw
                    case rel => exact ⟨k + 1, _, by go_num, rfl, by omega, Lib.hid (HN.out.trans (by omega)), HX1⟩
                    case measure => simp [intOf]; omega
                  · rw [if_pos hu, if_neg hf] at hst
                    have HN := Lib.hid hst
                    have hfb : (f == (i : Int)) = false := by simpa using hf
                    clear hst
                    subst hu
                    go_wp2_with fail
                    go_roundw
                    case rel => exact ⟨k + 1, _, by go_num, rfl, by omega, Lib.hid (HN.out.trans (by omega)), HX1⟩
                    case measure => simp [intOf]; omega
                · by_cases hf : f = (i : Int)
                  · rw [if_neg hu, if_pos hf] at hst
                    have HN := Lib.hid hst
                    have hub : (u == (i : Int)) = false := by simpa using hu
                    clear hst
                    subst hf
                    go_wp2_with fail
                    go_roundw
                    case rel => exact ⟨k + 1, _, by go_num, rfl, by omega, Lib.hid (HN.out.trans (by omega)), HX1⟩
                    case measure => simp [intOf]; omega
                  · rw [if_neg hu, if_neg hf] at hst
                    have HN := Lib.hid hst
                    have hub : (u == (i : Int)) = false := by simpa using hu
                    have hfb : (f == (i : Int)) = false := by simpa using hf
                    clear hst
                    go_wp2_with fail
                    go_roundw
                    case rel => exact ⟨k + 1, _, by go_num, rfl, by omega, Lib.hid (HN.out.trans (by omega)), HX1⟩
                    case measure => simp [intOf]; omega
              · have HDD : Hid (netTo l (flOf xs) (i : Int) l.length = d) := Lib.hid (by have h1 := HD.out; have h2 := HLL.out; rw [show l.length = k by omega]; exact h1)
                clear HD
                by_cases hit : i = t
                · have hib : (i == t) = true := by simpa using hit
                  have hic : ((i : Int) == (t : Int)) = true := by simp [hit]
                  have hnb : ((i : Int) != (t : Int)) = false := by simp [hit]
                  have HN : Hid (ConsTo l xs s t (i + 1)) := Lib.hid (HO.out.on (fun _ h => absurd hit h))
                  have hmu2 : Hid (t < i + 1 → d = netTo l (flOf xs) (t : Int) l.length) := Lib.hid (fun _ => by rw [← HDD.out, hit])
                  clear HMU
                  subst hit
                  by_cases his : i = s
                  · subst his
                    go_wp2_with fail
                    go_roundw
                    case rel => exact ⟨i + 1, d, by go_num, rfl, by omega, hmu2.out, HX, HN⟩
                    case measure => simp [intOf]; omega
                  · have hsb : ((i : Int) != (s : Int)) = true := by simp; omega
                    go_wp2_with fail
                    go_roundw
                    case rel => exact ⟨i + 1, d, by go_num, rfl, by omega, hmu2.out, HX, HN⟩
                    case measure => simp [intOf]; omega
                · have hic : ((i : Int) == (t : Int)) = false := by simp; omega
                  have hnb : ((i : Int) != (t : Int)) = true := by simp; omega
                  have hmu2 : Hid (t < i + 1 → much = netTo l (flOf xs) (t : Int) l.length) := Lib.hid (fun h => HMU.out (by omega))
                  clear HMU
                  by_cases his : i = s
                  · have HN : Hid (ConsTo l xs s t (i + 1)) := Lib.hid (HO.out.on (fun h _ => absurd his h))
                    have hsb : ((i : Int) != (s : Int)) = false := by simp [his]
                    subst his
                    go_wp2_with fail
                    go_roundw
                    case rel => exact ⟨i + 1, much, by go_num, rfl, by omega, hmu2.out, HX, HN⟩
                    case measure => simp [intOf]; omega
                  · have hsb : ((i : Int) != (s : Int)) = true := by simp; omega
                    by_cases hd : d = 0
                    · have HN : Hid (ConsTo l xs s t (i + 1)) := Lib.hid (HO.out.on (fun _ _ => by rw [HDD.out]; exact hd))
                      subst hd
                      go_wp2_with fail
                      go_roundw
                      case rel => exact ⟨i + 1, much, by go_num, rfl, by omega, hmu2.out, HX, HN⟩
                      case measure => simp [intOf]; omega
                    · have hdb : (d != 0) = true := by simpa using hd
                      have HV := Lib.hid (flowsV_no (N := N) (s := s) (t := t) (l := l) (xs := xs) (fun h => hd (by rw [← HDD.out]; exact h.2.cons i hlt2 his hit)))
                      go_wp2_with fail
                      go_ret2
                      exact ⟨by rw [HV.out]; rfl, HX.out.below⟩
          · obtain rfl : N = i := by omega
            have hmuch := hmu ht
            by_cases hneg : much < 0
            · have HV := Lib.hid (flowsV_no (N := N) (s := s) (t := t) (l := l) (xs := xs) (fun h => by have := h.2.ge; omega))
              clear hmuch hmu
              go_wp2_with fail
              go_ret2
              exact ⟨by rw [HV.out]; rfl, HX.out.below⟩
            · have HV := Lib.hid (flowsV_yes (N := N) (s := s) (t := t) (l := l) (xs := xs) ⟨HXL.out, fun j x hx => HCA.out j x (List.getElem?_eq_some_iff.1 hx).1 hx, HO.out, by omega⟩)
              rw [← hmuch] at HV
              clear hmuch hmu
              go_wp2_with fail
              go_ret2
              exact ⟨by rw [HV.out]; rfl, HX.out.below⟩
  · have HV := Lib.hid (flowsV_no (N := N) (s := s) (t := t) (l := l) (xs := xs) (fun h => by omega))
    have hmb : ((m : Int) != (len : Int)) = true := by simp; omega
    have hmc : ¬ (m : Int) = (len : Int) := by omega
    have x1 := HG.out.c1
    clear hl hi hll hxl hr
    go_enter Try.func16, Try.ntmps16
    go_wp2_with fail
    go_ret2
    exact ⟨by rw [HV.out]; rfl, HG.out.below⟩
end Go.Proofs.Ytbenmebmfihleaa

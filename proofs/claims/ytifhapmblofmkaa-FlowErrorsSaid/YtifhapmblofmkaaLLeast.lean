/- The law's own least cut: all choices of nodes. -/
import Derived.Test.YtifhapmblofmkaaFlowSpec
import Derived.BigQuiet
import Derived.Deep.QuietTactic
import Derived.Deep.LoopGhost
import Derived.LoopTactic
namespace Go.Proofs.Ytifhapmblofmkaa
open Go.RowKit

variable {len N : Nat} {l : List Pi} {s t k c : Nat} {x : Pi} {S T : Nat → Bool}
theorem bit_at : ∀ c : Nat, c < 64 → ∀ s : Nat, s < 6 → bits BinOp.and IntKind.i64 ((c : Int) / 2 ^ s) 1 = if c.testBit s = true then 1 else 0 := by decide +kernel
theorem bit_yes (hc : c < 64) (hs : s < 6) (h : c.testBit s = true) : bits BinOp.and IntKind.i64 ((c : Int) / 2 ^ s) 1 = 1 := by rw [bit_at c hc s hs, if_pos h]
theorem bit_no (hc : c < 64) (hs : s < 6) (h : ¬ c.testBit s = true) : bits BinOp.and IntKind.i64 ((c : Int) / 2 ^ s) 1 = 0 := by rw [bit_at c hc s hs, if_neg h]
/-- Each choice has a number. -/
theorem code : ∀ (N : Nat) (S : Nat → Bool), ∃ j, j < 2 ^ N ∧ ∀ i, i < N → j.testBit i = S i
  | 0, S => ⟨0, by decide, fun i hi => by omega⟩
  | N + 1, S => by
    obtain ⟨j, h1, h2⟩ := code N (fun i => S (i + 1))
    have e : 2 ^ (N + 1) = 2 ^ N * 2 := Nat.pow_succ ..
    refine ⟨2 * j + (if S 0 = true then 1 else 0), by rw [e]; split <;> omega, fun i hi => ?_⟩
    cases i with
    | zero =>
      rw [Nat.testBit_zero]
      cases h : S 0 <;> simp
    | succ i =>
      rw [Nat.testBit_succ]
      have : (2 * j + (if S 0 = true then 1 else 0)) / 2 = j := by split <;> omega
      rw [this]
      exact h2 i (by omega)
theorem capOut_congr (hn : ∀ x ∈ l, (0 ≤ x.1 ∧ x.1 < (N : Int)) ∧ (0 ≤ x.2.1 ∧ x.2.1 < (N : Int))) (h : ∀ i, i < N → S i = T i) (k : Nat) : capOut l S k = capOut l T k := by
  apply sumP_congr
  intro j x hx
  have := hn x (List.mem_of_getElem? hx)
  unfold outB
  rw [h x.1.toNat (by omega), h x.2.1.toNat (by omega)]
theorem capOut_small (hr : ∀ x ∈ l, 0 ≤ x.2.2.1 ∧ x.2.2.1 ≤ 255) (S : Nat → Bool) (k : Nat) : -((k : Int) * 255) ≤ capOut l S k ∧ capOut l S k ≤ (k : Int) * 255 :=
  sumP_bound (by omega) (fun j x hx => by have := hr x (List.mem_of_getElem? hx); split <;> omega) k
set_option maxHeartbeats 2000000 in
set_option maxRecDepth 100000 in
theorem least_any (much : Int) (hN : N ≤ 6) (hlen : len ≤ 14) (hn : ∀ x ∈ l, (0 ≤ x.1 ∧ x.1 < (N : Int)) ∧ (0 ≤ x.2.1 ∧ x.2.1 < (N : Int))) (hr : ∀ x ∈ l, 0 ≤ x.2.2.1 ∧ x.2.2.1 ≤ 255) (hs : s < N) (ht : t < N)
    (hle : ∀ S : Nat → Bool, S s = true → S t = false → much ≤ capOut l S l.length) (hex : ∃ S : Nat → Bool, S s = true ∧ S t = false ∧ capOut l S l.length = much)
    (a : Option Addr) (cap : Nat) (w : World) (hl : IsPipes w.heap.size w a len l) :
    Calls Try.prog 13 #[.agg #[.int .i64 (N : Int), .slice a len cap], .int .i64 (s : Int), .int .i64 (t : Int)] w fun e w' => e = .returned (.int .i64 much) ∧ Below w.heap.size w w' := by
  have HG := Lib.hid (NBox.make (Below.refl _ w) (N : Int) a len cap)
  have HLL := Lib.hid hl.1
  have HL := Lib.hid hl
  have HNN := Lib.hid hn
  have HR := Lib.hid hr
  have HLE := Lib.hid hle
  have HEX := Lib.hid hex
  have hmb : much ≤ 3570 := by
    obtain ⟨S, _, _, h3⟩ := hex
    have h1 := (capOut_small hr S l.length).2
    have h2 := hl.1
    omega
  have HB0 : Hid (much ≤ 4611686018427387904 ∧ (4611686018427387904 : Int) ≤ 4611686018427387904 ∧ ∀ j, j < 0 → j.testBit s = true → j.testBit t = false → (4611686018427387904 : Int) ≤ capOut l (fun i => j.testBit i) l.length) := Lib.hid ⟨by omega, by omega, fun j hj => by omega⟩
  have x0 := HG.out.c0
  clear hl hn hr hle hex hmb
  go_enter Try.func13, Try.ntmps13
  go_wp2_with fail
  obtain ⟨M, hM⟩ : ∃ M : Nat, 2 ^ N = M := ⟨_, rfl⟩
  have hM64 : M ≤ 64 := by rw [← hM]; exact Nat.le_trans (Nat.pow_le_pow_right (by omega) hN) (by decide)
  have hw : wrap64 (2 ^ N) = (M : Int) := by
    have h1 : (2 : Int) ^ N = ((2 ^ N : Nat) : Int) := by simp
    rw [h1, hM]
    unfold wrap64
    omega
  rw [hw]
  have HM := Lib.hid hM
  clear hM hw x0
  go_loopw [7, 15] (fun bv cv wr => ∃ (c : Nat) (best : Int), cv = .int .i64 c ∧ bv = .int .i64 best ∧ c ≤ M ∧ Hid (much ≤ best ∧ best ≤ 4611686018427387904 ∧ ∀ j, j < c → j.testBit s = true → j.testBit t = false → best ≤ capOut l (fun i => j.testBit i) l.length) ∧ Hid (NBox w wr w.heap.size (N : Int) a len cap)) (fun _ cv _ => M - (intOf cv).toNat)
  case atStart => exact ⟨0, _, rfl, rfl, Nat.zero_le _, HB0, HG⟩
  case round =>
    obtain ⟨c, best, rfl, rfl, hc, HB, HX⟩ := hrel
    clear HB0 HG
    by_cases hlt : c < M
    · by_cases h1 : c.testBit s = true
      · by_cases h2 : c.testBit t = true
        · have b1 := bit_yes (by omega) (by omega) h1
          have b2 := bit_yes (by omega) (by omega) h2
          have HN : Hid (much ≤ best ∧ best ≤ 4611686018427387904 ∧ ∀ j, j < c + 1 → j.testBit s = true → j.testBit t = false → best ≤ capOut l (fun i => j.testBit i) l.length) := Lib.hid ⟨HB.out.1, HB.out.2.1, fun j hj a1 a2 => by
            by_cases e : j = c
            · subst e; rw [h2] at a2; cases a2
            · exact HB.out.2.2 j (by omega) a1 a2⟩
          clear h1 h2
          go_wp2_with fail
          go_roundw
          case rel => exact ⟨c + 1, best, by go_num, rfl, by omega, HN, HX⟩
          case measure => simp [intOf]; omega
        · have b1 := bit_yes (by omega) (by omega) h1
          have b2 := bit_no (by omega) (by omega) h2
          have x1 := HX.out.c1
          have HS0 : Hid (capOut l (fun i => c.testBit i) 0 = 0) := Lib.hid rfl
          have HH1 := Lib.hid h1
          have HH2 := Lib.hid h2
          clear h1 h2
          go_wp2_with fail
          clear x1 b1 b2
          go_loopw [9, 33] (fun sv kv wr => ∃ (k : Nat) (d : Int), kv = .int .i64 k ∧ sv = .int .i64 d ∧ k ≤ len ∧ Hid (capOut l (fun i => c.testBit i) k = d) ∧ Hid (NBox w wr w.heap.size (N : Int) a len cap)) (fun _ kv _ => len - (intOf kv).toNat)
          case atStart => exact ⟨0, 0, rfl, rfl, Nat.zero_le _, HS0, HX⟩
          case round =>
            clear HS0 HX
            obtain ⟨k, d, rfl, rfl, hk, HD, HX⟩ := hrel
            by_cases hltk : k < len
            · obtain ⟨bp, op, x, rfl, _, hx, e0, e1, e2, e3⟩ := (HX.out.pipes HL.out).at_ hltk
              have hxn := HNN.out x (List.mem_of_getElem? hx)
              have hxr := HR.out x (List.mem_of_getElem? hx)
              have hsm := capOut_small HR.out (fun i => c.testBit i) k
              have hst : capOut l (fun i => c.testBit i) (k + 1) = d + (if outB (fun i => c.testBit i) x = true then x.2.2.1 else 0) := by
                have := HD.out
                unfold capOut at this ⊢
                rw [sumP_step hx, this]
              rw [HD.out] at hsm
              have HX1 := Lib.hid (HX.out.alloc (.cells #[.int .i64 x.1, .int .i64 x.2.1, .int .i64 x.2.2.1, .int .i64 x.2.2.2] 40))
              obtain ⟨f0, u0, r, q⟩ := x
              simp only at e0 e1 e2 e3 HX1 hxn hxr hst
              obtain ⟨f, rfl⟩ : ∃ f : Nat, f0 = (f : Int) := ⟨f0.toNat, by omega⟩
              obtain ⟨u, rfl⟩ : ∃ u : Nat, u0 = (u : Int) := ⟨u0.toNat, by omega⟩
              have hf : f < N := by omega
              have hu : u < N := by omega
              simp only [outB, Int.toNat_natCast] at hst
              clear hx hxn
              by_cases g1 : c.testBit f = true
              · by_cases g2 : c.testBit u = true
                · have b1 := bit_yes (by omega) (by omega) g1
                  have b2 := bit_yes (by omega) (by omega) g2
                  have HN : Hid (capOut l (fun i => c.testBit i) (k + 1) = d) := Lib.hid (by rw [hst]; simp [g1, g2])
                  clear g1 g2 hst
                  go_wp2_with fail
                  go_roundw
                  case rel => exact ⟨k + 1, _, by go_num, rfl, by omega, HN, HX1⟩
                  case measure => simp [intOf]; omega
                · have b1 := bit_yes (by omega) (by omega) g1
                  have b2 := bit_no (by omega) (by omega) g2
                  have HN : Hid (capOut l (fun i => c.testBit i) (k + 1) = d + r) := Lib.hid (by rw [hst]; simp [g1, g2])
                  clear g1 g2 hst
                  go_wp2_with fail
                  go_roundw
                  case rel => exact ⟨k + 1, _, by go_num, rfl, by omega, HN, HX1⟩
                  case measure => simp [intOf]; omega
              · have b1 := bit_no (by omega) (by omega) g1
                have HN : Hid (capOut l (fun i => c.testBit i) (k + 1) = d) := Lib.hid (by rw [hst]; simp [g1])
                clear g1 hst
                go_wp2_with fail
                go_roundw
                case rel => exact ⟨k + 1, _, by go_num, rfl, by omega, HN, HX1⟩
                case measure => simp [intOf]; omega
            · have hsum : capOut l (fun i => c.testBit i) l.length = d := by have h1 := HD.out; have h2 := HLL.out; rw [show l.length = k by omega]; exact h1
              have hmd : much ≤ d := by rw [← hsum]; exact HLE.out _ HH1.out (by simpa using HH2.out)
              have HN : Hid (much ≤ min best d ∧ min best d ≤ 4611686018427387904 ∧ ∀ j, j < c + 1 → j.testBit s = true → j.testBit t = false → min best d ≤ capOut l (fun i => j.testBit i) l.length) := Lib.hid ⟨by have := HB.out.1; omega, by have := HB.out.2.1; omega, fun j hj a1 a2 => by
                by_cases e : j = c
                · subst e; rw [hsum]; omega
                · have := HB.out.2.2 j (by omega) a1 a2; omega⟩
              rw [show min best d = (if d < best then d else best) from by split <;> omega] at HN
              clear hsum hmd HD
              go_wp2_with fail
              go_roundw
              case rel => exact ⟨c + 1, _, by go_num, rfl, by omega, HN, HX⟩
              case measure => simp [intOf]; omega
      · have b1 := bit_no (by omega) (by omega) h1
        have HN : Hid (much ≤ best ∧ best ≤ 4611686018427387904 ∧ ∀ j, j < c + 1 → j.testBit s = true → j.testBit t = false → best ≤ capOut l (fun i => j.testBit i) l.length) := Lib.hid ⟨HB.out.1, HB.out.2.1, fun j hj a1 a2 => by
          by_cases e : j = c
          · subst e; exact absurd a1 h1
          · exact HB.out.2.2 j (by omega) a1 a2⟩
        clear h1
        go_wp2_with fail
        go_roundw
        case rel => exact ⟨c + 1, best, by go_num, rfl, by omega, HN, HX⟩
        case measure => simp [intOf]; omega
    · have hbm : best = much := by
        obtain ⟨S, h1, h2, h3⟩ := HEX.out
        obtain ⟨j, h4, h5⟩ := code N S
        have h6 := HB.out.2.2 j (by have := HM.out; omega) (by rw [h5 s hs]; exact h1) (by rw [h5 t ht]; exact h2)
        rw [capOut_congr (T := S) HNN.out (fun i hi => h5 i hi), h3] at h6
        have := HB.out.1
        omega
      subst hbm
      go_wp2_with fail
      go_ret
      exact ⟨rfl, HX.out.below⟩
end Go.Proofs.Ytifhapmblofmkaa

/- The walk of the law on errors of package flow: nets of too few nodes, or of too many. -/
import Derived.Test.YtifhapmblofmkaaFlowErr0
namespace Go.Proofs.Ytifhapmblofmkaa
open Go.RowKit

variable {len cap m c : Nat} {l : List Pi} {w wr w2 : World} {n s t : Int} {a b : Option Addr} {xs : List Int}
set_option maxHeartbeats 4000000 in
set_option maxRecDepth 100000 in
theorem flowErrors_neg (P : FlowSpec) (hawake : ∀ w, Calls Try.prog 8 #[] w fun e w' => e = .returned (.bool true) ∧ Below w.heap.size w w') (h30 : ¬ (30 : Int) < (len : Int)) (hn0 : n < 0) (_hn20 : ¬ 20 < n) (hm : m ≤ 9223372036854775807)
    (a b : Option Addr) (cap : Nat) (w : World) (hl : IsPipes w.heap.size w a len l) (hi : IsNums w.heap.size w b m xs) :
    Calls Try.prog 6 #[.agg #[.int .i64 n, .slice a len cap], .int .i64 s, .int .i64 t, .slice b m c] w fun e w' => e = .returned (.bool true) ∧ Below w.heap.size w w' := by
  have HX0 := Lib.hid (ErrF.make w n cap hl hi)
  have HLl : Hid (l.length = len) := Lib.hid hl.1
  have HPP := Lib.hid P
  clear hl hi P
  go_enter Try.func6, Try.ntmps6
  go_wp2_with (go_at_call 8; refine (hawake _).mono ?_; rintro e w1 ⟨rfl, hb1⟩; have HX1 := Lib.hid (HX0.out.later hb1); have x0 := HX1.out.box.c0; have x1 := HX1.out.box.c1; clear hb1)
  clear x0 x1
  go_loopw [9, 37] (fun vv kv wr => ∃ (k : Nat) (v : Int), kv = .int .i64 k ∧ vv = .int .i64 v ∧ k ≤ len ∧ Hid (v = if (l.take k).all (okP n) = true then 0 else 2) ∧ Hid (ErrF w wr n a len cap l b m xs)) (fun _ kv _ => len - (intOf kv).toNat)
  case atStart => exact ⟨0, 0, rfl, rfl, Nat.zero_le _, Lib.hid rfl, HX1⟩
  case round =>
    obtain ⟨k, v, rfl, rfl, hk, HV, HX⟩ := hrel
    clear HX0 HX1
    by_cases hlt : k < len
    · obtain ⟨pb, off, x, rfl, hb, hx, e0, e1, e2, e3⟩ := HX.out.pipes.at_ hlt
      have HA := Lib.hid (all_stepF (n := n) hx)
      obtain ⟨f, g, r, q⟩ := x
      simp only at e0 e1 e2 e3
      have HXA := Lib.hid (HX.out.later ((Below.refl wr.heap.size wr).alloc (Nat.le_refl _) (.cells #[.int .i64 f, .int .i64 g, .int .i64 r, .int .i64 q] 40)))
      have y0 := HXA.out.box.c0
      clear hb hx
      by_cases h1 : f < 0
      · have HVN : Hid ((2 : Int) = if (l.take (k + 1)).all (okP n) = true then 0 else 2) := Lib.hid (by rw [HA.out, show okP n (f, g, r, q) = false by simp [okP, isIn]; omega, Bool.and_false]; rfl)
        go_wp2_with fail
        go_roundw
        case rel => exact ⟨k + 1, 2, by go_num, rfl, by omega, HVN, HXA⟩
        case measure => simp [intOf]; omega
      · by_cases h2 : n ≤ f
        · have HVN : Hid ((2 : Int) = if (l.take (k + 1)).all (okP n) = true then 0 else 2) := Lib.hid (by rw [HA.out, show okP n (f, g, r, q) = false by simp [okP, isIn]; omega, Bool.and_false]; rfl)
          go_wp2_with fail
          go_roundw
          case rel => exact ⟨k + 1, 2, by go_num, rfl, by omega, HVN, HXA⟩
          case measure => simp [intOf]; omega
        · exfalso
          omega
    · have hke : l.take k = l := List.take_of_length_le (by have := HLl.out; omega)
      rw [hke] at HV
      have x0 := HX.out.box.c0
      have x1 := HX.out.box.c1
      clear hke
      have HLM : Hid (len ≤ 9223372036854775807) := Lib.hid (by omega)
      have HCV : Hid (checkP n l = 4) := Lib.hid (by unfold checkP; rw [if_pos (by omega)])
      have HEV : Hid (endsP n l s t = 4) := Lib.hid (by unfold endsP; rw [HCV.out]; rfl)
      have HBAD : Hid (checkP n l ≠ 0 ∨ m ≠ len ∨ ¬ (0 ≤ s ∧ s < n)) := Lib.hid (.inl (by rw [HCV.out]; decide))
      clear HV
      have HCK : Hid (∀ W, IsPipes W.heap.size W a len l → Calls Try.prog 17 #[.agg #[.int .i64 n, .slice a len cap]] W fun e w' => e = .returned (.int .i64 4) ∧ Below W.heap.size W w') := Lib.hid (fun W hW => by have h := HPP.out.check_any n len cap l a W hW; rw [HCV.out] at h; exact h)
      have HEN : Hid (∀ W, IsPipes W.heap.size W a len l → Calls Try.prog 18 #[.agg #[.int .i64 n, .slice a len cap], .int .i64 s, .int .i64 t] W fun e w' => e = .returned (.int .i64 4) ∧ Below W.heap.size W w') := Lib.hid (fun W hW => by have h := HPP.out.ends_any n s t len cap l a W hW; rw [HEV.out] at h; exact h)
      have HRV := Lib.hid (rightV_bad (xs := xs) (show endsP n l s t ≠ 0 by rw [HEV.out]; decide))
      go_wp2_with (first
        | (go_at_call 17; refine (HCK.out _ HX.out.pipes).mono ?_; rintro e w2 ⟨rfl, hb2⟩; have HX2 := Lib.hid (HX.out.later hb2); have y0 := HX2.out.box.c0; have y1 := HX2.out.box.c1; clear hb2)
        | (go_at_call 18; refine (HEN.out _ HX2.out.pipes).mono ?_; rintro e w3 ⟨rfl, hb3⟩; have HX3 := Lib.hid (HX2.out.later hb3); have z0 := HX3.out.box.c0; have z1 := HX3.out.box.c1; clear hb3)
        | (go_at_call 11; refine (HPP.out.most_bad n s t len cap l a _ (by rw [HEV.out]; decide) HX3.out.pipes).mono ?_; rintro e w4 ⟨hb4, a4, c4, rfl⟩; rw [HEV.out]; have HX4 := Lib.hid (HX3.out.later hb4); have u0 := HX4.out.box.c0; have u1 := HX4.out.box.c1; clear hb4)
        | (go_at_call 15; refine (HPP.out.cut_bad n s len cap l a m c xs b _ HBAD.out hm HX4.out.pipes HX4.out.nums).mono ?_; rintro e w5 ⟨hb5, a5, c5, rfl⟩; have HX5 := Lib.hid (HX4.out.later hb5); have t0 := HX5.out.box.c0; have t1 := HX5.out.box.c1; clear hb5)
        | (go_at_call 16; refine (HPP.out.right_any n s t len cap l a m c xs b _ hm HLM.out HX5.out.pipes HX5.out.nums).mono ?_; rintro e w6 ⟨hb6, rfl⟩; rw [HRV.out]; have HX6 := Lib.hid (HX5.out.later hb6); clear hb6))
      go_ret
      exact ⟨rfl, HX6.out.box.below⟩
set_option maxHeartbeats 4000000 in
set_option maxRecDepth 100000 in
theorem flowErrors_many (P : FlowSpec) (hawake : ∀ w, Calls Try.prog 8 #[] w fun e w' => e = .returned (.bool true) ∧ Below w.heap.size w w') (h30 : ¬ (30 : Int) < (len : Int)) (hn20 : 20 < n) (hn1000 : ¬ n ≤ 1000) (hn0 : ¬ n < 0) (hm : m ≤ 9223372036854775807)
    (a b : Option Addr) (cap : Nat) (w : World) (hl : IsPipes w.heap.size w a len l) (hi : IsNums w.heap.size w b m xs) :
    Calls Try.prog 6 #[.agg #[.int .i64 n, .slice a len cap], .int .i64 s, .int .i64 t, .slice b m c] w fun e w' => e = .returned (.bool true) ∧ Below w.heap.size w w' := by
  have HX0 := Lib.hid (ErrF.make w n cap hl hi)
  have HLl : Hid (l.length = len) := Lib.hid hl.1
  have HPP := Lib.hid P
  clear hl hi P
  go_enter Try.func6, Try.ntmps6
  go_wp2_with (go_at_call 8; refine (hawake _).mono ?_; rintro e w1 ⟨rfl, hb1⟩; have HX1 := Lib.hid (HX0.out.later hb1); have x0 := HX1.out.box.c0; have x1 := HX1.out.box.c1; clear hb1)
  clear x0 x1
  go_loopw [9, 37] (fun vv kv wr => ∃ (k : Nat) (v : Int), kv = .int .i64 k ∧ vv = .int .i64 v ∧ k ≤ len ∧ Hid (v = if (l.take k).all (okP n) = true then 0 else 2) ∧ Hid (ErrF w wr n a len cap l b m xs)) (fun _ kv _ => len - (intOf kv).toNat)
  case atStart => exact ⟨0, 0, rfl, rfl, Nat.zero_le _, Lib.hid rfl, HX1⟩
  case round =>
    obtain ⟨k, v, rfl, rfl, hk, HV, HX⟩ := hrel
    clear HX0 HX1
    by_cases hlt : k < len
    · obtain ⟨pb, off, x, rfl, hb, hx, e0, e1, e2, e3⟩ := HX.out.pipes.at_ hlt
      have HA := Lib.hid (all_stepF (n := n) hx)
      obtain ⟨f, g, r, q⟩ := x
      simp only at e0 e1 e2 e3
      have HXA := Lib.hid (HX.out.later ((Below.refl wr.heap.size wr).alloc (Nat.le_refl _) (.cells #[.int .i64 f, .int .i64 g, .int .i64 r, .int .i64 q] 40)))
      have y0 := HXA.out.box.c0
      clear hb hx
      by_cases h1 : f < 0
      · have HVN : Hid ((2 : Int) = if (l.take (k + 1)).all (okP n) = true then 0 else 2) := Lib.hid (by rw [HA.out, show okP n (f, g, r, q) = false by simp [okP, isIn]; omega, Bool.and_false]; rfl)
        go_wp2_with fail
        go_roundw
        case rel => exact ⟨k + 1, 2, by go_num, rfl, by omega, HVN, HXA⟩
        case measure => simp [intOf]; omega
      · by_cases h2 : n ≤ f
        · have HVN : Hid ((2 : Int) = if (l.take (k + 1)).all (okP n) = true then 0 else 2) := Lib.hid (by rw [HA.out, show okP n (f, g, r, q) = false by simp [okP, isIn]; omega, Bool.and_false]; rfl)
          go_wp2_with fail
          go_roundw
          case rel => exact ⟨k + 1, 2, by go_num, rfl, by omega, HVN, HXA⟩
          case measure => simp [intOf]; omega
        · by_cases h3 : g < 0
          · have HVN : Hid ((2 : Int) = if (l.take (k + 1)).all (okP n) = true then 0 else 2) := Lib.hid (by rw [HA.out, show okP n (f, g, r, q) = false by simp [okP, isIn]; omega, Bool.and_false]; rfl)
            go_wp2_with fail
            go_roundw
            case rel => exact ⟨k + 1, 2, by go_num, rfl, by omega, HVN, HXA⟩
            case measure => simp [intOf]; omega
          · by_cases h4 : n ≤ g
            · have HVN : Hid ((2 : Int) = if (l.take (k + 1)).all (okP n) = true then 0 else 2) := Lib.hid (by rw [HA.out, show okP n (f, g, r, q) = false by simp [okP, isIn]; omega, Bool.and_false]; rfl)
              go_wp2_with fail
              go_roundw
              case rel => exact ⟨k + 1, 2, by go_num, rfl, by omega, HVN, HXA⟩
              case measure => simp [intOf]; omega
            · by_cases h5 : r < 0
              · have HVN : Hid ((2 : Int) = if (l.take (k + 1)).all (okP n) = true then 0 else 2) := Lib.hid (by rw [HA.out, show okP n (f, g, r, q) = false by simp [okP, isIn]; omega, Bool.and_false]; rfl)
                go_wp2_with fail
                go_roundw
                case rel => exact ⟨k + 1, 2, by go_num, rfl, by omega, HVN, HXA⟩
                case measure => simp [intOf]; omega
              · by_cases h6 : 1099511627776 < r
                · have HVN : Hid ((2 : Int) = if (l.take (k + 1)).all (okP n) = true then 0 else 2) := Lib.hid (by rw [HA.out, show okP n (f, g, r, q) = false by simp [okP, isIn]; omega, Bool.and_false]; rfl)
                  go_wp2_with fail
                  go_roundw
                  case rel => exact ⟨k + 1, 2, by go_num, rfl, by omega, HVN, HXA⟩
                  case measure => simp [intOf]; omega
                · by_cases h7 : q < -1099511627776
                  · have HVN : Hid ((2 : Int) = if (l.take (k + 1)).all (okP n) = true then 0 else 2) := Lib.hid (by rw [HA.out, show okP n (f, g, r, q) = false by simp [okP, isIn]; omega, Bool.and_false]; rfl)
                    go_wp2_with fail
                    go_roundw
                    case rel => exact ⟨k + 1, 2, by go_num, rfl, by omega, HVN, HXA⟩
                    case measure => simp [intOf]; omega
                  · by_cases h8 : 1099511627776 < q
                    · have HVN : Hid ((2 : Int) = if (l.take (k + 1)).all (okP n) = true then 0 else 2) := Lib.hid (by rw [HA.out, show okP n (f, g, r, q) = false by simp [okP, isIn]; omega, Bool.and_false]; rfl)
                      go_wp2_with fail
                      go_roundw
                      case rel => exact ⟨k + 1, 2, by go_num, rfl, by omega, HVN, HXA⟩
                      case measure => simp [intOf]; omega
                    · have HVN : Hid (v = if (l.take (k + 1)).all (okP n) = true then 0 else 2) := Lib.hid (by rw [HV.out, HA.out, show okP n (f, g, r, q) = true by simp [okP, isIn]; omega, Bool.and_true])
                      go_wp2_with fail
                      go_roundw
                      case rel => exact ⟨k + 1, v, by go_num, rfl, by omega, HVN, HXA⟩
                      case measure => simp [intOf]; omega
    · have hke : l.take k = l := List.take_of_length_le (by have := HLl.out; omega)
      rw [hke] at HV
      have x0 := HX.out.box.c0
      have x1 := HX.out.box.c1
      clear hke
      have HLM : Hid (len ≤ 9223372036854775807) := Lib.hid (by omega)
      have HCV : Hid (checkP n l = 4) := Lib.hid (by unfold checkP; rw [if_pos (by omega)])
      have HEV : Hid (endsP n l s t = 4) := Lib.hid (by unfold endsP; rw [HCV.out]; rfl)
      have HBAD : Hid (checkP n l ≠ 0 ∨ m ≠ len ∨ ¬ (0 ≤ s ∧ s < n)) := Lib.hid (.inl (by rw [HCV.out]; decide))
      clear HV
      have HCK : Hid (∀ W, IsPipes W.heap.size W a len l → Calls Try.prog 17 #[.agg #[.int .i64 n, .slice a len cap]] W fun e w' => e = .returned (.int .i64 4) ∧ Below W.heap.size W w') := Lib.hid (fun W hW => by have h := HPP.out.check_any n len cap l a W hW; rw [HCV.out] at h; exact h)
      have HEN : Hid (∀ W, IsPipes W.heap.size W a len l → Calls Try.prog 18 #[.agg #[.int .i64 n, .slice a len cap], .int .i64 s, .int .i64 t] W fun e w' => e = .returned (.int .i64 4) ∧ Below W.heap.size W w') := Lib.hid (fun W hW => by have h := HPP.out.ends_any n s t len cap l a W hW; rw [HEV.out] at h; exact h)
      have HRV := Lib.hid (rightV_bad (xs := xs) (show endsP n l s t ≠ 0 by rw [HEV.out]; decide))
      go_wp2_with (first
        | (go_at_call 17; refine (HCK.out _ HX.out.pipes).mono ?_; rintro e w2 ⟨rfl, hb2⟩; have HX2 := Lib.hid (HX.out.later hb2); have y0 := HX2.out.box.c0; have y1 := HX2.out.box.c1; clear hb2)
        | (go_at_call 18; refine (HEN.out _ HX2.out.pipes).mono ?_; rintro e w3 ⟨rfl, hb3⟩; have HX3 := Lib.hid (HX2.out.later hb3); have z0 := HX3.out.box.c0; have z1 := HX3.out.box.c1; clear hb3)
        | (go_at_call 11; refine (HPP.out.most_bad n s t len cap l a _ (by rw [HEV.out]; decide) HX3.out.pipes).mono ?_; rintro e w4 ⟨hb4, a4, c4, rfl⟩; rw [HEV.out]; have HX4 := Lib.hid (HX3.out.later hb4); have u0 := HX4.out.box.c0; have u1 := HX4.out.box.c1; clear hb4)
        | (go_at_call 15; refine (HPP.out.cut_bad n s len cap l a m c xs b _ HBAD.out hm HX4.out.pipes HX4.out.nums).mono ?_; rintro e w5 ⟨hb5, a5, c5, rfl⟩; have HX5 := Lib.hid (HX4.out.later hb5); have t0 := HX5.out.box.c0; have t1 := HX5.out.box.c1; clear hb5)
        | (go_at_call 16; refine (HPP.out.right_any n s t len cap l a m c xs b _ hm HLM.out HX5.out.pipes HX5.out.nums).mono ?_; rintro e w6 ⟨hb6, rfl⟩; rw [HRV.out]; have HX6 := Lib.hid (HX5.out.later hb6); clear hb6))
      go_ret
      exact ⟨rfl, HX6.out.box.below⟩
end Go.Proofs.Ytifhapmblofmkaa

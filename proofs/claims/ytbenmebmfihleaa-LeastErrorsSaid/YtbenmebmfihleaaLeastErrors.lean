/- The walk of the law on the errors of Least. -/
import Derived.Test.YtbenmebmfihleaaMLaws
namespace Go.Proofs.Ytbenmebmfihleaa
open Go.RowKit

variable {len cap N g k : Nat} {l : List Pi} {w wr w2 : World} {a : Option Addr} {n s t want u : Int} {x : Pi}
/-- The code that the law has reckoned after k pipes. -/
structure CodeTo (l : List Pi) (k : Nat) (u : Int) : Prop where
  two : u = 0 ∨ u = 2
  ok : u = 0 ↔ ∀ (j : Nat) (x : Pi), j < k → l[j]? = some x → 0 ≤ x.2.2.2 ∧ x.2.2.2 ≤ 4294967296
theorem CodeTo.zero (l : List Pi) : CodeTo l 0 0 := ⟨.inl rfl, fun _ j x h => by omega, fun _ => rfl⟩
theorem CodeTo.good (h : CodeTo l k u) (hx : l[k]? = some x) (h1 : 0 ≤ x.2.2.2) (h2 : x.2.2.2 ≤ 4294967296) : CodeTo l (k + 1) u := ⟨h.two, fun hu j y hj hy => by
  by_cases e : j = k
  · subst e; rw [hx] at hy; cases hy; exact ⟨h1, h2⟩
  · exact h.ok.1 hu j y (by omega) hy, fun ha => h.ok.2 (fun j y hj hy => ha j y (by omega) hy)⟩
theorem CodeTo.bad (hx : l[k]? = some x) (h : ¬ (0 ≤ x.2.2.2 ∧ x.2.2.2 ≤ 4294967296)) : CodeTo l (k + 1) 2 := ⟨.inr rfl, fun hu => by omega, fun ha => absurd (ha k x (by omega) hx) h⟩
theorem CodeTo.range (h : CodeTo l l.length u) : RangeL l want ↔ (0 ≤ want ∧ want ≤ 10000) ∧ u = 0 :=
  ⟨fun hr => ⟨hr.1, h.ok.2 (fun j x _ hx => hr.2 x (List.mem_of_getElem? hx))⟩, fun ⟨h1, h2⟩ => ⟨h1, fun x hx => by
    obtain ⟨j, hj⟩ := List.mem_iff_getElem?.1 hx
    exact h.ok.1 h2 j x (List.getElem?_eq_some_iff.1 hj).1 hj⟩⟩
theorem leastErr_ends (h : endsP n l s t ≠ 0) : leastErr n l s t want = endsP n l s t := by simp [leastErr, h]
theorem leastErr_range (h : endsP n l s t = 0) (hr : ¬ RangeL l want) : leastErr n l s t want = 2 := by simp [leastErr, h, hr]
set_option maxHeartbeats 4000000 in
set_option maxRecDepth 100000 in
theorem leastErrors_walk (P : LeastSpec) (n s t want : Int) (a : Option Addr) (cap : Nat) (w : World) (hbig : len ≤ maxLen) (hl : IsPipes w.heap.size w a len l) :
    Calls Try.prog 7 #[.agg #[.int .i64 n, .slice a len cap], .int .i64 s, .int .i64 t, .int .i64 want] w fun e w' => e = .returned (.bool true) ∧ Below w.heap.size w w' := by
  unfold maxLen at hbig
  have HG := Lib.hid (NBox.make (Below.refl _ w) n a len cap)
  have hll := hl.1
  have HL := Lib.hid hl
  clear hl
  have x0 := HG.out.c0
  have x1 := HG.out.c1
  by_cases h20 : 20 < len
  · have hb1 : decide (20 < (len : Int)) = true := by simp; omega
    go_enter Try.func7, Try.ntmps7
    go_wp2_with (go_at_call 8; refine (least_awake P _).mono ?_; rintro e w1 ⟨rfl, hb1⟩; have HX := Lib.hid (HG.out.later hb1); clear x0 x1 hb1; have x0 := HX.out.c0; have x1 := HX.out.c1)
    go_ret
    exact ⟨rfl, HX.out.below⟩
  · have hb1 : decide (20 < (len : Int)) = false := by simp; omega
    by_cases hn : 20 < n ∧ n ≤ 1000
    · have hb2 : decide (20 < n) = true := by simpa using hn.1
      have hb3 : decide (n ≤ 1000) = true := by simpa using hn.2
      go_enter Try.func7, Try.ntmps7
      go_wp2_with (go_at_call 8; refine (least_awake P _).mono ?_; rintro e w1 ⟨rfl, hb1⟩; have HX := Lib.hid (HG.out.later hb1); clear x0 x1 hb1; have x0 := HX.out.c0; have x1 := HX.out.c1)
      go_ret
      exact ⟨rfl, HX.out.below⟩
    · by_cases he : endsP n l s t = 0
      · obtain ⟨hck, hs1, ht1, hst1⟩ := endsP_zero.1 he
        obtain ⟨hnn, hok⟩ := checkP_zero.1 hck
        obtain ⟨N, rfl⟩ : ∃ N : Nat, n = (N : Int) := ⟨n.toNat, by omega⟩
        obtain ⟨s, rfl⟩ : ∃ s' : Nat, s = (s' : Int) := ⟨s.toNat, by omega⟩
        obtain ⟨t, rfl⟩ : ∃ t' : Nat, t = (t' : Int) := ⟨t.toNat, by omega⟩
        have hb2 : decide (20 < N) = false := by simp; omega
        have HOK := Lib.hid hok
        have HC0 := Lib.hid (CodeTo.zero l)
        clear hok
        go_enter Try.func7, Try.ntmps7
        go_wp2_with (first
          | (go_at_call 8; refine (least_awake P _).mono ?_; rintro e w1 ⟨rfl, hb1⟩; have HX := Lib.hid (HG.out.later hb1); clear x0 x1 hb1; have x0 := HX.out.c0; have x1 := HX.out.c1)
          | (go_at_call 17; refine (P.ends_any (N : Int) s t len cap l a _ (HX.out.pipesHere HL.out)).mono ?_; rw [he]; rintro e w2 ⟨rfl, hb2⟩; have HX2 := Lib.hid (HX.out.later hb2); clear x0 x1 hb2; have x0 := HX2.out.c0; have x1 := HX2.out.c1))
        clear HG x0 x1
        go_loopw [9, 42] (fun cv kv wr => ∃ (k : Nat) (u : Int), kv = .int .i64 k ∧ cv = .int .i64 u ∧ k ≤ len ∧ Hid (CodeTo l k u) ∧ Hid (NBox w wr w.heap.size (N : Int) a len cap)) (fun _ kv _ => len - (intOf kv).toNat)
        case atStart => exact ⟨0, 0, rfl, rfl, Nat.zero_le _, HC0, HX2⟩
        case round =>
          obtain ⟨k, u, rfl, rfl, hk, HC, HY⟩ := hrel
          clear HC0 HX2 HX
          by_cases hlt : k < len
          · obtain ⟨bp, op, x, rfl, _, hx, e0, e1, e2, e3⟩ := (HY.out.pipes HL.out).at_ hlt
            have HX1 := Lib.hid (HY.out.alloc (.cells #[.int .i64 x.1, .int .i64 x.2.1, .int .i64 x.2.2.1, .int .i64 x.2.2.2] 47))
            have HXX := Lib.hid hx
            obtain ⟨f, v, r, q⟩ := x
            simp only at e0 e1 e2 e3 HX1
            clear hx
            by_cases g1 : q < 0
            · have g1b : decide (q < 0) = true := by simpa using g1
              have HN := Lib.hid (CodeTo.bad HXX.out (by simp only; omega))
              go_wp2_with fail
              go_roundw
              case rel => exact ⟨k + 1, _, by go_num, rfl, by omega, HN, HX1⟩
              case measure => simp [intOf]; omega
            · have g1b : decide (q < 0) = false := by simpa using g1
              by_cases g2 : 4294967296 < q
              · have g2b : decide (4294967296 < q) = true := by simpa using g2
                have HN := Lib.hid (CodeTo.bad HXX.out (by simp only; omega))
                go_wp2_with fail
                go_roundw
                case rel => exact ⟨k + 1, _, by go_num, rfl, by omega, HN, HX1⟩
                case measure => simp [intOf]; omega
              · have g2b : decide (4294967296 < q) = false := by simpa using g2
                have HN := Lib.hid (HC.out.good HXX.out (by simp only; omega) (by simp only; omega))
                go_wp2_with fail
                go_roundw
                case rel => exact ⟨k + 1, _, by go_num, rfl, by omega, HN, HX1⟩
                case measure => simp [intOf]; omega
          · obtain rfl : len = k := by omega
            have hrg := (hll ▸ HC.out : CodeTo l l.length u).range (want := want)
            have x0 := HY.out.c0
            have x1 := HY.out.c1
            have hu := HC.out.two
            by_cases g1 : want < 0
            · have g1b : decide (want < 0) = true := by simpa using g1
              have HR := Lib.hid (leastErr_range (want := want) he (fun h => by have := hrg.1 h; omega))
              clear hrg
              go_wp2_with (go_at_call 12; refine (P.least_bad (N : Int) s t want len cap l a _ (by rw [HR.out]; decide) (HY.out.pipesHere HL.out)).mono ?_; rw [HR.out]; rintro e w3 ⟨hb3, a1, c1, a2, c2, rfl⟩; have HX3 := Lib.hid (HY.out.later hb3); clear hb3)
              go_ret
              exact ⟨rfl, HX3.out.below.alloc HX3.out.below.size _⟩
            · have g1b : decide (want < 0) = false := by simpa using g1
              by_cases g2 : 10000 < want
              · have g2b : decide (10000 < want) = true := by simpa using g2
                have HR := Lib.hid (leastErr_range (want := want) he (fun h => by have := hrg.1 h; omega))
                clear hrg
                go_wp2_with (go_at_call 12; refine (P.least_bad (N : Int) s t want len cap l a _ (by rw [HR.out]; decide) (HY.out.pipesHere HL.out)).mono ?_; rw [HR.out]; rintro e w3 ⟨hb3, a1, c1, a2, c2, rfl⟩; have HX3 := Lib.hid (HY.out.later hb3); clear hb3)
                go_ret
                exact ⟨rfl, HX3.out.below.alloc HX3.out.below.size _⟩
              · have g2b : decide (10000 < want) = false := by simpa using g2
                rcases hu with rfl | rfl
                · have HRG := Lib.hid (hrg.2 ⟨by omega, rfl⟩)
                  clear hrg
                  have HEE := Lib.hid he
                  go_wp2_with fail
                  go_at_call 11
                  refine (P.most_ok N s t len cap l a _ he (HY.out.pipesHere HL.out)).mono ?_
                  rintro e w5 ⟨hb5, v5, fl, most, rfl, hr5, hm5⟩
                  have HX5 := Lib.hid (HY.out.later hb5)
                  obtain ⟨va, vc, hv5⟩ := owns_shape hr5
                  subst hv5
                  have HM5 := Lib.hid hm5
                  clear hb5 hr5 hm5 x0 x1
                  have y0 := HX5.out.c0
                  have y1 := HX5.out.c1
                  by_cases hlt2 : most < want
                  · have hgb : decide (most < want) = true := by simpa using hlt2
                    go_wp2_with (go_at_call 12; refine (P.least_none N s t len cap want most fl l a _ HEE.out HRG.out HM5.out hlt2 (HX5.out.pipesHere HL.out)).mono ?_; rintro e w6 ⟨hb6, a1, c1, a2, c2, rfl⟩; have HX6 := Lib.hid (HX5.out.later hb6); clear hb6)
                    go_ret
                    exact ⟨rfl, HX6.out.below.alloc HX6.out.below.size _⟩
                  · have hgb : decide (most < want) = false := by simpa using hlt2
                    go_wp2_with (first
                      | (go_at_call 12; refine (P.least_ok N s t len cap want most fl l a _ HEE.out HRG.out HM5.out (by omega) (HX5.out.pipesHere HL.out)).mono ?_; rintro e w6 ⟨hb6, v6, u6, f, h, c, rfl, hf6, hu6, hl6, h06, ht6⟩; have HX6 := Lib.hid (HX5.out.later hb6); obtain ⟨fa, fc, hv6⟩ := owns_shape hf6; subst hv6; obtain ⟨hg, hc, hv7, _, hg2, hc1, hc2⟩ := hu6.some_ (by omega); subst hv7; have hba : Below w6.heap.size w6 (w6.alloc (.cells #[.slice fa len fc, .int .i64 c, .slice (some ⟨hg, 0, none⟩) N hc] 36)) := (Below.refl _ w6).alloc (Nat.le_refl _) _; have HX7 := Lib.hid (HX6.out.later hba); have HB7 := Lib.hid (RBox.make (B := w6.heap.size) (wr := w6) (Nat.le_refl _) fa len fc c (some ⟨hg, 0, none⟩) N hc); have HF7 := Lib.hid ((hf6.nums0.later hba).mono hba.size); have HU7 := Lib.hid ((hu6.nums0.later hba).mono hba.size); have HLE := Lib.hid (hll ▸ hl6.rows HOK.out : RightIs l N ((List.range len).map f) ((List.range N).map h) s t want c); have z0 := HX7.out.c0; have z1 := HX7.out.c1; have q0 := HB7.out.c0; have q1 := HB7.out.c1; have q2 := HB7.out.c2; unfold maxLen at hc2; clear hb6 hf6 hu6 hl6 h06 ht6 hba y0 y1)
                      | (go_at_call 14; refine (P.right_any (N : Int) s t want c len cap l a len fc _ fa N hc _ _ _ (by omega) (by omega) (by omega) (HX7.out.pipesHere HL.out) HF7.out HU7.out).mono ?_; rw [right_yes HEE.out HRG.out HLE.out]; rintro e w9 ⟨hb9, rfl⟩; have HX8 := Lib.hid (HX7.out.later hb9); have HB8 := Lib.hid (HB7.out.later hb9); have HF8 := Lib.hid ((HF7.out.later hb9).mono hb9.size); have HU8 := Lib.hid ((HU7.out.later hb9).mono hb9.size); clear z0 z1 q0 q1 q2 hb9; have z0 := HX8.out.c0; have z1 := HX8.out.c1; have q0 := HB8.out.c0; have q1 := HB8.out.c1; have q2 := HB8.out.c2)
                      | (go_at_call 13; refine (lawRight_any (by omega) (by omega) HOK.out (by omega) (by omega) (IsLeast.safe HLE.out HOK.out (by omega) (by omega) (by omega) HRG.out) (by omega) (by omega) a cap want c fa fc _ hc _ (HX8.out.pipesHere HL.out) HF8.out HU8.out).mono ?_; rw [rightL_yes HLE.out]; rintro e w8 ⟨rfl, hb8⟩; have HX9 := Lib.hid (HX8.out.later hb8); clear z0 z1 q0 q1 q2 hb8))
                    go_ret
                    exact ⟨rfl, HX9.out.below⟩
                · have hdummy : True := trivial
                  have HR := Lib.hid (leastErr_range (want := want) he (fun h => by have := hrg.1 h; omega))
                  clear hrg
                  go_wp2_with (go_at_call 12; refine (P.least_bad (N : Int) s t want len cap l a _ (by rw [HR.out]; decide) (HY.out.pipesHere HL.out)).mono ?_; rw [HR.out]; rintro e w3 ⟨hb3, a1, c1, a2, c2, rfl⟩; have HX3 := Lib.hid (HY.out.later hb3); clear hb3)
                  go_ret
                  exact ⟨rfl, HX3.out.below.alloc HX3.out.below.size _⟩
      · have HR : Hid (leastErr n l s t want = endsP n l s t) := Lib.hid (leastErr_ends he)
        have HNE : Hid (leastErr n l s t want ≠ 0) := Lib.hid (by rw [HR.out]; exact he)
        obtain ⟨E, hE⟩ : ∃ E, endsP n l s t = E := ⟨_, rfl⟩
        have HE := Lib.hid hE
        rw [hE] at he HR
        have heb : (E == 0) = false := by simpa using he
        have hec : (E != 0) = true := by simpa using he
        clear hE
        by_cases hn2 : 20 < n
        · have hb2 : decide (20 < n) = true := by simpa using hn2
          have hb3 : decide (n ≤ 1000) = false := by simp; omega
          go_enter Try.func7, Try.ntmps7
          go_wp2_with (first
            | (go_at_call 8; refine (least_awake P _).mono ?_; rintro e w1 ⟨rfl, hb1⟩; have HX := Lib.hid (HG.out.later hb1); clear x0 x1 hb1; have x0 := HX.out.c0; have x1 := HX.out.c1)
            | (go_at_call 17; refine (P.ends_any n s t len cap l a _ (HX.out.pipesHere HL.out)).mono ?_; rw [HE.out]; rintro e w2 ⟨rfl, hb2⟩; have HX2 := Lib.hid (HX.out.later hb2); clear x0 x1 hb2; have x0 := HX2.out.c0; have x1 := HX2.out.c1)
            | (go_at_call 12; refine (P.least_bad n s t want len cap l a _ HNE.out (HX2.out.pipesHere HL.out)).mono ?_; rw [HR.out]; rintro e w3 ⟨hb3, a1, c1, a2, c2, rfl⟩; have HX3 := Lib.hid (HX2.out.later hb3); clear hb3))
          go_ret
          exact ⟨rfl, HX3.out.below.alloc HX3.out.below.size _⟩
        · have hb2 : decide (20 < n) = false := by simp; omega
          go_enter Try.func7, Try.ntmps7
          go_wp2_with (first
            | (go_at_call 8; refine (least_awake P _).mono ?_; rintro e w1 ⟨rfl, hb1⟩; have HX := Lib.hid (HG.out.later hb1); clear x0 x1 hb1; have x0 := HX.out.c0; have x1 := HX.out.c1)
            | (go_at_call 17; refine (P.ends_any n s t len cap l a _ (HX.out.pipesHere HL.out)).mono ?_; rw [HE.out]; rintro e w2 ⟨rfl, hb2⟩; have HX2 := Lib.hid (HX.out.later hb2); clear x0 x1 hb2; have x0 := HX2.out.c0; have x1 := HX2.out.c1)
            | (go_at_call 12; refine (P.least_bad n s t want len cap l a _ HNE.out (HX2.out.pipesHere HL.out)).mono ?_; rw [HR.out]; rintro e w3 ⟨hb3, a1, c1, a2, c2, rfl⟩; have HX3 := Lib.hid (HX2.out.later hb3); clear hb3))
          go_ret
          exact ⟨rfl, HX3.out.below.alloc HX3.out.below.size _⟩
end Go.Proofs.Ytbenmebmfihleaa

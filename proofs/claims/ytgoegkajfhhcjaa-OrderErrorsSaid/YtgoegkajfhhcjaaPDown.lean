/- The library's down over a pile's items. -/
import Derived.Test.YtgoegkajfhhcjaaPUp
namespace Go.Proofs.Ytgoegkajfhhcjaa
open Go.RowKit
open Go.Sort (swp size_swp swp_get HoldsK putRowK)

/-- Where the loop of down stands: the thing at k may have to go down; the last, at n, stays. -/
def DownRel (w : World) (g n : Nat) (d : Array It) (k : Nat) (dk : Array It) (wr : World) : Prop :=
  dk.size = d.size ∧ (∃ q, wr = putRowK encIt 2 (Sort.ahead w q) g 0 dk) ∧ DownInv n k dk ∧ dk.toList.Perm d.toList ∧ dk[n]! = d[n]!
/-- What down leaves. -/
def Downed (w : World) (g n : Nat) (d : Array It) (w' : World) : Prop :=
  ∃ dk : Array It, HeapB n dk ∧ dk.size = d.size ∧ dk.toList.Perm d.toList ∧ dk[n]! = d[n]! ∧ ∃ q, w' = putRowK encIt 2 (Sort.ahead w q) g 0 dk

theorem DownRel.holds {w : World} {g n : Nat} {d : Array It} {k : Nat} {dk : Array It} {wr : World} (h : DownRel w g n d k dk wr) (H : HoldsK encIt 2 w g 0 d) : HoldsK encIt 2 wr g 0 dk := by
  obtain ⟨hs, ⟨q, rfl⟩, _⟩ := h
  exact Sort.holdsK_putRowK encIt 2 _ g 0 d dk (Sort.holdsK_ahead encIt 2 w q g 0 d H) hs
theorem DownRel.cell {w : World} {g n : Nat} {d : Array It} {k : Nat} {dk : Array It} {wr : World} (h : DownRel w g n d k dk wr) {a : Addr} (ha : a.block ≠ g) {v : Value} (hc : w.cell? a = some v) : wr.cell? a = some v := by
  obtain ⟨hs, ⟨q, rfl⟩, _⟩ := h
  rw [Sort.cell?_putRowK_other encIt 2 _ g 0 dk a ha]
  exact hc
theorem DownRel.drewN {w : World} {g n : Nat} {d : Array It} {k : Nat} {dk : Array It} {wr : World} (h : DownRel w g n d k dk wr) (q : Nat) : DownRel w g n d k dk (wr.drewN q) := by
  obtain ⟨hs, ⟨q0, rfl⟩, r⟩ := h
  exact ⟨hs, ⟨q0 + q, Sort.putRowK_drewN encIt 2 w q0 q g 0 dk⟩, r⟩
/-- j is the child that comes first. -/
def First (n k j : Nat) (dk : Array It) : Prop := (j - 1) / 2 = k ∧ 0 < j ∧ j < n ∧ ∀ c, 0 < c → c < n → (c - 1) / 2 = k → Le dk[j]! dk[c]!
theorem first_left {n k : Nat} {dk : Array It} (h : 2 * k + 1 < n) (hr : 2 * k + 2 < n → lessB dk[2 * k + 2]! dk[2 * k + 1]! = false) : First n k (2 * k + 1) dk := by
  refine ⟨by omega, by omega, h, fun c h0 hc he => ?_⟩
  by_cases hc1 : c = 2 * k + 1
  · subst hc1; exact Le.refl _
  · obtain rfl : c = 2 * k + 2 := by omega
    exact lessB_false.1 (hr hc)
theorem first_right {n k : Nat} {dk : Array It} (h : 2 * k + 2 < n) (hr : lessB dk[2 * k + 2]! dk[2 * k + 1]! = true) : First n k (2 * k + 2) dk := by
  refine ⟨by omega, by omega, h, fun c h0 hc he => ?_⟩
  by_cases hc1 : c = 2 * k + 2
  · subst hc1; exact Le.refl _
  · obtain rfl : c = 2 * k + 1 := by omega
    exact Le.of_less (lessB_true.1 hr)
theorem DownRel.step {w : World} {g n : Nat} {d : Array It} {k j : Nat} {dk : Array It} {wr w2 : World} (h : DownRel w g n d k dk wr) (hn : n < d.size) (hj : First n k j dk)
    (hl : lessB dk[j]! dk[k]! = true) (hw : ∃ q, w2 = putRowK encIt 2 (Sort.ahead wr q) g 0 (swp dk k j)) : DownRel w g n d j (swp dk k j) w2 := by
  obtain ⟨hs, ⟨q0, rfl⟩, hu, hp, hl'⟩ := h
  obtain ⟨q, rfl⟩ := hw
  obtain ⟨he, h0, hjn, ho⟩ := hj
  refine ⟨by rw [size_swp]; exact hs, ⟨q0 + q, putRowK_on w g dk _ q0 q (size_swp _ _ _)⟩, ?_, ?_, ?_⟩
  · exact down_step (by omega) hu h0 hjn he (lessB_true.1 hl) ho
  · exact (swp_perm dk k j (by omega) (by omega)).trans hp
  · rw [swp_get dk (by omega) (by omega), if_neg (by omega), if_neg (by omega)]; exact hl'
theorem DownRel.leaf {w : World} {g n : Nat} {d : Array It} {k : Nat} {dk : Array It} {wr : World} (h : DownRel w g n d k dk wr) (hk : n ≤ 2 * k + 1) : Downed w g n d wr := by
  obtain ⟨hz, hq, hu, hp, hl⟩ := h
  exact ⟨dk, down_stop hu (fun c h0 hc he => by omega), hz, hp, hl, hq⟩
theorem DownRel.stop {w : World} {g n : Nat} {d : Array It} {k j : Nat} {dk : Array It} {wr : World} (h : DownRel w g n d k dk wr) (hj : First n k j dk) (hs : lessB dk[j]! dk[k]! = false) : Downed w g n d wr := by
  obtain ⟨hz, hq, hu, hp, hl⟩ := h
  exact ⟨dk, down_stop hu (fun c h0 hc he => (lessB_false.1 hs).trans (hj.2.2.2 c h0 hc he)), hz, hp, hl, hq⟩

set_option maxHeartbeats 4000000 in
set_option maxRecDepth 100000 in
theorem down_any (b g m n cap : Nat) (d : Array It) (w : World) (hm : m = d.size) (hbig : m ≤ 3000) (hn : n < m) (hb : b ≠ g) (hc : w.cell? ⟨b, 0, none⟩ = some (.slice (some ⟨g, 0, none⟩) m cap)) (H : HoldsK encIt 2 w g 0 d)
    (hu : DownInv n 0 d) :
    Calls Try.prog 42 #[.iface 80 (.pointer (some ⟨b, 0, none⟩)), .int .i64 0, .int .i64 n] w fun e w' => (∃ r, e = .returned (.bool r)) ∧ Downed w g n d w' := by
  have HH := Lib.hid H; clear H
  have HC := Lib.hid hc; clear hc
  have HN := Lib.hid hm; clear hm
  have HU : Hid (DownRel w g n d 0 d w) := Lib.hid ⟨rfl, ⟨0, (Sort.putRowK_self encIt 2 w g 0 d HH.out).symm⟩, hu, List.Perm.refl _, rfl⟩
  clear hu
  go_enter Try.func42, Try.ntmps42
  go_wp2_with fail
  go_loopw [7] (fun s wr => ∃ (k : Nat) (dk : Array It), s = .int .i64 k ∧ k ≤ n ∧ Hid (DownRel w g n d k dk wr)) (fun s _ => n - (intOf s).toNat)
  case atStart => exact ⟨0, d, rfl, by omega, HU⟩
  case round =>
    obtain ⟨k, dk, rfl, hk, HR⟩ := hrel
    clear HU
    by_cases h0 : n ≤ 2 * k + 1
    · have h0' : (n : Int) ≤ 2 * (k : Int) + 1 := by omega
      go_wp2_with fail
      go_ret
      exact ⟨⟨_, rfl⟩, HR.out.leaf h0⟩
    · have h1 : ¬ ((n : Int) ≤ 2 * (k : Int) + 1) := by omega
      have h2 : 2 * k + 1 < n := by omega
      have e1 : ((2 * k + 1 : Nat) : Int) = 2 * (k : Int) + 1 := by omega
      have e2 : ((2 * k + 2 : Nat) : Int) = 2 * (k : Int) + 1 + 1 := by omega
      have LK : Hid (∀ (c : Nat) (W : World), c < m → DownRel w g n d k dk W → Calls Try.prog 61 #[.slice (some ⟨g, 0, none⟩) m cap, .int .i64 (c : Nat), .int .i64 (k : Nat)] W fun e w' => e = .returned (.bool (lessB dk[c]! dk[k]!)) ∧ ∃ q, w' = W.drewN q) := Lib.hid fun c W hc hr => less_any g m cap c k dk W (by have := HN.out; have := hr.1; omega) hc (by omega) (hr.holds HH.out)
      have LR : Hid (∀ W : World, 2 * k + 2 < m → DownRel w g n d k dk W → Calls Try.prog 61 #[.slice (some ⟨g, 0, none⟩) m cap, .int .i64 ((2 * k + 2 : Nat) : Int), .int .i64 ((2 * k + 1 : Nat) : Int)] W fun e w' => e = .returned (.bool (lessB dk[2 * k + 2]! dk[2 * k + 1]!)) ∧ ∃ q, w' = W.drewN q) := Lib.hid fun W hc hr => less_any g m cap (2 * k + 2) (2 * k + 1) dk W (by have := HN.out; have := hr.1; omega) hc (by omega) (hr.holds HH.out)
      have SW : Hid (∀ (c : Nat) (W : World), c < m → DownRel w g n d k dk W → Calls Try.prog 62 #[.slice (some ⟨g, 0, none⟩) m cap, .int .i64 (k : Nat), .int .i64 (c : Nat)] W fun e w' => e = .returned (.tuple #[]) ∧ ∃ q, w' = putRowK encIt 2 (Sort.ahead W q) g 0 (swp dk k c)) := Lib.hid fun c W hc hr => swap_any g m cap k c dk W (by have := HN.out; have := hr.1; omega) (by omega) hc (hr.holds HH.out)
      by_cases h3 : 2 * k + 2 < n
      · have h4 : 2 * (k : Int) + 1 + 1 < (n : Int) := by omega
        have h5 : decide (2 * (k : Int) + 1 + 1 < (n : Int)) = true := decide_eq_true h4
        cases hL : lessB dk[2 * k + 2]! dk[2 * k + 1]! with
        | true =>
          have LR2 : Hid (∀ W : World, DownRel w g n d k dk W → Calls Try.prog 61 #[.slice (some ⟨g, 0, none⟩) m cap, .int .i64 (2 * (k : Int) + 1 + 1), .int .i64 (2 * (k : Int) + 1)] W fun e w' => e = .returned (.bool true) ∧ ∃ q, w' = W.drewN q) := Lib.hid fun W hr => by have := LR.out W (by omega) hr; rw [hL, e1, e2] at this; exact this
          have HL := Lib.hid hL; clear hL LR
          cases hG : lessB dk[2 * k + 2]! dk[k]! with
          | false =>
            have HF : Hid (First n k (2 * k + 2) dk) := Lib.hid (first_right h3 HL.out)
            have LK2 : Hid (∀ W : World, DownRel w g n d k dk W → Calls Try.prog 61 #[.slice (some ⟨g, 0, none⟩) m cap, .int .i64 (2 * (k : Int) + 1 + 1), .int .i64 (k : Nat)] W fun e w' => e = .returned (.bool false) ∧ ∃ q, w' = W.drewN q) := Lib.hid fun W hr => by have := LK.out (2 * k + 2) W (by omega) hr; rw [hG, e2] at this; exact this
            have HG := Lib.hid hG; clear hG e1 e2
            have hm1 := meth_less ⟨b, 0, none⟩ wr _ (HR.out.cell hb HC.out)
            go_wp2_with (first
              | (go_at_call 61; with_reducible refine (LR2.out _ HR.out).mono ?_; rintro e w' ⟨rfl, q, rfl⟩; have HR2 := Lib.hid (HR.out.drewN q); clear HR LR2; have hm2 := meth_less ⟨b, 0, none⟩ (wr.drewN q) _ (HR2.out.cell hb HC.out); clear hm1; generalize wr.drewN q = w2 at HR2 hm2 ⊢)
              | (go_at_call 61; with_reducible refine (LK2.out _ HR2.out).mono ?_; rintro e w' ⟨rfl, q3, rfl⟩; have HR3 := Lib.hid (HR2.out.drewN q3); clear HR2 LK2 hm2; generalize w2.drewN q3 = w3 at HR3 ⊢))
            go_ret
            exact ⟨⟨_, rfl⟩, HR3.out.stop HF.out HG.out⟩
          | true =>
            have HF : Hid (First n k (2 * k + 2) dk) := Lib.hid (first_right h3 HL.out)
            have LK2 : Hid (∀ W : World, DownRel w g n d k dk W → Calls Try.prog 61 #[.slice (some ⟨g, 0, none⟩) m cap, .int .i64 (2 * (k : Int) + 1 + 1), .int .i64 (k : Nat)] W fun e w' => e = .returned (.bool true) ∧ ∃ q, w' = W.drewN q) := Lib.hid fun W hr => by have := LK.out (2 * k + 2) W (by omega) hr; rw [hG, e2] at this; exact this
            have SW2 : Hid (∀ W : World, DownRel w g n d k dk W → Calls Try.prog 62 #[.slice (some ⟨g, 0, none⟩) m cap, .int .i64 (k : Nat), .int .i64 (2 * (k : Int) + 1 + 1)] W fun e w' => e = .returned (.tuple #[]) ∧ ∃ q, w' = putRowK encIt 2 (Sort.ahead W q) g 0 (swp dk k (2 * k + 2))) := Lib.hid fun W hr => by have := SW.out (2 * k + 2) W (by omega) hr; rw [e2] at this; exact this
            have HG := Lib.hid hG; clear hG e1 e2
            have hm1 := meth_less ⟨b, 0, none⟩ wr _ (HR.out.cell hb HC.out)
            go_wp2_with (first
              | (go_at_call 61; with_reducible refine (LR2.out _ HR.out).mono ?_; rintro e w' ⟨rfl, q, rfl⟩; have HR2 := Lib.hid (HR.out.drewN q); clear HR LR2; have hm2 := meth_less ⟨b, 0, none⟩ (wr.drewN q) _ (HR2.out.cell hb HC.out); clear hm1; generalize wr.drewN q = w2 at HR2 hm2 ⊢)
              | (go_at_call 61; with_reducible refine (LK2.out _ HR2.out).mono ?_; rintro e w' ⟨rfl, q3, rfl⟩; have HR3 := Lib.hid (HR2.out.drewN q3); clear HR2 LK2; have hm3 := meth_swap ⟨b, 0, none⟩ (w2.drewN q3) _ (HR3.out.cell hb HC.out); clear hm2; generalize w2.drewN q3 = w3 at HR3 hm3 ⊢)
              | (go_at_call 62; with_reducible refine (SW2.out _ HR3.out).mono ?_; rintro e w' ⟨rfl, hw⟩; have HR4 := Lib.hid (HR3.out.step (by have := HN.out; omega) HF.out HG.out hw); clear HR3 hw hm3 SW2))
            go_roundw
            case rel => exact ⟨2 * k + 2, _, by go_num, by omega, HR4⟩
            case measure => simp [intOf]; omega
        | false =>
          have LR2 : Hid (∀ W : World, DownRel w g n d k dk W → Calls Try.prog 61 #[.slice (some ⟨g, 0, none⟩) m cap, .int .i64 (2 * (k : Int) + 1 + 1), .int .i64 (2 * (k : Int) + 1)] W fun e w' => e = .returned (.bool false) ∧ ∃ q, w' = W.drewN q) := Lib.hid fun W hr => by have := LR.out W (by omega) hr; rw [hL, e1, e2] at this; exact this
          have HL := Lib.hid hL; clear hL LR
          cases hG : lessB dk[2 * k + 1]! dk[k]! with
          | false =>
            have HF : Hid (First n k (2 * k + 1) dk) := Lib.hid (first_left h2 fun _ => HL.out)
            have LK2 : Hid (∀ W : World, DownRel w g n d k dk W → Calls Try.prog 61 #[.slice (some ⟨g, 0, none⟩) m cap, .int .i64 (2 * (k : Int) + 1), .int .i64 (k : Nat)] W fun e w' => e = .returned (.bool false) ∧ ∃ q, w' = W.drewN q) := Lib.hid fun W hr => by have := LK.out (2 * k + 1) W (by omega) hr; rw [hG, e1] at this; exact this
            have HG := Lib.hid hG; clear hG e1 e2
            have hm1 := meth_less ⟨b, 0, none⟩ wr _ (HR.out.cell hb HC.out)
            go_wp2_with (first
              | (go_at_call 61; with_reducible refine (LR2.out _ HR.out).mono ?_; rintro e w' ⟨rfl, q, rfl⟩; have HR2 := Lib.hid (HR.out.drewN q); clear HR LR2; have hm2 := meth_less ⟨b, 0, none⟩ (wr.drewN q) _ (HR2.out.cell hb HC.out); clear hm1; generalize wr.drewN q = w2 at HR2 hm2 ⊢)
              | (go_at_call 61; with_reducible refine (LK2.out _ HR2.out).mono ?_; rintro e w' ⟨rfl, q3, rfl⟩; have HR3 := Lib.hid (HR2.out.drewN q3); clear HR2 LK2 hm2; generalize w2.drewN q3 = w3 at HR3 ⊢))
            go_ret
            exact ⟨⟨_, rfl⟩, HR3.out.stop HF.out HG.out⟩
          | true =>
            have HF : Hid (First n k (2 * k + 1) dk) := Lib.hid (first_left h2 fun _ => HL.out)
            have LK2 : Hid (∀ W : World, DownRel w g n d k dk W → Calls Try.prog 61 #[.slice (some ⟨g, 0, none⟩) m cap, .int .i64 (2 * (k : Int) + 1), .int .i64 (k : Nat)] W fun e w' => e = .returned (.bool true) ∧ ∃ q, w' = W.drewN q) := Lib.hid fun W hr => by have := LK.out (2 * k + 1) W (by omega) hr; rw [hG, e1] at this; exact this
            have SW2 : Hid (∀ W : World, DownRel w g n d k dk W → Calls Try.prog 62 #[.slice (some ⟨g, 0, none⟩) m cap, .int .i64 (k : Nat), .int .i64 (2 * (k : Int) + 1)] W fun e w' => e = .returned (.tuple #[]) ∧ ∃ q, w' = putRowK encIt 2 (Sort.ahead W q) g 0 (swp dk k (2 * k + 1))) := Lib.hid fun W hr => by have := SW.out (2 * k + 1) W (by omega) hr; rw [e1] at this; exact this
            have HG := Lib.hid hG; clear hG e1 e2
            have hm1 := meth_less ⟨b, 0, none⟩ wr _ (HR.out.cell hb HC.out)
            go_wp2_with (first
              | (go_at_call 61; with_reducible refine (LR2.out _ HR.out).mono ?_; rintro e w' ⟨rfl, q, rfl⟩; have HR2 := Lib.hid (HR.out.drewN q); clear HR LR2; have hm2 := meth_less ⟨b, 0, none⟩ (wr.drewN q) _ (HR2.out.cell hb HC.out); clear hm1; generalize wr.drewN q = w2 at HR2 hm2 ⊢)
              | (go_at_call 61; with_reducible refine (LK2.out _ HR2.out).mono ?_; rintro e w' ⟨rfl, q3, rfl⟩; have HR3 := Lib.hid (HR2.out.drewN q3); clear HR2 LK2; have hm3 := meth_swap ⟨b, 0, none⟩ (w2.drewN q3) _ (HR3.out.cell hb HC.out); clear hm2; generalize w2.drewN q3 = w3 at HR3 hm3 ⊢)
              | (go_at_call 62; with_reducible refine (SW2.out _ HR3.out).mono ?_; rintro e w' ⟨rfl, hw⟩; have HR4 := Lib.hid (HR3.out.step (by have := HN.out; omega) HF.out HG.out hw); clear HR3 hw hm3 SW2))
            go_roundw
            case rel => exact ⟨2 * k + 1, _, by go_num, by omega, HR4⟩
            case measure => simp [intOf]; omega
      · have h4 : ¬ (2 * (k : Int) + 1 + 1 < (n : Int)) := by omega
        have h5 : decide (2 * (k : Int) + 1 + 1 < (n : Int)) = false := decide_eq_false h4
        cases hG : lessB dk[2 * k + 1]! dk[k]! with
        | false =>
          have HF : Hid (First n k (2 * k + 1) dk) := Lib.hid (first_left h2 fun h => absurd h h3)
          have LK2 : Hid (∀ W : World, DownRel w g n d k dk W → Calls Try.prog 61 #[.slice (some ⟨g, 0, none⟩) m cap, .int .i64 (2 * (k : Int) + 1), .int .i64 (k : Nat)] W fun e w' => e = .returned (.bool false) ∧ ∃ q, w' = W.drewN q) := Lib.hid fun W hr => by have := LK.out (2 * k + 1) W (by omega) hr; rw [hG, e1] at this; exact this
          have HG := Lib.hid hG; clear hG e1 e2
          have hm1 := meth_less ⟨b, 0, none⟩ wr _ (HR.out.cell hb HC.out)
          go_wp2_with (first
            | (go_at_call 61; with_reducible refine (LK2.out _ HR.out).mono ?_; rintro e w' ⟨rfl, q3, rfl⟩; have HR3 := Lib.hid (HR.out.drewN q3); clear HR LK2 hm1; generalize wr.drewN q3 = w3 at HR3 ⊢))
          go_ret
          exact ⟨⟨_, rfl⟩, HR3.out.stop HF.out HG.out⟩
        | true =>
          have HF : Hid (First n k (2 * k + 1) dk) := Lib.hid (first_left h2 fun h => absurd h h3)
          have LK2 : Hid (∀ W : World, DownRel w g n d k dk W → Calls Try.prog 61 #[.slice (some ⟨g, 0, none⟩) m cap, .int .i64 (2 * (k : Int) + 1), .int .i64 (k : Nat)] W fun e w' => e = .returned (.bool true) ∧ ∃ q, w' = W.drewN q) := Lib.hid fun W hr => by have := LK.out (2 * k + 1) W (by omega) hr; rw [hG, e1] at this; exact this
          have SW2 : Hid (∀ W : World, DownRel w g n d k dk W → Calls Try.prog 62 #[.slice (some ⟨g, 0, none⟩) m cap, .int .i64 (k : Nat), .int .i64 (2 * (k : Int) + 1)] W fun e w' => e = .returned (.tuple #[]) ∧ ∃ q, w' = putRowK encIt 2 (Sort.ahead W q) g 0 (swp dk k (2 * k + 1))) := Lib.hid fun W hr => by have := SW.out (2 * k + 1) W (by omega) hr; rw [e1] at this; exact this
          have HG := Lib.hid hG; clear hG e1 e2
          have hm1 := meth_less ⟨b, 0, none⟩ wr _ (HR.out.cell hb HC.out)
          go_wp2_with (first
            | (go_at_call 61; with_reducible refine (LK2.out _ HR.out).mono ?_; rintro e w' ⟨rfl, q3, rfl⟩; have HR3 := Lib.hid (HR.out.drewN q3); clear HR LK2; have hm3 := meth_swap ⟨b, 0, none⟩ (wr.drewN q3) _ (HR3.out.cell hb HC.out); clear hm1; generalize wr.drewN q3 = w3 at HR3 hm3 ⊢)
            | (go_at_call 62; with_reducible refine (SW2.out _ HR3.out).mono ?_; rintro e w' ⟨rfl, hw⟩; have HR4 := Lib.hid (HR3.out.step (by have := HN.out; omega) HF.out HG.out hw); clear HR3 hw hm3 SW2))
          go_roundw
          case rel => exact ⟨2 * k + 1, _, by go_num, by omega, HR4⟩
          case measure => simp [intOf]; omega
end Go.Proofs.Ytgoegkajfhhcjaa

/- The library's up over a pile's items. -/
import Derived.Test.YtgoegkajfhhcjaaPSwap
import Derived.Test.YtgoegkajfhhcjaaPMeth
import Derived.Deep.RegionWith
import Derived.Deep.LoopGhost
import Derived.LoopTactic
namespace Go.Proofs.Ytgoegkajfhhcjaa
open Go.RowKit
open Go.Sort (swp size_swp HoldsK putRowK)

/-- Where the loop of up stands. -/
def UpRel (w : World) (g n : Nat) (d : Array It) (k : Nat) (dk : Array It) (wr : World) : Prop :=
  dk.size = d.size ∧ (∃ q, wr = putRowK encIt 2 (Sort.ahead w q) g 0 dk) ∧ UpInv n k dk ∧ dk.toList.Perm d.toList

theorem putRowK_on (w : World) (g : Nat) (dk dl : Array It) (q q2 : Nat) (h : dl.size = dk.size) :
    putRowK encIt 2 (Sort.ahead (putRowK encIt 2 (Sort.ahead w q) g 0 dk) q2) g 0 dl = putRowK encIt 2 (Sort.ahead w (q + q2)) g 0 dl := by
  unfold putRowK
  have e : Sort.ahead (Sort.putRow id (Sort.ahead w q) g 0 (Sort.flatK encIt 2 dk)) q2 = Sort.putRow id (Sort.ahead w (q + q2)) g 0 (Sort.flatK encIt 2 dk) := Go.Proofs.putRow_drewN id w q q2 g 0 _
  rw [e, Sort.putRow_putRow id _ g 0 _ _ (by simp [h])]

theorem UpRel.holds {w : World} {g n : Nat} {d : Array It} {k : Nat} {dk : Array It} {wr : World} (h : UpRel w g n d k dk wr) (H : HoldsK encIt 2 w g 0 d) : HoldsK encIt 2 wr g 0 dk := by
  obtain ⟨hs, ⟨q, rfl⟩, _⟩ := h
  exact Sort.holdsK_putRowK encIt 2 _ g 0 d dk (Sort.holdsK_ahead encIt 2 w q g 0 d H) hs
theorem UpRel.cell {w : World} {g n : Nat} {d : Array It} {k : Nat} {dk : Array It} {wr : World} (h : UpRel w g n d k dk wr) {a : Addr} (ha : a.block ≠ g) {v : Value} (hc : w.cell? a = some v) : wr.cell? a = some v := by
  obtain ⟨hs, ⟨q, rfl⟩, _⟩ := h
  rw [Sort.cell?_putRowK_other encIt 2 _ g 0 dk a ha]
  exact hc
theorem UpRel.drewN {w : World} {g n : Nat} {d : Array It} {k : Nat} {dk : Array It} {wr : World} (h : UpRel w g n d k dk wr) (q : Nat) : UpRel w g n d k dk (wr.drewN q) := by
  obtain ⟨hs, ⟨q0, rfl⟩, r⟩ := h
  exact ⟨hs, ⟨q0 + q, Sort.putRowK_drewN encIt 2 w q0 q g 0 dk⟩, r⟩
theorem UpRel.step {w : World} {g n : Nat} {d : Array It} {k i : Nat} {dk : Array It} {wr w2 : World} (h : UpRel w g n d k dk wr) (hn : n = d.size) (hk : 0 < k) (hkn : k < n) (hi : i = (k - 1) / 2)
    (hl : lessB dk[k]! dk[i]! = true) (hw : ∃ q, w2 = putRowK encIt 2 (Sort.ahead wr q) g 0 (swp dk i k)) : UpRel w g n d i (swp dk i k) w2 := by
  obtain ⟨hs, ⟨q0, rfl⟩, hu, hp⟩ := h
  obtain ⟨q, rfl⟩ := hw
  refine ⟨by rw [size_swp]; exact hs, ⟨q0 + q, putRowK_on w g dk _ q0 q (size_swp _ _ _)⟩, ?_, ?_⟩
  · exact up_step (by omega) hu hk hkn hi (lessB_true.1 hl)
  · exact (swp_perm dk i k (by omega) (by omega)).trans hp
theorem UpRel.stop {w : World} {g n : Nat} {d : Array It} {k : Nat} {dk : Array It} {wr : World} (h : UpRel w g n d k dk wr) (hs : k = 0 ∨ lessB dk[k]! dk[(k - 1) / 2]! = false) :
    ∃ dk : Array It, HeapB n dk ∧ dk.size = d.size ∧ dk.toList.Perm d.toList ∧ ∃ q, wr = putRowK encIt 2 (Sort.ahead w q) g 0 dk := by
  obtain ⟨hz, hq, hu, hp⟩ := h
  exact ⟨dk, up_stop hu (hs.imp id lessB_false.1), hz, hp, hq⟩

set_option maxHeartbeats 2000000 in
set_option maxRecDepth 100000 in
theorem up_any (b g n cap j : Nat) (d : Array It) (w : World) (hn : n = d.size) (hbig : n ≤ 3000) (hj : j < n) (hb : b ≠ g) (hc : w.cell? ⟨b, 0, none⟩ = some (.slice (some ⟨g, 0, none⟩) n cap)) (H : HoldsK encIt 2 w g 0 d)
    (hu : UpInv n j d) :
    Calls Try.prog 41 #[.iface 80 (.pointer (some ⟨b, 0, none⟩)), .int .i64 j] w fun e w' => e = .returned (.tuple #[]) ∧ ∃ dk, HeapB n dk ∧ dk.size = d.size ∧ dk.toList.Perm d.toList ∧ ∃ q, w' = putRowK encIt 2 (Sort.ahead w q) g 0 dk := by
  have HH := Lib.hid H; clear H
  have HC := Lib.hid hc; clear hc
  have HN := Lib.hid hn; clear hn
  have HU : Hid (UpRel w g n d j d w) := Lib.hid ⟨rfl, ⟨0, (Sort.putRowK_self encIt 2 w g 0 d HH.out).symm⟩, hu, List.Perm.refl _⟩
  clear hu
  go_enter Try.func41, Try.ntmps41
  go_wp2_with fail
  go_loopw [1] (fun s wr => ∃ (k : Nat) (dk : Array It), s = .int .i64 k ∧ k < n ∧ Hid (UpRel w g n d k dk wr)) (fun s _ => (intOf s).toNat)
  case atStart => exact ⟨j, d, rfl, hj, HU⟩
  case round =>
    obtain ⟨k, dk, rfl, hk, HR⟩ := hrel
    clear HU
    by_cases h0 : k = 0
    · subst h0
      go_wp2_with fail
      go_end0
      exact ⟨rfl, HR.out.stop (Or.inl rfl)⟩
    · have he : ((k : Int) - 1) / 2 = (((k - 1) / 2 : Nat) : Int) := by omega
      have h1 : 1 ≤ k := by omega
      have hlt : (k - 1) / 2 < k := by omega
      obtain ⟨i, hi⟩ : ∃ i, i = (k - 1) / 2 := ⟨_, rfl⟩
      rw [← hi] at he hlt
      have HI := Lib.hid hi; clear hi
      have hne : ((i : Int) == (k : Int)) = false := by simp; omega
      have hne2 : ¬ i = k := by omega
      have hm := meth_less ⟨b, 0, none⟩ wr _ (HR.out.cell hb HC.out)
      have hless := less_any g n cap k i dk wr (by have := HN.out; have := HR.out.1; omega) (by omega) (by omega) (HR.out.holds HH.out)
      cases hL : lessB dk[k]! dk[i]! with
      | false =>
        rw [hL] at hless
        have HLF := Lib.hid hL; clear hL
        have HLS := Lib.hid hless; clear hless
        go_wp2_with (go_at_call 61; refine HLS.out.mono ?_; rintro e w' ⟨rfl, q, rfl⟩)
        go_end0
        exact ⟨rfl, (HR.out.drewN q).stop (Or.inr (by rw [← HI.out]; exact HLF.out))⟩
      | true =>
        rw [hL] at hless
        have HLF := Lib.hid hL; clear hL
        have HLS := Lib.hid hless; clear hless
        go_wp2_with (first
          | (go_at_call 61; refine HLS.out.mono ?_; rintro e w' ⟨rfl, q, rfl⟩; have HR2 := Lib.hid (HR.out.drewN q); clear HR; have hm2 := meth_swap ⟨b, 0, none⟩ (wr.drewN q) _ (HR2.out.cell hb HC.out); clear hm; generalize wr.drewN q = w2 at HR2 hm2 ⊢)
          | (go_at_call 62; refine (swap_any g n cap i k dk _ (by have := HN.out; have := HR2.out.1; omega) (by omega) (by omega) (HR2.out.holds HH.out)).mono ?_; rintro e w' ⟨rfl, hw⟩; have HR3 := Lib.hid (HR2.out.step HN.out (by omega) (by omega) HI.out HLF.out hw); clear HR2 hw hm2))
        go_roundw
        case rel => exact ⟨i, _, by go_num, by omega, HR3⟩
        case measure => simp [intOf]; omega
end Go.Proofs.Ytgoegkajfhhcjaa

/- The walk of the law on sets and back. -/
import Derived.Test.YtiinibblfodaaaaDoorAll
import Derived.Test.YtiinibblfodaaaaDoorSetAwake
namespace Go.Proofs.YtiinibblfodaaaaDoor
open Go.RowKit

/-- True, and what was there is as it was. -/
def HoldsB (w : World) (e : Ending) (w' : World) : Prop := e = .returned (.bool true) ∧ Below w.heap.size w w'
theorem own_row {w wr : World} {l : List Nat} {v : Value} (h : OwnL w wr l v) : ∃ a cap, v = .slice a l.length cap ∧ Row wr a (l.map fun n : Nat => (n : Int)) := by
  have ho := h.own
  rcases ho.2 with ⟨hv, h0⟩ | ⟨g, cap, cur, rfl, _⟩
  · have : l = [] := List.eq_nil_of_length_eq_zero h0
    subst this
    exact ⟨none, 0, by simpa using hv, .inl (by simp)⟩
  · refine ⟨_, cap, rfl, .inr ⟨g, 0, rfl, fun j hj => ?_⟩⟩
    have hj2 : j < l.length := by simpa using hj
    rw [Nat.zero_add, ho.cellAt j (by omega)]
    simp [numsV, List.getD_eq_getElem?_getD, hj2]

set_option maxHeartbeats 1000000 in
theorem setBack_walk (s o : Nat) (hs : s < 18446744073709551616) (ho : o < 18446744073709551616) (w : World) (ht : TabD w) : Calls Tryd.prog 4 #[.int .u64 (s : Nat), .int .u64 (o : Nat)] w (HoldsB w) := by
  have HS := Lib.hid hs
  have HO := Lib.hid ho
  have HT := Lib.hid ht; clear ht
  have hof := Lib.hid (ofN_all s hs)
  have hback := Lib.hid (and_or_less s o hs ho)
  have hcnt := two_count s o
  have l1 := allN_len (s &&& o)
  have l2 := allN_len (s ||| o)
  have l3 := allN_len s
  have l4 := allN_len o
  have hsum : (((allN (s &&& o)).length : Int) + ((allN (s ||| o)).length : Int) == ((allN s).length : Int) + ((allN o).length : Int)) = true := by simp; omega
  clear hs ho hcnt
  go_enter Tryd.func4, Tryd.ntmps4
  go_wp2_with fail
  refine (awake _).mono ?_
  rintro e w1 ⟨rfl, hb1⟩
  have HB1 := Lib.hid hb1; clear hb1
  go_wp2_with fail
  refine (all_any s HS.out _ (tabD_below HT.out HB1.out)).mono ?_
  rintro e w2 ⟨v, rfl, O⟩
  obtain ⟨a, cap, rfl, R⟩ := own_row O
  have HR := Lib.hid R
  have HB2 := Lib.hid O.below
  clear R O
  go_wp2_with fail
  refine (of_any a _ cap _ _ (by simp) (by omega) HR.out).mono ?_
  rw [hof.out]
  rintro e w' ⟨rfl, rfl⟩
  go_wp2_with fail
  refine (and_any s o HS.out HO.out _).mono ?_
  rintro e w' ⟨rfl, rfl⟩
  go_wp2_with fail
  refine (less_any s o HS.out HO.out _).mono ?_
  rintro e w' ⟨rfl, rfl⟩
  go_wp2_with fail
  refine (or_any _ _ (and_lt HS.out o) (lessN_lt HS.out o) _).mono ?_
  rw [hback.out]
  rintro e w' ⟨rfl, rfl⟩
  go_wp2_with fail
  refine (and_any s o HS.out HO.out _).mono ?_
  rintro e w' ⟨rfl, rfl⟩
  go_wp2_with fail
  refine (len_any _ (and_lt HS.out o) _).mono ?_
  rintro e w' ⟨rfl, rfl⟩
  go_wp2_with fail
  refine (or_any s o HS.out HO.out _).mono ?_
  rintro e w' ⟨rfl, rfl⟩
  go_wp2_with fail
  refine (len_any _ (or_lt HS.out HO.out) _).mono ?_
  rintro e w' ⟨rfl, rfl⟩
  go_wp2_with fail
  refine (len_any s HS.out _).mono ?_
  rintro e w' ⟨rfl, rfl⟩
  go_wp2_with fail
  refine (len_any o HO.out _).mono ?_
  rintro e w' ⟨rfl, rfl⟩
  go_wp2_with fail
  go_ret
  exact ⟨rfl, HB1.out.trans (HB2.out.mono HB1.out.size)⟩
end Go.Proofs.YtiinibblfodaaaaDoor

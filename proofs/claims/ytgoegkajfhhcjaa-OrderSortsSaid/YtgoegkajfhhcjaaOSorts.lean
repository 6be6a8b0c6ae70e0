/- Package order: Sort. -/
import Derived.Test.YtgoegkajfhhcjaaOSort
namespace Go.Proofs.Ytgoegkajfhhcjaa
open Go.RowKit

variable {len N : Nat} {l : List Ar} {out : List Nat} {n : Int}
theorem osorted_whole (hc : checkV (N : Int) l = 0) (ho : Whole l N out) (a : Option Addr) (cap : Nat) (w : World) (hl : IsArcs w.heap.size w a len l) :
    Calls Try.prog 20 #[.agg #[.int .i64 (N : Int), .slice a len cap]] w fun e w' => Below w.heap.size w w' ∧
      ∃ va vc, e = .returned (.slice va N vc) ∧ w'.ownsRow w.heap.size 3 1 (.slice va N vc) (nodesV out).length (numsV (nodesV out)) :=
  (osorted_any N hc a cap w hl).mono fun e w' ⟨hb, v, o, he, h, hr⟩ => ⟨hb, by
    rcases h with h | h
    · have := h.unique ho
      subst this
      obtain ⟨va, vc, hv⟩ := owns_shape hr
      rw [nodesV_length, h.2] at hv
      subst hv
      exact ⟨va, vc, he, hr⟩
    · exact (h.not_whole ho).elim⟩
theorem osorted_stuck (hc : checkV (N : Int) l = 0) (ho : Stuck l N out) (a : Option Addr) (cap : Nat) (w : World) (hl : IsArcs w.heap.size w a len l) :
    Calls Try.prog 20 #[.agg #[.int .i64 (N : Int), .slice a len cap]] w fun e w' => Below w.heap.size w w' ∧
      ∃ va m vc o, e = .returned (.slice va m vc) ∧ m < N ∧ m = (nodesV o).length ∧ Stuck l N o ∧ w'.ownsRow w.heap.size 3 1 (.slice va m vc) (nodesV o).length (numsV (nodesV o)) :=
  (osorted_any N hc a cap w hl).mono fun e w' ⟨hb, v, o, he, h, hr⟩ => ⟨hb, by
    rcases h with h | h
    · exact (ho.not_whole h).elim
    · obtain ⟨va, vc, hv⟩ := owns_shape hr
      subst hv
      exact ⟨va, _, vc, o, he, by rw [nodesV_length]; exact h.2.1, rfl, h, hr⟩⟩

set_option maxHeartbeats 1000000 in
theorem osort_bad (n : Int) (len cap : Nat) (l : List Ar) (a : Option Addr) (w : World) (hc : checkV n l ≠ 0) (hl : IsArcs w.heap.size w a len l) :
    Calls Try.prog 10 #[.agg #[.int .i64 n, .slice a len cap]] w fun e w' => Below w.heap.size w w' ∧ ∃ a1 c1, e = .returned (.tuple #[.slice a1 0 c1, .bool false]) := by
  have HG := Lib.hid (Box.make (Below.refl _ w) n a len cap)
  have HL := Lib.hid hl; clear hl
  have hcb : (checkV n l != 0) = true := by simpa using hc
  have HCA := Lib.hid (fun (W : World) (h : IsArcs W.heap.size W a len l) => check_any n cap a W h)
  generalize checkV n l = v at *
  clear hc
  go_enter Try.func10, Try.ntmps10
  go_wp2_with (go_at_call 19; refine (HCA.out _ (HG.out.arcsHere HL.out)).mono ?_; rintro e w1 ⟨rfl, hb1⟩; have HG1 := Lib.hid (HG.out.later hb1); clear hb1)
  go_ret2
  exact ⟨HG1.out.below, _, _, rfl⟩
set_option maxHeartbeats 1000000 in
theorem osort_ok (N len cap : Nat) (l : List Ar) (a : Option Addr) (w : World) (hc : checkV (N : Int) l = 0) (hl : IsArcs w.heap.size w a len l) :
    Calls Try.prog 10 #[.agg #[.int .i64 (N : Int), .slice a len cap]] w fun e w' => Below w.heap.size w w' ∧
      ((∃ v out, e = .returned (.tuple #[v, .bool true]) ∧ Whole l N out ∧ w'.ownsRow w.heap.size 3 1 v (nodesV out).length (numsV (nodesV out))) ∨
       ∃ a1 c1 out, e = .returned (.tuple #[.slice a1 0 c1, .bool false]) ∧ Stuck l N out) := by
  have HG := Lib.hid (Box.make (Below.refl _ w) (N : Int) a len cap)
  have HL := Lib.hid hl; clear hl
  have HC := Lib.hid hc
  have HCK := Lib.hid (check_any (N : Int) cap a _ (HG.out.arcsHere HL.out))
  rw [hc] at HCK
  have hN := (checkV_zero.1 hc).1
  clear hc
  obtain ⟨o, ho⟩ := whole_or_stuck l N
  rcases ho with ho | ho
  · have HO := Lib.hid ho; clear ho
    go_enter Try.func10, Try.ntmps10
    go_wp2_with (first
      | (go_at_call 19; refine HCK.out.mono ?_; rintro e w1 ⟨rfl, hb1⟩; have HG1 := Lib.hid (HG.out.later hb1); have x0 := HG1.out.c0; have x1 := HG1.out.c1; clear hb1)
      | (go_at_call 20; refine (osorted_whole HC.out HO.out a cap _ (HG1.out.arcsHere HL.out)).mono ?_; rintro e w2 ⟨hb2, va, vc, rfl, hr⟩; have HG2 := Lib.hid (HG1.out.later hb2); have HR := Lib.hid (owns_rebase hr HG1.out.below.size); have y0 := HG2.out.c0; clear hb2 hr))
    go_ret2
    exact ⟨HG2.out.below, .inl ⟨_, o, rfl, HO.out, HR.out⟩⟩
  · have HO := Lib.hid ho; clear ho
    go_enter Try.func10, Try.ntmps10
    go_wp2_with (first
      | (go_at_call 19; refine HCK.out.mono ?_; rintro e w1 ⟨rfl, hb1⟩; have HG1 := Lib.hid (HG.out.later hb1); have x0 := HG1.out.c0; have x1 := HG1.out.c1; clear hb1)
      | (go_at_call 20; refine (osorted_stuck HC.out HO.out a cap _ (HG1.out.arcsHere HL.out)).mono ?_; rintro e w2 ⟨hb2, va, m, vc, o2, rfl, hm, _, hs2, hr⟩; have HG2 := Lib.hid (HG1.out.later hb2); have y0 := HG2.out.c0; have HS2 := Lib.hid hs2; clear hb2 hr hs2))
    go_ret2
    exact ⟨HG2.out.below, .inr ⟨_, _, o, rfl, HO.out⟩⟩
end Go.Proofs.Ytgoegkajfhhcjaa

/- What the laws on piles are told of their argument; the law's ahead. -/
import Derived.Test.YtcgjebkinfokiaaPileAwake
import Derived.Test.YtcgjebkinfokiaaPDelete
import Derived.Deep.Slices
import Derived.Deep.Fields
import Derived.ChangeSame
namespace Go.Proofs.Ytcgjebkinfokiaa
open Go.RowKit

/-- The acts lie one behind another, three cells each. -/
def ActRow (w : World) (x : Addr) (l : List (Bool × It)) : Prop :=
  ∀ (i : Nat) (c : Bool × It), l[i]? = some c → w.cell? (x.add (i * 3)) = some (.bool c.1) ∧ w.cell? (x.add (i * 3 + 1)) = some (.int .i64 c.2.1) ∧ w.cell? (x.add (i * 3 + 2)) = some (.int .i64 c.2.2)
/-- The slice has none; or it leads to a row of acts that lay there when the call began. -/
def IsActs (w : World) (a : Option Addr) (len : Nat) (l : List (Bool × It)) : Prop :=
  l.length = len ∧ (len = 0 ∨ ∃ b off, a = some ⟨b, off, none⟩ ∧ b < w.heap.size ∧ ActRow w ⟨b, off, none⟩ l)

set_option maxRecDepth 100000 in
theorem ahead_any (x y : It) (w : World) : Calls Try.prog 10 #[.agg #[.int .i64 x.1, .int .i64 x.2], .agg #[.int .i64 y.1, .int .i64 y.2]] w fun e w' => e = .returned (.bool (lessB x y)) ∧ Below w.heap.size w w' := by
  have hd : Hid (lessB x y = decide (x.1 < y.1 ∨ x.1 = y.1 ∧ x.2 < y.2)) := rfl
  generalize lessB x y = r at hd ⊢
  obtain ⟨k, i⟩ := x
  obtain ⟨k2, i2⟩ := y
  by_cases h1 : k < k2
  · have h2 : decide (k < k2) = true := decide_eq_true h1
    go_enter Try.func10, Try.ntmps10
    go_wp2_with fail
    go_ret
    exact ⟨ret_less (by rw [hd.out]; simp [h1]), ((Below.refl _ _).alloc (Nat.le_refl _) _).alloc (by simp) _⟩
  · have h2 : decide (k < k2) = false := decide_eq_false h1
    by_cases h3 : k = k2
    · subst h3
      go_enter Try.func10, Try.ntmps10
      go_wp2_with fail
      go_ret
      exact ⟨ret_less (by rw [hd.out]; simp), ((Below.refl _ _).alloc (Nat.le_refl _) _).alloc (by simp) _⟩
    · have h4 : (k == k2) = false := by simpa using h3
      go_enter Try.func10, Try.ntmps10
      go_wp2_with fail
      go_ret
      exact ⟨ret_less (by rw [hd.out]; simp [h1, h3]), ((Below.refl _ _).alloc (Nat.le_refl _) _).alloc (by simp) _⟩
end Go.Proofs.Ytcgjebkinfokiaa

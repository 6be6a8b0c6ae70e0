/- Words laid side by side with what parts them. No Go in sight. -/
import Derived.Test.YtnnddmojcaicbaaDoorRdA
namespace Go.Proofs.YtnnddmojcaicbaaDoor

abbrev WJ := List UInt8 × Nat
/-- The words, each with what comes behind it. -/
def joinL : List WJ → (Nat → List UInt8) → List UInt8
  | [], _ => []
  | x :: r, g => x.1 ++ (g 0 ++ joinL r (fun i => g (i + 1)))
theorem joinL_snoc : ∀ (l : List WJ) (g : Nat → List UInt8) (x : WJ), joinL (l ++ [x]) g = joinL l g ++ (x.1 ++ g l.length)
  | [], g, x => by simp [joinL]
  | y :: l, g, x => by
    rw [List.cons_append, joinL, joinL, joinL_snoc l]
    simp
/-- What parts words. -/
structure Gap (g : List UInt8) : Prop where
  sep : ∃ c r, g = c :: r ∧ sepB c = true
  over : ∀ rest i, cutL (g ++ rest) i = cutL rest (i + g.length)
  short : g.length ≤ 16
  stands : ∀ b ∈ g, badB b = false
theorem cut_joinL : ∀ (l : List WJ) (g : Nat → List UInt8) (i : Nat), (∀ x ∈ l, x.1 ≠ [] ∧ ∀ b ∈ x.1, sepB b = false) → (∀ j, Gap (g j)) → (cutL (joinL l g) i).map Prod.fst = l.map Prod.fst
  | [], g, i, _, _ => by simp [joinL, cutL_nil]
  | x :: l, g, i, hx, hg => by
    have h := hx x (by simp)
    rw [joinL, cut_piece x.1 (g 0) _ i h.1 h.2 (hg 0).sep, (hg 0).over]
    simp only [List.map_cons]
    rw [cut_joinL l (fun j => g (j + 1)) _ (fun y hy => hx y (by simp [hy])) (fun j => hg (j + 1))]
theorem joinL_len : ∀ (l : List WJ) (g : Nat → List UInt8), (∀ j, Gap (g j)) → (joinL l g).length ≤ (l.map fun x => x.1.length).sum + 16 * l.length
  | [], g, _ => by simp [joinL]
  | x :: l, g, hg => by
    have ih := joinL_len l (fun j => g (j + 1)) (fun j => hg (j + 1))
    have h := (hg 0).short
    simp only [joinL, List.length_append, List.map_cons, List.sum_cons, List.length_cons]
    omega
theorem joinL_stands : ∀ (l : List WJ) (g : Nat → List UInt8), (∀ x ∈ l, ∀ b ∈ x.1, badB b = false) → (∀ j, Gap (g j)) → ∀ b ∈ joinL l g, badB b = false
  | [], g, _, _, b, hb => by simp [joinL] at hb
  | x :: l, g, hx, hg, b, hb => by
    simp only [joinL, List.mem_append] at hb
    rcases hb with hb | hb | hb
    · exact hx x (by simp) b hb
    · exact (hg 0).stands b hb
    · exact joinL_stands l _ (fun y hy => hx y (by simp [hy])) (fun j => hg (j + 1)) b hb
theorem sum_take (l : List WJ) (k : Nat) : ((l.take k).map fun x => x.1.length).sum ≤ (l.map fun x => x.1.length).sum := by
  conv => rhs; rw [← List.take_append_drop k l]
  rw [List.map_append, List.sum_append]
  omega

/-- The law's gaps. -/
def gapOf (z : Nat) : List UInt8 :=
  match z % 5 with
  | 0 => [10]
  | 1 => [32, 32]
  | 2 => [32, 35, 32, 110, 111, 32, 119, 111, 114, 100, 115, 44, 32, 55, 10]
  | 3 => [10, 10, 32]
  | _ => [35, 10]
theorem gap_blank : Gap [32] := ⟨⟨_, _, rfl, rfl⟩, fun rest i => by simp [cutL_cons, blankB], by decide, by decide⟩
theorem gap0 : Gap [10] := ⟨⟨_, _, rfl, rfl⟩, fun rest i => by simp [cutL_cons, blankB], by decide, by decide⟩
theorem gap1 : Gap [32, 32] := ⟨⟨_, _, rfl, rfl⟩, fun rest i => by simp [cutL_cons, blankB], by decide, by decide⟩
theorem gap2 : Gap [32, 35, 32, 110, 111, 32, 119, 111, 114, 100, 115, 44, 32, 55, 10] := ⟨⟨_, _, rfl, rfl⟩, fun rest i => by simp [cutL_cons, blankB, toN, lineB], by decide, by decide⟩
theorem gap3 : Gap [10, 10, 32] := ⟨⟨_, _, rfl, rfl⟩, fun rest i => by simp [cutL_cons, blankB], by decide, by decide⟩
theorem gap4 : Gap [35, 10] := ⟨⟨_, _, rfl, rfl⟩, fun rest i => by simp [cutL_cons, blankB, toN, lineB], by decide, by decide⟩
theorem gap_of (z : Nat) : Gap (gapOf z) := by
  unfold gapOf
  split
  · exact gap0
  · exact gap1
  · exact gap2
  · exact gap3
  · exact gap4
/-- What stands behind word i. -/
def gapAt (zs : List Nat) (len i : Nat) : List UInt8 := if i < len then gapOf (zs.getD i 0) else [32]
theorem gap_at (zs : List Nat) (len i : Nat) : Gap (gapAt zs len i) := by
  unfold gapAt
  split
  · exact gap_of _
  · exact gap_blank
end Go.Proofs.YtnnddmojcaicbaaDoor

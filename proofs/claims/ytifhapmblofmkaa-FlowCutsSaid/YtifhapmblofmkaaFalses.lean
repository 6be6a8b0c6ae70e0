/- Marks of nodes: how many are not marked. (Plain mathematics.) -/
namespace Go.Proofs.Ytifhapmblofmkaa

/-- How many of the first N are not marked. -/
def falses : Nat → (Nat → Bool) → Nat
  | 0, _ => 0
  | n + 1, c => falses n c + if c n then 0 else 1
def setC (c : Nat → Bool) (t : Nat) : Nat → Bool := fun j => if j = t then true else c j
theorem setC_same (c : Nat → Bool) (t : Nat) : setC c t t = true := by simp [setC]
theorem setC_mono {c : Nat → Bool} {t j : Nat} (h : c j = true) : setC c t j = true := by simp [setC, h]
theorem falses_past (c : Nat → Bool) (t : Nat) : ∀ n, n ≤ t → falses n (setC c t) = falses n c
  | 0, _ => rfl
  | n + 1, h => by
    rw [falses, falses, falses_past c t n (by omega)]
    simp [setC, show n ≠ t by omega]
theorem falses_set {c : Nat → Bool} {t : Nat} (hc : c t = false) : ∀ n, t < n → falses n (setC c t) + 1 = falses n c
  | 0, h => by omega
  | n + 1, h => by
    rw [falses, falses]
    by_cases e : n = t
    · subst e
      rw [falses_past c n n (Nat.le_refl _)]
      simp [setC, hc]
    · have := falses_set hc n (by omega)
      simp only [setC, e, if_false] at this ⊢
      omega
theorem falses_none : ∀ n, falses n (fun _ => false) = n
  | 0 => rfl
  | n + 1 => by rw [falses, falses_none n]; simp
end Go.Proofs.Ytifhapmblofmkaa

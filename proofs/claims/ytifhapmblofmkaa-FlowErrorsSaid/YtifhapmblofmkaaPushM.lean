/- Sending downwards comes to an end: a number that each step lessens. (Plain mathematics.) -/
import Derived.Test.YtifhapmblofmkaaPushT
namespace Go.Proofs.Ytifhapmblofmkaa

variable {l : List Pi} {N s t k u v : Nat} {fl fl2 : Nat → Int} {x : Pi} {L : Nat → List La} {hi nx hi2 nx2 : Nat → Nat} {a : La} {m : Int}
def sA (N : Nat) (hi : Nat → Nat) : Int := sumN N (fun i => 2 * (N : Int) - (hi i : Int))
def sB (l : List Pi) (hi : Nat → Nat) (fl : Nat → Int) : Int := sumP l (fun k x => fl k * ((hi x.2.1.toNat : Int) - (hi x.1.toNat : Int))) l.length
def sC (N : Nat) (L : Nat → List La) (nx : Nat → Nat) : Int := sumN N (fun i => ((L i).length : Int) - (nx i : Int))
def cB (l : List Pi) (N : Nat) : Int := (l.length : Int) * (1099511627776 * (2 * (N : Int)))
def cC (N : Nat) (L : Nat → List La) : Int := sumN N (fun i => ((L i).length : Int)) + 1
def meas (l : List Pi) (N : Nat) (L : Nat → List La) (fl : Nat → Int) (hi nx : Nat → Nat) : Nat := ((sA N hi * (2 * cB l N + 1) + (sB l hi fl + cB l N)) * cC N L + sC N L nx).toNat
theorem lex_lt {a a2 b b2 c c2 K1 K2 : Int} (ha : 0 ≤ a2) (hb : 0 ≤ b) (hb2 : 0 ≤ b2) (hB : b2 < K1) (hc : 0 ≤ c) (hc2 : 0 ≤ c2) (hC : c2 < K2) (h : a2 < a ∨ (a2 = a ∧ (b2 < b ∨ (b2 = b ∧ c2 < c)))) :
    ((a2 * K1 + b2) * K2 + c2).toNat < ((a * K1 + b) * K2 + c).toNat := by
  have hK1 : 0 < K1 := by omega
  have hK2 : 0 < K2 := by omega
  have h0 : 0 ≤ a2 * K1 := Int.mul_nonneg ha (by omega)
  obtain ⟨X2, hX2⟩ : ∃ X2, X2 = a2 * K1 + b2 := ⟨_, rfl⟩
  obtain ⟨X, hX⟩ : ∃ X, X = a * K1 + b := ⟨_, rfl⟩
  rw [← hX2, ← hX]
  have h1 : 0 ≤ X2 * K2 := Int.mul_nonneg (by omega) (by omega)
  have h2 : X2 < X ∨ (X2 = X ∧ c2 < c) := by
    rcases h with h | ⟨rfl, h | ⟨rfl, h⟩⟩
    · have h3 : (a2 + 1) * K1 ≤ a * K1 := Int.mul_le_mul_of_nonneg_right (by omega) (by omega)
      rw [Int.add_mul, Int.one_mul] at h3
      omega
    · omega
    · exact .inr ⟨by omega, h⟩
  rcases h2 with h2 | ⟨rfl, h2⟩
  · have h3 : (X2 + 1) * K2 ≤ X * K2 := Int.mul_le_mul_of_nonneg_right (by omega) (by omega)
    rw [Int.add_mul, Int.one_mul] at h3
    omega
  · omega
theorem mul_between {f d R D : Int} (h0 : 0 ≤ f) (h1 : f ≤ R) (h2 : -D ≤ d) (h3 : d ≤ D) : -(R * D) ≤ f * d ∧ f * d ≤ R * D := by
  have hD : 0 ≤ D := by omega
  have e1 : f * d ≤ f * D := Int.mul_le_mul_of_nonneg_left h3 h0
  have e2 : f * D ≤ R * D := Int.mul_le_mul_of_nonneg_right h1 hD
  have e3 : f * (-D) ≤ f * d := Int.mul_le_mul_of_nonneg_left h2 h0
  rw [Int.mul_neg] at e3
  omega
theorem sumN_le {f g : Nat → Int} : ∀ {n : Nat}, (∀ i, i < n → f i ≤ g i) → sumN n f ≤ sumN n g
  | 0, _ => Int.le_refl _
  | n + 1, h => by have := sumN_le (n := n) (fun i hi => h i (by omega)); have := h n (by omega); rw [sumN, sumN]; omega
theorem sumN_lt {u : Nat} {f g : Nat → Int} : ∀ {n : Nat}, (∀ i, i < n → f i ≤ g i) → u < n → f u < g u → sumN n f < sumN n g
  | n + 1, h, hu, hlt => by
    rw [sumN, sumN]
    have h1 := sumN_le (n := n) (fun i hi => h i (by omega))
    have h2 := h n (by omega)
    by_cases e : u = n
    · subst e; omega
    · have := sumN_lt (u := u) (n := n) (fun i hi => h i (by omega)) (by omega) hlt; omega
theorem PR.sA_ (h : PR l N L s t fl hi nx) : 0 ≤ sA N hi := sumN_nonneg (fun i hi2 => by have := h.bound i hi2; omega)
theorem PR.sB_ (h : PR l N L s t fl hi nx) (hok : ∀ x ∈ l, okP (N : Int) x = true) : -(cB l N) ≤ sB l hi fl ∧ sB l hi fl ≤ cB l N := by
  have h0 : (0 : Int) ≤ 1099511627776 * (2 * (N : Int)) := Int.mul_nonneg (by omega) (by omega)
  refine sumP_bound h0 (fun k x hx => ?_) l.length
  have hxo := okP_true.1 (hok x (List.mem_of_getElem? hx))
  have hc := h.cap k x hx
  have h1 := h.bound x.1.toNat (by omega)
  have h2 := h.bound x.2.1.toNat (by omega)
  exact mul_between hc.1 (by omega) (by omega) (by omega)
theorem PR.sC_ (h : PR l N L s t fl hi nx) : 0 ≤ sC N L nx ∧ sC N L nx < cC N L := by
  refine ⟨sumN_nonneg (fun i hi2 => by have := h.nxb i hi2; omega), ?_⟩
  have : sC N L nx ≤ sumN N (fun i => ((L i).length : Int)) := sumN_le (fun i _ => by omega)
  unfold cC
  omega
theorem PR.meas_lt (h : PR l N L s t fl hi nx) (h2 : PR l N L s t fl2 hi2 nx2) (hok : ∀ x ∈ l, okP (N : Int) x = true)
    (hd : sA N hi2 < sA N hi ∨ (sA N hi2 = sA N hi ∧ (sB l hi2 fl2 < sB l hi fl ∨ (sB l hi2 fl2 = sB l hi fl ∧ sC N L nx2 < sC N L nx)))) : meas l N L fl2 hi2 nx2 < meas l N L fl hi nx := by
  have b1 := h.sB_ hok
  have b2 := h2.sB_ hok
  have c1 := h.sC_
  have c2 := h2.sC_
  refine lex_lt h2.sA_ (by omega) (by omega) (by omega) c1.1 c2.1 c2.2 ?_
  rcases hd with hd | ⟨e, hd | ⟨e2, hd⟩⟩
  · exact .inl hd
  · exact .inr ⟨e, .inl (by omega)⟩
  · exact .inr ⟨e, .inr ⟨by omega, hd⟩⟩
theorem meas_push (h : PR l N L s t fl hi nx) (h2 : PR l N L s t (push fl a m) hi nx) (hok : ∀ x ∈ l, okP (N : Int) x = true) (hl : LanesOk l N L) (hu : u < N) (ha : a ∈ L u) (hd : hi u = hi a.2.1 + 1) (h0 : 0 < m) :
    meas l N L (push fl a m) hi nx < meas l N L fl hi nx := by
  refine h.meas_lt h2 hok (.inr ⟨rfl, .inl ?_⟩)
  obtain ⟨x, hx, hne, _, hk, hxd⟩ := lane_of hl hu ha
  unfold sB
  rw [sumP_one (g := fun k x => fl k * ((hi x.2.1.toNat : Int) - (hi x.1.toNat : Int))) hx (fun j y hj => by simp [push, hj]) l.length, if_pos hk]
  obtain ⟨k, v, b⟩ := a
  simp only at hx hne hk hxd hd ⊢
  cases b with
  | true =>
    simp only [if_true] at hxd
    have e1 : x.2.1.toNat = u := by omega
    have e2 : x.1.toNat = v := by omega
    have e3 : ((hi u : Nat) : Int) - (hi v : Int) = 1 := by omega
    simp only [push, e1, e2, e3, if_true]
    omega
  | false =>
    simp only [Bool.false_eq_true, if_false] at hxd
    have e1 : x.2.1.toNat = v := by omega
    have e2 : x.1.toNat = u := by omega
    have e3 : ((hi v : Nat) : Int) - (hi u : Int) = -1 := by omega
    simp only [push, e1, e2, e3, if_true, Bool.false_eq_true, if_false]
    omega
theorem meas_skip (h : PR l N L s t fl hi nx) (h2 : PR l N L s t fl hi (lifted nx u (nx u + 1))) (hok : ∀ x ∈ l, okP (N : Int) x = true) (hu : u < N) :
    meas l N L fl hi (lifted nx u (nx u + 1)) < meas l N L fl hi nx := by
  refine h.meas_lt h2 hok (.inr ⟨rfl, .inr ⟨rfl, ?_⟩⟩)
  refine sumN_lt (u := u) (fun i _ => ?_) hu ?_
  · unfold lifted
    by_cases e : i = u
    · subst e; rw [if_pos rfl]; omega
    · rw [if_neg e]; exact Int.le_refl _
  · unfold lifted
    rw [if_pos rfl]; omega
theorem meas_lift (h : PR l N L s t fl hi nx) (h2 : PR l N L s t fl hi2 nx2) (hok : ∀ x ∈ l, okP (N : Int) x = true) (hu : u < N) (hlt : hi u < hi2 u) (hle : ∀ i, i < N → hi i ≤ hi2 i) :
    meas l N L fl hi2 nx2 < meas l N L fl hi nx :=
  h.meas_lt h2 hok (.inl (sumN_lt (u := u) (fun i hi3 => by have := hle i hi3; omega) hu (by omega)))

/-! ### How many nodes lie at a height -/
def cnt (N : Nat) (hi : Nat → Nat) (g : Nat) : Int := sumN N (fun i => if hi i = g then 1 else 0)
theorem cnt_bound (N : Nat) (hi : Nat → Nat) (g : Nat) : 0 ≤ cnt N hi g ∧ cnt N hi g ≤ (N : Int) := by
  refine ⟨sumN_nonneg (fun i _ => by split <;> omega), ?_⟩
  have h1 : cnt N hi g ≤ sumN N (fun _ => 1) := sumN_le (fun i _ => by split <;> omega)
  have h2 : ∀ n : Nat, sumN n (fun _ => 1) = (n : Int) := fun n => by
    induction n with
    | zero => rfl
    | succ n ih => rw [sumN, ih]; omega
  rw [h2] at h1
  exact h1
theorem cnt_none {g : Nat} (h : cnt N hi g = 0) : ∀ i, i < N → hi i ≠ g := fun i hi2 e => by
  have := sumN_ge (u := i) (n := N) (f := fun i => if hi i = g then (1 : Int) else 0) (fun i _ => by split <;> omega) hi2
  rw [if_pos e] at this
  unfold cnt at h
  omega
theorem sumN_set {f g : Nat → Int} (he : ∀ i, i ≠ u → g i = f i) : ∀ n, sumN n g = sumN n f + (if u < n then g u - f u else 0)
  | 0 => by simp [sumN]
  | n + 1 => by
    rw [sumN, sumN, sumN_set he n]
    by_cases e : n = u
    · subst e
      rw [if_neg (by omega), if_pos (by omega)]
      omega
    · have e2 : (u < n + 1) = (u < n) := by rw [eq_iff_iff]; omega
      simp only [e2, he n e]
      omega
/-- A node moves. -/
theorem cnt_lifted (hu : u < N) (h : Nat) (g : Nat) : cnt N (lifted hi u h) g = cnt N hi g - (if hi u = g then 1 else 0) + (if h = g then 1 else 0) := by
  unfold cnt
  rw [sumN_set (u := u) (f := fun i => if hi i = g then 1 else 0) (fun i e => by simp [lifted, e]) N, if_pos hu]
  simp only [lifted, if_true]
  omega
end Go.Proofs.Ytifhapmblofmkaa

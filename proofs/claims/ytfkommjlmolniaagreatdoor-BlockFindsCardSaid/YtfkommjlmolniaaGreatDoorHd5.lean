/- Joined: FlowT, FlowBase, PushT, PushM. -/
import Derived.Test.YtfkommjlmolniaaGreatDoorHd4
set_option linter.unusedVariables false
section

namespace Go.Proofs.YtfkommjlmolniaaGreatDoor
/-! ### Sums over nodes -/
def sumN : Nat → (Nat → Int) → Int
 | 0,_ => 0
 | n + 1,f => sumN n f + f n
theorem Z3p {f g : Nat → Int} : ∀ {n : Nat},(∀ i,i < n → f i = g i) → sumN n f = sumN n g
 | 0,_ => rfl
 | n + 1,h => by rw [sumN,sumN,Z3p (fun i hi => h i (by omega)),h n (by omega)]
theorem Z8e (f g : Nat → Int) : ∀ n,sumN n (fun i => f i + g i) = sumN n f + sumN n g
 | 0 => rfl
 | n + 1 => by rw [sumN,sumN,sumN,Z8e f g n]; omega
theorem Z5y : ∀ {n : Nat} {f : Nat → Int},(∀ i,i < n → f i = 0) → sumN n f = 0
 | 0,_,_ => rfl
 | n + 1,f,h => by rw [sumN,Z5y (fun i hi => h i (by omega)),h n (by omega)]; rfl
theorem Z3q {s : Nat} {f : Nat → Int} : ∀ {n : Nat},s < n → (∀ i,i < n → i ≠ s → f i = 0) → sumN n f = f s
 | n + 1,hs,h => by
  rw [sumN]; by_cases e : s = n
  ·subst e
   rw [Z5y (fun i hi => h i (by omega) (by omega))]
   omega
  ·rw [Z3q (n := n) (by omega) (fun i hi => h i (by omega)),h n (by omega) (fun e2 => e e2.symm)]
   omega
theorem Z8f {s t : Nat} {f : Nat → Int} (hst : s ≠ t) : ∀ {n : Nat},s < n → t < n → (∀ i,i < n → i ≠ s → i ≠ t → f i = 0) → sumN n f = f s + f t
 | n + 1,hs,ht,h => by
  rw [sumN]; by_cases e : s = n
  ·subst e
   rw [Z3q (s := t) (by omega) (fun i hi hit => h i (by omega) (by omega) hit)]
   omega
  ·by_cases e2 : t = n
   ·subst e2
    rw [Z3q (s := s) (by omega) (fun i hi his => h i (by omega) his (by omega))]
   ·rw [Z8f hst (n := n) (by omega) (by omega) (fun i hi => h i (by omega)),h n (by omega) (fun e3 => e e3.symm) (fun e3 => e2 e3.symm)]
    omega
/-! ### Sums over pipes -/
def sumP (l : List Pi) (g : Nat → Pi → Int) : Nat → Int
 | 0 => 0
 | k + 1 => sumP l g k + (match l[k]? with | some x => g k x | none => 0)
variable {l : List Pi} {N s t k : Nat} {fl : Nat → Int} {S : Nat → Bool} {x : Pi}
theorem Za7 {g : Nat → Pi → Int} (hx : l[k]? = some x) : sumP l g (k + 1) = sumP l g k + g k x := by rw [sumP,hx]
theorem Z8g {g h : Nat → Pi → Int} (hgh : ∀ (k : Nat) (x : Pi),l[k]? = some x → g k x ≤ h k x) : ∀ k,sumP l g k ≤ sumP l h k
 | 0 => Int.le_refl _
 | k + 1 => by
  have ih := Z8g hgh k; rw [sumP,sumP]; cases hx : l[k]? with
  | none => simp only; omega
  | some x => have := hgh k x hx; simp only; omega
theorem Z1m {g h : Nat → Pi → Int} (hgh : ∀ (k : Nat) (x : Pi),l[k]? = some x → g k x = h k x) (k : Nat) : sumP l g k = sumP l h k :=
 Int.le_antisymm (Z8g (fun k x hx => by rw [hgh k x hx]; exact Int.le_refl _) k) (Z8g (fun k x hx => by rw [hgh k x hx]; exact Int.le_refl _) k)
theorem Z2h (l : List Pi) : ∀ k,sumP l (fun _ _ => 0) k = 0
 | 0 => rfl
 | k + 1 => by
  rw [sumP,Z2h l k]; cases l[k]? <;> rfl
theorem Zd6 (l : List Pi) (g h : Nat → Pi → Int) : ∀ k,sumP l (fun k x => g k x + h k x) k = sumP l g k + sumP l h k
 | 0 => rfl
 | k + 1 => by
  rw [sumP,sumP,sumP,Zd6 l g h k]; cases l[k]? with
  | none => simp only; omega
  | some x => simp only; omega
theorem Z41 {g : Nat → Pi → Int} (hg : ∀ (k : Nat) (x : Pi),l[k]? = some x → 0 ≤ g k x) (k : Nat) : 0 ≤ sumP l g k := by
 have := Z8g (l := l) (g := fun _ _ => 0) hg k; rw [Z2h] at this; exact this
theorem Za8 {g : Nat → Pi → Int} (hg : ∀ (k : Nat) (x : Pi),l[k]? = some x → 0 ≤ g k x) : ∀ (n : Nat),sumP l g n = 0 → ∀ (k : Nat) (x : Pi),k < n → l[k]? = some x → g k x = 0
 | 0,_,_,_,h,_ => by omega
 | n + 1,h,k,x,hk,hx => by
  have h1 := Z41 hg n; rw [sumP] at h; by_cases e : k = n
  ·subst e
   rw [hx] at h; have := hg k x hx; simp only at h
   omega
  ·refine Za8 hg n ?_ k x (by omega) hx
   cases hy : l[n]? with
   | none => rw [hy] at h; simp only at h; omega
   | some y => rw [hy] at h; have := hg n y hy; simp only at h; omega
theorem Z4t {g : Nat → Pi → Int} {B : Int} (hB : 0 ≤ B) (hg : ∀ (k : Nat) (x : Pi),l[k]? = some x → -B ≤ g k x ∧ g k x ≤ B) : ∀ k : Nat,-((k : Int) * B) ≤ sumP l g k ∧ sumP l g k ≤ (k : Int) * B
 | 0 => by simp [sumP]
 | k + 1 => by
  obtain ⟨h1,h2⟩ := Z4t hB hg k; have e : ((k + 1 : Nat) : Int) * B = (k : Int) * B + B := by rw [Int.natCast_add,Int.add_mul]; simp
  rw [sumP,e]; cases hx : l[k]? with
  | none => simp only; omega
  | some x => have := hg k x hx; simp only; omega
/-! ### Flows -/
def brings (fl : Nat → Int) (i : Int) (k : Nat) (x : Pi) : Int := (if x.2.1 = i then fl k else 0) - (if x.1 = i then fl k else 0)
def netTo (l : List Pi) (fl : Nat → Int) (i : Int) (k : Nat) : Int := sumP l (brings fl i) k
structure IsFlow (l : List Pi) (N : Nat) (fl : Nat → Int) (s t : Nat) : Prop where
 cap : ∀ (k : Nat) (x : Pi),l[k]? = some x → 0 ≤ fl k ∧ fl k ≤ x.2.2.1
 cons : ∀ i : Nat,i < N → i ≠ s → i ≠ t → netTo l fl (i : Int) l.length = 0
 ge : 0 ≤ netTo l fl (t : Int) l.length
def outB (S : Nat → Bool) (x : Pi) : Bool := S x.1.toNat && !S x.2.1.toNat
def intoB (S : Nat → Bool) (x : Pi) : Bool := !S x.1.toNat && S x.2.1.toNat
def Z3b (l : List Pi) (S : Nat → Bool) (k : Nat) : Int := sumP l (fun _ x => if outB S x = true then x.2.2.1 else 0) k
def Z3c (fl : Nat → Int) (S : Nat → Bool) (k : Nat) (x : Pi) : Int := (if outB S x = true then fl k else 0) - (if intoB S x = true then fl k else 0)
theorem Z7a (hok : ∀ x ∈ l,okP (N : Int) x = true) (fl : Nat → Int) (S : Nat → Bool) : ∀ k,sumN N (fun i => if S i = true then netTo l fl (i : Int) k else 0) = - sumP l (Z3c fl S) k
 | 0 => by
  rw [Z5y (fun i _ => by by_cases h : S i = true <;> simp [h,netTo,sumP])]
  rfl
 | k + 1 => by
  cases hx : l[k]? with
  | none =>
   have e : ∀ g : Nat → Pi → Int,sumP l g (k + 1) = sumP l g k := fun g => by rw [sumP,hx]; simp
   rw [e,← Z7a hok fl S k]; apply Z3p
   intro i _; simp only [netTo,e]
  | some x =>
   have hxo := okP_true.1 (hok x (List.mem_of_getElem? hx)); obtain ⟨f,hf⟩ : ∃ f : Nat,x.1 = (f : Int) := ⟨x.1.toNat,by omega⟩
   obtain ⟨t,ht⟩ : ∃ t : Nat,x.2.1 = (t : Int) := ⟨x.2.1.toNat,by omega⟩
   have hfN : f < N := by omega
   have htN : t < N := by omega
   rw [Za7 hx]; have e1 : sumN N (fun i => if S i = true then netTo l fl (i : Int) (k + 1) else 0) = sumN N (fun i => (if S i = true then netTo l fl (i : Int) k else 0) + (if S i = true then brings fl (i : Int) k x else 0)) := by
    apply Z3p
    intro i _; by_cases h : S i = true
    ·simp only [h,if_true,netTo,Za7 hx]
    ·simp only [h]; rfl
   have e2 : sumN N (fun i => if S i = true then brings fl (i : Int) k x else 0) = - Z3c fl S k x := by
    have e3 : sumN N (fun i => if S i = true then brings fl (i : Int) k x else 0) = sumN N (fun i => (if i = t then (if S t = true then fl k else 0) else 0) + (if i = f then (if S f = true then - fl k else 0) else 0)) := by
     apply Z3p
     intro i _; have a1 : (x.2.1 = (i : Int)) ↔ i = t := by rw [ht]; omega
     have a2 : (x.1 = (i : Int)) ↔ i = f := by rw [hf]; omega
     unfold brings; simp only [a1,a2]
     by_cases h1 : i = t
     ·by_cases h2 : i = f
      ·subst h1; subst h2; by_cases h : S i = true <;> simp [h] <;> omega
      ·subst h1; by_cases h : S i = true <;> simp [h,h2]
     ·by_cases h2 : i = f
      ·subst h2; by_cases h : S i = true <;> simp [h,h1]
      ·by_cases h : S i = true <;> simp [h,h1,h2]
    rw [e3,Z8e,Z3q (s := t) htN (fun i _ h => by simp [h]),Z3q (s := f) hfN (fun i _ h => by simp [h])]
    have b1 : x.1.toNat = f := by omega
    have b2 : x.2.1.toNat = t := by omega
    unfold Z3c outB intoB; rw [b1,b2]; cases h1 : S t <;> cases h2 : S f <;> simp <;> omega
   rw [e1,Z8e,Z7a hok fl S k,e2]; omega
theorem IsFlow.through (h : IsFlow l N fl s t) (hok : ∀ x ∈ l,okP (N : Int) x = true) (hs : s < N) (ht : t < N) (hst : s ≠ t) (h1 : S s = true) (h2 : S t = false) : netTo l fl (t : Int) l.length = sumP l (Z3c fl S) l.length := by
 have e1 := Z7a hok fl S l.length; have e2 := Z7a hok fl (fun _ => true) l.length; rw [Z3q (s := s) hs (fun i hi his => by
  by_cases hit : i = t
  ·subst hit; simp [h2]
  ·rw [h.cons i hi his hit]; simp)] at e1
 rw [if_pos h1] at e1; have e3 : sumP l (Z3c fl (fun _ => true)) l.length = 0 := by
  rw [Z1m (h := fun _ _ => 0) (fun k x _ => by simp [Z3c,outB,intoB]) _,Z2h]
 rw [e3,Z8f hst hs ht (fun i hi his hit => by simp [h.cons i hi his hit])] at e2
 simp only [if_true] at e2
 omega
def slack (fl : Nat → Int) (S : Nat → Bool) (k : Nat) (x : Pi) : Int := (if outB S x = true then x.2.2.1 - fl k else 0) + (if intoB S x = true then fl k else 0)
theorem IsFlow.slack_nonneg (h : IsFlow l N fl s t) (S : Nat → Bool) (k : Nat) (x : Pi) (hx : l[k]? = some x) : 0 ≤ slack fl S k x := by
 have := h.cap k x hx; unfold slack; split <;> split <;> omega
theorem IsFlow.slack_sum (h : IsFlow l N fl s t) (hok : ∀ x ∈ l,okP (N : Int) x = true) (hs : s < N) (ht : t < N) (hst : s ≠ t) (h1 : S s = true) (h2 : S t = false) : Z3b l S l.length = netTo l fl (t : Int) l.length + sumP l (slack fl S) l.length := by
 rw [h.through hok hs ht hst h1 h2,← Zd6]; unfold Z3b; apply Z1m
 intro k x _; unfold Z3c slack; by_cases a : outB S x = true
 ·by_cases b : intoB S x = true
  ·simp [a,b] <;> omega
  ·simp [a,b] <;> omega
 ·by_cases b : intoB S x = true
  ·simp [a,b] <;> omega
  ·simp [a,b]
theorem IsFlow.weak (h : IsFlow l N fl s t) (hok : ∀ x ∈ l,okP (N : Int) x = true) (hs : s < N) (ht : t < N) (hst : s ≠ t) (h1 : S s = true) (h2 : S t = false) : netTo l fl (t : Int) l.length ≤ Z3b l S l.length := by
 have e := h.slack_sum hok hs ht hst h1 h2; have := Z41 (h.slack_nonneg S) l.length; omega
theorem IsFlow.full (h : IsFlow l N fl s t) (hok : ∀ x ∈ l,okP (N : Int) x = true) (hs : s < N) (ht : t < N) (hst : s ≠ t) (h1 : S s = true) (h2 : S t = false) (he : Z3b l S l.length = netTo l fl (t : Int) l.length) :
  ∀ (k : Nat) (x : Pi),l[k]? = some x → (outB S x = true → fl k = x.2.2.1) ∧ (intoB S x = true → fl k = 0) := fun k x hx => by
 have e := h.slack_sum hok hs ht hst h1 h2; have hz := Za8 (h.slack_nonneg S) l.length (by omega) k x (List.getElem?_eq_some_iff.1 hx).1 hx
 have hc := h.cap k x hx; unfold slack at hz; refine ⟨fun a => ?_,fun b => ?_⟩
 ·rw [if_pos a] at hz
  split at hz <;> omega
 ·rw [if_pos b] at hz
  split at hz <;> omega
theorem IsFlow.tight (h : IsFlow l N fl s t) (hok : ∀ x ∈ l,okP (N : Int) x = true) (hs : s < N) (ht : t < N) (hst : s ≠ t) (h1 : S s = true) (h2 : S t = false)
  (hf : ∀ (k : Nat) (x : Pi),l[k]? = some x → (outB S x = true → x.2.2.1 ≤ fl k) ∧ (intoB S x = true → fl k ≤ 0)) : Z3b l S l.length = netTo l fl (t : Int) l.length := by
 have e := h.slack_sum hok hs ht hst h1 h2; have hz : sumP l (slack fl S) l.length = 0 := by
  rw [Z1m (h := fun _ _ => 0) (fun k x hx => by
   obtain ⟨a,b⟩ := hf k x hx; have hc := h.cap k x hx; unfold slack; by_cases a2 : outB S x = true
   ·by_cases b2 : intoB S x = true
    ·have := a a2; have := b b2; simp [a2,b2]; omega
    ·have := a a2; simp [a2,b2]; omega
   ·by_cases b2 : intoB S x = true
    ·have := b b2; simp [a2,b2]; omega
    ·simp [a2,b2]) _,Z2h]
 omega
/-! ### What is left -/
inductive Res (l : List Pi) (fl : Nat → Int) (s : Nat) : Nat → Prop
 | here : Res l fl s s
 | fwd {f t k : Nat} {x : Pi} (h : Res l fl s f) (hx : l[k]? = some x) (h1 : x.1 = (f : Int)) (h2 : x.2.1 = (t : Int)) (hl : fl k < x.2.2.1) : Res l fl s t
 | back {f t k : Nat} {x : Pi} (h : Res l fl s t) (hx : l[k]? = some x) (h1 : x.1 = (f : Int)) (h2 : x.2.1 = (t : Int)) (hl : 0 < fl k) : Res l fl s f
theorem Res.lt {i : Nat} (h : Res l fl s i) (hok : ∀ x ∈ l,okP (N : Int) x = true) (hs : s < N) : i < N := by
 cases h with
 | here => exact hs
 | fwd h hx h1 h2 hl => have := okP_true.1 (hok _ (List.mem_of_getElem? hx)); omega
 | back h hx h1 h2 hl => have := okP_true.1 (hok _ (List.mem_of_getElem? hx)); omega
theorem Res.stays {i : Nat} (h : Res l fl s i) (h1 : S s = true) (hf : ∀ (k : Nat) (x : Pi),l[k]? = some x → (outB S x = true → fl k = x.2.2.1) ∧ (intoB S x = true → fl k = 0)) : S i = true := by
 induction h with
 | here => exact h1
 | fwd h hx a b hl ih =>
  rename_i f t k x
  cases hS : S t with
  | true => rfl
  | false =>
   have := (hf k x hx).1 (by simp [outB,a,b,ih,hS])
   omega
 | back h hx a b hl ih =>
  rename_i f t k x
  cases hS : S f with
  | true => rfl
  | false =>
   have := (hf k x hx).2 (by simp [intoB,a,b,ih,hS])
   omega
structure IsMost (l : List Pi) (N : Nat) (fl : Nat → Int) (s t : Nat) (m : Int) : Prop where
 flow : IsFlow l N fl s t
 much : m = netTo l fl (t : Int) l.length
 cut : ∃ S : Nat → Bool,S s = true ∧ S t = false ∧ Z3b l S l.length = m
theorem IsMost.reach {much : Int} {c : Nat → Bool} (h : IsMost l N fl s t much) (hok : ∀ x ∈ l,okP (N : Int) x = true) (hs : s < N) (ht : t < N) (hst : s ≠ t) (hc : ∀ i,i < N → (c i = true ↔ Res l fl s i)) :
  c s = true ∧ c t = false ∧ Z3b l c l.length = much := by
 obtain ⟨S,h1,h2,h3⟩ := h.cut; have hfull := h.flow.full hok hs ht hst h1 h2 (by rw [h3,h.much])
 have hcs : c s = true := (hc s hs).2 .here; have hct : c t = false := by
  cases e : c t with
  | false => rfl
  | true => have := ((hc t ht).1 e).stays h1 hfull; rw [h2] at this; cases this
 refine ⟨hcs,hct,?_⟩; rw [h.much]; refine h.flow.tight hok hs ht hst hcs hct (fun k x hx => ?_); have hxo := okP_true.1 (hok x (List.mem_of_getElem? hx)); obtain ⟨f,hf⟩ : ∃ f : Nat,x.1 = (f : Int) := ⟨x.1.toNat,by omega⟩
 obtain ⟨u,hu⟩ : ∃ u : Nat,x.2.1 = (u : Int) := ⟨x.2.1.toNat,by omega⟩
 refine ⟨fun a => ?_,fun b => ?_⟩
 ·simp only [outB,hf,hu,Int.toNat_natCast,Bool.and_eq_true,Bool.not_eq_true'] at a
  apply Classical.byContradiction
  intro hn; have := (hc u (by omega)).2 (((hc f (by omega)).1 a.1).fwd hx hf hu (by omega))
  rw [a.2] at this; cases this
 ·simp only [intoB,hf,hu,Int.toNat_natCast,Bool.and_eq_true,Bool.not_eq_true'] at b
  apply Classical.byContradiction
  intro hn; have := (hc f (by omega)).2 (((hc u (by omega)).1 b.2).back hx hf hu (by omega))
  rw [b.1] at this; cases this
/-! ### The other way round -/
def turnP (l : List Pi) : List Pi := l.map fun x => (x.2.1,x.1,x.2.2.1,0)
theorem Z5z : (turnP l)[k]? = (l[k]?).map fun x => (x.2.1,x.1,x.2.2.1,0) := by simp [turnP]
theorem Z1n (l : List Pi) : (turnP l).length = l.length := by simp [turnP]
theorem Z1w (l : List Pi) (fl : Nat → Int) (i : Int) : ∀ k,netTo (turnP l) fl i k = - netTo l fl i k
 | 0 => rfl
 | k + 1 => by
  have ih := Z1w l fl i k; unfold netTo at ih ⊢; rw [sumP,sumP,ih,Z5z]; cases l[k]? with
  | none => simp only [Option.map_none]; omega
  | some x =>
   simp only [Option.map_some,brings]
   rw [Int.neg_add,Int.neg_sub]
theorem Zhp (h : ∀ i : Nat,i < N → i ≠ s → i ≠ t → netTo l fl (i : Int) l.length = 0) (hok : ∀ x ∈ l,okP (N : Int) x = true) (hs : s < N) (ht : t < N) (hst : s ≠ t) : netTo l fl (s : Int) l.length + netTo l fl (t : Int) l.length = 0 := by
 have e2 := Z7a hok fl (fun _ => true) l.length; have e3 : sumP l (Z3c fl (fun _ => true)) l.length = 0 := by
  rw [Z1m (h := fun _ _ => 0) (fun k x _ => by simp [Z3c,outB,intoB]) _,Z2h]
 rw [e3,Z8f hst hs ht (fun i hi his hit => by simp [h i hi his hit])] at e2
 simpa using e2
theorem IsFlow.turn (h : IsFlow l N fl s t) (hok : ∀ x ∈ l,okP (N : Int) x = true) (hs : s < N) (ht : t < N) (hst : s ≠ t) :
  IsFlow (turnP l) N fl t s ∧ netTo (turnP l) fl (s : Int) (turnP l).length = netTo l fl (t : Int) l.length := by
 have h2 := Zhp h.cons hok hs ht hst; have h3 := h.ge; refine ⟨⟨fun k x hx => ?_,fun i hi h4 h5 => ?_,?_⟩,?_⟩
 ·rw [Z5z] at hx
  cases hy : l[k]? with
  | none => rw [hy] at hx; cases hx
  | some y => rw [hy] at hx; simp at hx; subst hx; exact h.cap k y hy
 ·rw [Z1w,Z1n,h.cons i hi h5 h4]; rfl
 ·rw [Z1w,Z1n]; omega
 ·rw [Z1w,Z1n]; omega
theorem IsFlow.unturn (h : IsFlow (turnP l) N fl t s) (hok : ∀ x ∈ l,okP (N : Int) x = true) (hs : s < N) (ht : t < N) (hst : s ≠ t) :
  IsFlow l N fl s t ∧ netTo (turnP l) fl (s : Int) (turnP l).length = netTo l fl (t : Int) l.length := by
 have hcons : ∀ i : Nat,i < N → i ≠ s → i ≠ t → netTo l fl (i : Int) l.length = 0 := fun i hi h1 h2 => by
  have := h.cons i hi h2 h1; rw [Z1w,Z1n] at this; omega
 have h2 := Zhp hcons hok hs ht hst; have h3 := h.ge; rw [Z1w,Z1n] at h3; refine ⟨⟨fun k x hx => ?_,hcons,by omega⟩,by rw [Z1w,Z1n]; omega⟩
 have := h.cap k (x.2.1,x.1,x.2.2.1,0) (by rw [Z5z,hx]; rfl)
 exact this
theorem Zkf (hok : ∀ x ∈ l,okP (N : Int) x = true) : ∀ x ∈ turnP l,okP (N : Int) x = true := fun x hx => by
 rw [turnP,List.mem_map] at hx; obtain ⟨y,hy,rfl⟩ := hx; have := okP_true.1 (hok y hy); exact okP_true.2 ⟨this.2.1,this.1,this.2.2.1,by simp only; omega⟩
theorem IsMost.turned {much much2 : Int} {fl2 : Nat → Int} (h : IsMost l N fl s t much) (h2 : IsMost (turnP l) N fl2 t s much2) (hok : ∀ x ∈ l,okP (N : Int) x = true) (hs : s < N) (ht : t < N) (hst : s ≠ t) : much = much2 := by
 obtain ⟨S,a1,a2,a3⟩ := h.cut; obtain ⟨T,b1,b2,b3⟩ := h2.cut; obtain ⟨c1,c2⟩ := h.flow.turn hok hs ht hst; obtain ⟨d1,d2⟩ := h2.flow.unturn hok hs ht hst; have e1 := c1.weak (Zkf hok) ht hs (fun e => hst e.symm) b1 b2; have e2 := d1.weak hok hs ht hst a1 a2; have e3 := h.much; have e4 := h2.much; omega
end Go.Proofs.YtfkommjlmolniaaGreatDoor
end
section

namespace Go.Proofs.YtfkommjlmolniaaGreatDoor
open Go.RowKit
def flOf (xs : List Int) : Nat → Int := fun k => xs.getD k 0
def boolF (N : Nat) (c : Nat → Bool) : List Value := (List.range N).map (fun i => .bool (c i))
theorem Za4 (N : Nat) (c : Nat → Bool) : (boolF N c).length = N := by simp [boolF]
theorem Za5 {N i : Nat} (c : Nat → Bool) (h : i < N) : (boolF N c)[i]? = some (.bool (c i)) := by simp [boolF,h]
def Z8d (w : World) (base : Nat) (v : Value) (N : Nat) (c : Nat → Bool) : Prop := w.ownsRow base 4 1 v N (boolF N c)
theorem Za6 {xs : List Int} {N : Nat} {f : Nat → Int} (h : xs = (List.range N).map f) : ∀ k,k < N → flOf xs k = f k := fun k hk => by
 subst h; simp [flOf,List.getD,hk]
theorem LongRow.nums {w : World} {B N g cap : Nat} {f : Nat → Int} (h : LongRow w B (.slice (some ⟨g,0,none⟩) N cap) N f) : IsNums w.heap.size w (some ⟨g,0,none⟩) N ((List.range N).map f) := by
 refine ⟨by simp,.inr ⟨g,0,rfl,h.base_.2,fun j x hx => ?_⟩⟩
 have hj : j < N := by have := (List.getElem?_eq_some_iff.1 hx).1; simpa using this
 simp [hj] at hx
 subst hx; rw [Nat.zero_add]; exact h.cell hj
theorem LongRow.nums0 {w : World} {B N cap : Nat} {a : Option Addr} {f : Nat → Int} (h : LongRow w B (.slice a N cap) N f) : IsNums w.heap.size w a N ((List.range N).map f) := by
 by_cases h0 : 0 < N
 ·obtain ⟨g,c,e,_⟩ := h.some_ h0
  injection e with e1 _ e3
  subst e1 e3; exact h.nums
 ·obtain rfl : N = 0 := by omega
  exact ⟨by simp,.inl rfl⟩
theorem Zho {l : List Pi} {f1 f2 : Nat → Int} {i : Int} (h : ∀ k,k < l.length → f1 k = f2 k) : ∀ k,netTo l f1 i k = netTo l f2 i k := fun k =>
 Z1m (fun k x hx => by unfold brings; rw [h k (List.getElem?_eq_some_iff.1 hx).1]) k
theorem IsFlow.congr {l : List Pi} {N s t : Nat} {f1 f2 : Nat → Int} (h : IsFlow l N f1 s t) (e : ∀ k,k < l.length → f1 k = f2 k) : IsFlow l N f2 s t :=
 ⟨fun k x hx => by rw [← e k (List.getElem?_eq_some_iff.1 hx).1]; exact h.cap k x hx,fun i hi h1 h2 => by rw [← Zho e]; exact h.cons i hi h1 h2,by rw [← Zho e]; exact h.ge⟩
theorem Res.congr {l : List Pi} {s i : Nat} {f1 f2 : Nat → Int} (h : Res l f1 s i) (e : ∀ k,k < l.length → f1 k = f2 k) : Res l f2 s i := by
 induction h with
 | here => exact .here
 | fwd h hx h1 h2 hl ih => exact ih.fwd hx h1 h2 (by rw [← e _ (List.getElem?_eq_some_iff.1 hx).1]; exact hl)
 | back h hx h1 h2 hl ih => exact ih.back hx h1 h2 (by rw [← e _ (List.getElem?_eq_some_iff.1 hx).1]; exact hl)
end Go.Proofs.YtfkommjlmolniaaGreatDoor
end
section

namespace Go.Proofs.YtfkommjlmolniaaGreatDoor
abbrev La := Nat × Nat × Bool
def room (l : List Pi) (k : Nat) : Int := match l[k]? with | some x => x.2.2.1 | none => 0
def lft (l : List Pi) (fl : Nat → Int) (a : La) : Int := if a.2.2 = true then fl a.1 else room l a.1 - fl a.1
variable {l : List Pi} {N s t k u v : Nat} {fl fl2 : Nat → Int} {x : Pi} {L : Nat → List La} {hi nx hi2 nx2 : Nat → Nat} {a : La} {m : Int}
theorem Z3f (hx : l[k]? = some x) : room l k = x.2.2.1 := by rw [room,hx]
structure LanesOk (l : List Pi) (N : Nat) (L : Nat → List La) : Prop where
 sound : ∀ u,u < N → ∀ a ∈ L u,∃ x,l[a.1]? = some x ∧ u ≠ a.2.1 ∧ a.2.1 < N ∧ (if a.2.2 = true then x.2.1 = (u : Int) ∧ x.1 = (a.2.1 : Int) else x.1 = (u : Int) ∧ x.2.1 = (a.2.1 : Int))
 all : ∀ (k : Nat) (x : Pi) (f t : Nat),l[k]? = some x → x.1 = (f : Int) → x.2.1 = (t : Int) → f ≠ t → (k,t,false) ∈ L f ∧ (k,f,true) ∈ L t
def Z0o (hi : Nat → Nat) (u h : Nat) : Nat → Nat := fun i => if i = u then h else hi i
/-! ### A height at which no node lies -/
theorem Ziq : ∀ (n : Nat) (f : Nat → Nat),(∀ t,t ≤ n → f t < n) → ∃ a b,a < b ∧ b ≤ n ∧ f a = f b
 | 0,f,h => by have := h 0 (Nat.le_refl _); omega
 | n + 1,f,h => by
  by_cases hex : ∃ a,a ≤ n ∧ f a = f (n + 1)
  ·obtain ⟨a,ha,he⟩ := hex
   exact ⟨a,n + 1,by omega,Nat.le_refl _,he⟩
  ·obtain ⟨a,b,hab,hb,he⟩ := Ziq n (fun t => if f t = n then f (n + 1) else f t) (fun t ht => by
    have h1 := h t (by omega)
    have h2 := h (n + 1) (Nat.le_refl _); have h3 : f t ≠ f (n + 1) := fun e => hex ⟨t,ht,e⟩; split
    ·omega
    ·omega)
   refine ⟨a,b,hab,by omega,?_⟩
   have ha3 : f a ≠ f (n + 1) := fun e => hex ⟨a,by omega,e⟩
   have hb3 : f b ≠ f (n + 1) := fun e => hex ⟨b,hb,e⟩; split at he
   ·split at he
    ·omega
    ·omega
   ·split at he
    ·omega
    ·exact he
theorem Zir (h : Nat → Nat) (b : Nat) : ∃ g,b ≤ g ∧ g ≤ b + N ∧ ∀ i,i < N → h i ≠ g := by
 apply Classical.byContradiction
 intro hn; have hall : ∀ g,g ≤ N → ∃ i,i < N ∧ h i = b + g := fun g hg => by
  apply Classical.byContradiction
  intro h2; exact hn ⟨b + g,by omega,by omega,fun i hi e => h2 ⟨i,hi,e⟩⟩
 obtain ⟨f,hf⟩ : ∃ f : Nat → Nat,∀ g,g ≤ N → f g < N ∧ h (f g) = b + g :=
  ⟨fun g => if hg : g ≤ N then (hall g hg).choose else 0,fun g hg => by simp only [hg,dif_pos]; exact (hall g hg).choose_spec⟩
 obtain ⟨x,y,hxy,hy,he⟩ := Ziq N f (fun t ht => (hf t ht).1); have h1 := (hf x (by omega)).2
 have h2 := (hf y hy).2; rw [he] at h1; omega
theorem Znk (hs : s < N) (ht : t < N) (h1 : hi s = N) (h2 : hi t = 0) : ∃ g,0 < g ∧ g < N ∧ ∀ i,i < N → hi i ≠ g := by
 obtain ⟨g,_,hg,h⟩ := Zir (N := N) hi 0; refine ⟨g,?_,?_,h⟩
 ·have := h t ht; omega
 ·have := h s hs; omega
theorem Zlj (hs : s < N) (hu : u < N) (h1 : hi s = N) (h2 : 2 * N ≤ hi u) : ∃ g,N < g ∧ g < 2 * N ∧ ∀ i,i < N → hi i ≠ g := by
 obtain ⟨g,hg1,hg,h⟩ := Zir (N := N) (fun i => if i = u then 2 * N else hi i) N
 have hsu : s ≠ u := fun e => by subst e; omega
 refine ⟨g,?_,?_,fun i hi2 e => ?_⟩
 ·have := h s hs; simp only [hsu,if_false] at this; omega
 ·have := h u hu; simp only [if_true] at this; omega
 ·have h3 := h i hi2
  have h4 := h u hu; by_cases e2 : i = u
  ·subst e2; simp only [if_true] at h4; omega
  ·simp only [e2,if_false] at h3; omega
/-! ### Nothing is left out of what lies above such a height -/
def Steep (l : List Pi) (N : Nat) (L : Nat → List La) (fl : Nat → Int) (hi : Nat → Nat) : Prop := ∀ u,u < N → ∀ a ∈ L u,0 < lft l fl a → hi u ≤ hi a.2.1 + 1
theorem Steep.shut (h : Steep l N L fl hi) (hl : LanesOk l N L) (hok : ∀ x ∈ l,okP (N : Int) x = true) {g : Nat} (hg : ∀ i,i < N → hi i ≠ g) :
  ∀ (k : Nat) (x : Pi),l[k]? = some x → (outB (fun i => decide (g < hi i)) x = true → x.2.2.1 ≤ fl k) ∧ (intoB (fun i => decide (g < hi i)) x = true → fl k ≤ 0) := fun k x hx => by
 have hxo := okP_true.1 (hok x (List.mem_of_getElem? hx)); obtain ⟨f,hf⟩ : ∃ f : Nat,x.1 = (f : Int) := ⟨x.1.toNat,by omega⟩
 obtain ⟨d,hd⟩ : ∃ d : Nat,x.2.1 = (d : Int) := ⟨x.2.1.toNat,by omega⟩
 have g1 := hg f (by omega)
 have g2 := hg d (by omega)
 refine ⟨fun a => ?_,fun b => ?_⟩
 ·simp only [outB,hf,hd,Int.toNat_natCast,Bool.and_eq_true,Bool.not_eq_true',decide_eq_true_eq,decide_eq_false_iff_not] at a
  apply Classical.byContradiction
  intro hn; have := h f (by omega) _ (hl.all k x f d hx hf hd (fun e => by subst e; omega)).1 (by simp [lft,Z3f hx]; omega)
  simp only at this
  omega
 ·simp only [intoB,hf,hd,Int.toNat_natCast,Bool.and_eq_true,Bool.not_eq_true',decide_eq_true_eq,decide_eq_false_iff_not] at b
  apply Classical.byContradiction
  intro hn; have := h d (by omega) _ (hl.all k x f d hx hf hd (fun e => by subst e; omega)).2 (by simp [lft]; omega)
  simp only at this
  omega
theorem Z2g {f : Nat → Int} : ∀ {n : Nat},(∀ i,i < n → 0 ≤ f i) → 0 ≤ sumN n f
 | 0,_ => Int.le_refl _
 | n + 1,h => by have := Z2g (n := n) (fun i hi => h i (by omega)); have := h n (by omega); rw [sumN]; omega
theorem Zcd {u : Nat} {f : Nat → Int} : ∀ {n : Nat},(∀ i,i < n → 0 ≤ f i) → u < n → f u ≤ sumN n f
 | n + 1,h,hu => by
  rw [sumN]; have h1 := Z2g (n := n) (fun i hi => h i (by omega))
  have h2 := h n (by omega)
  by_cases e : u = n
  ·subst e; omega
  ·have := Zcd (u := u) (n := n) (fun i hi => h i (by omega)) (by omega); omega
theorem Steep.bound (h : Steep l N L fl hi) (hl : LanesOk l N L) (hok : ∀ x ∈ l,okP (N : Int) x = true) (hcap : ∀ (k : Nat) (x : Pi),l[k]? = some x → 0 ≤ fl k ∧ fl k ≤ x.2.2.1)
  (hexc : ∀ i,i < N → i ≠ s → 0 ≤ netTo l fl (i : Int) l.length) (hs : s < N) (h1 : hi s = N) (hu : u < N) (hpos : 0 < netTo l fl (u : Int) l.length) : hi u < 2 * N := by
 apply Classical.byContradiction
 intro hn; obtain ⟨g,g1,g2,hg⟩ := Zlj (hi := hi) hs hu h1 (by omega)
 have hsh := h.shut hl hok hg; have e := Z7a hok fl (fun i => decide (g < hi i)) l.length; have hacr : 0 ≤ sumP l (Z3c fl (fun i => decide (g < hi i))) l.length := Z41 (fun k x hx => by
  obtain ⟨_,b⟩ := hsh k x hx; have hc := hcap k x hx; unfold Z3c; by_cases b2 : intoB (fun i => decide (g < hi i)) x = true
  ·have := b b2
   rw [if_pos b2]; split <;> omega
  ·rw [if_neg b2]
   split <;> omega) _
 have hge := Zcd (u := u) (n := N) (f := fun i => if (fun i => decide (g < hi i)) i = true then netTo l fl (i : Int) l.length else 0) (fun i hi2 => by
  simp only [decide_eq_true_eq]
  split
  ·rename_i h3
   exact hexc i hi2 (fun e => by subst e; omega)
  ·omega) hu
 rw [e] at hge; simp only [decide_eq_true_eq] at hge
 rw [if_pos (by omega)] at hge
 omega
/-! ### The state -/
structure PR (l : List Pi) (N : Nat) (L : Nat → List La) (s t : Nat) (fl : Nat → Int) (hi nx : Nat → Nat) : Prop where
 cap : ∀ (k : Nat) (x : Pi),l[k]? = some x → 0 ≤ fl k ∧ fl k ≤ x.2.2.1
 exc : ∀ i,i < N → i ≠ s → 0 ≤ netTo l fl (i : Int) l.length
 hs : hi s = N
 ht : hi t = 0
 bound : ∀ i,i < N → hi i < 2 * N
 nxb : ∀ i,i < N → nx i ≤ (L i).length
 val : ∀ u,u < N → ∀ (j : Nat) (a : La),(L u)[j]? = some a → 0 < lft l fl a → hi u ≤ hi a.2.1 + (if j < nx u then 0 else 1)
theorem PR.steep (h : PR l N L s t fl hi nx) : Steep l N L fl hi := fun u hu a ha hp => by
 obtain ⟨j,hj⟩ := List.getElem?_of_mem ha; have := h.val u hu j a hj hp; split at this <;> omega
theorem PR.most (h : PR l N L s t fl hi nx) (hl : LanesOk l N L) (hok : ∀ x ∈ l,okP (N : Int) x = true) (hs : s < N) (ht : t < N) (hst : s ≠ t) (hz : ∀ i,i < N → i ≠ s → i ≠ t → netTo l fl (i : Int) l.length = 0) :
  IsMost l N fl s t (netTo l fl (t : Int) l.length) := by
 obtain ⟨g,g1,g2,hg⟩ := Znk hs ht h.hs h.ht; have hf : IsFlow l N fl s t := ⟨h.cap,hz,h.exc t ht (fun e => hst e.symm)⟩; have h1 := h.hs; have h2 := h.ht; refine ⟨hf,rfl,fun i => decide (g < hi i),by simp; omega,by simp; omega,?_⟩
 exact hf.tight hok hs ht hst (by simp; omega) (by simp; omega) (h.steep.shut hl hok hg)
/-! ### What is sent through a lane -/
def push (fl : Nat → Int) (a : La) (m : Int) : Nat → Int := fun k => if k = a.1 then fl k + (if a.2.2 = true then -m else m) else fl k
theorem Z8u {g g2 : Nat → Pi → Int} (hx : l[k]? = some x) (he : ∀ j y,j ≠ k → g2 j y = g j y) : ∀ n,sumP l g2 n = sumP l g n + (if k < n then g2 k x - g k x else 0)
 | 0 => by simp [sumP]
 | n + 1 => by
  rw [sumP,sumP,Z8u hx he n]; by_cases e : n = k
  ·subst e
   rw [hx,if_neg (by omega),if_pos (by omega)]
   simp only
   omega
  ·have e2 : (k < n + 1) = (k < n) := by rw [eq_iff_iff]; omega
   simp only [e2]
   cases l[n]? with
   | none => simp only; omega
   | some y => simp only [he n y e]; omega
theorem Z2z (hl : LanesOk l N L) (hu : u < N) (ha : a ∈ L u) : ∃ x,l[a.1]? = some x ∧ u ≠ a.2.1 ∧ a.2.1 < N ∧ a.1 < l.length ∧ (if a.2.2 = true then x.2.1 = (u : Int) ∧ x.1 = (a.2.1 : Int) else x.1 = (u : Int) ∧ x.2.1 = (a.2.1 : Int)) := by
 obtain ⟨x,h1,h2,h3,h4⟩ := hl.sound u hu a ha; exact ⟨x,h1,h2,h3,(List.getElem?_eq_some_iff.1 h1).1,h4⟩
theorem Z4w (hl : LanesOk l N L) (hu : u < N) (ha : a ∈ L u) (m : Int) (i : Nat) :
  netTo l (push fl a m) (i : Int) l.length = netTo l fl (i : Int) l.length + (if i = a.2.1 then m else 0) - (if i = u then m else 0) := by
 obtain ⟨x,hx,hne,_,hk,hd⟩ := Z2z hl hu ha; unfold netTo; rw [Z8u (g := brings fl (i : Int)) hx (fun j y hj => by simp [brings,push,hj]) l.length,if_pos hk]
 obtain ⟨k,v,b⟩ := a; simp only at hx hne hk hd ⊢
 cases b with
 | true =>
  simp only [if_true] at hd
  have a1 : (x.2.1 = (i : Int)) ↔ i = u := by rw [hd.1]; omega
  have a2 : (x.1 = (i : Int)) ↔ i = v := by rw [hd.2]; omega
  simp only [brings,push,a1,a2,if_true]
  by_cases e1 : i = u
  ·have e2 : ¬ i = v := by omega
   simp only [e1,if_true] at e2 ⊢; simp only [e2,if_false]; omega
  ·by_cases e2 : i = v
   ·simp only [e2,if_true] at e1 ⊢; simp only [e1,if_false]; omega
   ·simp only [e1,e2,if_false]; omega
 | false =>
  simp only [Bool.false_eq_true,if_false] at hd
  have a1 : (x.2.1 = (i : Int)) ↔ i = v := by rw [hd.2]; omega
  have a2 : (x.1 = (i : Int)) ↔ i = u := by rw [hd.1]; omega
  simp only [brings,push,a1,a2,if_true,Bool.false_eq_true,if_false]
  by_cases e1 : i = u
  ·have e2 : ¬ i = v := by omega
   simp only [e1,if_true] at e2 ⊢; simp only [e2,if_false]; omega
  ·by_cases e2 : i = v
   ·simp only [e2,if_true] at e1 ⊢; simp only [e1,if_false]; omega
   ·simp only [e1,e2,if_false]; omega
theorem Zdv (hcap : ∀ (k : Nat) (x : Pi),l[k]? = some x → 0 ≤ fl k ∧ fl k ≤ x.2.2.1) (h0 : 0 ≤ m) (hm : m ≤ lft l fl a) :
  ∀ (k : Nat) (x : Pi),l[k]? = some x → 0 ≤ push fl a m k ∧ push fl a m k ≤ x.2.2.1 := fun k x hx => by
 have hc := hcap k x hx; unfold push; by_cases e : k = a.1
 ·rw [if_pos e]
  subst e; rw [lft,Z3f hx] at hm; by_cases b : a.2.2 = true
  ·rw [if_pos b] at hm ⊢; omega
  ·rw [if_neg b] at hm ⊢; omega
 ·rw [if_neg e]; exact hc
theorem Zdw (b : La) (hb : b.1 ≠ a.1) : lft l (push fl a m) b = lft l fl b := by
 simp [lft,push,hb]
theorem Z4i (b : La) (hb : b.1 = a.1) (hd : b.2.2 = a.2.2) : lft l (push fl a m) b = lft l fl b - m := by
 simp only [lft,push,hb,hd]
 cases a.2.2 <;> simp <;> omega
theorem PR.push_ (h : PR l N L s t fl hi nx) (hl : LanesOk l N L) (hu : u < N) (hus : u ≠ s) {j : Nat} (hj : (L u)[j]? = some a) (hd : hi u = hi a.2.1 + 1) (h0 : 0 ≤ m) (h1 : m ≤ lft l fl a) (h2 : m ≤ netTo l fl (u : Int) l.length) :
  PR l N L s t (push fl a m) hi nx := by
 have ha := List.mem_of_getElem? hj; refine ⟨Zdv h.cap h0 h1,fun i hi2 his => ?_,h.hs,h.ht,h.bound,h.nxb,fun v hv j2 b hb hp => ?_⟩
 ·rw [Z4w hl hu ha]
  have := h.exc i hi2 his; by_cases e : i = u
  ·subst e; rw [if_pos rfl]; split <;> omega
  ·rw [if_neg e]; split <;> omega
 ·by_cases hold : 0 < lft l fl b
  ·exact h.val v hv j2 b hb hold
  ·have e1 : b.1 = a.1 := Classical.byContradiction fun e => by rw [Zdw b e] at hp; exact hold hp
   have e2 : b.2.2 ≠ a.2.2 := fun e => by rw [Z4i b e1 e] at hp; omega
   obtain ⟨x,hx,_,_,_,hxd⟩ := Z2z hl hu ha; obtain ⟨y,hy,_,_,_,hyd⟩ := Z2z hl hv (List.mem_of_getElem? hb); rw [e1,hx] at hy; injection hy with hy
   subst hy; have e3 : v = a.2.1 ∧ b.2.1 = u := by
    cases hb2 : b.2.2 <;> cases ha2 : a.2.2 <;> simp [hb2,ha2] at e2 hxd hyd <;> omega
   rw [e3.1,e3.2]; split <;> omega
/-! ### The next lane -/
theorem PR.skip (h : PR l N L s t fl hi nx) (hu : u < N) (hj : (L u)[nx u]? = some a) (hn : ¬ (hi u = hi a.2.1 + 1 ∧ 0 < lft l fl a)) :
  PR l N L s t fl hi (Z0o nx u (nx u + 1)) := by
 have hlt := (List.getElem?_eq_some_iff.1 hj).1; refine ⟨h.cap,h.exc,h.hs,h.ht,h.bound,fun i hi2 => ?_,fun v hv j b hb hp => ?_⟩
 ·unfold Z0o
  split
  ·rename_i e; subst e; omega
  ·exact h.nxb i hi2
 ·have := h.val v hv j b hb hp
  unfold Z0o; by_cases e : v = u
  ·subst e
   rw [if_pos rfl]; by_cases ej : j = nx v
   ·subst ej
    rw [hj] at hb; injection hb with hb
    subst hb; rw [if_neg (by omega)] at this
    rw [if_pos (by omega)]
    have : ¬ hi v = hi a.2.1 + 1 := fun e => hn ⟨e,hp⟩; omega
   ·by_cases e2 : j < nx v
    ·rw [if_pos e2] at this; rw [if_pos (by omega)]; exact this
    ·rw [if_neg e2] at this; rw [if_neg (by omega)]; exact this
  ·rw [if_neg e]; exact this
/-! ### Lifted -/
structure LowP (l : List Pi) (N : Nat) (fl : Nat → Int) (hi : Nat → Nat) (r : List La) (low : Nat) : Prop where
 le : low ≤ 2 * N
 all : ∀ a ∈ r,0 < lft l fl a → low ≤ hi a.2.1
 one : low = 2 * N ∨ ∃ a ∈ r,0 < lft l fl a ∧ low = hi a.2.1
theorem LowP.begin_ (l : List Pi) (N : Nat) (fl : Nat → Int) (hi : Nat → Nat) : LowP l N fl hi [] (2 * N) := ⟨Nat.le_refl _,fun _ ha => (nomatch ha),.inl rfl⟩
theorem LowP.take {r : List La} {low : Nat} (h : LowP l N fl hi r low) (a : La) (hp : 0 < lft l fl a) (hb : hi a.2.1 < 2 * N) : LowP l N fl hi (r ++ [a]) (min low (hi a.2.1)) := by
 have := h.le; refine ⟨by omega,fun b hb2 hp2 => ?_,?_⟩
 ·rw [List.mem_append] at hb2
  rcases hb2 with hb2 | hb2
  ·have := h.all b hb2 hp2; omega
  ·simp only [List.mem_singleton] at hb2; subst hb2; omega
 ·rcases h.one with e | ⟨b,hb2,hp2,e⟩
  ·exact .inr ⟨a,by simp,hp,by omega⟩
  ·by_cases e2 : low ≤ hi a.2.1
   ·exact .inr ⟨b,by simp [hb2],hp2,by omega⟩
   ·exact .inr ⟨a,by simp,hp,by omega⟩
theorem LowP.skip {r : List La} {low : Nat} (h : LowP l N fl hi r low) (a : La) (hp : ¬ 0 < lft l fl a) : LowP l N fl hi (r ++ [a]) low := by
 refine ⟨h.le,fun b hb2 hp2 => ?_,?_⟩
 ·rw [List.mem_append] at hb2
  rcases hb2 with hb2 | hb2
  ·exact h.all b hb2 hp2
  ·simp only [List.mem_singleton] at hb2; subst hb2; exact absurd hp2 hp
 ·rcases h.one with e | ⟨b,hb2,hp2,e⟩
  ·exact .inl e
  ·exact .inr ⟨b,by simp [hb2],hp2,e⟩
theorem PR.lift (h : PR l N L s t fl hi nx) (hl : LanesOk l N L) (hok : ∀ x ∈ l,okP (N : Int) x = true) (hs : s < N) (hu : u < N) (hus : u ≠ s) (hut : u ≠ t) (hn : nx u = (L u).length) (hpos : 0 < netTo l fl (u : Int) l.length) {low : Nat} (hlow : LowP l N fl hi (L u) low) :
  PR l N L s t fl (Z0o hi u (low + 1)) (Z0o nx u 0) ∧ hi u < low + 1 ∧ low + 1 < 2 * N := by
 have hup : hi u < low + 1 := by
  rcases hlow.one with e | ⟨a,ha,hp,e⟩
  ·have := h.bound u hu; omega
  ·obtain ⟨j,hj⟩ := List.getElem?_of_mem ha
   have := h.val u hu j a hj hp; have hj2 := (List.getElem?_eq_some_iff.1 hj).1; rw [if_pos (by omega)] at this
   omega
 have hval : ∀ v,v < N → ∀ (j : Nat) (a : La),(L v)[j]? = some a → 0 < lft l fl a → Z0o hi u (low + 1) v ≤ Z0o hi u (low + 1) a.2.1 + (if j < (Z0o nx u 0) v then 0 else 1) := fun v hv j a ha hp => by
  have h1 := h.val v hv j a ha hp; obtain ⟨x,_,hne,_⟩ := hl.sound v hv a (List.mem_of_getElem? ha); unfold Z0o; by_cases e : v = u
  ·subst e
   have := hlow.all a (List.mem_of_getElem? ha) hp; simp only [if_true,if_neg (fun e => hne e.symm : ¬ a.2.1 = v),Nat.not_lt_zero,if_false]
   omega
  ·simp only [e,if_false]
   by_cases e2 : a.2.1 = u
   ·rw [if_pos e2]; rw [e2] at h1; omega
   ·rw [if_neg e2]; exact h1
 have hst : Steep l N L fl (Z0o hi u (low + 1)) := fun v hv a ha hp => by
  obtain ⟨j,hj⟩ := List.getElem?_of_mem ha; have := hval v hv j a hj hp; split at this <;> omega
 have hb := hst.bound (s := s) (u := u) hl hok h.cap h.exc hs (by simp [Z0o,(show ¬ s = u from fun e => hus e.symm),h.hs]) hu hpos
 simp only [Z0o,if_true] at hb
 refine ⟨⟨h.cap,h.exc,by simp [Z0o,(show ¬ s = u from fun e => hus e.symm),h.hs],by simp [Z0o,(show ¬ t = u from fun e => hut e.symm),h.ht],fun i hi2 => ?_,fun i hi2 => ?_,hval⟩,hup,hb⟩
 ·unfold Z0o
  split
  ·exact hb
  ·exact h.bound i hi2
 ·unfold Z0o
  split
  ·omega
  ·exact h.nxb i hi2
/-! ### A height at which there is no node any more -/
def Z1d (N g c : Nat) (hi : Nat → Nat) : Nat → Nat := fun i => if i < c ∧ g < hi i ∧ hi i < N then N + 1 else hi i
def Z18 (N g c : Nat) (hi nx : Nat → Nat) : Nat → Nat := fun i => if i < c ∧ g < hi i ∧ hi i < N then 0 else nx i
theorem PR.part (h : PR l N L s t fl hi nx) (hl : LanesOk l N L) (hN : 2 ≤ N) {g : Nat} (hg : ∀ i,i < N → hi i ≠ g) : PR l N L s t fl (Z1d N g N hi) (Z18 N g N hi nx) := by
 refine ⟨h.cap,h.exc,by simp [Z1d,h.hs],by simp [Z1d,h.ht],fun i hi2 => ?_,fun i hi2 => ?_,fun v hv j a ha hp => ?_⟩
 ·have := h.bound i hi2
  unfold Z1d; split <;> omega
 ·have := h.nxb i hi2
  unfold Z18; split <;> omega
 ·have h1 := h.val v hv j a ha hp
  obtain ⟨x,_,_,hlt,_⟩ := hl.sound v hv a (List.mem_of_getElem? ha); have h2 := hg a.2.1 hlt; have h3 := hg v hv; unfold Z1d Z18; by_cases e : v < N ∧ g < hi v ∧ hi v < N
  ·rw [if_pos e,if_pos e]
   split at h1
   ·by_cases e2 : a.2.1 < N ∧ g < hi a.2.1 ∧ hi a.2.1 < N
    ·rw [if_pos e2]; simp only [Nat.not_lt_zero,if_false]; omega
    ·rw [if_neg e2]; simp only [Nat.not_lt_zero,if_false]; omega
   ·by_cases e2 : a.2.1 < N ∧ g < hi a.2.1 ∧ hi a.2.1 < N
    ·rw [if_pos e2]; simp only [Nat.not_lt_zero,if_false]; omega
    ·rw [if_neg e2]; simp only [Nat.not_lt_zero,if_false]; omega
  ·rw [if_neg e,if_neg e]
   by_cases e2 : a.2.1 < N ∧ g < hi a.2.1 ∧ hi a.2.1 < N
   ·rw [if_pos e2]; omega
   ·rw [if_neg e2]; exact h1
end Go.Proofs.YtfkommjlmolniaaGreatDoor
end
section

namespace Go.Proofs.YtfkommjlmolniaaGreatDoor
variable {l : List Pi} {N s t k u v : Nat} {fl fl2 : Nat → Int} {x : Pi} {L : Nat → List La} {hi nx hi2 nx2 : Nat → Nat} {a : La} {m : Int}
def sA (N : Nat) (hi : Nat → Nat) : Int := sumN N (fun i => 2 * (N : Int) - (hi i : Int))
def sB (l : List Pi) (hi : Nat → Nat) (fl : Nat → Int) : Int := sumP l (fun k x => fl k * ((hi x.2.1.toNat : Int) - (hi x.1.toNat : Int))) l.length
def sC (N : Nat) (L : Nat → List La) (nx : Nat → Nat) : Int := sumN N (fun i => ((L i).length : Int) - (nx i : Int))
def cB (l : List Pi) (N : Nat) : Int := (l.length : Int) * (1099511627776 * (2 * (N : Int)))
def cC (N : Nat) (L : Nat → List La) : Int := sumN N (fun i => ((L i).length : Int)) + 1
def meas (l : List Pi) (N : Nat) (L : Nat → List La) (fl : Nat → Int) (hi nx : Nat → Nat) : Nat := ((sA N hi * (2 * cB l N + 1) + (sB l hi fl + cB l N)) * cC N L + sC N L nx).toNat
theorem Zo9 {a a2 b b2 c c2 K1 K2 : Int} (ha : 0 ≤ a2) (hb : 0 ≤ b) (hb2 : 0 ≤ b2) (hB : b2 < K1) (hc : 0 ≤ c) (hc2 : 0 ≤ c2) (hC : c2 < K2) (h : a2 < a ∨ (a2 = a ∧ (b2 < b ∨ (b2 = b ∧ c2 < c)))) :
  ((a2 * K1 + b2) * K2 + c2).toNat < ((a * K1 + b) * K2 + c).toNat := by
 have hK1 : 0 < K1 := by omega
 have hK2 : 0 < K2 := by omega
 have h0 : 0 ≤ a2 * K1 := Int.mul_nonneg ha (by omega)
 obtain ⟨X2,hX2⟩ : ∃ X2,X2 = a2 * K1 + b2 := ⟨_,rfl⟩; obtain ⟨X,hX⟩ : ∃ X,X = a * K1 + b := ⟨_,rfl⟩; rw [← hX2,← hX]; have h1 : 0 ≤ X2 * K2 := Int.mul_nonneg (by omega) (by omega)
 have h2 : X2 < X ∨ (X2 = X ∧ c2 < c) := by
  rcases h with h | ⟨rfl,h | ⟨rfl,h⟩⟩
  ·have h3 : (a2 + 1) * K1 ≤ a * K1 := Int.mul_le_mul_of_nonneg_right (by omega) (by omega)
   rw [Int.add_mul,Int.one_mul] at h3; omega
  ·omega
  ·exact .inr ⟨by omega,h⟩
 rcases h2 with h2 | ⟨rfl,h2⟩
 ·have h3 : (X2 + 1) * K2 ≤ X * K2 := Int.mul_le_mul_of_nonneg_right (by omega) (by omega)
  rw [Int.add_mul,Int.one_mul] at h3; omega
 ·omega
theorem Zcb {f d R D : Int} (h0 : 0 ≤ f) (h1 : f ≤ R) (h2 : -D ≤ d) (h3 : d ≤ D) : -(R * D) ≤ f * d ∧ f * d ≤ R * D := by
 have hD : 0 ≤ D := by omega
 have e1 : f * d ≤ f * D := Int.mul_le_mul_of_nonneg_left h3 h0; have e2 : f * D ≤ R * D := Int.mul_le_mul_of_nonneg_right h1 hD; have e3 : f * (-D) ≤ f * d := Int.mul_le_mul_of_nonneg_left h2 h0; rw [Int.mul_neg] at e3; omega
theorem Z8t {f g : Nat → Int} : ∀ {n : Nat},(∀ i,i < n → f i ≤ g i) → sumN n f ≤ sumN n g
 | 0,_ => Int.le_refl _
 | n + 1,h => by have := Z8t (n := n) (fun i hi => h i (by omega)); have := h n (by omega); rw [sumN,sumN]; omega
theorem Zcc {u : Nat} {f g : Nat → Int} : ∀ {n : Nat},(∀ i,i < n → f i ≤ g i) → u < n → f u < g u → sumN n f < sumN n g
 | n + 1,h,hu,hlt => by
  rw [sumN,sumN]; have h1 := Z8t (n := n) (fun i hi => h i (by omega))
  have h2 := h n (by omega)
  by_cases e : u = n
  ·subst e; omega
  ·have := Zcc (u := u) (n := n) (fun i hi => h i (by omega)) (by omega) hlt; omega
theorem PR.sA_ (h : PR l N L s t fl hi nx) : 0 ≤ sA N hi := Z2g (fun i hi2 => by have := h.bound i hi2; omega)
theorem PR.sB_ (h : PR l N L s t fl hi nx) (hok : ∀ x ∈ l,okP (N : Int) x = true) : -(cB l N) ≤ sB l hi fl ∧ sB l hi fl ≤ cB l N := by
 have h0 : (0 : Int) ≤ 1099511627776 * (2 * (N : Int)) := Int.mul_nonneg (by omega) (by omega)
 refine Z4t h0 (fun k x hx => ?_) l.length; have hxo := okP_true.1 (hok x (List.mem_of_getElem? hx)); have hc := h.cap k x hx; have h1 := h.bound x.1.toNat (by omega)
 have h2 := h.bound x.2.1.toNat (by omega)
 exact Zcb hc.1 (by omega) (by omega) (by omega)
theorem PR.sC_ (h : PR l N L s t fl hi nx) : 0 ≤ sC N L nx ∧ sC N L nx < cC N L := by
 refine ⟨Z2g (fun i hi2 => by have := h.nxb i hi2; omega),?_⟩
 have : sC N L nx ≤ sumN N (fun i => ((L i).length : Int)) := Z8t (fun i _ => by omega)
 unfold cC; omega
theorem PR.meas_lt (h : PR l N L s t fl hi nx) (h2 : PR l N L s t fl2 hi2 nx2) (hok : ∀ x ∈ l,okP (N : Int) x = true)
  (hd : sA N hi2 < sA N hi ∨ (sA N hi2 = sA N hi ∧ (sB l hi2 fl2 < sB l hi fl ∨ (sB l hi2 fl2 = sB l hi fl ∧ sC N L nx2 < sC N L nx)))) : meas l N L fl2 hi2 nx2 < meas l N L fl hi nx := by
 have b1 := h.sB_ hok; have b2 := h2.sB_ hok; have c1 := h.sC_; have c2 := h2.sC_; refine Zo9 h2.sA_ (by omega) (by omega) (by omega) c1.1 c2.1 c2.2 ?_
 rcases hd with hd | ⟨e,hd | ⟨e2,hd⟩⟩
 ·exact .inl hd
 ·exact .inr ⟨e,.inl (by omega)⟩
 ·exact .inr ⟨e,.inr ⟨by omega,hd⟩⟩
theorem Zip (h : PR l N L s t fl hi nx) (h2 : PR l N L s t (push fl a m) hi nx) (hok : ∀ x ∈ l,okP (N : Int) x = true) (hl : LanesOk l N L) (hu : u < N) (ha : a ∈ L u) (hd : hi u = hi a.2.1 + 1) (h0 : 0 < m) :
  meas l N L (push fl a m) hi nx < meas l N L fl hi nx := by
 refine h.meas_lt h2 hok (.inr ⟨rfl,.inl ?_⟩); obtain ⟨x,hx,hne,_,hk,hxd⟩ := Z2z hl hu ha; unfold sB; rw [Z8u (g := fun k x => fl k * ((hi x.2.1.toNat : Int) - (hi x.1.toNat : Int))) hx (fun j y hj => by simp [push,hj]) l.length,if_pos hk]
 obtain ⟨k,v,b⟩ := a; simp only at hx hne hk hxd hd ⊢
 cases b with
 | true =>
  simp only [if_true] at hxd
  have e1 : x.2.1.toNat = u := by omega
  have e2 : x.1.toNat = v := by omega
  have e3 : ((hi u : Nat) : Int) - (hi v : Int) = 1 := by omega
  simp only [push,e1,e2,e3,if_true]
  omega
 | false =>
  simp only [Bool.false_eq_true,if_false] at hxd
  have e1 : x.2.1.toNat = v := by omega
  have e2 : x.1.toNat = u := by omega
  have e3 : ((hi v : Nat) : Int) - (hi u : Int) = -1 := by omega
  simp only [push,e1,e2,e3,if_true,Bool.false_eq_true,if_false]
  omega
theorem Zas (h : PR l N L s t fl hi nx) (h2 : PR l N L s t fl hi (Z0o nx u (nx u + 1))) (hok : ∀ x ∈ l,okP (N : Int) x = true) (hu : u < N) :
  meas l N L fl hi (Z0o nx u (nx u + 1)) < meas l N L fl hi nx := by
 refine h.meas_lt h2 hok (.inr ⟨rfl,.inr ⟨rfl,?_⟩⟩); refine Zcc (u := u) (fun i _ => ?_) hu ?_
 ·unfold Z0o
  by_cases e : i = u
  ·subst e; rw [if_pos rfl]; omega
  ·rw [if_neg e]; exact Int.le_refl _
 ·unfold Z0o
  rw [if_pos rfl]; omega
theorem Z6f (h : PR l N L s t fl hi nx) (h2 : PR l N L s t fl hi2 nx2) (hok : ∀ x ∈ l,okP (N : Int) x = true) (hu : u < N) (hlt : hi u < hi2 u) (hle : ∀ i,i < N → hi i ≤ hi2 i) :
  meas l N L fl hi2 nx2 < meas l N L fl hi nx :=
 h.meas_lt h2 hok (.inl (Zcc (u := u) (fun i hi3 => by have := hle i hi3; omega) hu (by omega)))
/-! ### How many nodes lie at a height -/
def cnt (N : Nat) (hi : Nat → Nat) (g : Nat) : Int := sumN N (fun i => if hi i = g then 1 else 0)
theorem Z6g (N : Nat) (hi : Nat → Nat) (g : Nat) : 0 ≤ cnt N hi g ∧ cnt N hi g ≤ (N : Int) := by
 refine ⟨Z2g (fun i _ => by split <;> omega),?_⟩
 have h1 : cnt N hi g ≤ sumN N (fun _ => 1) := Z8t (fun i _ => by split <;> omega)
 have h2 : ∀ n : Nat,sumN n (fun _ => 1) = (n : Int) := fun n => by
  induction n with
  | zero => rfl
  | succ n ih => rw [sumN,ih]; omega
 rw [h2] at h1; exact h1
theorem Zli {g : Nat} (h : cnt N hi g = 0) : ∀ i,i < N → hi i ≠ g := fun i hi2 e => by
 have := Zcd (u := i) (n := N) (f := fun i => if hi i = g then (1 : Int) else 0) (fun i _ => by split <;> omega) hi2
 rw [if_pos e] at this; unfold cnt at h; omega
theorem Zdu {f g : Nat → Int} (he : ∀ i,i ≠ u → g i = f i) : ∀ n,sumN n g = sumN n f + (if u < n then g u - f u else 0)
 | 0 => by simp [sumN]
 | n + 1 => by
  rw [sumN,sumN,Zdu he n]; by_cases e : n = u
  ·subst e
   rw [if_neg (by omega),if_pos (by omega)]
   omega
  ·have e2 : (u < n + 1) = (u < n) := by rw [eq_iff_iff]; omega
   simp only [e2,he n e]
   omega
theorem Zfw (hu : u < N) (h : Nat) (g : Nat) : cnt N (Z0o hi u h) g = cnt N hi g - (if hi u = g then 1 else 0) + (if h = g then 1 else 0) := by
 unfold cnt; rw [Zdu (u := u) (f := fun i => if hi i = g then 1 else 0) (fun i e => by simp [Z0o,e]) N,if_pos hu]
 simp only [Z0o,if_true]
 omega
end Go.Proofs.YtfkommjlmolniaaGreatDoor
end

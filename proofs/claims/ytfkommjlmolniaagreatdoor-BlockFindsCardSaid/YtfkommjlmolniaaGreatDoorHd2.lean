/- Joined: SumD, MayT, FarT, ReachT, BlockT, Plain, Bits, Pop. -/
import Derived.Test.YtfkommjlmolniaaGreatDoorRows
import Derived.Test.YtfkommjlmolniaaGreatDoorHd1
import Derived.WalkKit
import Derived.Lib.TrailingZeros
set_option linter.unusedVariables false
section

namespace Go.Proofs.YtfkommjlmolniaaGreatDoor
def sumD (f : Nat → Int) : Nat → Int
 | 0 => 0
 | n + 1 => sumD f n + f n
variable {f g : Nat → Int} {n u : Nat}
theorem Z0f : ∀ {n : Nat},(∀ i,i < n → f i = g i) → sumD f n = sumD g n
 | 0,_ => rfl
 | n + 1,h => by rw [sumD,sumD,Z0f (n := n) (fun i hi => h i (by omega)),h n (by omega)]
theorem Z44 : ∀ {n : Nat},(∀ i,i < n → f i ≤ g i) → sumD f n ≤ sumD g n
 | 0,_ => Int.le_refl _
 | n + 1,h => by have := Z44 (n := n) (fun i hi => h i (by omega)); have := h n (by omega); rw [sumD,sumD]; omega
theorem Z20 : ∀ {n : Nat},(∀ i,i < n → 0 ≤ f i) → 0 ≤ sumD f n
 | 0,_ => Int.le_refl _
 | n + 1,h => by have := Z20 (n := n) (fun i hi => h i (by omega)); have := h n (by omega); rw [sumD]; omega
theorem Z5m {c : Int} : ∀ {n : Nat},u < n → (∀ i,i < n → i ≠ u → f i = g i) → f u + c = g u → sumD f n + c = sumD g n
 | 0,h,_,_ => by omega
 | n + 1,h,h1,h2 => by
  rw [sumD,sumD]; by_cases e : u = n
  ·subst e
   rw [Z0f (f := f) (g := g) (fun i hi => h1 i (by omega) (by omega))]
   omega
  ·have := Z5m (n := n) (c := c) (by omega) (fun i hi hne => h1 i (by omega) hne) h2
   have := h1 n (by omega) (fun e2 => e e2.symm)
   omega
theorem Zg8 (n : Nat) : sumD (fun _ => 1) n = (n : Int) := by
 induction n with
 | zero => rfl
 | succ n ih => rw [sumD,ih]; omega
theorem Z3j (n : Nat) : sumD (fun _ => 0) n = 0 := by
 induction n with
 | zero => rfl
 | succ n ih => rw [sumD,ih]; omega
theorem Z1t {h : Nat → Int} : ∀ {n : Nat},(∀ i,i < n → h i = f i + g i) → sumD h n = sumD f n + sumD g n
 | 0,_ => rfl
 | n + 1,e => by rw [sumD,sumD,sumD,Z1t (n := n) (fun i hi => e i (by omega)),e n (by omega)]; omega
theorem Zjb : ∀ {n : Nat},u < n → (∀ i,i < n → f i ≤ g i) → f u + 1 ≤ g u → sumD f n + 1 ≤ sumD g n
 | 0,h,_,_ => by omega
 | n + 1,h,h1,h2 => by
  rw [sumD,sumD]; by_cases e : u = n
  ·subst e
   have := Z44 (f := f) (g := g) (n := u) (fun i hi => h1 i (by omega))
   omega
  ·have := Zjb (n := n) (by omega) (fun i hi => h1 i (by omega)) h2
   have := h1 n (by omega)
   omega
end Go.Proofs.YtfkommjlmolniaaGreatDoor
end
section

namespace Go.Proofs.YtfkommjlmolniaaGreatDoor
variable {x : Ins}
def rowG (i : Nat) (r : List Int) : Prop := ∀ (k : Nat) (v : Int),r[k]? = some v → elB i k v = true
structure May (x : Ins) : Prop where
 en : 0 ≤ x.en ∧ x.en ≤ 1000000000
 tm : 1 ≤ x.tm ∧ x.tm ≤ 60
 tr : 0 ≤ x.tr ∧ x.tr ≤ 1000000000
 bm : 1 ≤ x.bm ∧ x.bm ≤ 60
 br : 0 ≤ x.br ∧ x.br ≤ 1000000000
 ns : 1 ≤ x.sats.length ∧ x.sats.length ≤ 12
 nc : 1 ≤ x.cus.length ∧ x.cus.length ≤ 48
 sats : ∀ s ∈ x.sats,satB s = true
 cus : ∀ s ∈ x.cus,cusB s = true
 lc : x.cost.length = x.nodes
 lt : x.time.length = x.nodes
 cost : ∀ (k : Nat) (u : List Int),x.cost[k]? = some u → u.length = x.nodes ∧ rowG k u
 time : ∀ (k : Nat) (u : List Int),x.time[k]? = some u → u.length = x.nodes ∧ rowG k u
theorem Zi9 {N : Nat} {l : List (List Int)} (h : sqB N l = true) (hr : rowsB l = true) : l.length = N ∧ ∀ (k : Nat) (u : List Int),l[k]? = some u → u.length = N ∧ rowG k u := by
 simp only [sqB,Bool.and_eq_true,decide_eq_true_eq,Z0w] at h
 simp only [rowsB,Z0w] at hr
 refine ⟨h.1,fun k u hk => ?_⟩; have hl : k < l.length := (List.getElem?_eq_some_iff.1 hk).1; have hg : l.getD k [] = u := by simp [List.getD,hk]
 have h1 := h.2 k hl; have h2 := hr k hl; rw [hg] at h1 h2; refine ⟨by simpa [lenB] using h1,fun j v hj => ?_⟩
 simp only [rowB,Z0w] at h2
 have h3 := h2 j (List.getElem?_eq_some_iff.1 hj).1; rwa [show u.getD j 0 = v by simp [List.getD,hj]] at h3
theorem Zdm {α : Type} {l : List α} {p : α → Bool} {d : α} (h : allR l.length (fun i => p (l.getD i d)) = true) : ∀ x ∈ l,p x = true := by
 rw [Z0w] at h; intro x hx; obtain ⟨i,hi,e⟩ := List.getElem_of_mem hx; have := h i hi; rwa [show l.getD i d = x by simp [List.getD,List.getElem?_eq_getElem hi,e]] at this
theorem May.of_err (h : Z0m x = 0) : May x := by
 unfold Z0m at h; split at h
 ·rename_i hc
  split at h
  ·rename_i hs
   split at h
   ·rename_i hg
    simp only [Ins.count,Bool.and_eq_true,decide_eq_true_eq] at hc
    simp only [Ins.size,Bool.and_eq_true] at hs
    simp only [Ins.good,Bool.and_eq_true] at hg
    obtain ⟨⟨⟨⟨⟨⟨g1,g2⟩,g3⟩,g4⟩,g5⟩,g6⟩,g7⟩ := hg; obtain ⟨k1,k2⟩ := Zi9 hs.1 g1; obtain ⟨k3,k4⟩ := Zi9 hs.2 g2; simp [inB_] at g3 g4 g5
    exact ⟨g3,hc.1.1.1,g4,hc.1.1.2,g5,hc.1.2,hc.2,Zdm g6,Zdm g7,k1,k3,k2,k4⟩
   ·cases h
  ·cases h
 ·cases h
theorem Z29 (h : May x) : x.nodes ≤ 61 := by
 have := h.ns; have := h.nc; unfold Ins.nodes; omega
theorem May.err (h : May x) : Z0m x = 0 := by
 have rows : ∀ {L : List (List Int)},L.length = x.nodes → (∀ (k : Nat) (u : List Int),L[k]? = some u → u.length = x.nodes ∧ rowG k u) → sqB x.nodes L = true ∧ rowsB L = true := fun {L} hl hr => by
  constructor
  ·simp only [sqB,Bool.and_eq_true,decide_eq_true_eq,Z0w]
   refine ⟨hl,fun i hi => ?_⟩; have := (hr i L[i] (List.getElem?_eq_getElem hi)).1; simp [lenB,List.getD,List.getElem?_eq_getElem hi,this]
  ·simp only [rowsB,Z0w]
   intro i hi; have h2 := (hr i L[i] (List.getElem?_eq_getElem hi)).2; simp only [rowB,Z0w]
   intro k hk; have e : L.getD i [] = L[i] := by simp [List.getD,List.getElem?_eq_getElem hi]
   rw [e] at hk ⊢; have := h2 k (L[i][k]) (List.getElem?_eq_getElem hk); simpa [List.getD,List.getElem?_eq_getElem hk] using this
 have h1 : x.count = true := by
  simp only [Ins.count,Bool.and_eq_true,decide_eq_true_eq]
  exact ⟨⟨⟨h.tm,h.bm⟩,h.ns⟩,h.nc⟩
 have r1 := rows h.lc h.cost; have r2 := rows h.lt h.time; have h2 : x.size = true := by
  simp only [Ins.size,Bool.and_eq_true]
  exact ⟨r1.1,r2.1⟩
 have h3 : x.good = true := by
  simp only [Ins.good,Bool.and_eq_true,Z0w]
  refine ⟨⟨⟨⟨⟨⟨r1.2,r2.2⟩,?_⟩,?_⟩,?_⟩,fun i hi => ?_⟩,fun i hi => ?_⟩
  ·have := h.en; simp [inB_]; omega
  ·have := h.tr; simp [inB_]; omega
  ·have := h.br; simp [inB_]; omega
  ·have := h.sats x.sats[i] (List.getElem_mem hi)
   simpa [List.getD,List.getElem?_eq_getElem hi] using this
  ·have := h.cus x.cus[i] (List.getElem_mem hi)
   simpa [List.getD,List.getElem?_eq_getElem hi] using this
 simp [Z0m,h1,h2,h3]
end Go.Proofs.YtfkommjlmolniaaGreatDoor
end
section

namespace Go.Proofs.YtfkommjlmolniaaGreatDoor
inductive WayF (W : Nat → Nat → Option Int) (s : Nat) : Nat → Nat → Int → Prop
 | nil : WayF W s s 0 0
 | snoc {i j k : Nat} {d c : Int} (h : WayF W s i k d) (hx : W i j = some c) : WayF W s j (k + 1) (d + c)
variable {W W2 : Nat → Nat → Option Int} {s i j k m N r : Nat} {d e c : Int}
theorem WayF.turn (h : WayF W s i k d) (hk : k = m) (hd : d = e) : WayF W s i m e := by subst hk hd; exact h
theorem WayF.append (h : WayF W s i k d) (h2 : WayF W i j m e) : WayF W s j (k + m) (d + e) := by
 induction h2 with
 | nil => exact h.turn (by omega) (by omega)
 | snoc _ hx ih => exact (ih.snoc hx).turn (by omega) (by omega)
theorem WayF.one (hx : W i j = some c) : WayF W i j 1 c := (WayF.nil.snoc hx).turn (by omega) (by omega)
theorem WayF.back (hW : ∀ i j c,W i j = some c → W2 j i = some c) (h : WayF W s i k d) : WayF W2 i s k d := by
 induction h with
 | nil => exact .nil
 | snoc _ hx ih => exact ((WayF.one (hW _ _ _ hx)).append ih).turn (by omega) (by omega)
structure GoodW_ (W : Nat → Nat → Option Int) (N : Nat) : Prop where
 lt : ∀ i j c,W i j = some c → i < N ∧ j < N
 pos : ∀ i j c,W i j = some c → 0 ≤ c
theorem WayF.pos (hW : GoodW_ W N) (h : WayF W s i k d) : 0 ≤ d := by
 induction h with
 | nil => omega
 | snoc _ hx ih => have := hW.pos _ _ _ hx; omega
theorem WayF.lt (hW : GoodW_ W N) (hs : s < N) (h : WayF W s i k d) : i < N := by
 cases h with
 | nil => exact hs
 | snoc _ hx => exact (hW.lt _ _ _ hx).2
theorem Zhl : ∀ (n : Nat) (f : Nat → Nat),(∀ t,t ≤ n → f t < n) → ∃ a b,a < b ∧ b ≤ n ∧ f a = f b
 | 0,f,h => absurd (h 0 (Nat.le_refl 0)) (by omega)
 | n + 1,f,h => by
  by_cases hex : ∃ a,a ≤ n ∧ f a = f (n + 1)
  ·obtain ⟨a,ha,he⟩ := hex
   exact ⟨a,n + 1,by omega,Nat.le_refl _,he⟩
  ·have hne : ∀ a,a ≤ n → f a ≠ f (n + 1) := fun a ha he => hex ⟨a,ha,he⟩
   have hv := h (n + 1) (Nat.le_refl _); obtain ⟨a,b,hab,hb,he⟩ := Zhl n (fun t => if f t = n then f (n + 1) else f t) (fun t ht => by
    have h1 := h t (by omega)
    have h2 := hne t ht; by_cases e : f t = n
    ·simp only [e,if_true]; omega
    ·simp only [e,if_false]; omega)
   refine ⟨a,b,hab,by omega,?_⟩
   have h1 := hne a (by omega)
   have h2 := hne b hb; by_cases e1 : f a = n
   ·by_cases e2 : f b = n
    ·rw [e1,e2]
    ·simp only [e1,e2,if_true,if_false] at he
     exact absurd he.symm h2
   ·by_cases e2 : f b = n
    ·simp only [e1,e2,if_true,if_false] at he
     exact absurd he h1
    ·simp only [e1,e2,if_false] at he
     exact he
theorem WayF.trace (h : WayF W s i k d) : ∃ (v : Nat → Nat) (D : Nat → Int),v 0 = s ∧ v k = i ∧ D 0 = 0 ∧ D k = d ∧ ∀ a b,a ≤ b → b ≤ k → WayF W (v a) (v b) (b - a) (D b - D a) := by
 induction h with
 | nil => exact ⟨fun _ => s,fun _ => 0,rfl,rfl,rfl,rfl,fun a b h1 h2 => WayF.nil.turn (by omega) (by simp)⟩
 | snoc h hx ih =>
  rename_i i j k d c
  obtain ⟨v,D,v0,vk,D0,Dk,hw⟩ := ih; refine ⟨fun t => if t = k + 1 then j else v t,fun t => if t = k + 1 then d + c else D t,?_,?_,?_,?_,fun a b h1 h2 => ?_⟩
  ·simp [v0]
  ·simp
  ·simp [D0]
  ·simp
  ·by_cases hb : b = k + 1
   ·subst hb
    by_cases ha : a = k + 1
    ·subst ha
     exact WayF.nil.turn (by omega) (by simp)
    ·have h3 := hw a k (by omega) (Nat.le_refl _)
     rw [vk,Dk] at h3; simp only [ha,if_false,if_true]
     exact (h3.snoc hx).turn (by omega) (by omega)
   ·have ha : ¬ a = k + 1 := by omega
    simp only [ha,hb,if_false]
    exact hw a b h1 (by omega)
theorem WayF.short (hW : GoodW_ W N) (hs : s < N) : ∀ (k : Nat) {i : Nat} {d : Int},WayF W s i k d → ∃ k' d',k' < N ∧ d' ≤ d ∧ WayF W s i k' d' := by
 intro k; induction k using Nat.strongRecOn with
 | _ k ih =>
  intro i d h; by_cases hk : k < N
  ·exact ⟨k,d,hk,Int.le_refl _,h⟩
  ·obtain ⟨v,D,v0,vk,D0,Dk,hw⟩ := h.trace
   have hin : ∀ t,t ≤ N → v t < N := fun t ht => by
    have := hw 0 t (by omega) (by omega)
    rw [v0] at this; exact this.lt hW hs
   obtain ⟨a,b,hab,hb,he⟩ := Zhl N v hin; have w1 := hw 0 a (by omega) (by omega)
   have w2 := hw a b (by omega) (by omega)
   have w3 := hw b k (by omega) (by omega)
   rw [v0] at w1; rw [← he] at w3; rw [vk] at w3; have hc := w2.pos hW; obtain ⟨k',d',h1,h2,h3⟩ := ih (a - 0 + (k - b)) (by omega) (w1.append w3)
   exact ⟨k',d',h1,by omega,h3⟩
def LeastW (W : Nat → Nat → Option Int) (s i : Nat) (d : Int) : Prop := (∃ k,WayF W s i k d) ∧ ∀ k c,WayF W s i k c → d ≤ c
theorem LeastW.unique (h : LeastW W s i d) (h2 : LeastW W s i e) : d = e := by
 obtain ⟨k,hw⟩ := h.1; obtain ⟨k2,hw2⟩ := h2.1; have := h.2 _ _ hw2; have := h2.2 _ _ hw; omega
theorem LeastW.back (hW : ∀ i j c,W i j = some c ↔ W2 j i = some c) (h : LeastW W s i d) : LeastW W2 i s d := by
 obtain ⟨⟨k,hw⟩,h2⟩ := h; exact ⟨⟨k,hw.back fun i j c hc => (hW i j c).1 hc⟩,fun k c hw => h2 k c (hw.back fun i j c hc => (hW j i c).2 hc)⟩
/-! ### Arcs between the nodes that are let through,with what one stays where they begin -/
def arcW (T : Nat → Nat → Int) (S : Nat → Int) (M : Nat → Bool) (N : Nat) (i k : Nat) : Option Int := if i < N ∧ k < N ∧ i ≠ k ∧ M i = true ∧ M k = true then some (S i + T i k) else none
variable {T D D2 : Nat → Nat → Int} {S : Nat → Int} {M : Nat → Bool} {dn dn2 : Nat → Nat → Nat → Prop}
theorem arcW_some : arcW T S M N i k = some c ↔ (i < N ∧ k < N ∧ i ≠ k ∧ M i = true ∧ M k = true) ∧ c = S i + T i k := by
 unfold arcW; split
 ·rename_i h
  exact ⟨fun e => ⟨h,by injection e with e; exact e.symm⟩,fun e => by rw [e.2]⟩
 ·rename_i h
  exact ⟨fun e => (by cases e),fun e => absurd e.1 h⟩
theorem Z2f (hT : ∀ i k,i < N → k < N → 0 ≤ T i k) (hS : ∀ i,i < N → 0 ≤ S i) : GoodW_ (arcW T S M N) N :=
 ⟨fun i j c h => ⟨(arcW_some.1 h).1.1,(arcW_some.1 h).1.2.1⟩,fun i j c h => by
  obtain ⟨⟨h1,h2,_⟩,rfl⟩ := arcW_some.1 h; have := hT i j h1 h2; have := hS i h1; omega⟩
structure Sweep (T : Nat → Nat → Int) (S : Nat → Int) (M : Nat → Bool) (N : Nat) (D : Nat → Nat → Int) (r : Nat) (dn : Nat → Nat → Nat → Prop) : Prop where
 att : ∀ i k,i < N → k < N → M i = true → M k = true → i ≠ k → ∃ m,WayF (arcW T S M N) i k m (D i k + S i)
 le : ∀ i k,i < N → k < N → M i = true → M k = true → i ≠ k → D i k ≤ T i k
 diag : ∀ i,i < N → M i = true → D i i = 0
 low : ∀ i k m c,i ≠ k → m ≤ r + 1 → WayF (arcW T S M N) i k m c → D i k + S i ≤ c
 done : ∀ i k j,dn i k j → i ≠ j → i ≠ k → ∀ m c e,m ≤ r + 1 → WayF (arcW T S M N) i j m c → arcW T S M N j k = some e → D i k + S i ≤ c + e
theorem Zm9 (h : WayF (arcW T S M N) i k m c) (hne : i ≠ k) : i < N ∧ k < N ∧ M i = true ∧ M k = true := by
 have h1 : ∀ {k m c},WayF (arcW T S M N) i k m c → k = i ∨ (i < N ∧ M i = true) := fun h => by
  induction h with
  | nil => exact .inl rfl
  | snoc _ hx ih =>
   obtain ⟨⟨a1,a2,a3,a4,a5⟩,_⟩ := arcW_some.1 hx; rcases ih with rfl | ih
   ·exact .inr ⟨a1,a4⟩
   ·exact .inr ih
 have h2 := h1 h; cases h with
 | nil => exact absurd rfl hne
 | snoc _ hx =>
  obtain ⟨⟨a1,a2,a3,a4,a5⟩,_⟩ := arcW_some.1 hx; rcases h2 with e | ⟨b1,b2⟩
  ·exact absurd e.symm hne
  ·exact ⟨b1,a2,b2,a5⟩
theorem Sweep.begin_ (h0 : ∀ i,i < N → M i = true → D i i = 0) (h1 : ∀ i k,i < N → k < N → M i = true → M k = true → i ≠ k → D i k = T i k) : Sweep T S M N D 0 (fun _ _ _ => False) where
 att i k hi hk mi mk hne := ⟨1,(WayF.one (arcW_some.2 ⟨⟨hi,hk,hne,mi,mk⟩,rfl⟩)).turn rfl (by rw [h1 i k hi hk mi mk hne]; omega)⟩
 le i k hi hk mi mk hne := by rw [h1 i k hi hk mi mk hne]; exact Int.le_refl _
 diag := h0
 low i k m c hne hm h := by
  cases h with
  | nil => exact absurd rfl hne
  | snoc h2 hx =>
   obtain ⟨⟨a1,a2,a3,a4,a5⟩,rfl⟩ := arcW_some.1 hx; cases h2 with
   | nil => rw [h1 _ _ a1 a2 a4 a5 hne]; omega
   | snoc _ _ => omega
 done i k j h := absurd h id
def putD (D : Nat → Nat → Int) (i k : Nat) (z : Int) : Nat → Nat → Int := fun i2 k2 => if i2 = i ∧ k2 = k then z else D i2 k2
theorem Zhm (hT : ∀ i k,i < N → k < N → 0 ≤ T i k) (hS : ∀ i,i < N → 0 ≤ S i) (h : WayF (arcW T S M N) i k m c) : (m = 0 ∧ k = i ∧ c = 0) ∨ S i ≤ c := by
 induction h with
 | nil => exact .inl ⟨rfl,rfl,rfl⟩
 | snoc _ hx ih =>
  obtain ⟨⟨a1,a2,a3,a4,a5⟩,rfl⟩ := arcW_some.1 hx; have h1 := hT _ _ a1 a2; have h2 := hS _ a1; rcases ih with ⟨_,rfl,rfl⟩ | h3
  ·right; omega
  ·right; omega
theorem Sweep.pos (h : Sweep T S M N D r dn) (hT : ∀ i k,i < N → k < N → 0 ≤ T i k) (hS : ∀ i,i < N → 0 ≤ S i) (hi : i < N) (hk : k < N) (mi : M i = true) (mk : M k = true) : 0 ≤ D i k := by
 by_cases e : i = k
 ·subst e; rw [h.diag i hi mi]; omega
 ·obtain ⟨m,hw⟩ := h.att i k hi hk mi mk e
  rcases Zhm hT hS hw with ⟨_,e2,_⟩ | h2
  ·exact absurd e2.symm e
  ·omega
theorem Sweep.step (h : Sweep T S M N D r dn) (hT : ∀ i k,i < N → k < N → 0 ≤ T i k) (hS : ∀ i,i < N → 0 ≤ S i) (hi : i < N) (hj : j < N) (hk : k < N) (mi : M i = true) (mj : M j = true) (mk : M k = true) (hij : i ≠ j) (hjk : j ≠ k) (z : Int) (hz : z = min (D i k) (D i j + S j + D j k)) :
  Sweep T S M N (putD D i k z) r (fun a b c => dn a b c ∨ (a = i ∧ b = k ∧ c = j)) := by
 have p1 := h.pos hT hS hi hj mi mj; have p2 := h.pos hT hS hj hk mj mk; have p3 := hS j hj; have hle : ∀ a b,putD D i k z a b ≤ D a b := fun a b => by
  unfold putD; split
  ·rename_i e; rw [e.1,e.2]; omega
  ·exact Int.le_refl _
 refine ⟨fun a b ha hb ma mb hne => ?_,fun a b ha hb ma mb hne => Int.le_trans (hle a b) (h.le a b ha hb ma mb hne),fun a ha ma => ?_,fun a b m c hne hm hw => ?_,fun a b q hd hne hne2 m c e hm hw hx => ?_⟩
 ·unfold putD
  split
  ·rename_i e
   obtain ⟨rfl,rfl⟩ := e; by_cases hlt : D a b ≤ D a j + S j + D j b
   ·obtain ⟨m,hw⟩ := h.att a b ha hb ma mb hne
    exact ⟨m,hw.turn rfl (by omega)⟩
   ·obtain ⟨m1,w1⟩ := h.att a j ha hj ma mj hij
    obtain ⟨m2,w2⟩ := h.att j b hj hb mj mb hjk; exact ⟨m1 + m2,(w1.append w2).turn rfl (by omega)⟩
  ·exact h.att a b ha hb ma mb hne
 ·unfold putD
  split
  ·rename_i e
   obtain ⟨rfl,rfl⟩ := e; have := h.diag a ha ma; omega
  ·exact h.diag a ha ma
 ·have := h.low a b m c hne hm hw
  have := hle a b; omega
 ·rcases hd with hd | ⟨rfl,rfl,rfl⟩
  ·have := h.done a b q hd hne hne2 m c e hm hw hx
   have := hle a b; omega
  ·have h1 := h.low a q m c hne hm hw
   have h2 := h.le q b hj hk mj mk hjk; obtain ⟨_,rfl⟩ := arcW_some.1 hx; unfold putD; rw [if_pos ⟨rfl,rfl⟩]; omega
theorem Sweep.skip (h : Sweep T S M N D r dn) (hc : ¬ (i ≠ j ∧ j ≠ k ∧ M j = true ∧ M i = true ∧ M k = true)) :
  Sweep T S M N D r (fun a b c => dn a b c ∨ (a = i ∧ b = k ∧ c = j)) :=
 ⟨h.att,h.le,h.diag,h.low,fun a b q hd hne hne2 m c e hm hw hx => by
  rcases hd with hd | ⟨rfl,rfl,rfl⟩
  ·exact h.done a b q hd hne hne2 m c e hm hw hx
  ·obtain ⟨⟨_,_,a3,a4,a5⟩,_⟩ := arcW_some.1 hx
   exact absurd ⟨hne,a3,a4,(Zm9 hw hne).2.2.1,a5⟩ hc⟩
theorem Sweep.sub (h : Sweep T S M N D r dn) (hd : ∀ i k j,dn2 i k j → dn i k j) : Sweep T S M N D r dn2 := ⟨h.att,h.le,h.diag,h.low,fun a b q hq => h.done a b q (hd a b q hq)⟩
theorem Sweep.next (h : Sweep T S M N D r dn) (hT : ∀ i k,i < N → k < N → 0 ≤ T i k) (hS : ∀ i,i < N → 0 ≤ S i) (hall : ∀ i k j,i < N → k < N → j < N → dn i k j) : Sweep T S M N D (r + 1) (fun _ _ _ => False) :=
 ⟨h.att,h.le,h.diag,fun i k m c hne hm hw => by
  obtain ⟨hi,hk,mi,mk⟩ := Zm9 hw hne; cases hw with
  | nil => exact absurd rfl hne
  | snoc w0 hx =>
   rename_i j m0 c0 e
   by_cases hij : i = j
   ·subst hij
    have h0 := w0.pos (Z2f hT hS); have h1 := h.le i k hi hk mi mk hne; obtain ⟨_,rfl⟩ := arcW_some.1 hx; omega
   ·exact h.done i k j (hall i k j hi hk (arcW_some.1 hx).1.1) hij hne _ _ _ (by omega) w0 hx,fun _ _ _ h => absurd h id⟩
theorem Sweep.least (h : Sweep T S M N D r dn) (hT : ∀ i k,i < N → k < N → 0 ≤ T i k) (hS : ∀ i,i < N → 0 ≤ S i) (hr : N ≤ r + 2) (hi : i < N) (hk : k < N) (mi : M i = true) (mk : M k = true) (hne : i ≠ k) : LeastW (arcW T S M N) i k (D i k + S i) :=
 ⟨h.att i k hi hk mi mk hne,fun m c hw => by
  obtain ⟨m2,c2,h1,h2,hw2⟩ := hw.short (Z2f hT hS) hi; have := h.low i k m2 c2 hne (by omega) hw2
  omega⟩
end Go.Proofs.YtfkommjlmolniaaGreatDoor
end
section

namespace Go.Proofs.YtfkommjlmolniaaGreatDoor
variable {x : Ins} {s c i k N : Nat}
def tmI (x : Ins) (i k : Nat) : Int := (x.time.getD i []).getD k 0
def styI (x : Ins) (i : Nat) : Int := if i < 1 + x.sats.length then 0 else (x.cus.getD (i - (1 + x.sats.length)) (0,0,0,0)).2.2.2
def inS (x : Ins) (i : Nat) : Bool := decide (i < 1 + x.sats.length)
def inC (x : Ins) (s i : Nat) : Bool := decide (i = 1 + s) || decide (1 + x.sats.length ≤ i)
def arcS (x : Ins) : Nat → Nat → Option Int := arcW (tmI x) (fun _ => 0) (inS x) x.nodes
def arcC (x : Ins) (s : Nat) : Nat → Nat → Option Int := arcW (tmI x) (styI x) (inC x s) x.nodes
def ReadyOf (x : Ins) (l : List Int) : Prop := l.length = x.sats.length ∧ ∀ s,s < x.sats.length → ∃ d,LeastW (arcS x) 0 (1 + s) d ∧ l[s]? = some (d + (x.sats.getD s (0,0)).2)
def OutOf (x : Ins) (s : Nat) (l : List Int) : Prop := l.length = x.cus.length ∧ ∀ c,c < x.cus.length → ∃ d,LeastW (arcC x s) (1 + s) (1 + x.sats.length + c) d ∧ l[c]? = some d
def BackOf (x : Ins) (s : Nat) (l : List Int) : Prop := l.length = x.cus.length ∧ ∀ c,c < x.cus.length → ∃ d,LeastW (arcC x s) (1 + x.sats.length + c) (1 + s) d ∧ l[c]? = some d
theorem Z4j {l m : List Int} {n : Nat} (h1 : l.length = n) (h2 : m.length = n) (h : ∀ k,k < n → l[k]? = m[k]?) : l = m := by
 apply List.ext_getElem?
 intro k; by_cases hk : k < n
 ·exact h k hk
 ·rw [List.getElem?_eq_none (by omega),List.getElem?_eq_none (by omega)]
theorem ReadyOf.unique {l m : List Int} (h : ReadyOf x l) (h2 : ReadyOf x m) : l = m := Z4j h.1 h2.1 fun k hk => by
 obtain ⟨d,h3,h4⟩ := h.2 k hk; obtain ⟨e,h5,h6⟩ := h2.2 k hk; rw [h4,h6,h3.unique h5]
theorem OutOf.unique {l m : List Int} (h : OutOf x s l) (h2 : OutOf x s m) : l = m := Z4j h.1 h2.1 fun k hk => by
 obtain ⟨d,h3,h4⟩ := h.2 k hk; obtain ⟨e,h5,h6⟩ := h2.2 k hk; rw [h4,h6,h3.unique h5]
theorem BackOf.unique {l m : List Int} (h : BackOf x s l) (h2 : BackOf x s m) : l = m := Z4j h.1 h2.1 fun k hk => by
 obtain ⟨d,h3,h4⟩ := h.2 k hk; obtain ⟨e,h5,h6⟩ := h2.2 k hk; rw [h4,h6,h3.unique h5]
theorem May.tm_in (h : May x) (hi : i < x.nodes) (hk : k < x.nodes) : 0 ≤ tmI x i k ∧ tmI x i k ≤ 1000000000 := by
 unfold tmI; have hl : i < x.time.length := by rw [h.lt]; exact hi
 obtain ⟨h1,h2⟩ := h.time i x.time[i] (List.getElem?_eq_getElem hl); have hk2 : k < x.time[i].length := by rw [h1]; exact hk
 have h3 := h2 k x.time[i][k] (List.getElem?_eq_getElem hk2); simp [elB,inB_] at h3
 simp only [List.getD,List.getElem?_eq_getElem hl,Option.getD_some,List.getElem?_eq_getElem hk2]
 omega
theorem May.sty_in (h : May x) (hi : i < x.nodes) : 0 ≤ styI x i ∧ styI x i ≤ 1000000000 := by
 unfold styI; split
 ·omega
 ·rename_i hn
  unfold Ins.nodes at hi; have hl : i - (1 + x.sats.length) < x.cus.length := by omega
  have h1 := h.cus x.cus[i - (1 + x.sats.length)] (List.getElem_mem hl); simp [cusB,inB_] at h1
  simp only [List.getD,List.getElem?_eq_getElem hl,Option.getD_some]
  omega
theorem May.hold_in (h : May x) {p : Int × Int} (hs : x.sats[s]? = some p) : 0 ≤ p.2 ∧ p.2 ≤ 1000000000 := by
 have h1 := h.sats p (List.mem_of_getElem? hs); simp [satB,inB_] at h1
 omega
theorem May.time_rows (h : May x) : x.time = (List.range x.nodes).map (fun i => (List.range x.nodes).map (tmI x i)) := by
 apply List.ext_getElem?
 intro i; by_cases hi : i < x.nodes
 ·have hl : i < x.time.length := by rw [h.lt]; exact hi
  have h1 := (h.time i x.time[i] (List.getElem?_eq_getElem hl)).1; rw [List.getElem?_eq_getElem hl]; simp only [List.getElem?_map,List.getElem?_range hi,Option.map_some]
  congr 1
  apply List.ext_getElem?
  intro k; by_cases hk : k < x.nodes
  ·have hk2 : k < x.time[i].length := by rw [h1]; exact hk
   simp only [List.getElem?_map,List.getElem?_range hk,Option.map_some,List.getElem?_eq_getElem hk2,tmI,List.getD,List.getElem?_eq_getElem hl,Option.getD_some]
  ·rw [List.getElem?_eq_none (by omega),List.getElem?_eq_none (by simp; omega)]
 ·rw [List.getElem?_eq_none (by rw [h.lt]; omega),List.getElem?_eq_none (by simp; omega)]
def mayI (x : Ins) (ready out back : List Int) (s c : Nat) : Bool :=
 decide ((x.cus.getD c (0,0,0,0)).1 ≤ (x.sats.getD s (0,0)).1) && decide ((x.cus.getD c (0,0,0,0)).1 ≤ x.br) &&
 decide (max (ready.getD s 0 + out.getD c 0) (x.cus.getD c (0,0,0,0)).2.1 ≤ (x.cus.getD c (0,0,0,0)).2.2.1) &&
 decide (max (ready.getD s 0 + out.getD c 0) (x.cus.getD c (0,0,0,0)).2.1 + back.getD c 0 ≤ x.en)
def MayOf (x : Ins) (p : Nat → Nat → Bool) : Prop := ∃ rd : List Int,ReadyOf x rd ∧ ∀ s,s < x.sats.length → ∃ ou ba : List Int,OutOf x s ou ∧ BackOf x s ba ∧ ∀ c,c < x.cus.length → p s c = mayI x rd ou ba s c
theorem MayOf.unique {p q : Nat → Nat → Bool} (h : MayOf x p) (h2 : MayOf x q) (hs : s < x.sats.length) (hc : c < x.cus.length) : p s c = q s c := by
 obtain ⟨r1,a1,a2⟩ := h; obtain ⟨r2,c1,c2⟩ := h2; obtain ⟨o1,b1,e1,e2,e3⟩ := a2 s hs; obtain ⟨o2,b2,f1,f2,f3⟩ := c2 s hs; rw [e3 c hc,f3 c hc,a1.unique c1,e1.unique f1,e2.unique f2]
theorem LeastW.le_arc {W : Nat → Nat → Option Int} {d e : Int} (h : LeastW W i k d) (he : W i k = some e) : d ≤ e := h.2 _ _ (WayF.one he)
theorem OutOf.in_ {l : List Int} (hm : May x) (h : OutOf x s l) (hs : s < x.sats.length) {v : Int} {c : Nat} (hv : l[c]? = some v) : 0 ≤ v ∧ v ≤ 2000000000 := by
 have hc : c < x.cus.length := by have := (List.getElem?_eq_some_iff.1 hv).1; rw [h.1] at this; exact this
 obtain ⟨d,h1,h2⟩ := h.2 c hc; rw [hv] at h2; injection h2 with h2
 subst h2; have hn : x.nodes = 1 + x.sats.length + x.cus.length := rfl; have ha : arcC x s (1 + s) (1 + x.sats.length + c) = some (styI x (1 + s) + tmI x (1 + s) (1 + x.sats.length + c)) := arcW_some.2 ⟨⟨by omega,by omega,by omega,by simp [inC],by simp [inC]⟩,rfl⟩
 have h3 := h1.le_arc ha; have h4 := hm.tm_in (i := 1 + s) (k := 1 + x.sats.length + c) (by omega) (by omega)
 have h5 := hm.sty_in (i := 1 + s) (by omega)
 obtain ⟨m,hw⟩ := h1.1; have h6 := hw.pos (Z2f (fun i k hi hk => (hm.tm_in hi hk).1) (fun i hi => (hm.sty_in hi).1)); omega
theorem BackOf.in_ {l : List Int} (hm : May x) (h : BackOf x s l) (hs : s < x.sats.length) {v : Int} {c : Nat} (hv : l[c]? = some v) : 0 ≤ v ∧ v ≤ 2000000000 := by
 have hc : c < x.cus.length := by have := (List.getElem?_eq_some_iff.1 hv).1; rw [h.1] at this; exact this
 obtain ⟨d,h1,h2⟩ := h.2 c hc; rw [hv] at h2; injection h2 with h2
 subst h2; have hn : x.nodes = 1 + x.sats.length + x.cus.length := rfl; have ha : arcC x s (1 + x.sats.length + c) (1 + s) = some (styI x (1 + x.sats.length + c) + tmI x (1 + x.sats.length + c) (1 + s)) := arcW_some.2 ⟨⟨by omega,by omega,by omega,by simp [inC],by simp [inC]⟩,rfl⟩
 have h3 := h1.le_arc ha; have h4 := hm.tm_in (i := 1 + x.sats.length + c) (k := 1 + s) (by omega) (by omega)
 have h5 := hm.sty_in (i := 1 + x.sats.length + c) (by omega)
 obtain ⟨m,hw⟩ := h1.1; have h6 := hw.pos (Z2f (fun i k hi hk => (hm.tm_in hi hk).1) (fun i hi => (hm.sty_in hi).1)); omega
theorem ReadyOf.in_ {l : List Int} (hm : May x) (h : ReadyOf x l) {v : Int} {s : Nat} (hv : l[s]? = some v) : 0 ≤ v ∧ v ≤ 2000000000 := by
 have hs : s < x.sats.length := by have := (List.getElem?_eq_some_iff.1 hv).1; rw [h.1] at this; exact this
 obtain ⟨d,h1,h2⟩ := h.2 s hs; rw [hv] at h2; injection h2 with h2
 subst h2; have hn : x.nodes = 1 + x.sats.length + x.cus.length := rfl; have ha : arcS x 0 (1 + s) = some (0 + tmI x 0 (1 + s)) := arcW_some.2 ⟨⟨by omega,by omega,by omega,by simp [inS]; omega,by simp [inS]; omega⟩,rfl⟩
 have h3 := h1.le_arc ha; have h4 := hm.tm_in (i := 0) (k := 1 + s) (by omega) (by omega)
 have h5 := hm.hold_in (s := s) (List.getElem?_eq_getElem hs); obtain ⟨m,hw⟩ := h1.1; have h6 := hw.pos (Z2f (fun i k hi hk => (hm.tm_in hi hk).1) (fun i hi => Int.le_refl _)); simp only [List.getD,List.getElem?_eq_getElem hs,Option.getD_some]
 omega
end Go.Proofs.YtfkommjlmolniaaGreatDoor
end
section

namespace Go.Proofs.YtfkommjlmolniaaGreatDoor
variable {C S z y m n k who s c : Nat} {f f2 r r2 : Nat → Int} {p q : Nat → Nat → Bool} {x : Ins} {cn cn2 : Nat → Int} {l l2 : List Int}
/-! ### Sets of customers,by their bits -/
def sumZ (C : Nat) (f : Nat → Int) (z : Nat) : Int := sumD (fun c => if z.testBit c = true then f c else 0) C
def sizeZ (C z : Nat) : Int := sumD (fun c => if z.testBit c = true then 1 else 0) C
def Z0k (C : Nat) (P : Nat → Bool) (z : Nat) : Bool := (List.range C).any (fun c => P c && z.testBit c)
theorem touchZ_true {P : Nat → Bool} : Z0k C P z = true ↔ ∃ c,c < C ∧ P c = true ∧ z.testBit c = true := by
 unfold Z0k; rw [List.any_eq_true]; constructor
 ·rintro ⟨c,hc,h⟩
  rw [Bool.and_eq_true] at h; exact ⟨c,List.mem_range.1 hc,h⟩
 ·rintro ⟨c,hc,h⟩
  exact ⟨c,List.mem_range.2 hc,by rw [Bool.and_eq_true]; exact h⟩
theorem Z9w {P P2 : Nat → Bool} (h : ∀ c,c < C → P c = P2 c) : Z0k C P z = Z0k C P2 z := by
 apply Bool.eq_iff_iff.2
 rw [touchZ_true,touchZ_true]; constructor
 ·rintro ⟨c,hc,h1,h2⟩; exact ⟨c,hc,by rw [← h c hc]; exact h1,h2⟩
 ·rintro ⟨c,hc,h1,h2⟩; exact ⟨c,hc,by rw [h c hc]; exact h1,h2⟩
def Z0r (C S : Nat) (p : Nat → Nat → Bool) (f r : Nat → Int) (z : Nat) : Int := sumZ C f z - sumD (fun s => if Z0k C (p s) z = true then r s else 0) S
theorem Zbr : sumZ C f (z ||| y) + sumZ C f (z &&& y) = sumZ C f z + sumZ C f y := by
 unfold sumZ; rw [← Z1t (h := fun c => (if (z ||| y).testBit c = true then f c else 0) + (if (z &&& y).testBit c = true then f c else 0)) (fun _ _ => rfl),← Z1t (h := fun c => (if z.testBit c = true then f c else 0) + (if y.testBit c = true then f c else 0)) (fun _ _ => rfl)]
 refine Z0f (fun c _ => ?_); rw [Nat.testBit_or,Nat.testBit_and]; cases z.testBit c <;> cases y.testBit c <;> simp
theorem Z9x (hr : ∀ s,s < S → 0 ≤ r s) : Z0r C S p f r z + Z0r C S p f r y ≤ Z0r C S p f r (z ||| y) + Z0r C S p f r (z &&& y) := by
 unfold Z0r; have h1 := Zbr (C := C) (f := f) (z := z) (y := y); have h2 : sumD (fun s => if Z0k C (p s) (z ||| y) = true then r s else 0) S + sumD (fun s => if Z0k C (p s) (z &&& y) = true then r s else 0) S ≤ sumD (fun s => if Z0k C (p s) z = true then r s else 0) S + sumD (fun s => if Z0k C (p s) y = true then r s else 0) S := by
  rw [← Z1t (h := fun s => (if Z0k C (p s) (z ||| y) = true then r s else 0) + (if Z0k C (p s) (z &&& y) = true then r s else 0)) (fun _ _ => rfl),← Z1t (h := fun s => (if Z0k C (p s) z = true then r s else 0) + (if Z0k C (p s) y = true then r s else 0)) (fun _ _ => rfl)]
  refine Z44 (fun s hs => ?_); have h0 := hr s hs; have e1 : Z0k C (p s) (z ||| y) = true → Z0k C (p s) z = true ∨ Z0k C (p s) y = true := fun h => by
   obtain ⟨c,hc,h1,h2⟩ := touchZ_true.1 h; rw [Nat.testBit_or,Bool.or_eq_true] at h2; rcases h2 with h2 | h2
   ·exact .inl (touchZ_true.2 ⟨c,hc,h1,h2⟩)
   ·exact .inr (touchZ_true.2 ⟨c,hc,h1,h2⟩)
  have e2 : Z0k C (p s) (z &&& y) = true → Z0k C (p s) z = true ∧ Z0k C (p s) y = true := fun h => by
   obtain ⟨c,hc,h1,h2⟩ := touchZ_true.1 h; rw [Nat.testBit_and,Bool.and_eq_true] at h2; exact ⟨touchZ_true.2 ⟨c,hc,h1,h2.1⟩,touchZ_true.2 ⟨c,hc,h1,h2.2⟩⟩
  by_cases a1 : Z0k C (p s) (z ||| y) = true <;> by_cases a2 : Z0k C (p s) (z &&& y) = true <;> by_cases a3 : Z0k C (p s) z = true <;> by_cases a4 : Z0k C (p s) y = true <;> simp only [a1,a2,a3,a4,if_true] <;> first | omega | (exfalso; have := e1; have := e2; simp_all)
 omega
theorem Z9y : 0 ≤ sizeZ C z := Z20 (fun c _ => by split <;> decide)
theorem Z9z (h : ∀ c,c < C → m.testBit c = true → z.testBit c = true) (hs : sizeZ C z ≤ sizeZ C m) : ∀ c,c < C → z.testBit c = true → m.testBit c = true := fun c hc hz => by
 cases e : m.testBit c with
 | true => rfl
 | false =>
  have : sizeZ C m + 1 ≤ sizeZ C z := Zjb (u := c) hc (fun i hi => by
   by_cases e2 : m.testBit i = true
   ·rw [if_pos e2,if_pos (h i hi e2)]; exact Int.le_refl _
   ·rw [if_neg e2]; split <;> decide) (by rw [if_neg (by rw [e]; decide),if_pos hz]; decide)
  omega
theorem Z4q (h : z < 2 ^ C) (hc : C ≤ c) : z.testBit c = false := Nat.testBit_lt_two_pow (Nat.lt_of_lt_of_le h (Nat.pow_le_pow_right (by omega) hc))
structure IsBest (C : Nat) (d : Nat → Int) (z : Nat) : Prop where
 lt : z < 2 ^ C
 pos : 0 < d z
 most : ∀ y,y < 2 ^ C → d y ≤ d z
 few : ∀ y,y < 2 ^ C → d y = d z → sizeZ C z ≤ sizeZ C y
theorem IsBest.unique (hr : ∀ s,s < S → 0 ≤ r s) (h : IsBest C (Z0r C S p f r) z) (h2 : IsBest C (Z0r C S p f r) y) : z = y := by
 have hu : z ||| y < 2 ^ C := Nat.or_lt_two_pow h.lt h2.lt
 have hi : z &&& y < 2 ^ C := Nat.lt_of_le_of_lt Nat.and_le_left h.lt; have hs := Z9x (C := C) (p := p) (f := f) (z := z) (y := y) hr; have e1 := h.most _ h2.lt; have e2 := h2.most _ h.lt; have e3 := h.most _ hu; have e4 := h.most _ hi; have f1 := h.few _ hi (by omega)
 have f2 := h2.few _ hi (by omega)
 apply Nat.eq_of_testBit_eq
 intro c; by_cases hc : c < C
 ·apply Bool.eq_iff_iff.2
  constructor
  ·intro hz
   have := Z9z (m := z &&& y) (z := z) (fun c _ hm => by rw [Nat.testBit_and,Bool.and_eq_true] at hm; exact hm.1) f1 c hc hz
   rw [Nat.testBit_and,Bool.and_eq_true] at this; exact this.2
  ·intro hy
   have := Z9z (m := z &&& y) (z := y) (fun c _ hm => by rw [Nat.testBit_and,Bool.and_eq_true] at hm; exact hm.2) f2 c hc hy
   rw [Nat.testBit_and,Bool.and_eq_true] at this; exact this.1
 ·rw [Z4q h.lt (by omega),Z4q h2.lt (by omega)]
/-! ### Who fits -/
def ldI (x : Ins) (c : Nat) : Int := (x.cus.getD c (0,0,0,0)).1
def roomI (x : Ins) (s : Nat) : Int := (x.sats.getD s (0,0)).1
def SubZ (C : Nat) (P : Nat → Bool) (z : Nat) : Prop := ∀ c,c < C → z.testBit c = true → P c = true
structure CountOf (C : Nat) (P : Nat → Bool) (f : Nat → Int) (room n : Int) : Prop where
 some_ : ∃ z,SubZ C P z ∧ sumZ C f z ≤ room ∧ sizeZ C z = n
 most : ∀ z,SubZ C P z → sumZ C f z ≤ room → sizeZ C z ≤ n
theorem CountOf.unique {P : Nat → Bool} {room n n2 : Int} (h : CountOf C P f room n) (h2 : CountOf C P f room n2) : n = n2 := by
 obtain ⟨z,a1,a2,a3⟩ := h.some_; obtain ⟨y,b1,b2,b3⟩ := h2.some_; have := h.most y b1 b2; have := h2.most z a1 a2; omega
theorem CountOf.nonneg {P : Nat → Bool} {room n : Int} (h : CountOf C P f room n) : 0 ≤ n := by
 obtain ⟨z,_,_,a3⟩ := h.some_; rw [← a3]; exact Z9y
theorem CountOf.mono {P P2 : Nat → Bool} {room room2 n n2 : Int} (h : CountOf C P f room n) (h2 : CountOf C P2 f room2 n2) (hP : ∀ c,c < C → P c = true → P2 c = true) (hr : room ≤ room2) : n ≤ n2 := by
 obtain ⟨z,a1,a2,a3⟩ := h.some_; rw [← a3]; exact h2.most z (fun c hc hz => hP c hc (a1 c hc hz)) (by omega)
theorem CountOf.congr {P P2 : Nat → Bool} {room n : Int} (h : CountOf C P f room n) (hP : ∀ c,c < C → P c = P2 c) : CountOf C P2 f room n := by
 obtain ⟨z,a1,a2,a3⟩ := h.some_; exact ⟨⟨z,fun c hc hz => by rw [← hP c hc]; exact a1 c hc hz,a2,a3⟩,fun y hy hl => h.most y (fun c hc hz => by rw [hP c hc]; exact hy c hc hz) hl⟩
def CountsOf (x : Ins) (p : Nat → Nat → Bool) (l : List Int) : Prop := l.length = x.sats.length ∧ ∀ s,s < x.sats.length → ∃ n,CountOf x.cus.length (p s) (ldI x) (roomI x s) n ∧ l[s]? = some n
theorem CountsOf.unique (h : CountsOf x p l) (h2 : CountsOf x p l2) : l = l2 := Z4j h.1 h2.1 fun s hs => by
 obtain ⟨n,a1,a2⟩ := h.2 s hs; obtain ⟨n2,b1,b2⟩ := h2.2 s hs; rw [a2,b2,a1.unique b1]
theorem CountsOf.congr (h : CountsOf x p l) (hp : ∀ s c,s < x.sats.length → c < x.cus.length → p s c = q s c) : CountsOf x q l := ⟨h.1,fun s hs => by
 obtain ⟨n,a1,a2⟩ := h.2 s hs; exact ⟨n,a1.congr (fun c hc => hp s c hs hc),a2⟩⟩
def CountsX (x : Ins) (l : List Int) : Prop := ∃ p,MayOf x p ∧ CountsOf x p l
theorem CountsX.unique (h : CountsX x l) (h2 : CountsX x l2) : l = l2 := by
 obtain ⟨p,a1,a2⟩ := h; obtain ⟨q,b1,b2⟩ := h2; exact a2.unique (b2.congr fun s c hs hc => b1.unique a1 hs hc)
/-! ### Blocks -/
def Z27 (x : Ins) : Int := sumD (ldI x) x.cus.length
def BigB (x : Ins) (c : Nat) : Prop := c < x.cus.length ∧ x.br < ldI x c
def LateB (x : Ins) (p : Nat → Nat → Bool) (c : Nat) : Prop := c < x.cus.length ∧ ∀ s,s < x.sats.length → p s c = false
def Z17 (x : Ins) (p : Nat → Nat → Bool) : Nat → Int := Z0r x.cus.length x.sats.length p (ldI x) (roomI x)
def Z1q (x : Ins) (p : Nat → Nat → Bool) (l : List Int) : Nat → Int := Z0r x.cus.length x.sats.length p (fun _ => 1) (fun s => l.getD s 0)
def Z2e (C : Nat) (d : Nat → Int) : Prop := ∀ y,y < 2 ^ C → d y ≤ 0
def NoB (x : Ins) (p : Nat → Nat → Bool) (l : List Int) (k : Nat) : Prop :=
 (1 ≤ k → ∀ c,¬ BigB x c) ∧ (2 ≤ k → ∀ c,¬ LateB x p c) ∧ (3 ≤ k → ¬ x.tm * x.tr < Z27 x) ∧ (4 ≤ k → ¬ x.bm * x.br < Z27 x) ∧ (5 ≤ k → Z2e x.cus.length (Z17 x p)) ∧ (6 ≤ k → Z2e x.cus.length (Z1q x p l))
def FirstB (x : Ins) (p : Nat → Nat → Bool) (l : List Int) (k who z : Nat) : Prop :=
 (k = 1 ∧ z = 0 ∧ BigB x who ∧ ∀ c,c < who → ¬ BigB x c) ∨ (k = 2 ∧ z = 0 ∧ LateB x p who ∧ ∀ c,c < who → ¬ LateB x p c) ∨
 (k = 3 ∧ who = 0 ∧ z = 0 ∧ x.tm * x.tr < Z27 x) ∨ (k = 4 ∧ who = 0 ∧ z = 0 ∧ x.bm * x.br < Z27 x) ∨
 (k = 5 ∧ who = 0 ∧ IsBest x.cus.length (Z17 x p) z) ∨ (k = 6 ∧ who = 0 ∧ IsBest x.cus.length (Z1q x p l) z)
def FoundOf (x : Ins) (p : Nat → Nat → Bool) (l : List Int) (k who z : Nat) : Prop := (k = 0 ∧ who = 0 ∧ z = 0 ∧ NoB x p l 6) ∨ (FirstB x p l k who z ∧ NoB x p l (k - 1))
theorem NoB.less {k2 : Nat} (h : NoB x p l k) (hk : k2 ≤ k) : NoB x p l k2 := ⟨fun e => h.1 (by omega),fun e => h.2.1 (by omega),fun e => h.2.2.1 (by omega),fun e => h.2.2.2.1 (by omega),fun e => h.2.2.2.2.1 (by omega),fun e => h.2.2.2.2.2 (by omega)⟩
theorem FirstB.kind (h : FirstB x p l k who z) : 1 ≤ k ∧ k ≤ 6 := by
 rcases h with h | h | h | h | h | h <;> omega
theorem FirstB.not (h : FirstB x p l k who z) (h2 : NoB x p l k) : False := by
 rcases h with ⟨rfl,_,h,_⟩ | ⟨rfl,_,h,_⟩ | ⟨rfl,_,_,h⟩ | ⟨rfl,_,_,h⟩ | ⟨rfl,_,h⟩ | ⟨rfl,_,h⟩
 ·exact h2.1 (by omega) _ h
 ·exact h2.2.1 (by omega) _ h
 ·exact h2.2.2.1 (by omega) h
 ·exact h2.2.2.2.1 (by omega) h
 ·have := h2.2.2.2.2.1 (by omega) z h.lt
  have := h.pos; omega
 ·have := h2.2.2.2.2.2 (by omega) z h.lt
  have := h.pos; omega
theorem FoundOf.unique {k2 who2 z2 : Nat} (hr : ∀ s,s < x.sats.length → 0 ≤ roomI x s) (hc : ∀ s,s < x.sats.length → 0 ≤ l.getD s 0) (h : FoundOf x p l k who z) (h2 : FoundOf x p l k2 who2 z2) : k = k2 ∧ who = who2 ∧ z = z2 := by
 rcases h with ⟨rfl,rfl,rfl,hn⟩ | ⟨hf,hn⟩
 ·rcases h2 with ⟨rfl,rfl,rfl,_⟩ | ⟨hf2,_⟩
  ·exact ⟨rfl,rfl,rfl⟩
  ·exact absurd (hn.less (by have := hf2.kind; omega)) (fun e => hf2.not e)
 ·rcases h2 with ⟨rfl,rfl,rfl,hn2⟩ | ⟨hf2,hn2⟩
  ·exact absurd (hn2.less (by have := hf.kind; omega)) (fun e => hf.not e)
  ·have k1 := hf.kind
   have k3 := hf2.kind; have hk : k = k2 := by
    rcases Nat.lt_trichotomy k k2 with e | e | e
    ·exact absurd (hn2.less (k2 := k) (by omega)) (fun e => hf.not e)
    ·exact e
    ·exact absurd (hn.less (k2 := k2) (by omega)) (fun e => hf2.not e)
   subst hk; refine ⟨rfl,?_⟩; have least : ∀ {P : Nat → Prop} {a b : Nat},P a → (∀ c,c < a → ¬ P c) → P b → (∀ c,c < b → ¬ P c) → a = b := fun {P a b} h1 h2 h3 h4 => by
    rcases Nat.lt_trichotomy a b with e | e | e
    ·exact absurd h1 (h4 a e)
    ·exact e
    ·exact absurd h3 (h2 b e)
   rcases hf with ⟨e,a1,a2,a3⟩ | ⟨e,a1,a2,a3⟩ | ⟨e,a1,a2,a3⟩ | ⟨e,a1,a2,a3⟩ | ⟨e,a1,a2⟩ | ⟨e,a1,a2⟩ <;>
    rcases hf2 with ⟨e2,b1,b2,b3⟩ | ⟨e2,b1,b2,b3⟩ | ⟨e2,b1,b2,b3⟩ | ⟨e2,b1,b2,b3⟩ | ⟨e2,b1,b2⟩ | ⟨e2,b1,b2⟩ <;> first | omega | skip
   ·exact ⟨least a2 a3 b2 b3,by omega⟩
   ·exact ⟨least a2 a3 b2 b3,by omega⟩
   ·exact ⟨by omega,IsBest.unique hr a2 b2⟩
   ·exact ⟨by omega,IsBest.unique hc a2 b2⟩
theorem Z51 (hp : ∀ s c,s < S → c < C → p s c = q s c) : Z0r C S p f r z = Z0r C S q f r z := by
 unfold Z0r; rw [Z0f (f := fun s => if Z0k C (p s) z = true then r s else 0) (g := fun s => if Z0k C (q s) z = true then r s else 0) (fun s hs => by
  rw [Z9w (fun c hc => hp s c hs hc)])]
theorem FoundOf.congr (h : FoundOf x p l k who z) (hp : ∀ s c,s < x.sats.length → c < x.cus.length → p s c = q s c) : FoundOf x q l k who z := by
 have e1 : Z17 x p = Z17 x q := funext fun z => Z51 hp; have e2 : Z1q x p l = Z1q x q l := funext fun z => Z51 hp; have e3 : ∀ c,LateB x p c ↔ LateB x q c := fun c => ⟨fun ⟨h1,h2⟩ => ⟨h1,fun s hs => by rw [← hp s c hs h1]; exact h2 s hs⟩,fun ⟨h1,h2⟩ => ⟨h1,fun s hs => by rw [hp s c hs h1]; exact h2 s hs⟩⟩
 unfold FoundOf FirstB NoB at h ⊢; simp only [e1,e2,e3] at h
 exact h
def FoundX (x : Ins) (k who z : Nat) : Prop := ∃ p l,MayOf x p ∧ CountsOf x p l ∧ FoundOf x p l k who z
theorem May.rooms (h : May x) : ∀ s,s < x.sats.length → 0 ≤ roomI x s ∧ roomI x s ≤ 1000000000 := fun s hs => by
 have h1 := h.sats x.sats[s] (List.getElem_mem hs); simp [satB,inB_] at h1
 unfold roomI; rw [List.getD,List.getElem?_eq_getElem hs,Option.getD_some]; omega
theorem May.loads (h : May x) : ∀ c,c < x.cus.length → 1 ≤ ldI x c ∧ ldI x c ≤ 1000000000 := fun c hc => by
 have h1 := h.cus x.cus[c] (List.getElem_mem hc); simp [cusB,inB_] at h1
 unfold ldI; rw [List.getD,List.getElem?_eq_getElem hc,Option.getD_some]; omega
theorem CountsOf.pos (h : CountsOf x p l) : ∀ s,s < x.sats.length → 0 ≤ l.getD s 0 := fun s hs => by
 obtain ⟨n,a1,a2⟩ := h.2 s hs; rw [List.getD,a2,Option.getD_some]; exact a1.nonneg
theorem FoundX.unique {k2 who2 z2 : Nat} (hm : May x) (h : FoundX x k who z) (h2 : FoundX x k2 who2 z2) : k = k2 ∧ who = who2 ∧ z = z2 := by
 obtain ⟨p,l,a1,a2,a3⟩ := h; obtain ⟨q,l2,b1,b2,b3⟩ := h2; have hq : ∀ s c,s < x.sats.length → c < x.cus.length → q s c = p s c := fun s c hs hc => b1.unique a1 hs hc; have e := (b2.congr hq).unique a2; subst e; exact a3.unique (fun s hs => (hm.rooms s hs).1) a2.pos (b3.congr hq)
/-! ### With more room,and later -/
end Go.Proofs.YtfkommjlmolniaaGreatDoor
end
section

namespace Go.Proofs.YtfkommjlmolniaaGreatDoor
open Go.RowKit
def Fits (n : Int) : Prop := -9223372036854775808 ≤ n ∧ n ≤ 9223372036854775807
instance (n : Int) : Decidable (Fits n) := inferInstanceAs (Decidable (_ ∧ _))
theorem Z8s {k : IntKind} {a b : Int} (h : a = b) : Ending.returned (.int k a) = .returned (.int k b) := by rw [h]
/-! ### Products -/
end Go.Proofs.YtfkommjlmolniaaGreatDoor
end
section

namespace Go.Proofs.YtfkommjlmolniaaGreatDoor
open Go.RowKit
/-! ### Sets -/
def onlyN (n : Int) : Nat := if 0 ≤ n ∧ n < 64 then 2 ^ n.toNat else 0
def withN (s : Nat) (n : Int) : Nat := s ||| onlyN n
def lessN (a b : Nat) : Nat := a &&& (18446744073709551615 - b)
def Z1j (s : Nat) (n : Int) : Nat := lessN s (onlyN n)
def ofN (l : List Int) : Nat := l.foldl withN 0
theorem pow64 : (2 : Nat) ^ 64 = 18446744073709551616 := by decide
theorem Z2u (n : Int) : onlyN n < 18446744073709551616 := by
 unfold onlyN; split
 ·rw [← pow64]; exact Nat.pow_lt_pow_right (by omega) (by omega)
 ·omega
theorem Zd0 {s : Nat} (h : s < 18446744073709551616) (n : Int) : withN s n < 18446744073709551616 := by
 have h1 := Z2u n; rw [← pow64] at *; exact Nat.or_lt_two_pow h h1
theorem Zk6 {a : Nat} (h : a < 18446744073709551616) (b : Nat) : lessN a b < 18446744073709551616 := by
 unfold lessN; exact Nat.lt_of_le_of_lt Nat.and_le_left h
theorem Zbp {s : Nat} (h : s < 18446744073709551616) (n : Int) : Z1j s n < 18446744073709551616 := Zk6 h _
theorem Zm8 {a : Nat} (h : a < 18446744073709551616) (b : Nat) : a &&& b < 18446744073709551616 := Nat.lt_of_le_of_lt Nat.and_le_left h
theorem Zd1 (n : Int) (i : Nat) : (onlyN n).testBit i = decide (0 ≤ n ∧ n < 64 ∧ n.toNat = i) := by
 unfold onlyN; split
 ·rename_i h
  rw [Nat.testBit_two_pow]; simp [h]
 ·rename_i h
  rw [Nat.zero_testBit]; symm
  rw [decide_eq_false_iff_not]; omega
theorem Zd2 (s : Nat) (n : Int) (i : Nat) : (withN s n).testBit i = (s.testBit i || decide (0 ≤ n ∧ n < 64 ∧ n.toNat = i)) := by
 unfold withN; rw [Nat.testBit_or,Zd1]
theorem Zk7 (a b i : Nat) (hb : b < 18446744073709551616) (hi : i < 64) : (lessN a b).testBit i = (a.testBit i && !b.testBit i) := by
 unfold lessN; have e : 18446744073709551615 - b = 2 ^ 64 - (b + 1) := by rw [pow64]; omega
 rw [Nat.testBit_and,e,Nat.testBit_two_pow_sub_succ (by rw [pow64]; exact hb)]
 simp [hi]
theorem Z5v (s : Nat) (n : Int) (i : Nat) (hi : i < 64) : (Z1j s n).testBit i = (s.testBit i && !decide (0 ≤ n ∧ n < 64 ∧ n.toNat = i)) := by
 unfold Z1j; rw [Zk7 _ _ _ (Z2u n) hi,Zd1]
theorem Z5i {s : Nat} (h : s < 18446744073709551616) (i : Nat) (hi : 64 ≤ i) : s.testBit i = false := by
 apply Nat.testBit_lt_two_pow
 exact Nat.lt_of_lt_of_le (by rw [← pow64] at h; exact h) (Nat.pow_le_pow_right (by omega) hi)
theorem Zd3 {a b : Nat} (ha : a < 18446744073709551616) (hb : b < 18446744073709551616) (h : ∀ i,i < 64 → a.testBit i = b.testBit i) : a = b := by
 apply Nat.eq_of_testBit_eq
 intro i; by_cases hi : i < 64
 ·exact h i hi
 ·rw [Z5i ha i (by omega),Z5i hb i (by omega)]
/-! ### The set of some numbers -/
theorem Zk8 (l : List Int) (n : Int) : ofN (l ++ [n]) = withN (ofN l) n := by simp [ofN]
theorem Zh5 (l : List Int) : ofN l < 18446744073709551616 := by
 unfold ofN; have : ∀ (l : List Int) (s : Nat),s < 18446744073709551616 → l.foldl withN s < 18446744073709551616 := by
  intro l; induction l with
  | nil => intro s h; exact h
  | cons n l ih => intro s h; exact ih _ (Zd0 h n)
 exact this l 0 (by omega)
def inB (l : List Int) (i : Nat) : Bool := l.any fun n => decide (n = (i : Int))
theorem Zms (l : List Int) (i : Nat) (hi : i < 64) : (ofN l).testBit i = inB l i := by
 have : ∀ (l : List Int) (s : Nat),(l.foldl withN s).testBit i = (s.testBit i || inB l i) := by
  intro l; induction l with
  | nil => intro s; simp [inB]
  | cons n l ih =>
   intro s; rw [List.foldl_cons,ih,Zd2]; have e : decide (0 ≤ n ∧ n < 64 ∧ n.toNat = i) = decide (n = (i : Int)) := by
    rw [decide_eq_decide]; omega
   rw [e]; simp [inB,Bool.or_assoc]
 have h := this l 0; rw [Nat.zero_testBit,Bool.false_or] at h; exact h
end Go.Proofs.YtfkommjlmolniaaGreatDoor
end
section

namespace Go.Proofs.YtfkommjlmolniaaGreatDoor
/-! ### All numbers of a set -/
def allN (s : Nat) : List Nat := (List.range 64).filter s.testBit
theorem Z2k (s : Nat) : (allN s).length ≤ 64 := by
 have := List.length_filter_le s.testBit (List.range 64); simpa [allN] using this
theorem Zim : allN 0 = [] := by
 unfold allN; rw [List.filter_eq_nil_iff]; intro i _; simp
theorem Z2l (s i : Nat) : i ∈ allN s ↔ i < 64 ∧ s.testBit i = true := by simp [allN]
theorem Zin (s : Nat) (h0 : s ≠ 0) (hs : s < 18446744073709551616) : Lib.ctz 64 s < 64 ∧ s.testBit (Lib.ctz 64 s) = true ∧ ∀ i,i < Lib.ctz 64 s → s.testBit i = false := by
 obtain ⟨m,hm,hk⟩ := Lib.ctzFrom_spec 64 s (by omega) (by rw [pow64]; exact hs)
 have e : Lib.ctz 64 s = Lib.ctzFrom 64 s := by simp [Lib.ctz,h0]
 rw [e]; generalize Lib.ctzFrom 64 s = k at hm hk; refine ⟨hk,?_,fun i hi => ?_⟩
 ·rw [hm,Nat.testBit_two_pow_mul]
  simp
 ·rw [hm,Nat.testBit_two_pow_mul]
  simp; omega
theorem Zca (n k : Nat) (h : n < k) : List.range k = List.range n ++ n :: (List.range' (n + 1) (k - n - 1)) := by
 rw [List.range_eq_range',List.range_eq_range',← List.range'_succ]; have : k = n + (k - n - 1 + 1) := by omega
 conv => lhs; rw [this]
 rw [← List.range'_append_1]; simp
theorem Zio (s : Nat) (h0 : s ≠ 0) (hs : s < 18446744073709551616) : allN s = Lib.ctz 64 s :: allN (Z1j s (Lib.ctz 64 s : Nat)) := by
 obtain ⟨hk,h1,h2⟩ := Zin s h0 hs; generalize Lib.ctz 64 s = n at hk h1 h2; have hw : ∀ i,i < 64 → (Z1j s (n : Int)).testBit i = (s.testBit i && !decide (n = i)) := fun i hi => by
  rw [Z5v _ _ _ hi]; congr 2
  rw [decide_eq_decide]; omega
 unfold allN; rw [Zca n 64 hk,List.filter_append,List.filter_append,List.filter_cons,List.filter_cons,h1,hw n hk]; have e1 : (List.range n).filter s.testBit = [] := by
  rw [List.filter_eq_nil_iff]; intro i hi; rw [h2 i (by simpa using hi)]; simp
 have e2 : (List.range n).filter (Z1j s (n : Int)).testBit = [] := by
  rw [List.filter_eq_nil_iff]; intro i hi; have hi2 : i < n := by simpa using hi
  rw [hw i (by omega),h2 i hi2]; simp
 have e3 : (List.range' (n + 1) (64 - n - 1)).filter s.testBit = (List.range' (n + 1) (64 - n - 1)).filter (Z1j s (n : Int)).testBit := by
  apply List.filter_congr
  intro i hi; rw [List.mem_range'_1] at hi; have : decide (n = i) = false := by rw [decide_eq_false_iff_not]; omega
  rw [hw i (by omega),this]; simp
 rw [e1,e2,e3]; simp
end Go.Proofs.YtfkommjlmolniaaGreatDoor
end

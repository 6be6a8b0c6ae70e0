/- Joined: SumD, MayT, FarT, ReachT, BlockT, Plain, Bits, Pop. -/
import Derived.Test.YtfkommjlmolniaaGreatDoorRows
import Derived.Test.YtfkommjlmolniaaGreatDoorGr1
import Derived.WalkKit
import Derived.Lib.TrailingZeros
set_option linter.unusedVariables false
section

namespace Go.Proofs.YtfkommjlmolniaaGreatDoor
def sumD (f : Nat → Int) : Nat → Int
 | 0 => 0
 | n + 1 => sumD f n + f n
variable {f g : Nat → Int} {n u : Nat}
theorem sumD_congr : ∀ {n : Nat},(∀ i,i < n → f i = g i) → sumD f n = sumD g n
 | 0,_ => rfl
 | n + 1,h => by rw [sumD,sumD,sumD_congr (n := n) (fun i hi => h i (by omega)),h n (by omega)]
theorem sumD_le : ∀ {n : Nat},(∀ i,i < n → f i ≤ g i) → sumD f n ≤ sumD g n
 | 0,_ => Int.le_refl _
 | n + 1,h => by have := sumD_le (n := n) (fun i hi => h i (by omega)); have := h n (by omega); rw [sumD,sumD]; omega
theorem sumD_nonneg : ∀ {n : Nat},(∀ i,i < n → 0 ≤ f i) → 0 ≤ sumD f n
 | 0,_ => Int.le_refl _
 | n + 1,h => by have := sumD_nonneg (n := n) (fun i hi => h i (by omega)); have := h n (by omega); rw [sumD]; omega
theorem sumD_one {c : Int} : ∀ {n : Nat},u < n → (∀ i,i < n → i ≠ u → f i = g i) → f u + c = g u → sumD f n + c = sumD g n
 | 0,h,_,_ => by omega
 | n + 1,h,h1,h2 => by
  rw [sumD,sumD]; by_cases e : u = n
  ·subst e
   rw [sumD_congr (f := f) (g := g) (fun i hi => h1 i (by omega) (by omega))]
   omega
  ·have := sumD_one (n := n) (c := c) (by omega) (fun i hi hne => h1 i (by omega) hne) h2
   have := h1 n (by omega) (fun e2 => e e2.symm)
   omega
theorem sumD_const (n : Nat) : sumD (fun _ => 1) n = (n : Int) := by
 induction n with
 | zero => rfl
 | succ n ih => rw [sumD,ih]; omega
theorem sumD_zero (n : Nat) : sumD (fun _ => 0) n = 0 := by
 induction n with
 | zero => rfl
 | succ n ih => rw [sumD,ih]; omega
theorem sumD_add {h : Nat → Int} : ∀ {n : Nat},(∀ i,i < n → h i = f i + g i) → sumD h n = sumD f n + sumD g n
 | 0,_ => rfl
 | n + 1,e => by rw [sumD,sumD,sumD,sumD_add (n := n) (fun i hi => e i (by omega)),e n (by omega)]; omega
theorem sumD_lt : ∀ {n : Nat},u < n → (∀ i,i < n → f i ≤ g i) → f u + 1 ≤ g u → sumD f n + 1 ≤ sumD g n
 | 0,h,_,_ => by omega
 | n + 1,h,h1,h2 => by
  rw [sumD,sumD]; by_cases e : u = n
  ·subst e
   have := sumD_le (f := f) (g := g) (n := u) (fun i hi => h1 i (by omega))
   omega
  ·have := sumD_lt (n := n) (by omega) (fun i hi => h1 i (by omega)) h2
   have := h1 n (by omega)
   omega
end Go.Proofs.YtfkommjlmolniaaGreatDoor
end
section

namespace Go.Proofs.YtfkommjlmolniaaGreatDoor
variable {x : Ins}
def rowG (i : Nat) (r : List Int) : Prop := ∀ (k : Nat) (v : Int),r[k]? = some v → elB i k v = true
structure May (x : Ins) : Prop where
 en : 0 ≤ x.en ∧ x.en ≤ 1000000000
 tm : 1 ≤ x.tm ∧ x.tm ≤ 60
 tr : 0 ≤ x.tr ∧ x.tr ≤ 1000000000
 bm : 1 ≤ x.bm ∧ x.bm ≤ 60
 br : 0 ≤ x.br ∧ x.br ≤ 1000000000
 ns : 1 ≤ x.sats.length ∧ x.sats.length ≤ 12
 nc : 1 ≤ x.cus.length ∧ x.cus.length ≤ 48
 sats : ∀ s ∈ x.sats,satB s = true
 cus : ∀ s ∈ x.cus,cusB s = true
 lc : x.cost.length = x.nodes
 lt : x.time.length = x.nodes
 cost : ∀ (k : Nat) (u : List Int),x.cost[k]? = some u → u.length = x.nodes ∧ rowG k u
 time : ∀ (k : Nat) (u : List Int),x.time[k]? = some u → u.length = x.nodes ∧ rowG k u
theorem rows_of {N : Nat} {l : List (List Int)} (h : sqB N l = true) (hr : rowsB l = true) : l.length = N ∧ ∀ (k : Nat) (u : List Int),l[k]? = some u → u.length = N ∧ rowG k u := by
 simp only [sqB,Bool.and_eq_true,decide_eq_true_eq,allR_true] at h
 simp only [rowsB,allR_true] at hr
 refine ⟨h.1,fun k u hk => ?_⟩; have hl : k < l.length := (List.getElem?_eq_some_iff.1 hk).1; have hg : l.getD k [] = u := by simp [List.getD,hk]
 have h1 := h.2 k hl; have h2 := hr k hl; rw [hg] at h1 h2; refine ⟨by simpa [lenB] using h1,fun j v hj => ?_⟩
 simp only [rowB,allR_true] at h2
 have h3 := h2 j (List.getElem?_eq_some_iff.1 hj).1; rwa [show u.getD j 0 = v by simp [List.getD,hj]] at h3
theorem getD_all {α : Type} {l : List α} {p : α → Bool} {d : α} (h : allR l.length (fun i => p (l.getD i d)) = true) : ∀ x ∈ l,p x = true := by
 rw [allR_true] at h; intro x hx; obtain ⟨i,hi,e⟩ := List.getElem_of_mem hx; have := h i hi; rwa [show l.getD i d = x by simp [List.getD,List.getElem?_eq_getElem hi,e]] at this
theorem May.of_err (h : instErr x = 0) : May x := by
 unfold instErr at h; split at h
 ·rename_i hc
  split at h
  ·rename_i hs
   split at h
   ·rename_i hg
    simp only [Ins.count,Bool.and_eq_true,decide_eq_true_eq] at hc
    simp only [Ins.size,Bool.and_eq_true] at hs
    simp only [Ins.good,Bool.and_eq_true] at hg
    obtain ⟨⟨⟨⟨⟨⟨g1,g2⟩,g3⟩,g4⟩,g5⟩,g6⟩,g7⟩ := hg; obtain ⟨k1,k2⟩ := rows_of hs.1 g1; obtain ⟨k3,k4⟩ := rows_of hs.2 g2; simp [inB_] at g3 g4 g5
    exact ⟨g3,hc.1.1.1,g4,hc.1.1.2,g5,hc.1.2,hc.2,getD_all g6,getD_all g7,k1,k3,k2,k4⟩
   ·cases h
  ·cases h
 ·cases h
theorem nodes_61 (h : May x) : x.nodes ≤ 61 := by
 have := h.ns; have := h.nc; unfold Ins.nodes; omega
theorem May.err (h : May x) : instErr x = 0 := by
 have rows : ∀ {L : List (List Int)},L.length = x.nodes → (∀ (k : Nat) (u : List Int),L[k]? = some u → u.length = x.nodes ∧ rowG k u) → sqB x.nodes L = true ∧ rowsB L = true := fun {L} hl hr => by
  constructor
  ·simp only [sqB,Bool.and_eq_true,decide_eq_true_eq,allR_true]
   refine ⟨hl,fun i hi => ?_⟩; have := (hr i L[i] (List.getElem?_eq_getElem hi)).1; simp [lenB,List.getD,List.getElem?_eq_getElem hi,this]
  ·simp only [rowsB,allR_true]
   intro i hi; have h2 := (hr i L[i] (List.getElem?_eq_getElem hi)).2; simp only [rowB,allR_true]
   intro k hk; have e : L.getD i [] = L[i] := by simp [List.getD,List.getElem?_eq_getElem hi]
   rw [e] at hk ⊢; have := h2 k (L[i][k]) (List.getElem?_eq_getElem hk); simpa [List.getD,List.getElem?_eq_getElem hk] using this
 have h1 : x.count = true := by
  simp only [Ins.count,Bool.and_eq_true,decide_eq_true_eq]
  exact ⟨⟨⟨h.tm,h.bm⟩,h.ns⟩,h.nc⟩
 have r1 := rows h.lc h.cost; have r2 := rows h.lt h.time; have h2 : x.size = true := by
  simp only [Ins.size,Bool.and_eq_true]
  exact ⟨r1.1,r2.1⟩
 have h3 : x.good = true := by
  simp only [Ins.good,Bool.and_eq_true,allR_true]
  refine ⟨⟨⟨⟨⟨⟨r1.2,r2.2⟩,?_⟩,?_⟩,?_⟩,fun i hi => ?_⟩,fun i hi => ?_⟩
  ·have := h.en; simp [inB_]; omega
  ·have := h.tr; simp [inB_]; omega
  ·have := h.br; simp [inB_]; omega
  ·have := h.sats x.sats[i] (List.getElem_mem hi)
   simpa [List.getD,List.getElem?_eq_getElem hi] using this
  ·have := h.cus x.cus[i] (List.getElem_mem hi)
   simpa [List.getD,List.getElem?_eq_getElem hi] using this
 simp [instErr,h1,h2,h3]
end Go.Proofs.YtfkommjlmolniaaGreatDoor
end
section

namespace Go.Proofs.YtfkommjlmolniaaGreatDoor
inductive WayF (W : Nat → Nat → Option Int) (s : Nat) : Nat → Nat → Int → Prop
 | nil : WayF W s s 0 0
 | snoc {i j k : Nat} {d c : Int} (h : WayF W s i k d) (hx : W i j = some c) : WayF W s j (k + 1) (d + c)
variable {W W2 : Nat → Nat → Option Int} {s i j k m N r : Nat} {d e c : Int}
theorem WayF.turn (h : WayF W s i k d) (hk : k = m) (hd : d = e) : WayF W s i m e := by subst hk hd; exact h
theorem WayF.append (h : WayF W s i k d) (h2 : WayF W i j m e) : WayF W s j (k + m) (d + e) := by
 induction h2 with
 | nil => exact h.turn (by omega) (by omega)
 | snoc _ hx ih => exact (ih.snoc hx).turn (by omega) (by omega)
theorem WayF.one (hx : W i j = some c) : WayF W i j 1 c := (WayF.nil.snoc hx).turn (by omega) (by omega)
theorem WayF.back (hW : ∀ i j c,W i j = some c → W2 j i = some c) (h : WayF W s i k d) : WayF W2 i s k d := by
 induction h with
 | nil => exact .nil
 | snoc _ hx ih => exact ((WayF.one (hW _ _ _ hx)).append ih).turn (by omega) (by omega)
structure GoodW_ (W : Nat → Nat → Option Int) (N : Nat) : Prop where
 lt : ∀ i j c,W i j = some c → i < N ∧ j < N
 pos : ∀ i j c,W i j = some c → 0 ≤ c
theorem WayF.pos (hW : GoodW_ W N) (h : WayF W s i k d) : 0 ≤ d := by
 induction h with
 | nil => omega
 | snoc _ hx ih => have := hW.pos _ _ _ hx; omega
theorem WayF.lt (hW : GoodW_ W N) (hs : s < N) (h : WayF W s i k d) : i < N := by
 cases h with
 | nil => exact hs
 | snoc _ hx => exact (hW.lt _ _ _ hx).2
theorem pigeonF : ∀ (n : Nat) (f : Nat → Nat),(∀ t,t ≤ n → f t < n) → ∃ a b,a < b ∧ b ≤ n ∧ f a = f b
 | 0,f,h => absurd (h 0 (Nat.le_refl 0)) (by omega)
 | n + 1,f,h => by
  by_cases hex : ∃ a,a ≤ n ∧ f a = f (n + 1)
  ·obtain ⟨a,ha,he⟩ := hex
   exact ⟨a,n + 1,by omega,Nat.le_refl _,he⟩
  ·have hne : ∀ a,a ≤ n → f a ≠ f (n + 1) := fun a ha he => hex ⟨a,ha,he⟩
   have hv := h (n + 1) (Nat.le_refl _); obtain ⟨a,b,hab,hb,he⟩ := pigeonF n (fun t => if f t = n then f (n + 1) else f t) (fun t ht => by
    have h1 := h t (by omega)
    have h2 := hne t ht; by_cases e : f t = n
    ·simp only [e,if_true]; omega
    ·simp only [e,if_false]; omega)
   refine ⟨a,b,hab,by omega,?_⟩
   have h1 := hne a (by omega)
   have h2 := hne b hb; by_cases e1 : f a = n
   ·by_cases e2 : f b = n
    ·rw [e1,e2]
    ·simp only [e1,e2,if_true,if_false] at he
     exact absurd he.symm h2
   ·by_cases e2 : f b = n
    ·simp only [e1,e2,if_true,if_false] at he
     exact absurd he h1
    ·simp only [e1,e2,if_false] at he
     exact he
theorem WayF.trace (h : WayF W s i k d) : ∃ (v : Nat → Nat) (D : Nat → Int),v 0 = s ∧ v k = i ∧ D 0 = 0 ∧ D k = d ∧ ∀ a b,a ≤ b → b ≤ k → WayF W (v a) (v b) (b - a) (D b - D a) := by
 induction h with
 | nil => exact ⟨fun _ => s,fun _ => 0,rfl,rfl,rfl,rfl,fun a b h1 h2 => WayF.nil.turn (by omega) (by simp)⟩
 | snoc h hx ih =>
  rename_i i j k d c
  obtain ⟨v,D,v0,vk,D0,Dk,hw⟩ := ih; refine ⟨fun t => if t = k + 1 then j else v t,fun t => if t = k + 1 then d + c else D t,?_,?_,?_,?_,fun a b h1 h2 => ?_⟩
  ·simp [v0]
  ·simp
  ·simp [D0]
  ·simp
  ·by_cases hb : b = k + 1
   ·subst hb
    by_cases ha : a = k + 1
    ·subst ha
     exact WayF.nil.turn (by omega) (by simp)
    ·have h3 := hw a k (by omega) (Nat.le_refl _)
     rw [vk,Dk] at h3; simp only [ha,if_false,if_true]
     exact (h3.snoc hx).turn (by omega) (by omega)
   ·have ha : ¬ a = k + 1 := by omega
    simp only [ha,hb,if_false]
    exact hw a b h1 (by omega)
theorem WayF.short (hW : GoodW_ W N) (hs : s < N) : ∀ (k : Nat) {i : Nat} {d : Int},WayF W s i k d → ∃ k' d',k' < N ∧ d' ≤ d ∧ WayF W s i k' d' := by
 intro k; induction k using Nat.strongRecOn with
 | _ k ih =>
  intro i d h; by_cases hk : k < N
  ·exact ⟨k,d,hk,Int.le_refl _,h⟩
  ·obtain ⟨v,D,v0,vk,D0,Dk,hw⟩ := h.trace
   have hin : ∀ t,t ≤ N → v t < N := fun t ht => by
    have := hw 0 t (by omega) (by omega)
    rw [v0] at this; exact this.lt hW hs
   obtain ⟨a,b,hab,hb,he⟩ := pigeonF N v hin; have w1 := hw 0 a (by omega) (by omega)
   have w2 := hw a b (by omega) (by omega)
   have w3 := hw b k (by omega) (by omega)
   rw [v0] at w1; rw [← he] at w3; rw [vk] at w3; have hc := w2.pos hW; obtain ⟨k',d',h1,h2,h3⟩ := ih (a - 0 + (k - b)) (by omega) (w1.append w3)
   exact ⟨k',d',h1,by omega,h3⟩
def LeastW (W : Nat → Nat → Option Int) (s i : Nat) (d : Int) : Prop := (∃ k,WayF W s i k d) ∧ ∀ k c,WayF W s i k c → d ≤ c
theorem LeastW.unique (h : LeastW W s i d) (h2 : LeastW W s i e) : d = e := by
 obtain ⟨k,hw⟩ := h.1; obtain ⟨k2,hw2⟩ := h2.1; have := h.2 _ _ hw2; have := h2.2 _ _ hw; omega
theorem LeastW.back (hW : ∀ i j c,W i j = some c ↔ W2 j i = some c) (h : LeastW W s i d) : LeastW W2 i s d := by
 obtain ⟨⟨k,hw⟩,h2⟩ := h; exact ⟨⟨k,hw.back fun i j c hc => (hW i j c).1 hc⟩,fun k c hw => h2 k c (hw.back fun i j c hc => (hW j i c).2 hc)⟩
/-! ### Arcs between the nodes that are let through,with what one stays where they begin -/
def arcW (T : Nat → Nat → Int) (S : Nat → Int) (M : Nat → Bool) (N : Nat) (i k : Nat) : Option Int := if i < N ∧ k < N ∧ i ≠ k ∧ M i = true ∧ M k = true then some (S i + T i k) else none
variable {T D D2 : Nat → Nat → Int} {S : Nat → Int} {M : Nat → Bool} {dn dn2 : Nat → Nat → Nat → Prop}
theorem arcW_some : arcW T S M N i k = some c ↔ (i < N ∧ k < N ∧ i ≠ k ∧ M i = true ∧ M k = true) ∧ c = S i + T i k := by
 unfold arcW; split
 ·rename_i h
  exact ⟨fun e => ⟨h,by injection e with e; exact e.symm⟩,fun e => by rw [e.2]⟩
 ·rename_i h
  exact ⟨fun e => (by cases e),fun e => absurd e.1 h⟩
theorem arcW_good (hT : ∀ i k,i < N → k < N → 0 ≤ T i k) (hS : ∀ i,i < N → 0 ≤ S i) : GoodW_ (arcW T S M N) N :=
 ⟨fun i j c h => ⟨(arcW_some.1 h).1.1,(arcW_some.1 h).1.2.1⟩,fun i j c h => by
  obtain ⟨⟨h1,h2,_⟩,rfl⟩ := arcW_some.1 h; have := hT i j h1 h2; have := hS i h1; omega⟩
end Go.Proofs.YtfkommjlmolniaaGreatDoor
end
section

namespace Go.Proofs.YtfkommjlmolniaaGreatDoor
variable {x : Ins} {s c i k N : Nat}
def tmI (x : Ins) (i k : Nat) : Int := (x.time.getD i []).getD k 0
def styI (x : Ins) (i : Nat) : Int := if i < 1 + x.sats.length then 0 else (x.cus.getD (i - (1 + x.sats.length)) (0,0,0,0)).2.2.2
def inS (x : Ins) (i : Nat) : Bool := decide (i < 1 + x.sats.length)
def inC (x : Ins) (s i : Nat) : Bool := decide (i = 1 + s) || decide (1 + x.sats.length ≤ i)
def arcS (x : Ins) : Nat → Nat → Option Int := arcW (tmI x) (fun _ => 0) (inS x) x.nodes
def arcC (x : Ins) (s : Nat) : Nat → Nat → Option Int := arcW (tmI x) (styI x) (inC x s) x.nodes
def ReadyOf (x : Ins) (l : List Int) : Prop := l.length = x.sats.length ∧ ∀ s,s < x.sats.length → ∃ d,LeastW (arcS x) 0 (1 + s) d ∧ l[s]? = some (d + (x.sats.getD s (0,0)).2)
def OutOf (x : Ins) (s : Nat) (l : List Int) : Prop := l.length = x.cus.length ∧ ∀ c,c < x.cus.length → ∃ d,LeastW (arcC x s) (1 + s) (1 + x.sats.length + c) d ∧ l[c]? = some d
def BackOf (x : Ins) (s : Nat) (l : List Int) : Prop := l.length = x.cus.length ∧ ∀ c,c < x.cus.length → ∃ d,LeastW (arcC x s) (1 + x.sats.length + c) (1 + s) d ∧ l[c]? = some d
theorem list_same {l m : List Int} {n : Nat} (h1 : l.length = n) (h2 : m.length = n) (h : ∀ k,k < n → l[k]? = m[k]?) : l = m := by
 apply List.ext_getElem?
 intro k; by_cases hk : k < n
 ·exact h k hk
 ·rw [List.getElem?_eq_none (by omega),List.getElem?_eq_none (by omega)]
theorem ReadyOf.unique {l m : List Int} (h : ReadyOf x l) (h2 : ReadyOf x m) : l = m := list_same h.1 h2.1 fun k hk => by
 obtain ⟨d,h3,h4⟩ := h.2 k hk; obtain ⟨e,h5,h6⟩ := h2.2 k hk; rw [h4,h6,h3.unique h5]
theorem OutOf.unique {l m : List Int} (h : OutOf x s l) (h2 : OutOf x s m) : l = m := list_same h.1 h2.1 fun k hk => by
 obtain ⟨d,h3,h4⟩ := h.2 k hk; obtain ⟨e,h5,h6⟩ := h2.2 k hk; rw [h4,h6,h3.unique h5]
theorem BackOf.unique {l m : List Int} (h : BackOf x s l) (h2 : BackOf x s m) : l = m := list_same h.1 h2.1 fun k hk => by
 obtain ⟨d,h3,h4⟩ := h.2 k hk; obtain ⟨e,h5,h6⟩ := h2.2 k hk; rw [h4,h6,h3.unique h5]
theorem May.tm_in (h : May x) (hi : i < x.nodes) (hk : k < x.nodes) : 0 ≤ tmI x i k ∧ tmI x i k ≤ 1000000000 := by
 unfold tmI; have hl : i < x.time.length := by rw [h.lt]; exact hi
 obtain ⟨h1,h2⟩ := h.time i x.time[i] (List.getElem?_eq_getElem hl); have hk2 : k < x.time[i].length := by rw [h1]; exact hk
 have h3 := h2 k x.time[i][k] (List.getElem?_eq_getElem hk2); simp [elB,inB_] at h3
 simp only [List.getD,List.getElem?_eq_getElem hl,Option.getD_some,List.getElem?_eq_getElem hk2]
 omega
theorem May.sty_in (h : May x) (hi : i < x.nodes) : 0 ≤ styI x i ∧ styI x i ≤ 1000000000 := by
 unfold styI; split
 ·omega
 ·rename_i hn
  unfold Ins.nodes at hi; have hl : i - (1 + x.sats.length) < x.cus.length := by omega
  have h1 := h.cus x.cus[i - (1 + x.sats.length)] (List.getElem_mem hl); simp [cusB,inB_] at h1
  simp only [List.getD,List.getElem?_eq_getElem hl,Option.getD_some]
  omega
theorem May.hold_in (h : May x) {p : Int × Int} (hs : x.sats[s]? = some p) : 0 ≤ p.2 ∧ p.2 ≤ 1000000000 := by
 have h1 := h.sats p (List.mem_of_getElem? hs); simp [satB,inB_] at h1
 omega
def mayI (x : Ins) (ready out back : List Int) (s c : Nat) : Bool :=
 decide ((x.cus.getD c (0,0,0,0)).1 ≤ (x.sats.getD s (0,0)).1) && decide ((x.cus.getD c (0,0,0,0)).1 ≤ x.br) &&
 decide (max (ready.getD s 0 + out.getD c 0) (x.cus.getD c (0,0,0,0)).2.1 ≤ (x.cus.getD c (0,0,0,0)).2.2.1) &&
 decide (max (ready.getD s 0 + out.getD c 0) (x.cus.getD c (0,0,0,0)).2.1 + back.getD c 0 ≤ x.en)
def MayOf (x : Ins) (p : Nat → Nat → Bool) : Prop := ∃ rd : List Int,ReadyOf x rd ∧ ∀ s,s < x.sats.length → ∃ ou ba : List Int,OutOf x s ou ∧ BackOf x s ba ∧ ∀ c,c < x.cus.length → p s c = mayI x rd ou ba s c
theorem MayOf.unique {p q : Nat → Nat → Bool} (h : MayOf x p) (h2 : MayOf x q) (hs : s < x.sats.length) (hc : c < x.cus.length) : p s c = q s c := by
 obtain ⟨r1,a1,a2⟩ := h; obtain ⟨r2,c1,c2⟩ := h2; obtain ⟨o1,b1,e1,e2,e3⟩ := a2 s hs; obtain ⟨o2,b2,f1,f2,f3⟩ := c2 s hs; rw [e3 c hc,f3 c hc,a1.unique c1,e1.unique f1,e2.unique f2]
theorem LeastW.le_arc {W : Nat → Nat → Option Int} {d e : Int} (h : LeastW W i k d) (he : W i k = some e) : d ≤ e := h.2 _ _ (WayF.one he)
theorem OutOf.in_ {l : List Int} (hm : May x) (h : OutOf x s l) (hs : s < x.sats.length) {v : Int} {c : Nat} (hv : l[c]? = some v) : 0 ≤ v ∧ v ≤ 2000000000 := by
 have hc : c < x.cus.length := by have := (List.getElem?_eq_some_iff.1 hv).1; rw [h.1] at this; exact this
 obtain ⟨d,h1,h2⟩ := h.2 c hc; rw [hv] at h2; injection h2 with h2
 subst h2; have hn : x.nodes = 1 + x.sats.length + x.cus.length := rfl; have ha : arcC x s (1 + s) (1 + x.sats.length + c) = some (styI x (1 + s) + tmI x (1 + s) (1 + x.sats.length + c)) := arcW_some.2 ⟨⟨by omega,by omega,by omega,by simp [inC],by simp [inC]⟩,rfl⟩
 have h3 := h1.le_arc ha; have h4 := hm.tm_in (i := 1 + s) (k := 1 + x.sats.length + c) (by omega) (by omega)
 have h5 := hm.sty_in (i := 1 + s) (by omega)
 obtain ⟨m,hw⟩ := h1.1; have h6 := hw.pos (arcW_good (fun i k hi hk => (hm.tm_in hi hk).1) (fun i hi => (hm.sty_in hi).1)); omega
theorem BackOf.in_ {l : List Int} (hm : May x) (h : BackOf x s l) (hs : s < x.sats.length) {v : Int} {c : Nat} (hv : l[c]? = some v) : 0 ≤ v ∧ v ≤ 2000000000 := by
 have hc : c < x.cus.length := by have := (List.getElem?_eq_some_iff.1 hv).1; rw [h.1] at this; exact this
 obtain ⟨d,h1,h2⟩ := h.2 c hc; rw [hv] at h2; injection h2 with h2
 subst h2; have hn : x.nodes = 1 + x.sats.length + x.cus.length := rfl; have ha : arcC x s (1 + x.sats.length + c) (1 + s) = some (styI x (1 + x.sats.length + c) + tmI x (1 + x.sats.length + c) (1 + s)) := arcW_some.2 ⟨⟨by omega,by omega,by omega,by simp [inC],by simp [inC]⟩,rfl⟩
 have h3 := h1.le_arc ha; have h4 := hm.tm_in (i := 1 + x.sats.length + c) (k := 1 + s) (by omega) (by omega)
 have h5 := hm.sty_in (i := 1 + x.sats.length + c) (by omega)
 obtain ⟨m,hw⟩ := h1.1; have h6 := hw.pos (arcW_good (fun i k hi hk => (hm.tm_in hi hk).1) (fun i hi => (hm.sty_in hi).1)); omega
theorem ReadyOf.in_ {l : List Int} (hm : May x) (h : ReadyOf x l) {v : Int} {s : Nat} (hv : l[s]? = some v) : 0 ≤ v ∧ v ≤ 2000000000 := by
 have hs : s < x.sats.length := by have := (List.getElem?_eq_some_iff.1 hv).1; rw [h.1] at this; exact this
 obtain ⟨d,h1,h2⟩ := h.2 s hs; rw [hv] at h2; injection h2 with h2
 subst h2; have hn : x.nodes = 1 + x.sats.length + x.cus.length := rfl; have ha : arcS x 0 (1 + s) = some (0 + tmI x 0 (1 + s)) := arcW_some.2 ⟨⟨by omega,by omega,by omega,by simp [inS]; omega,by simp [inS]; omega⟩,rfl⟩
 have h3 := h1.le_arc ha; have h4 := hm.tm_in (i := 0) (k := 1 + s) (by omega) (by omega)
 have h5 := hm.hold_in (s := s) (List.getElem?_eq_getElem hs); obtain ⟨m,hw⟩ := h1.1; have h6 := hw.pos (arcW_good (fun i k hi hk => (hm.tm_in hi hk).1) (fun i hi => Int.le_refl _)); simp only [List.getD,List.getElem?_eq_getElem hs,Option.getD_some]
 omega
end Go.Proofs.YtfkommjlmolniaaGreatDoor
end
section

namespace Go.Proofs.YtfkommjlmolniaaGreatDoor
variable {C S z y m n k who s c : Nat} {f f2 r r2 : Nat → Int} {p q : Nat → Nat → Bool} {x : Ins} {cn cn2 : Nat → Int} {l l2 : List Int}
/-! ### Sets of customers,by their bits -/
def sumZ (C : Nat) (f : Nat → Int) (z : Nat) : Int := sumD (fun c => if z.testBit c = true then f c else 0) C
def sizeZ (C z : Nat) : Int := sumD (fun c => if z.testBit c = true then 1 else 0) C
def touchZ (C : Nat) (P : Nat → Bool) (z : Nat) : Bool := (List.range C).any (fun c => P c && z.testBit c)
theorem touchZ_true {P : Nat → Bool} : touchZ C P z = true ↔ ∃ c,c < C ∧ P c = true ∧ z.testBit c = true := by
 unfold touchZ; rw [List.any_eq_true]; constructor
 ·rintro ⟨c,hc,h⟩
  rw [Bool.and_eq_true] at h; exact ⟨c,List.mem_range.1 hc,h⟩
 ·rintro ⟨c,hc,h⟩
  exact ⟨c,List.mem_range.2 hc,by rw [Bool.and_eq_true]; exact h⟩
theorem touchZ_congr {P P2 : Nat → Bool} (h : ∀ c,c < C → P c = P2 c) : touchZ C P z = touchZ C P2 z := by
 apply Bool.eq_iff_iff.2
 rw [touchZ_true,touchZ_true]; constructor
 ·rintro ⟨c,hc,h1,h2⟩; exact ⟨c,hc,by rw [← h c hc]; exact h1,h2⟩
 ·rintro ⟨c,hc,h1,h2⟩; exact ⟨c,hc,by rw [h c hc]; exact h1,h2⟩
def shortV (C S : Nat) (p : Nat → Nat → Bool) (f r : Nat → Int) (z : Nat) : Int := sumZ C f z - sumD (fun s => if touchZ C (p s) z = true then r s else 0) S
theorem sumZ_or_and : sumZ C f (z ||| y) + sumZ C f (z &&& y) = sumZ C f z + sumZ C f y := by
 unfold sumZ; rw [← sumD_add (h := fun c => (if (z ||| y).testBit c = true then f c else 0) + (if (z &&& y).testBit c = true then f c else 0)) (fun _ _ => rfl),← sumD_add (h := fun c => (if z.testBit c = true then f c else 0) + (if y.testBit c = true then f c else 0)) (fun _ _ => rfl)]
 refine sumD_congr (fun c _ => ?_); rw [Nat.testBit_or,Nat.testBit_and]; cases z.testBit c <;> cases y.testBit c <;> simp
theorem shortV_super (hr : ∀ s,s < S → 0 ≤ r s) : shortV C S p f r z + shortV C S p f r y ≤ shortV C S p f r (z ||| y) + shortV C S p f r (z &&& y) := by
 unfold shortV; have h1 := sumZ_or_and (C := C) (f := f) (z := z) (y := y); have h2 : sumD (fun s => if touchZ C (p s) (z ||| y) = true then r s else 0) S + sumD (fun s => if touchZ C (p s) (z &&& y) = true then r s else 0) S ≤ sumD (fun s => if touchZ C (p s) z = true then r s else 0) S + sumD (fun s => if touchZ C (p s) y = true then r s else 0) S := by
  rw [← sumD_add (h := fun s => (if touchZ C (p s) (z ||| y) = true then r s else 0) + (if touchZ C (p s) (z &&& y) = true then r s else 0)) (fun _ _ => rfl),← sumD_add (h := fun s => (if touchZ C (p s) z = true then r s else 0) + (if touchZ C (p s) y = true then r s else 0)) (fun _ _ => rfl)]
  refine sumD_le (fun s hs => ?_); have h0 := hr s hs; have e1 : touchZ C (p s) (z ||| y) = true → touchZ C (p s) z = true ∨ touchZ C (p s) y = true := fun h => by
   obtain ⟨c,hc,h1,h2⟩ := touchZ_true.1 h; rw [Nat.testBit_or,Bool.or_eq_true] at h2; rcases h2 with h2 | h2
   ·exact .inl (touchZ_true.2 ⟨c,hc,h1,h2⟩)
   ·exact .inr (touchZ_true.2 ⟨c,hc,h1,h2⟩)
  have e2 : touchZ C (p s) (z &&& y) = true → touchZ C (p s) z = true ∧ touchZ C (p s) y = true := fun h => by
   obtain ⟨c,hc,h1,h2⟩ := touchZ_true.1 h; rw [Nat.testBit_and,Bool.and_eq_true] at h2; exact ⟨touchZ_true.2 ⟨c,hc,h1,h2.1⟩,touchZ_true.2 ⟨c,hc,h1,h2.2⟩⟩
  by_cases a1 : touchZ C (p s) (z ||| y) = true <;> by_cases a2 : touchZ C (p s) (z &&& y) = true <;> by_cases a3 : touchZ C (p s) z = true <;> by_cases a4 : touchZ C (p s) y = true <;> simp only [a1,a2,a3,a4,if_true] <;> first | omega | (exfalso; have := e1; have := e2; simp_all)
 omega
theorem sizeZ_nonneg : 0 ≤ sizeZ C z := sumD_nonneg (fun c _ => by split <;> decide)
theorem sizeZ_sub (h : ∀ c,c < C → m.testBit c = true → z.testBit c = true) (hs : sizeZ C z ≤ sizeZ C m) : ∀ c,c < C → z.testBit c = true → m.testBit c = true := fun c hc hz => by
 cases e : m.testBit c with
 | true => rfl
 | false =>
  have : sizeZ C m + 1 ≤ sizeZ C z := sumD_lt (u := c) hc (fun i hi => by
   by_cases e2 : m.testBit i = true
   ·rw [if_pos e2,if_pos (h i hi e2)]; exact Int.le_refl _
   ·rw [if_neg e2]; split <;> decide) (by rw [if_neg (by rw [e]; decide),if_pos hz]; decide)
  omega
theorem bits_below (h : z < 2 ^ C) (hc : C ≤ c) : z.testBit c = false := Nat.testBit_lt_two_pow (Nat.lt_of_lt_of_le h (Nat.pow_le_pow_right (by omega) hc))
structure IsBest (C : Nat) (d : Nat → Int) (z : Nat) : Prop where
 lt : z < 2 ^ C
 pos : 0 < d z
 most : ∀ y,y < 2 ^ C → d y ≤ d z
 few : ∀ y,y < 2 ^ C → d y = d z → sizeZ C z ≤ sizeZ C y
theorem IsBest.unique (hr : ∀ s,s < S → 0 ≤ r s) (h : IsBest C (shortV C S p f r) z) (h2 : IsBest C (shortV C S p f r) y) : z = y := by
 have hu : z ||| y < 2 ^ C := Nat.or_lt_two_pow h.lt h2.lt
 have hi : z &&& y < 2 ^ C := Nat.lt_of_le_of_lt Nat.and_le_left h.lt; have hs := shortV_super (C := C) (p := p) (f := f) (z := z) (y := y) hr; have e1 := h.most _ h2.lt; have e2 := h2.most _ h.lt; have e3 := h.most _ hu; have e4 := h.most _ hi; have f1 := h.few _ hi (by omega)
 have f2 := h2.few _ hi (by omega)
 apply Nat.eq_of_testBit_eq
 intro c; by_cases hc : c < C
 ·apply Bool.eq_iff_iff.2
  constructor
  ·intro hz
   have := sizeZ_sub (m := z &&& y) (z := z) (fun c _ hm => by rw [Nat.testBit_and,Bool.and_eq_true] at hm; exact hm.1) f1 c hc hz
   rw [Nat.testBit_and,Bool.and_eq_true] at this; exact this.2
  ·intro hy
   have := sizeZ_sub (m := z &&& y) (z := y) (fun c _ hm => by rw [Nat.testBit_and,Bool.and_eq_true] at hm; exact hm.2) f2 c hc hy
   rw [Nat.testBit_and,Bool.and_eq_true] at this; exact this.1
 ·rw [bits_below h.lt (by omega),bits_below h2.lt (by omega)]
/-! ### Who fits -/
def ldI (x : Ins) (c : Nat) : Int := (x.cus.getD c (0,0,0,0)).1
def roomI (x : Ins) (s : Nat) : Int := (x.sats.getD s (0,0)).1
def SubZ (C : Nat) (P : Nat → Bool) (z : Nat) : Prop := ∀ c,c < C → z.testBit c = true → P c = true
structure CountOf (C : Nat) (P : Nat → Bool) (f : Nat → Int) (room n : Int) : Prop where
 some_ : ∃ z,SubZ C P z ∧ sumZ C f z ≤ room ∧ sizeZ C z = n
 most : ∀ z,SubZ C P z → sumZ C f z ≤ room → sizeZ C z ≤ n
theorem CountOf.unique {P : Nat → Bool} {room n n2 : Int} (h : CountOf C P f room n) (h2 : CountOf C P f room n2) : n = n2 := by
 obtain ⟨z,a1,a2,a3⟩ := h.some_; obtain ⟨y,b1,b2,b3⟩ := h2.some_; have := h.most y b1 b2; have := h2.most z a1 a2; omega
theorem CountOf.nonneg {P : Nat → Bool} {room n : Int} (h : CountOf C P f room n) : 0 ≤ n := by
 obtain ⟨z,_,_,a3⟩ := h.some_; rw [← a3]; exact sizeZ_nonneg
theorem CountOf.mono {P P2 : Nat → Bool} {room room2 n n2 : Int} (h : CountOf C P f room n) (h2 : CountOf C P2 f room2 n2) (hP : ∀ c,c < C → P c = true → P2 c = true) (hr : room ≤ room2) : n ≤ n2 := by
 obtain ⟨z,a1,a2,a3⟩ := h.some_; rw [← a3]; exact h2.most z (fun c hc hz => hP c hc (a1 c hc hz)) (by omega)
theorem CountOf.congr {P P2 : Nat → Bool} {room n : Int} (h : CountOf C P f room n) (hP : ∀ c,c < C → P c = P2 c) : CountOf C P2 f room n := by
 obtain ⟨z,a1,a2,a3⟩ := h.some_; exact ⟨⟨z,fun c hc hz => by rw [← hP c hc]; exact a1 c hc hz,a2,a3⟩,fun y hy hl => h.most y (fun c hc hz => by rw [hP c hc]; exact hy c hc hz) hl⟩
def CountsOf (x : Ins) (p : Nat → Nat → Bool) (l : List Int) : Prop := l.length = x.sats.length ∧ ∀ s,s < x.sats.length → ∃ n,CountOf x.cus.length (p s) (ldI x) (roomI x s) n ∧ l[s]? = some n
theorem CountsOf.unique (h : CountsOf x p l) (h2 : CountsOf x p l2) : l = l2 := list_same h.1 h2.1 fun s hs => by
 obtain ⟨n,a1,a2⟩ := h.2 s hs; obtain ⟨n2,b1,b2⟩ := h2.2 s hs; rw [a2,b2,a1.unique b1]
theorem CountsOf.congr (h : CountsOf x p l) (hp : ∀ s c,s < x.sats.length → c < x.cus.length → p s c = q s c) : CountsOf x q l := ⟨h.1,fun s hs => by
 obtain ⟨n,a1,a2⟩ := h.2 s hs; exact ⟨n,a1.congr (fun c hc => hp s c hs hc),a2⟩⟩
def CountsX (x : Ins) (l : List Int) : Prop := ∃ p,MayOf x p ∧ CountsOf x p l
theorem CountsX.unique (h : CountsX x l) (h2 : CountsX x l2) : l = l2 := by
 obtain ⟨p,a1,a2⟩ := h; obtain ⟨q,b1,b2⟩ := h2; exact a2.unique (b2.congr fun s c hs hc => b1.unique a1 hs hc)
/-! ### Blocks -/
def totalI (x : Ins) : Int := sumD (ldI x) x.cus.length
def BigB (x : Ins) (c : Nat) : Prop := c < x.cus.length ∧ x.br < ldI x c
def LateB (x : Ins) (p : Nat → Nat → Bool) (c : Nat) : Prop := c < x.cus.length ∧ ∀ s,s < x.sats.length → p s c = false
def shortL (x : Ins) (p : Nat → Nat → Bool) : Nat → Int := shortV x.cus.length x.sats.length p (ldI x) (roomI x)
def shortC (x : Ins) (p : Nat → Nat → Bool) (l : List Int) : Nat → Int := shortV x.cus.length x.sats.length p (fun _ => 1) (fun s => l.getD s 0)
def NoShort (C : Nat) (d : Nat → Int) : Prop := ∀ y,y < 2 ^ C → d y ≤ 0
def NoB (x : Ins) (p : Nat → Nat → Bool) (l : List Int) (k : Nat) : Prop :=
 (1 ≤ k → ∀ c,¬ BigB x c) ∧ (2 ≤ k → ∀ c,¬ LateB x p c) ∧ (3 ≤ k → ¬ x.tm * x.tr < totalI x) ∧ (4 ≤ k → ¬ x.bm * x.br < totalI x) ∧ (5 ≤ k → NoShort x.cus.length (shortL x p)) ∧ (6 ≤ k → NoShort x.cus.length (shortC x p l))
def FirstB (x : Ins) (p : Nat → Nat → Bool) (l : List Int) (k who z : Nat) : Prop :=
 (k = 1 ∧ z = 0 ∧ BigB x who ∧ ∀ c,c < who → ¬ BigB x c) ∨ (k = 2 ∧ z = 0 ∧ LateB x p who ∧ ∀ c,c < who → ¬ LateB x p c) ∨
 (k = 3 ∧ who = 0 ∧ z = 0 ∧ x.tm * x.tr < totalI x) ∨ (k = 4 ∧ who = 0 ∧ z = 0 ∧ x.bm * x.br < totalI x) ∨
 (k = 5 ∧ who = 0 ∧ IsBest x.cus.length (shortL x p) z) ∨ (k = 6 ∧ who = 0 ∧ IsBest x.cus.length (shortC x p l) z)
def FoundOf (x : Ins) (p : Nat → Nat → Bool) (l : List Int) (k who z : Nat) : Prop := (k = 0 ∧ who = 0 ∧ z = 0 ∧ NoB x p l 6) ∨ (FirstB x p l k who z ∧ NoB x p l (k - 1))
theorem NoB.less {k2 : Nat} (h : NoB x p l k) (hk : k2 ≤ k) : NoB x p l k2 := ⟨fun e => h.1 (by omega),fun e => h.2.1 (by omega),fun e => h.2.2.1 (by omega),fun e => h.2.2.2.1 (by omega),fun e => h.2.2.2.2.1 (by omega),fun e => h.2.2.2.2.2 (by omega)⟩
theorem FirstB.kind (h : FirstB x p l k who z) : 1 ≤ k ∧ k ≤ 6 := by
 rcases h with h | h | h | h | h | h <;> omega
theorem FirstB.not (h : FirstB x p l k who z) (h2 : NoB x p l k) : False := by
 rcases h with ⟨rfl,_,h,_⟩ | ⟨rfl,_,h,_⟩ | ⟨rfl,_,_,h⟩ | ⟨rfl,_,_,h⟩ | ⟨rfl,_,h⟩ | ⟨rfl,_,h⟩
 ·exact h2.1 (by omega) _ h
 ·exact h2.2.1 (by omega) _ h
 ·exact h2.2.2.1 (by omega) h
 ·exact h2.2.2.2.1 (by omega) h
 ·have := h2.2.2.2.2.1 (by omega) z h.lt
  have := h.pos; omega
 ·have := h2.2.2.2.2.2 (by omega) z h.lt
  have := h.pos; omega
theorem FoundOf.unique {k2 who2 z2 : Nat} (hr : ∀ s,s < x.sats.length → 0 ≤ roomI x s) (hc : ∀ s,s < x.sats.length → 0 ≤ l.getD s 0) (h : FoundOf x p l k who z) (h2 : FoundOf x p l k2 who2 z2) : k = k2 ∧ who = who2 ∧ z = z2 := by
 rcases h with ⟨rfl,rfl,rfl,hn⟩ | ⟨hf,hn⟩
 ·rcases h2 with ⟨rfl,rfl,rfl,_⟩ | ⟨hf2,_⟩
  ·exact ⟨rfl,rfl,rfl⟩
  ·exact absurd (hn.less (by have := hf2.kind; omega)) (fun e => hf2.not e)
 ·rcases h2 with ⟨rfl,rfl,rfl,hn2⟩ | ⟨hf2,hn2⟩
  ·exact absurd (hn2.less (by have := hf.kind; omega)) (fun e => hf.not e)
  ·have k1 := hf.kind
   have k3 := hf2.kind; have hk : k = k2 := by
    rcases Nat.lt_trichotomy k k2 with e | e | e
    ·exact absurd (hn2.less (k2 := k) (by omega)) (fun e => hf.not e)
    ·exact e
    ·exact absurd (hn.less (k2 := k2) (by omega)) (fun e => hf2.not e)
   subst hk; refine ⟨rfl,?_⟩; have least : ∀ {P : Nat → Prop} {a b : Nat},P a → (∀ c,c < a → ¬ P c) → P b → (∀ c,c < b → ¬ P c) → a = b := fun {P a b} h1 h2 h3 h4 => by
    rcases Nat.lt_trichotomy a b with e | e | e
    ·exact absurd h1 (h4 a e)
    ·exact e
    ·exact absurd h3 (h2 b e)
   rcases hf with ⟨e,a1,a2,a3⟩ | ⟨e,a1,a2,a3⟩ | ⟨e,a1,a2,a3⟩ | ⟨e,a1,a2,a3⟩ | ⟨e,a1,a2⟩ | ⟨e,a1,a2⟩ <;>
    rcases hf2 with ⟨e2,b1,b2,b3⟩ | ⟨e2,b1,b2,b3⟩ | ⟨e2,b1,b2,b3⟩ | ⟨e2,b1,b2,b3⟩ | ⟨e2,b1,b2⟩ | ⟨e2,b1,b2⟩ <;> first | omega | skip
   ·exact ⟨least a2 a3 b2 b3,by omega⟩
   ·exact ⟨least a2 a3 b2 b3,by omega⟩
   ·exact ⟨by omega,IsBest.unique hr a2 b2⟩
   ·exact ⟨by omega,IsBest.unique hc a2 b2⟩
theorem shortV_congr (hp : ∀ s c,s < S → c < C → p s c = q s c) : shortV C S p f r z = shortV C S q f r z := by
 unfold shortV; rw [sumD_congr (f := fun s => if touchZ C (p s) z = true then r s else 0) (g := fun s => if touchZ C (q s) z = true then r s else 0) (fun s hs => by
  rw [touchZ_congr (fun c hc => hp s c hs hc)])]
theorem FoundOf.congr (h : FoundOf x p l k who z) (hp : ∀ s c,s < x.sats.length → c < x.cus.length → p s c = q s c) : FoundOf x q l k who z := by
 have e1 : shortL x p = shortL x q := funext fun z => shortV_congr hp; have e2 : shortC x p l = shortC x q l := funext fun z => shortV_congr hp; have e3 : ∀ c,LateB x p c ↔ LateB x q c := fun c => ⟨fun ⟨h1,h2⟩ => ⟨h1,fun s hs => by rw [← hp s c hs h1]; exact h2 s hs⟩,fun ⟨h1,h2⟩ => ⟨h1,fun s hs => by rw [hp s c hs h1]; exact h2 s hs⟩⟩
 unfold FoundOf FirstB NoB at h ⊢; simp only [e1,e2,e3] at h
 exact h
def FoundX (x : Ins) (k who z : Nat) : Prop := ∃ p l,MayOf x p ∧ CountsOf x p l ∧ FoundOf x p l k who z
theorem May.rooms (h : May x) : ∀ s,s < x.sats.length → 0 ≤ roomI x s ∧ roomI x s ≤ 1000000000 := fun s hs => by
 have h1 := h.sats x.sats[s] (List.getElem_mem hs); simp [satB,inB_] at h1
 unfold roomI; rw [List.getD,List.getElem?_eq_getElem hs,Option.getD_some]; omega
theorem May.loads (h : May x) : ∀ c,c < x.cus.length → 1 ≤ ldI x c ∧ ldI x c ≤ 1000000000 := fun c hc => by
 have h1 := h.cus x.cus[c] (List.getElem_mem hc); simp [cusB,inB_] at h1
 unfold ldI; rw [List.getD,List.getElem?_eq_getElem hc,Option.getD_some]; omega
theorem CountsOf.pos (h : CountsOf x p l) : ∀ s,s < x.sats.length → 0 ≤ l.getD s 0 := fun s hs => by
 obtain ⟨n,a1,a2⟩ := h.2 s hs; rw [List.getD,a2,Option.getD_some]; exact a1.nonneg
theorem FoundX.unique {k2 who2 z2 : Nat} (hm : May x) (h : FoundX x k who z) (h2 : FoundX x k2 who2 z2) : k = k2 ∧ who = who2 ∧ z = z2 := by
 obtain ⟨p,l,a1,a2,a3⟩ := h; obtain ⟨q,l2,b1,b2,b3⟩ := h2; have hq : ∀ s c,s < x.sats.length → c < x.cus.length → q s c = p s c := fun s c hs hc => b1.unique a1 hs hc; have e := (b2.congr hq).unique a2; subst e; exact a3.unique (fun s hs => (hm.rooms s hs).1) a2.pos (b3.congr hq)
/-! ### With more room,and later -/
structure MoreB (x y : Ins) : Prop where
 ns : y.sats.length = x.sats.length
 nc : y.cus.length = x.cus.length
 ld : ∀ c,ldI y c = ldI x c
 rooms : ∀ s,s < x.sats.length → roomI x s ≤ roomI y s
 br : x.br ≤ y.br
 tr : x.tr ≤ y.tr
 tm : y.tm = x.tm
 bm : y.bm = x.bm
theorem MoreB.none_ {y : Ins} (h : MoreB x y) (hm : May x) (hq : ∀ s c,s < x.sats.length → c < x.cus.length → p s c = true → q s c = true) (hl : CountsOf x p l) (hl2 : CountsOf y q l2) (hn : NoB x p l 6) : NoB y q l2 6 := by
 have et : totalI y = totalI x := by
  unfold totalI; rw [h.nc]; exact sumD_congr (fun c _ => h.ld c)
 have e1 : ldI y = ldI x := funext h.ld; have ef : ∀ (f r r2 : Nat → Int),(∀ s,s < x.sats.length → 0 ≤ r s) → (∀ s,s < x.sats.length → r s ≤ r2 s) → ∀ z,shortV x.cus.length x.sats.length q f r2 z ≤ shortV x.cus.length x.sats.length p f r z := fun f r r2 h0 hr z => by
  unfold shortV; have : sumD (fun s => if touchZ x.cus.length (p s) z = true then r s else 0) x.sats.length ≤ sumD (fun s => if touchZ x.cus.length (q s) z = true then r2 s else 0) x.sats.length := sumD_le (fun s hs => by
   have a := h0 s hs; have b := hr s hs; by_cases t : touchZ x.cus.length (p s) z = true
   ·have t2 : touchZ x.cus.length (q s) z = true := by
     obtain ⟨c,hc,h1,h2⟩ := touchZ_true.1 t; exact touchZ_true.2 ⟨c,hc,hq s c hs hc h1,h2⟩
    rw [if_pos t,if_pos t2]; exact b
   ·rw [if_neg t]
    split <;> omega)
  omega
 have hcn : ∀ s,s < x.sats.length → l.getD s 0 ≤ l2.getD s 0 := fun s hs => by
  obtain ⟨n,a1,a2⟩ := hl.2 s hs; obtain ⟨n2,b1,b2⟩ := hl2.2 s (by rw [h.ns]; exact hs)
  rw [List.getD,a2,Option.getD_some,List.getD,b2,Option.getD_some]; rw [h.nc,e1] at b1; exact a1.mono b1 (fun c hc => hq s c hs hc) (h.rooms s hs)
 refine ⟨fun _ c hb => ?_,fun _ c hb => ?_,fun _ => ?_,fun _ => ?_,fun _ y2 hy => ?_,fun _ y2 hy => ?_⟩
 ·refine hn.1 (by omega) c ⟨by rw [← h.nc]; exact hb.1,?_⟩
  have := hb.2; rw [h.ld] at this; have := h.br; omega
 ·refine hn.2.1 (by omega) c ⟨by rw [← h.nc]; exact hb.1,fun s hs => ?_⟩
  have h2 := hb.2 s (by rw [h.ns]; exact hs)
  cases e : p s c with
  | false => rfl
  | true => rw [hq s c hs (by rw [← h.nc]; exact hb.1) e] at h2; cases h2
 ·have := hn.2.2.1 (by omega)
  rw [et,h.tm]; have h2 : x.tm * x.tr ≤ x.tm * y.tr := Int.mul_le_mul_of_nonneg_left h.tr (by have := hm.tm; omega)
  omega
 ·have := hn.2.2.2.1 (by omega)
  rw [et,h.bm]; have h2 : x.bm * x.br ≤ x.bm * y.br := Int.mul_le_mul_of_nonneg_left h.br (by have := hm.bm; omega)
  omega
 ·rw [h.nc] at hy
  have h1 := hn.2.2.2.2.1 (by omega) y2 hy
  have h2 := ef (ldI x) (roomI x) (roomI y) (fun s hs => (hm.rooms s hs).1) h.rooms y2; unfold shortL at h1 ⊢; rw [h.nc,h.ns,e1]; omega
 ·rw [h.nc] at hy
  have h1 := hn.2.2.2.2.2 (by omega) y2 hy
  have h2 := ef (fun _ => 1) (fun s => l.getD s 0) (fun s => l2.getD s 0) hl.pos hcn y2; unfold shortC at h1 ⊢; rw [h.nc,h.ns]; omega
end Go.Proofs.YtfkommjlmolniaaGreatDoor
end
section

namespace Go.Proofs.YtfkommjlmolniaaGreatDoor
open Go.RowKit
def Fits (n : Int) : Prop := -9223372036854775808 ≤ n ∧ n ≤ 9223372036854775807
instance (n : Int) : Decidable (Fits n) := inferInstanceAs (Decidable (_ ∧ _))
theorem ret_int {k : IntKind} {a b : Int} (h : a = b) : Ending.returned (.int k a) = .returned (.int k b) := by rw [h]
/-! ### Products -/
end Go.Proofs.YtfkommjlmolniaaGreatDoor
end
section

namespace Go.Proofs.YtfkommjlmolniaaGreatDoor
open Go.RowKit
/-! ### Sets -/
def onlyN (n : Int) : Nat := if 0 ≤ n ∧ n < 64 then 2 ^ n.toNat else 0
def withN (s : Nat) (n : Int) : Nat := s ||| onlyN n
def lessN (a b : Nat) : Nat := a &&& (18446744073709551615 - b)
def withoutN (s : Nat) (n : Int) : Nat := lessN s (onlyN n)
def ofN (l : List Int) : Nat := l.foldl withN 0
theorem pow64 : (2 : Nat) ^ 64 = 18446744073709551616 := by decide
theorem onlyN_lt (n : Int) : onlyN n < 18446744073709551616 := by
 unfold onlyN; split
 ·rw [← pow64]; exact Nat.pow_lt_pow_right (by omega) (by omega)
 ·omega
theorem withN_lt {s : Nat} (h : s < 18446744073709551616) (n : Int) : withN s n < 18446744073709551616 := by
 have h1 := onlyN_lt n; rw [← pow64] at *; exact Nat.or_lt_two_pow h h1
theorem lessN_lt {a : Nat} (h : a < 18446744073709551616) (b : Nat) : lessN a b < 18446744073709551616 := by
 unfold lessN; exact Nat.lt_of_le_of_lt Nat.and_le_left h
theorem withoutN_lt {s : Nat} (h : s < 18446744073709551616) (n : Int) : withoutN s n < 18446744073709551616 := lessN_lt h _
theorem and_lt {a : Nat} (h : a < 18446744073709551616) (b : Nat) : a &&& b < 18446744073709551616 := Nat.lt_of_le_of_lt Nat.and_le_left h
theorem only_bit (n : Int) (i : Nat) : (onlyN n).testBit i = decide (0 ≤ n ∧ n < 64 ∧ n.toNat = i) := by
 unfold onlyN; split
 ·rename_i h
  rw [Nat.testBit_two_pow]; simp [h]
 ·rename_i h
  rw [Nat.zero_testBit]; symm
  rw [decide_eq_false_iff_not]; omega
theorem with_bit (s : Nat) (n : Int) (i : Nat) : (withN s n).testBit i = (s.testBit i || decide (0 ≤ n ∧ n < 64 ∧ n.toNat = i)) := by
 unfold withN; rw [Nat.testBit_or,only_bit]
theorem less_bit (a b i : Nat) (hb : b < 18446744073709551616) (hi : i < 64) : (lessN a b).testBit i = (a.testBit i && !b.testBit i) := by
 unfold lessN; have e : 18446744073709551615 - b = 2 ^ 64 - (b + 1) := by rw [pow64]; omega
 rw [Nat.testBit_and,e,Nat.testBit_two_pow_sub_succ (by rw [pow64]; exact hb)]
 simp [hi]
theorem without_bit (s : Nat) (n : Int) (i : Nat) (hi : i < 64) : (withoutN s n).testBit i = (s.testBit i && !decide (0 ≤ n ∧ n < 64 ∧ n.toNat = i)) := by
 unfold withoutN; rw [less_bit _ _ _ (onlyN_lt n) hi,only_bit]
theorem high_bit {s : Nat} (h : s < 18446744073709551616) (i : Nat) (hi : 64 ≤ i) : s.testBit i = false := by
 apply Nat.testBit_lt_two_pow
 exact Nat.lt_of_lt_of_le (by rw [← pow64] at h; exact h) (Nat.pow_le_pow_right (by omega) hi)
theorem bits_ext {a b : Nat} (ha : a < 18446744073709551616) (hb : b < 18446744073709551616) (h : ∀ i,i < 64 → a.testBit i = b.testBit i) : a = b := by
 apply Nat.eq_of_testBit_eq
 intro i; by_cases hi : i < 64
 ·exact h i hi
 ·rw [high_bit ha i (by omega),high_bit hb i (by omega)]
/-! ### The set of some numbers -/
theorem ofN_snoc (l : List Int) (n : Int) : ofN (l ++ [n]) = withN (ofN l) n := by simp [ofN]
theorem ofN_lt (l : List Int) : ofN l < 18446744073709551616 := by
 unfold ofN; have : ∀ (l : List Int) (s : Nat),s < 18446744073709551616 → l.foldl withN s < 18446744073709551616 := by
  intro l; induction l with
  | nil => intro s h; exact h
  | cons n l ih => intro s h; exact ih _ (withN_lt h n)
 exact this l 0 (by omega)
def inB (l : List Int) (i : Nat) : Bool := l.any fun n => decide (n = (i : Int))
theorem ofN_bit (l : List Int) (i : Nat) (hi : i < 64) : (ofN l).testBit i = inB l i := by
 have : ∀ (l : List Int) (s : Nat),(l.foldl withN s).testBit i = (s.testBit i || inB l i) := by
  intro l; induction l with
  | nil => intro s; simp [inB]
  | cons n l ih =>
   intro s; rw [List.foldl_cons,ih,with_bit]; have e : decide (0 ≤ n ∧ n < 64 ∧ n.toNat = i) = decide (n = (i : Int)) := by
    rw [decide_eq_decide]; omega
   rw [e]; simp [inB,Bool.or_assoc]
 have h := this l 0; rw [Nat.zero_testBit,Bool.false_or] at h; exact h
end Go.Proofs.YtfkommjlmolniaaGreatDoor
end
section

namespace Go.Proofs.YtfkommjlmolniaaGreatDoor
/-! ### All numbers of a set -/
def allN (s : Nat) : List Nat := (List.range 64).filter s.testBit
theorem allN_len (s : Nat) : (allN s).length ≤ 64 := by
 have := List.length_filter_le s.testBit (List.range 64); simpa [allN] using this
theorem allN_zero : allN 0 = [] := by
 unfold allN; rw [List.filter_eq_nil_iff]; intro i _; simp
theorem mem_allN (s i : Nat) : i ∈ allN s ↔ i < 64 ∧ s.testBit i = true := by simp [allN]
theorem ctz_bit (s : Nat) (h0 : s ≠ 0) (hs : s < 18446744073709551616) : Lib.ctz 64 s < 64 ∧ s.testBit (Lib.ctz 64 s) = true ∧ ∀ i,i < Lib.ctz 64 s → s.testBit i = false := by
 obtain ⟨m,hm,hk⟩ := Lib.ctzFrom_spec 64 s (by omega) (by rw [pow64]; exact hs)
 have e : Lib.ctz 64 s = Lib.ctzFrom 64 s := by simp [Lib.ctz,h0]
 rw [e]; generalize Lib.ctzFrom 64 s = k at hm hk; refine ⟨hk,?_,fun i hi => ?_⟩
 ·rw [hm,Nat.testBit_two_pow_mul]
  simp
 ·rw [hm,Nat.testBit_two_pow_mul]
  simp; omega
theorem range_split (n k : Nat) (h : n < k) : List.range k = List.range n ++ n :: (List.range' (n + 1) (k - n - 1)) := by
 rw [List.range_eq_range',List.range_eq_range',← List.range'_succ]; have : k = n + (k - n - 1 + 1) := by omega
 conv => lhs; rw [this]
 rw [← List.range'_append_1]; simp
theorem allN_next (s : Nat) (h0 : s ≠ 0) (hs : s < 18446744073709551616) : allN s = Lib.ctz 64 s :: allN (withoutN s (Lib.ctz 64 s : Nat)) := by
 obtain ⟨hk,h1,h2⟩ := ctz_bit s h0 hs; generalize Lib.ctz 64 s = n at hk h1 h2; have hw : ∀ i,i < 64 → (withoutN s (n : Int)).testBit i = (s.testBit i && !decide (n = i)) := fun i hi => by
  rw [without_bit _ _ _ hi]; congr 2
  rw [decide_eq_decide]; omega
 unfold allN; rw [range_split n 64 hk,List.filter_append,List.filter_append,List.filter_cons,List.filter_cons,h1,hw n hk]; have e1 : (List.range n).filter s.testBit = [] := by
  rw [List.filter_eq_nil_iff]; intro i hi; rw [h2 i (by simpa using hi)]; simp
 have e2 : (List.range n).filter (withoutN s (n : Int)).testBit = [] := by
  rw [List.filter_eq_nil_iff]; intro i hi; have hi2 : i < n := by simpa using hi
  rw [hw i (by omega),h2 i hi2]; simp
 have e3 : (List.range' (n + 1) (64 - n - 1)).filter s.testBit = (List.range' (n + 1) (64 - n - 1)).filter (withoutN s (n : Int)).testBit := by
  apply List.filter_congr
  intro i hi; rw [List.mem_range'_1] at hi; have : decide (n = i) = false := by rw [decide_eq_false_iff_not]; omega
  rw [hw i (by omega),this]; simp
 rw [e1,e2,e3]; simp
end Go.Proofs.YtfkommjlmolniaaGreatDoor
end

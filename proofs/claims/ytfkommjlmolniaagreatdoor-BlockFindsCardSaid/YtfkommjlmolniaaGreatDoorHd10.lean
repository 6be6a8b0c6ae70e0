/- Joined: Heap, PLess, PSwap, PMeth, PUp, PDown, PRow. -/
import Derived.Sort.LotA
import Derived.Test.YtfkommjlmolniaaGreatDoorRows
import Derived.Shelf.GgSortFunc.RowK
import Derived.Deep.QuietTactic
import Derived.BigQuiet
import Derived.WalkKit
import Derived.Lib.Hide
import Derived.RegionTactic
import Derived.BigRegion
import Derived.Deep.RegionWith
import Derived.Deep.LoopGhost
import Derived.LoopTactic
import Derived.Test.YtfkommjlmolniaaGreatDoorHd1
import Derived.Below
import Derived.Laws.AppendOwn
import Derived.Laws.NewBlocks
import Derived.OneCell
set_option linter.unusedVariables false
section

namespace Go.Proofs.YtfkommjlmolniaaGreatDoor
open Go.Sort (swp swp_get size_swp perm_set_set)
abbrev It := Int × Int
def lessB (x y : It) : Bool := decide (x.1 < y.1 ∨ x.1 = y.1 ∧ x.2 < y.2)
def Le (x y : It) : Prop := x.1 < y.1 ∨ x.1 = y.1 ∧ x.2 ≤ y.2
theorem lessB_false {x y : It} : lessB x y = false ↔ Le y x := by unfold lessB Le; rw [decide_eq_false_iff_not]; omega
theorem lessB_true {x y : It} : lessB x y = true ↔ ¬ Le y x := by unfold lessB Le; rw [decide_eq_true_iff]; omega
theorem Le.refl (x : It) : Le x x := Or.inr ⟨rfl,Int.le_refl _⟩
theorem Le.trans {x y z : It} (h : Le x y) (g : Le y z) : Le x z := by unfold Le at *; omega
theorem Le.total (x y : It) : Le x y ∨ Le y x := by unfold Le; omega
theorem Le.of_less {x y : It} (h : ¬ Le y x) : Le x y := (Le.total x y).resolve_right h
def HeapB (n : Nat) (d : Array It) : Prop := ∀ k,0 < k → k < n → Le d[(k - 1) / 2]! d[k]!
def UpInv (n j : Nat) (d : Array It) : Prop :=
 (∀ k,0 < k → k < n → k ≠ j → Le d[(k - 1) / 2]! d[k]!) ∧ (∀ k,0 < k → k < n → (k - 1) / 2 = j → 0 < j → Le d[(j - 1) / 2]! d[k]!)
def Z4u (n i : Nat) (d : Array It) : Prop :=
 (∀ k,0 < k → k < n → (k - 1) / 2 ≠ i → Le d[(k - 1) / 2]! d[k]!) ∧ (∀ k,0 < k → k < n → (k - 1) / 2 = i → 0 < i → Le d[(i - 1) / 2]! d[k]!)
theorem Zkg {n : Nat} {d : Array It} (h : HeapB n d) : ∀ k,k < n → Le d[0]! d[k]! := by
 intro k; induction k using Nat.strongRecOn with
 | ind k ih =>
  intro hk; by_cases h0 : k = 0
  ·subst h0; exact Le.refl _
  ·exact (ih ((k - 1) / 2) (by omega) (by omega)).trans (h k (by omega) hk)
theorem Zkh (d : Array It) : HeapB 0 d := fun k _ h => absurd h (Nat.not_lt_zero k)
theorem Zf2 {n : Nat} {d e : Array It} (h : HeapB n d) (he : ∀ k,k < n → e[k]! = d[k]!) : HeapB n e := fun k h0 hk => by
 rw [he k hk,he ((k - 1) / 2) (by omega)]; exact h k h0 hk
theorem Z61 (d : Array It) (x : It) (k : Nat) (h : k < d.size) : (d.push x)[k]! = d[k]! := by
 rw [getElem!_pos _ k (by simp; omega),getElem!_pos d k h,Array.getElem_push_lt]
theorem Zn2 (d : Array It) (k : Nat) (h : k < d.size - 1) : (d.pop)[k]! = d[k]! := by
 rw [getElem!_pos _ k (by simpa using h),getElem!_pos d k (by omega),Array.getElem_pop]
theorem Zki {d : Array It} (x : It) (h : HeapB d.size d) : UpInv (d.size + 1) d.size (d.push x) := by
 refine ⟨fun k h0 hk hne => ?_,fun k h0 hk he hj => ?_⟩
 ·rw [Z61 d x k (by omega),Z61 d x _ (by omega)]
  exact h k h0 (by omega)
 ·exfalso; omega
theorem Zn3 {n j : Nat} {d : Array It} (h : UpInv n j d) (hs : j = 0 ∨ Le d[(j - 1) / 2]! d[j]!) : HeapB n d := by
 intro k h0 hk; by_cases hj : k = j
 ·subst hj
  rcases hs with hs | hs
  ·omega
  ·exact hs
 ·exact h.1 k h0 hk hj
theorem Zn4 {n i j : Nat} {d : Array It} (hn : n ≤ d.size) (h : UpInv n j d) (hj : 0 < j) (hjn : j < n) (hi : i = (j - 1) / 2) (hl : ¬ Le d[i]! d[j]!) : UpInv n i (swp d i j) := by
 have hij : i < j := by omega
 have g := swp_get d (i := i) (j := j) (by omega) (by omega)
 have hl' := Le.of_less hl; refine ⟨fun k h0 hk hne => ?_,fun k h0 hk he hi0 => ?_⟩
 ·rw [g,g]
  by_cases k1 : k = j
  ·subst k1
   rw [if_neg (by omega),if_pos hi.symm,if_pos rfl]
   exact hl'
  ·rw [if_neg k1,if_neg hne]
   by_cases p1 : (k - 1) / 2 = j
   ·rw [if_pos p1,hi]
    exact h.2 k h0 hk p1 hj
   ·rw [if_neg p1]
    by_cases p2 : (k - 1) / 2 = i
    ·rw [if_pos p2]
     have := h.1 k h0 hk k1; rw [p2] at this; exact hl'.trans this
    ·rw [if_neg p2]
     exact h.1 k h0 hk k1
 ·rw [g,g]
  rw [if_neg (by omega),if_neg (by omega)]
  have hii := h.1 i hi0 (by omega) (by omega)
  by_cases k1 : k = j
  ·rw [if_pos k1]; exact hii
  ·rw [if_neg k1,if_neg (by omega)]
   have := h.1 k h0 hk k1; rw [he] at this; exact hii.trans this
theorem Zf3 {n : Nat} {d : Array It} (hs : d.size = n + 1) (h : HeapB (n + 1) d) : Z4u n 0 (swp d 0 n) := by
 have g := swp_get d (i := 0) (j := n) (by omega) (by omega)
 refine ⟨fun k h0 hk hne => ?_,fun k h0 hk he h1 => absurd h1 (Nat.lt_irrefl 0)⟩; rw [g,g,if_neg (by omega),if_neg (by omega),if_neg (by omega),if_neg (by omega)]
 exact h k h0 (by omega)
theorem Za9 {n i : Nat} {d : Array It} (h : Z4u n i d) (hs : ∀ k,0 < k → k < n → (k - 1) / 2 = i → Le d[i]! d[k]!) : HeapB n d := by
 intro k h0 hk; by_cases hp : (k - 1) / 2 = i
 ·rw [hp]; exact hs k h0 hk hp
 ·exact h.1 k h0 hk hp
theorem Zhs {n i j : Nat} {d : Array It} (hn : n ≤ d.size) (h : Z4u n i d) (hj : 0 < j) (hjn : j < n) (hi : (j - 1) / 2 = i) (hl : ¬ Le d[i]! d[j]!)
  (ho : ∀ k,0 < k → k < n → (k - 1) / 2 = i → Le d[j]! d[k]!) : Z4u n j (swp d i j) := by
 have hij : i < j := by omega
 have g := swp_get d (i := i) (j := j) (by omega) (by omega)
 have hl' := Le.of_less hl; refine ⟨fun k h0 hk hne => ?_,fun k h0 hk he hj0 => ?_⟩
 ·rw [g,g]
  rw [if_neg hne]; by_cases k1 : k = j
  ·subst k1
   rw [if_pos rfl,if_pos hi]; exact hl'
  ·rw [if_neg k1]
   by_cases p2 : (k - 1) / 2 = i
   ·rw [if_pos p2,if_neg (by omega)]
    exact ho k h0 hk p2
   ·rw [if_neg p2]
    by_cases k2 : k = i
    ·rw [if_pos k2]
     have := h.2 j hj hjn hi (by omega)
     rw [k2]; exact this
    ·rw [if_neg k2]
     exact h.1 k h0 hk p2
 ·rw [g,g]
  rw [if_neg (by omega),if_pos hi,if_neg (by omega),if_neg (by omega)]
  have := h.1 k h0 hk (by omega)
  rw [he] at this; exact this
theorem Z8h (l : List It) (i j : Nat) (hi : i < l.length) (hj : j < l.length) : ((l.set i l[j]).set j l[i]).Perm l := perm_set_set l i j hi hj
theorem Zf4 (d : Array It) (i j : Nat) (hi : i < d.size) (hj : j < d.size) : (swp d i j).toList = (d.toList.set i (d.toList[j]'(by simpa using hj))).set j (d.toList[i]'(by simpa using hi)) := by
 unfold swp; simp [getElem!_pos d i hi,getElem!_pos d j hj]
theorem Z8i (d : Array It) (i j : Nat) (hi : i < d.size) (hj : j < d.size) : (swp d i j).toList.Perm d.toList := by
 rw [Zf4 d i j hi hj]; exact Z8h d.toList i j (by simpa using hi) (by simpa using hj)
theorem Zkj (d : Array It) (n : Nat) (hs : d.size = n + 1) : d.toList.Perm (d[n]! :: d.pop.toList) := by
 have h1 : d.toList = d.pop.toList ++ [d[n]!] := by
  have hn : n < d.toList.length := by simp; omega
  rw [Array.toList_pop,getElem!_pos d n (by omega)]
  have h2 := List.dropLast_concat_getLast (l := d.toList) (by intro e; rw [e] at hn; simp at hn)
  conv => lhs; rw [← h2]
  congr 2
  rw [List.getLast_eq_getElem]; simp [hs]
 rw [h1]; exact List.perm_append_comm
theorem Zht (d : Array It) (x : It) : (d.push x).toList.Perm (x :: d.toList) := by
 simp only [Array.toList_push]
 exact List.perm_append_comm
theorem Zn5 (d : Array It) (x : It) (h : x ∈ d.toList) : ∃ k,k < d.size ∧ d[k]! = x := by
 obtain ⟨k,hk,e⟩ := List.getElem_of_mem h; refine ⟨k,by simpa using hk,?_⟩
 rw [getElem!_pos d k (by simpa using hk)]
 simpa using e
theorem Zf5 {d : Array It} (h : HeapB d.size d) : ∀ x ∈ d.toList,Le d[0]! x := by
 intro x hx; obtain ⟨k,hk,rfl⟩ := Zn5 d x hx; exact Zkg h k hk
end Go.Proofs.YtfkommjlmolniaaGreatDoor
end
section

namespace Go.Proofs.YtfkommjlmolniaaGreatDoor
set_option maxHeartbeats 16000000
set_option maxRecDepth 100000
open Go.Lib (hid)
open Go.RowKit
open Go.Sort (swp HoldsK putRowK)
def encIt (x : It) : List Value := [.int .i64 x.1,.int .i64 x.2]
theorem Z4h {w : World} {g : Nat} {d : Array It} (H : HoldsK encIt 2 w g 0 d) {i : Nat} (hi : i < d.size) : w.cell? ⟨g,i * 2,none⟩ = some (.int .i64 d[i]!.1) := by
 have := (H.cell hi (c := 0) (by omega)).1
 simpa [encIt] using this
theorem Z6b {w : World} {g : Nat} {d : Array It} (H : HoldsK encIt 2 w g 0 d) {i : Nat} (hi : i < d.size) : w.cell? ⟨g,i * 2 + 1,none⟩ = some (.int .i64 d[i]!.2) := by
 have := (H.cell hi (c := 1) (by omega)).1
 simpa [encIt] using this
theorem Zlc (w : World) (a b : Nat) : (w.drewN a).drewN b = w.drewN (a + b) := by
 simp [World.drewN,Nat.add_assoc]
theorem Zdp {p q : Bool} (h : p = q) : Ending.returned (.bool p) = .returned (.bool q) := by rw [h]
theorem Zld {x y : It} (h : (x.1 != y.1) = true) : decide (x.1 < y.1) = lessB x y := by
 have h' : x.1 ≠ y.1 := by simpa using h
 unfold lessB; congr 1; apply propext; omega
theorem Zne {x y : It} (h : (x.1 != y.1) = false) : decide (x.2 < y.2) = lessB x y := by
 have h' : x.1 = y.1 := by simpa using h
 unfold lessB; congr 1; apply propext; omega
theorem Z7p (a : Option Addr) (n cap : Nat) (w : World) : Calls Tryz.prog 158 #[.slice a n cap] w fun e w' => e = .returned (.int .i64 n) ∧ w = w' := by
 go_enter Tryz.func158,Tryz.ntmps158
 go_wp2_with fail
 go_ret
 exact ⟨rfl,rfl⟩
theorem Z6c (g n cap i j : Nat) (d : Array It) (w : World) (hn : n = d.size) (hi : i < n) (hj : j < n) (H : HoldsK encIt 2 w g 0 d) :
  Calls Tryz.prog 159 #[.slice (some ⟨g,0,none⟩) n cap,.int .i64 i,.int .i64 j] w fun e w' => e = .returned (.bool (lessB d[i]! d[j]!)) ∧ ∃ q,w' = w.drewN q := by
 have c1 := Z4h H (i := i) (by omega)
 have c2 := Z6b H (i := i) (by omega)
 have c3 := Z4h H (i := j) (by omega)
 have c4 := Z6b H (i := j) (by omega)
 have HN := hid hn; clear hn H; generalize d[i]! = x at c1 c2 ⊢; generalize d[j]! = y at c3 c4 ⊢; have i1 : (i : Int) < (n : Int) := by omega
 have j1 : (j : Int) < (n : Int) := by omega
 go_enter Tryz.func159,Tryz.ntmps159
 go_wp2_with fail
 go_quiet (fail)
 go_wp2_with fail
 all_goals
  have h0 : (x.1 != y.1) = true ∨ (x.1 != y.1) = false := by cases (x.1 != y.1) <;> simp
  obtain ⟨w2,hw2⟩ : ∃ w2,w2 = w.drewN nq := ⟨_,rfl⟩; have HW := hid hw2; rw [← hw2]; have d1 : w2.cell? ⟨g,i * 2,none⟩ = some (.int .i64 x.1) := by rw [hw2]; exact c1
  have d2 : w2.cell? ⟨g,i * 2 + 1,none⟩ = some (.int .i64 x.2) := by rw [hw2]; exact c2
  have d3 : w2.cell? ⟨g,j * 2,none⟩ = some (.int .i64 y.1) := by rw [hw2]; exact c3
  have d4 : w2.cell? ⟨g,j * 2 + 1,none⟩ = some (.int .i64 y.2) := by rw [hw2]; exact c4
  clear hw2 h0 c1 c2 c3 c4; go_quiet (fail)
  go_wp2_with fail
  go_ret
  refine ⟨?_,_,by rw [HW.out]; exact Zlc w _ _⟩
  first
   | exact Zdp (Zld (by assumption))
   | exact Zdp (Zne (by assumption))
end Go.Proofs.YtfkommjlmolniaaGreatDoor
end
section

namespace Go.Proofs.YtfkommjlmolniaaGreatDoor
set_option maxHeartbeats 16000000
set_option maxRecDepth 100000
open Go.Lib (hid)
open Go.RowKit
open Go.Sort (swp HoldsK putRowK swap_worldK)
theorem Zds {w : World} {g : Nat} {d : Array It} (H : HoldsK encIt 2 w g 0 d) {i : Nat} (hi : i < d.size) : w.frozen? ⟨g,i * 2,none⟩ = false := by
 have := (H.cell hi (c := 0) (by omega)).2
 simpa using this
theorem Zij {w : World} {g : Nat} {d : Array It} (H : HoldsK encIt 2 w g 0 d) {i : Nat} (hi : i < d.size) : w.frozen? ⟨g,i * 2 + 1,none⟩ = false := by
 have := (H.cell hi (c := 1) (by omega)).2
 simpa using this
theorem Z3u (w : World) (a b : Addr) (v : Value) (h : w.cell? b = some v) (x : Value) : ∃ u,(w.setCell a x).cell? b = some u :=
 cell?_setCell_some h
theorem Z6e (w : World) (a b c : Addr) (v : Value) (h : w.cell? c = some v) (x y : Value) : ∃ u,((w.setCell a x).setCell b y).cell? c = some u := by
 obtain ⟨u,hu⟩ := Z3u w a c v h x; exact Z3u _ b c u hu y
theorem Zc8 (w : World) (a b c d : Addr) (v : Value) (h : w.cell? d = some v) (x y z : Value) : ∃ u,(((w.setCell a x).setCell b y).setCell c z).cell? d = some u := by
 obtain ⟨u,hu⟩ := Z6e w a b d v h x y; exact Z3u _ c d u hu z
theorem Zlh (w : World) (g : Nat) (d : Array It) (i j : Nat) (hi : i < d.size) (hj : j < d.size) (H : HoldsK encIt 2 w g 0 d) :
  ((((w.setCell ⟨g,i * 2,none⟩ (.int .i64 d[j]!.1)).setCell ⟨g,i * 2 + 1,none⟩ (.int .i64 d[j]!.2)).setCell ⟨g,j * 2,none⟩ (.int .i64 d[i]!.1)).setCell ⟨g,j * 2 + 1,none⟩ (.int .i64 d[i]!.2)).drew =
   putRowK encIt 2 (Sort.ahead w 1) g 0 (swp d i j) := by
 have h := swap_worldK encIt 2 (fun _ => rfl) w 0 1 g 0 d i j hi hj; rw [show Sort.ahead w 0 = w from rfl,Sort.putRowK_self encIt 2 w g 0 d H] at h
 simp only [Nat.zero_add] at h
 rw [← h]; rfl
theorem Z8r (g n cap i j : Nat) (d : Array It) (w : World) (hn : n = d.size) (hi : i < n) (hj : j < n) (H : HoldsK encIt 2 w g 0 d) :
  Calls Tryz.prog 160 #[.slice (some ⟨g,0,none⟩) n cap,.int .i64 i,.int .i64 j] w fun e w' => e = .returned (.tuple #[]) ∧ ∃ q,w' = putRowK encIt 2 (Sort.ahead w q) g 0 (swp d i j) := by
 have c1 := Z4h H (i := i) (by omega)
 have c2 := Z6b H (i := i) (by omega)
 have c3 := Z4h H (i := j) (by omega)
 have c4 := Z6b H (i := j) (by omega)
 have f1 := Zds H (i := i) (by omega)
 have f2 := Zij H (i := i) (by omega)
 have f3 := Zds H (i := j) (by omega)
 have f4 := Zij H (i := j) (by omega)
 obtain ⟨u1,h1⟩ := Z3u w ⟨g,i * 2,none⟩ ⟨g,i * 2 + 1,none⟩ (.int .i64 d[i]!.2) c2 (.int .i64 d[j]!.1); obtain ⟨u2,h2⟩ := Z6e w ⟨g,i * 2,none⟩ ⟨g,i * 2 + 1,none⟩ ⟨g,j * 2,none⟩ _ c3 (.int .i64 d[j]!.1) (.int .i64 d[j]!.2); obtain ⟨u3,h3⟩ := Zc8 w ⟨g,i * 2,none⟩ ⟨g,i * 2 + 1,none⟩ ⟨g,j * 2,none⟩ ⟨g,j * 2 + 1,none⟩ _ c4 (.int .i64 d[j]!.1) (.int .i64 d[j]!.2) (.int .i64 d[i]!.1); have HN := hid hn; clear hn; have HH := hid H; clear H; have i1 : (i : Int) < (n : Int) := by omega
 have j1 : (j : Int) < (n : Int) := by omega
 go_enter Tryz.func160,Tryz.ntmps160
 go_wp2_with fail
 go_region
 go_end0
 refine ⟨rfl,1,?_⟩; exact Zlh w g d i j (by have := HN.out; omega) (by have := HN.out; omega) HH.out
end Go.Proofs.YtfkommjlmolniaaGreatDoor
end
section

namespace Go.Proofs.YtfkommjlmolniaaGreatDoor
open Go.RowKit
theorem Zc5 (a : Addr) (w : World) (v : Value) (h : w.cell? a = some v) : (loadVar 177 a).run Tryz.prog w = .ok v w := by
 go_simp
theorem Znf {P : Program} (T : Nat) (a : Addr) (s name : ByteArray) (w : World) : (Builtin.ssaWrapNilChk_ #[T] T #[.pointer (some a),.string s,.string name]).run P w = .ok (.pointer (some a)) w := by
 rfl
theorem Z8p {P : Program} {T E f : Nat} {name : String} (ht : P.underlying T = some (.pointer E))
  (hm : (P.info? T).bind (fun i => (i.methods.find? (·.name == name)).map fun m => (m.path,m.func)) = some (#[],some (f,false)))
  (k : Nat) (a : Addr) (w : World) (v : Value) (h : (loadVar E a).run P w = .ok v w) : (method (k + 1) T (.pointer (some a)) name).run P w = .ok (f,v) w := by
 cases hi : P.info? T with
 | none => simp [hi] at hm
 | some i =>
  simp only [hi,Option.bind_some,Option.map_eq_some_iff] at hm
  obtain ⟨m,hm1,hm2⟩ := hm; simp only [Prod.mk.injEq] at hm2
  unfold method; simp [typeInfo,hi,hm1,hm2.1,hm2.2,follow,receiverAt,Place.get,run_underlying ht,strVal,Znf,asAddr,h,Sem.run_bind]
theorem Zdq {P : Program} {T E f : Nat} {name : String} (ht : P.underlying T = some (.pointer E))
  (hm : (P.info? T).bind (fun i => (i.methods.find? (·.name == name)).map fun m => (m.path,m.func)) = some (#[],some (f,true)))
  (k : Nat) (a : Addr) (w : World) : (method (k + 1) T (.pointer (some a)) name).run P w = .ok (f,.pointer (some a)) w := by
 cases hi : P.info? T with
 | none => simp [hi] at hm
 | some i =>
  simp only [hi,Option.bind_some,Option.map_eq_some_iff] at hm
  obtain ⟨m,hm1,hm2⟩ := hm; simp only [Prod.mk.injEq] at hm2
  unfold method; simp [typeInfo,hi,hm1,hm2.1,hm2.2,follow,receiverAt,Place.get,run_underlying ht,Sem.run_bind]
theorem Zdr (a : Addr) (w : World) (v : Value) (h : w.cell? a = some v) : (method 322 181 (.pointer (some a)) "Len").run Tryz.prog w = .ok (158,v) w :=
 Z8p Tryz.underlying181 (by kernel_rfl) 321 a w v (Zc5 a w v h)
theorem Z1c (a : Addr) (w : World) (v : Value) (h : w.cell? a = some v) : (method 322 181 (.pointer (some a)) "Less").run Tryz.prog w = .ok (159,v) w :=
 Z8p Tryz.underlying181 (by kernel_rfl) 321 a w v (Zc5 a w v h)
theorem Z3e (a : Addr) (w : World) (v : Value) (h : w.cell? a = some v) : (method 322 181 (.pointer (some a)) "Swap").run Tryz.prog w = .ok (160,v) w :=
 Z8p Tryz.underlying181 (by kernel_rfl) 321 a w v (Zc5 a w v h)
theorem Zie (a : Addr) (w : World) : (method 322 181 (.pointer (some a)) "Push").run Tryz.prog w = .ok (162,.pointer (some a)) w :=
 Zdq Tryz.underlying181 (by kernel_rfl) 321 a w
theorem Zle (a : Addr) (w : World) : (method 322 181 (.pointer (some a)) "Pop").run Tryz.prog w = .ok (161,.pointer (some a)) w :=
 Zdq Tryz.underlying181 (by kernel_rfl) 321 a w
end Go.Proofs.YtfkommjlmolniaaGreatDoor
end
section

namespace Go.Proofs.YtfkommjlmolniaaGreatDoor
set_option maxHeartbeats 16000000
set_option maxRecDepth 100000
open Go.Lib (hid)
open Go.RowKit
open Go.Sort (swp size_swp HoldsK putRowK)
def UpRel (w : World) (g n : Nat) (d : Array It) (k : Nat) (dk : Array It) (wr : World) : Prop :=
 dk.size = d.size ∧ (∃ q,wr = putRowK encIt 2 (Sort.ahead w q) g 0 dk) ∧ UpInv n k dk ∧ dk.toList.Perm d.toList
theorem Z7r (w : World) (g : Nat) (dk dl : Array It) (q q2 : Nat) (h : dl.size = dk.size) :
  putRowK encIt 2 (Sort.ahead (putRowK encIt 2 (Sort.ahead w q) g 0 dk) q2) g 0 dl = putRowK encIt 2 (Sort.ahead w (q + q2)) g 0 dl := by
 unfold putRowK; have e : Sort.ahead (Sort.putRow id (Sort.ahead w q) g 0 (Sort.flatK encIt 2 dk)) q2 = Sort.putRow id (Sort.ahead w (q + q2)) g 0 (Sort.flatK encIt 2 dk) := Go.Proofs.putRow_drewN id w q q2 g 0 _; rw [e,Sort.putRow_putRow id _ g 0 _ _ (by simp [h])]
theorem UpRel.holds {w : World} {g n : Nat} {d : Array It} {k : Nat} {dk : Array It} {wr : World} (h : UpRel w g n d k dk wr) (H : HoldsK encIt 2 w g 0 d) : HoldsK encIt 2 wr g 0 dk := by
 obtain ⟨hs,⟨q,rfl⟩,_⟩ := h; exact Sort.holdsK_putRowK encIt 2 _ g 0 d dk (Sort.holdsK_ahead encIt 2 w q g 0 d H) hs
theorem UpRel.cell {w : World} {g n : Nat} {d : Array It} {k : Nat} {dk : Array It} {wr : World} (h : UpRel w g n d k dk wr) {a : Addr} (ha : a.block ≠ g) {v : Value} (hc : w.cell? a = some v) : wr.cell? a = some v := by
 obtain ⟨hs,⟨q,rfl⟩,_⟩ := h; rw [Sort.cell?_putRowK_other encIt 2 _ g 0 dk a ha]; exact hc
theorem UpRel.drewN {w : World} {g n : Nat} {d : Array It} {k : Nat} {dk : Array It} {wr : World} (h : UpRel w g n d k dk wr) (q : Nat) : UpRel w g n d k dk (wr.drewN q) := by
 obtain ⟨hs,⟨q0,rfl⟩,r⟩ := h; exact ⟨hs,⟨q0 + q,Sort.putRowK_drewN encIt 2 w q0 q g 0 dk⟩,r⟩
theorem UpRel.step {w : World} {g n : Nat} {d : Array It} {k i : Nat} {dk : Array It} {wr w2 : World} (h : UpRel w g n d k dk wr) (hn : n = d.size) (hk : 0 < k) (hkn : k < n) (hi : i = (k - 1) / 2)
  (hl : lessB dk[k]! dk[i]! = true) (hw : ∃ q,w2 = putRowK encIt 2 (Sort.ahead wr q) g 0 (swp dk i k)) : UpRel w g n d i (swp dk i k) w2 := by
 obtain ⟨hs,⟨q0,rfl⟩,hu,hp⟩ := h; obtain ⟨q,rfl⟩ := hw; refine ⟨by rw [size_swp]; exact hs,⟨q0 + q,Z7r w g dk _ q0 q (size_swp _ _ _)⟩,?_,?_⟩
 ·exact Zn4 (by omega) hu hk hkn hi (lessB_true.1 hl)
 ·exact (Z8i dk i k (by omega) (by omega)).trans hp
theorem UpRel.stop {w : World} {g n : Nat} {d : Array It} {k : Nat} {dk : Array It} {wr : World} (h : UpRel w g n d k dk wr) (hs : k = 0 ∨ lessB dk[k]! dk[(k - 1) / 2]! = false) :
  ∃ dk : Array It,HeapB n dk ∧ dk.size = d.size ∧ dk.toList.Perm d.toList ∧ ∃ q,wr = putRowK encIt 2 (Sort.ahead w q) g 0 dk := by
 obtain ⟨hz,hq,hu,hp⟩ := h; exact ⟨dk,Zn3 hu (hs.imp id lessB_false.1),hz,hp,hq⟩
theorem Zo8 (b g n cap j : Nat) (d : Array It) (w : World) (hn : n = d.size) (hbig : n ≤ 60000) (hj : j < n) (hb : b ≠ g) (hc : w.cell? ⟨b,0,none⟩ = some (.slice (some ⟨g,0,none⟩) n cap)) (H : HoldsK encIt 2 w g 0 d)
  (hu : UpInv n j d) :
  Calls Tryz.prog 135 #[.iface 181 (.pointer (some ⟨b,0,none⟩)),.int .i64 j] w fun e w' => e = .returned (.tuple #[]) ∧ ∃ dk,HeapB n dk ∧ dk.size = d.size ∧ dk.toList.Perm d.toList ∧ ∃ q,w' = putRowK encIt 2 (Sort.ahead w q) g 0 dk := by
 have HH := hid H; clear H; have HC := hid hc; clear hc; have HN := hid hn; clear hn; have HU : Hid (UpRel w g n d j d w) := hid ⟨rfl,⟨0,(Sort.putRowK_self encIt 2 w g 0 d HH.out).symm⟩,hu,List.Perm.refl _⟩; clear hu; go_enter Tryz.func135,Tryz.ntmps135
 go_wp2_with fail
 go_loopw [1] (fun s wr => ∃ (k : Nat) (dk : Array It),s = .int .i64 k ∧ k < n ∧ Hid (UpRel w g n d k dk wr)) (fun s _ => (intOf s).toNat)
 case atStart => exact ⟨j,d,rfl,hj,HU⟩
 case round =>
  obtain ⟨k,dk,rfl,hk,HR⟩ := hrel; clear HU; by_cases h0 : k = 0
  ·subst h0
   go_wp2_with fail
   go_end0
   exact ⟨rfl,HR.out.stop (Or.inl rfl)⟩
  ·have he : ((k : Int) - 1) / 2 = (((k - 1) / 2 : Nat) : Int) := by omega
   have h1 : 1 ≤ k := by omega
   have hlt : (k - 1) / 2 < k := by omega
   obtain ⟨i,hi⟩ : ∃ i,i = (k - 1) / 2 := ⟨_,rfl⟩; rw [← hi] at he hlt; have HI := hid hi; clear hi; have hne : ((i : Int) == (k : Int)) = false := by simp; omega
   have hne2 : ¬ i = k := by omega
   have hm := Z1c ⟨b,0,none⟩ wr _ (HR.out.cell hb HC.out); have hless := Z6c g n cap k i dk wr (by have := HN.out; have := HR.out.1; omega) (by omega) (by omega) (HR.out.holds HH.out)
   cases hL : lessB dk[k]! dk[i]! with
   | false =>
    rw [hL] at hless; have HLF := hid hL; clear hL; have HLS := hid hless; clear hless; go_wp2_with (go_at_call 159; refine HLS.out.mono ?_; rintro e w' ⟨rfl,q,rfl⟩)
    go_end0
    exact ⟨rfl,(HR.out.drewN q).stop (Or.inr (by rw [← HI.out]; exact HLF.out))⟩
   | true =>
    rw [hL] at hless; have HLF := hid hL; clear hL; have HLS := hid hless; clear hless; go_wp2_with (first
     | (go_at_call 159; refine HLS.out.mono ?_; rintro e w' ⟨rfl,q,rfl⟩; have HR2 := hid (HR.out.drewN q); clear HR; have hm2 := Z3e ⟨b,0,none⟩ (wr.drewN q) _ (HR2.out.cell hb HC.out); clear hm; generalize wr.drewN q = w2 at HR2 hm2 ⊢)
     | (go_at_call 160; refine (Z8r g n cap i k dk _ (by have := HN.out; have := HR2.out.1; omega) (by omega) (by omega) (HR2.out.holds HH.out)).mono ?_; rintro e w' ⟨rfl,hw⟩; have HR3 := hid (HR2.out.step HN.out (by omega) (by omega) HI.out HLF.out hw); clear HR2 hw hm2))
    go_roundw
    case rel => exact ⟨i,_,by go_num,by omega,HR3⟩
    case measure => simp [intOf]; omega
end Go.Proofs.YtfkommjlmolniaaGreatDoor
end
section

namespace Go.Proofs.YtfkommjlmolniaaGreatDoor
set_option maxHeartbeats 16000000
set_option maxRecDepth 100000
open Go.Lib (hid)
open Go.RowKit
open Go.Sort (swp size_swp swp_get HoldsK putRowK)
def DownRel (w : World) (g n : Nat) (d : Array It) (k : Nat) (dk : Array It) (wr : World) : Prop :=
 dk.size = d.size ∧ (∃ q,wr = putRowK encIt 2 (Sort.ahead w q) g 0 dk) ∧ Z4u n k dk ∧ dk.toList.Perm d.toList ∧ dk[n]! = d[n]!
def Zap (w : World) (g n : Nat) (d : Array It) (w' : World) : Prop :=
 ∃ dk : Array It,HeapB n dk ∧ dk.size = d.size ∧ dk.toList.Perm d.toList ∧ dk[n]! = d[n]! ∧ ∃ q,w' = putRowK encIt 2 (Sort.ahead w q) g 0 dk
theorem DownRel.holds {w : World} {g n : Nat} {d : Array It} {k : Nat} {dk : Array It} {wr : World} (h : DownRel w g n d k dk wr) (H : HoldsK encIt 2 w g 0 d) : HoldsK encIt 2 wr g 0 dk := by
 obtain ⟨hs,⟨q,rfl⟩,_⟩ := h; exact Sort.holdsK_putRowK encIt 2 _ g 0 d dk (Sort.holdsK_ahead encIt 2 w q g 0 d H) hs
theorem DownRel.cell {w : World} {g n : Nat} {d : Array It} {k : Nat} {dk : Array It} {wr : World} (h : DownRel w g n d k dk wr) {a : Addr} (ha : a.block ≠ g) {v : Value} (hc : w.cell? a = some v) : wr.cell? a = some v := by
 obtain ⟨hs,⟨q,rfl⟩,_⟩ := h; rw [Sort.cell?_putRowK_other encIt 2 _ g 0 dk a ha]; exact hc
theorem DownRel.drewN {w : World} {g n : Nat} {d : Array It} {k : Nat} {dk : Array It} {wr : World} (h : DownRel w g n d k dk wr) (q : Nat) : DownRel w g n d k dk (wr.drewN q) := by
 obtain ⟨hs,⟨q0,rfl⟩,r⟩ := h; exact ⟨hs,⟨q0 + q,Sort.putRowK_drewN encIt 2 w q0 q g 0 dk⟩,r⟩
def Z3y (n k j : Nat) (dk : Array It) : Prop := (j - 1) / 2 = k ∧ 0 < j ∧ j < n ∧ ∀ c,0 < c → c < n → (c - 1) / 2 = k → Le dk[j]! dk[c]!
theorem Z3t {n k : Nat} {dk : Array It} (h : 2 * k + 1 < n) (hr : 2 * k + 2 < n → lessB dk[2 * k + 2]! dk[2 * k + 1]! = false) : Z3y n k (2 * k + 1) dk := by
 refine ⟨by omega,by omega,h,fun c h0 hc he => ?_⟩
 by_cases hc1 : c = 2 * k + 1
 ·subst hc1; exact Le.refl _
 ·obtain rfl : c = 2 * k + 2 := by omega
  exact lessB_false.1 (hr hc)
theorem Z6a {n k : Nat} {dk : Array It} (h : 2 * k + 2 < n) (hr : lessB dk[2 * k + 2]! dk[2 * k + 1]! = true) : Z3y n k (2 * k + 2) dk := by
 refine ⟨by omega,by omega,h,fun c h0 hc he => ?_⟩
 by_cases hc1 : c = 2 * k + 2
 ·subst hc1; exact Le.refl _
 ·obtain rfl : c = 2 * k + 1 := by omega
  exact Le.of_less (lessB_true.1 hr)
theorem DownRel.step {w : World} {g n : Nat} {d : Array It} {k j : Nat} {dk : Array It} {wr w2 : World} (h : DownRel w g n d k dk wr) (hn : n < d.size) (hj : Z3y n k j dk)
  (hl : lessB dk[j]! dk[k]! = true) (hw : ∃ q,w2 = putRowK encIt 2 (Sort.ahead wr q) g 0 (swp dk k j)) : DownRel w g n d j (swp dk k j) w2 := by
 obtain ⟨hs,⟨q0,rfl⟩,hu,hp,hl'⟩ := h; obtain ⟨q,rfl⟩ := hw; obtain ⟨he,h0,hjn,ho⟩ := hj; refine ⟨by rw [size_swp]; exact hs,⟨q0 + q,Z7r w g dk _ q0 q (size_swp _ _ _)⟩,?_,?_,?_⟩
 ·exact Zhs (by omega) hu h0 hjn he (lessB_true.1 hl) ho
 ·exact (Z8i dk k j (by omega) (by omega)).trans hp
 ·rw [swp_get dk (by omega) (by omega),if_neg (by omega),if_neg (by omega)]; exact hl'
theorem DownRel.leaf {w : World} {g n : Nat} {d : Array It} {k : Nat} {dk : Array It} {wr : World} (h : DownRel w g n d k dk wr) (hk : n ≤ 2 * k + 1) : Zap w g n d wr := by
 obtain ⟨hz,hq,hu,hp,hl⟩ := h; exact ⟨dk,Za9 hu (fun c h0 hc he => by omega),hz,hp,hl,hq⟩
theorem DownRel.stop {w : World} {g n : Nat} {d : Array It} {k j : Nat} {dk : Array It} {wr : World} (h : DownRel w g n d k dk wr) (hj : Z3y n k j dk) (hs : lessB dk[j]! dk[k]! = false) : Zap w g n d wr := by
 obtain ⟨hz,hq,hu,hp,hl⟩ := h; exact ⟨dk,Za9 hu (fun c h0 hc he => (lessB_false.1 hs).trans (hj.2.2.2 c h0 hc he)),hz,hp,hl,hq⟩
theorem Zla (b g m n cap : Nat) (d : Array It) (w : World) (hm : m = d.size) (hbig : m ≤ 60000) (hn : n < m) (hb : b ≠ g) (hc : w.cell? ⟨b,0,none⟩ = some (.slice (some ⟨g,0,none⟩) m cap)) (H : HoldsK encIt 2 w g 0 d)
  (hu : Z4u n 0 d) :
  Calls Tryz.prog 136 #[.iface 181 (.pointer (some ⟨b,0,none⟩)),.int .i64 0,.int .i64 n] w fun e w' => (∃ r,e = .returned (.bool r)) ∧ Zap w g n d w' := by
 have HH := hid H; clear H; have HC := hid hc; clear hc; have HN := hid hm; clear hm; have HU : Hid (DownRel w g n d 0 d w) := hid ⟨rfl,⟨0,(Sort.putRowK_self encIt 2 w g 0 d HH.out).symm⟩,hu,List.Perm.refl _,rfl⟩; clear hu; go_enter Tryz.func136,Tryz.ntmps136
 go_wp2_with fail
 go_loopw [7] (fun s wr => ∃ (k : Nat) (dk : Array It),s = .int .i64 k ∧ k ≤ n ∧ Hid (DownRel w g n d k dk wr)) (fun s _ => n - (intOf s).toNat)
 case atStart => exact ⟨0,d,rfl,by omega,HU⟩
 case round =>
  obtain ⟨k,dk,rfl,hk,HR⟩ := hrel; clear HU; by_cases h0 : n ≤ 2 * k + 1
  ·have h0' : (n : Int) ≤ 2 * (k : Int) + 1 := by omega
   go_wp2_with fail
   go_ret
   exact ⟨⟨_,rfl⟩,HR.out.leaf h0⟩
  ·have h1 : ¬ ((n : Int) ≤ 2 * (k : Int) + 1) := by omega
   have h2 : 2 * k + 1 < n := by omega
   have e1 : ((2 * k + 1 : Nat) : Int) = 2 * (k : Int) + 1 := by omega
   have e2 : ((2 * k + 2 : Nat) : Int) = 2 * (k : Int) + 1 + 1 := by omega
   have LK : Hid (∀ (c : Nat) (W : World),c < m → DownRel w g n d k dk W → Calls Tryz.prog 159 #[.slice (some ⟨g,0,none⟩) m cap,.int .i64 (c : Nat),.int .i64 (k : Nat)] W fun e w' => e = .returned (.bool (lessB dk[c]! dk[k]!)) ∧ ∃ q,w' = W.drewN q) := hid fun c W hc hr => Z6c g m cap c k dk W (by have := HN.out; have := hr.1; omega) hc (by omega) (hr.holds HH.out)
   have LR : Hid (∀ W : World,2 * k + 2 < m → DownRel w g n d k dk W → Calls Tryz.prog 159 #[.slice (some ⟨g,0,none⟩) m cap,.int .i64 ((2 * k + 2 : Nat) : Int),.int .i64 ((2 * k + 1 : Nat) : Int)] W fun e w' => e = .returned (.bool (lessB dk[2 * k + 2]! dk[2 * k + 1]!)) ∧ ∃ q,w' = W.drewN q) := hid fun W hc hr => Z6c g m cap (2 * k + 2) (2 * k + 1) dk W (by have := HN.out; have := hr.1; omega) hc (by omega) (hr.holds HH.out)
   have SW : Hid (∀ (c : Nat) (W : World),c < m → DownRel w g n d k dk W → Calls Tryz.prog 160 #[.slice (some ⟨g,0,none⟩) m cap,.int .i64 (k : Nat),.int .i64 (c : Nat)] W fun e w' => e = .returned (.tuple #[]) ∧ ∃ q,w' = putRowK encIt 2 (Sort.ahead W q) g 0 (swp dk k c)) := hid fun c W hc hr => Z8r g m cap k c dk W (by have := HN.out; have := hr.1; omega) (by omega) hc (hr.holds HH.out)
   by_cases h3 : 2 * k + 2 < n
   ·have h4 : 2 * (k : Int) + 1 + 1 < (n : Int) := by omega
    have h5 : decide (2 * (k : Int) + 1 + 1 < (n : Int)) = true := decide_eq_true h4; cases hL : lessB dk[2 * k + 2]! dk[2 * k + 1]! with
    | true =>
     have LR2 : Hid (∀ W : World,DownRel w g n d k dk W → Calls Tryz.prog 159 #[.slice (some ⟨g,0,none⟩) m cap,.int .i64 (2 * (k : Int) + 1 + 1),.int .i64 (2 * (k : Int) + 1)] W fun e w' => e = .returned (.bool true) ∧ ∃ q,w' = W.drewN q) := hid fun W hr => by have := LR.out W (by omega) hr; rw [hL,e1,e2] at this; exact this
     have HL := hid hL; clear hL LR; cases hG : lessB dk[2 * k + 2]! dk[k]! with
     | false =>
      have HF : Hid (Z3y n k (2 * k + 2) dk) := hid (Z6a h3 HL.out); have LK2 : Hid (∀ W : World,DownRel w g n d k dk W → Calls Tryz.prog 159 #[.slice (some ⟨g,0,none⟩) m cap,.int .i64 (2 * (k : Int) + 1 + 1),.int .i64 (k : Nat)] W fun e w' => e = .returned (.bool false) ∧ ∃ q,w' = W.drewN q) := hid fun W hr => by have := LK.out (2 * k + 2) W (by omega) hr; rw [hG,e2] at this; exact this
      have HG := hid hG; clear hG e1 e2; have hm1 := Z1c ⟨b,0,none⟩ wr _ (HR.out.cell hb HC.out); go_wp2_with (first
       | (go_at_call 159; with_reducible refine (LR2.out _ HR.out).mono ?_; rintro e w' ⟨rfl,q,rfl⟩; have HR2 := hid (HR.out.drewN q); clear HR LR2; have hm2 := Z1c ⟨b,0,none⟩ (wr.drewN q) _ (HR2.out.cell hb HC.out); clear hm1; generalize wr.drewN q = w2 at HR2 hm2 ⊢)
       | (go_at_call 159; with_reducible refine (LK2.out _ HR2.out).mono ?_; rintro e w' ⟨rfl,q3,rfl⟩; have HR3 := hid (HR2.out.drewN q3); clear HR2 LK2 hm2; generalize w2.drewN q3 = w3 at HR3 ⊢))
      go_ret
      exact ⟨⟨_,rfl⟩,HR3.out.stop HF.out HG.out⟩
     | true =>
      have HF : Hid (Z3y n k (2 * k + 2) dk) := hid (Z6a h3 HL.out); have LK2 : Hid (∀ W : World,DownRel w g n d k dk W → Calls Tryz.prog 159 #[.slice (some ⟨g,0,none⟩) m cap,.int .i64 (2 * (k : Int) + 1 + 1),.int .i64 (k : Nat)] W fun e w' => e = .returned (.bool true) ∧ ∃ q,w' = W.drewN q) := hid fun W hr => by have := LK.out (2 * k + 2) W (by omega) hr; rw [hG,e2] at this; exact this
      have SW2 : Hid (∀ W : World,DownRel w g n d k dk W → Calls Tryz.prog 160 #[.slice (some ⟨g,0,none⟩) m cap,.int .i64 (k : Nat),.int .i64 (2 * (k : Int) + 1 + 1)] W fun e w' => e = .returned (.tuple #[]) ∧ ∃ q,w' = putRowK encIt 2 (Sort.ahead W q) g 0 (swp dk k (2 * k + 2))) := hid fun W hr => by have := SW.out (2 * k + 2) W (by omega) hr; rw [e2] at this; exact this
      have HG := hid hG; clear hG e1 e2; have hm1 := Z1c ⟨b,0,none⟩ wr _ (HR.out.cell hb HC.out); go_wp2_with (first
       | (go_at_call 159; with_reducible refine (LR2.out _ HR.out).mono ?_; rintro e w' ⟨rfl,q,rfl⟩; have HR2 := hid (HR.out.drewN q); clear HR LR2; have hm2 := Z1c ⟨b,0,none⟩ (wr.drewN q) _ (HR2.out.cell hb HC.out); clear hm1; generalize wr.drewN q = w2 at HR2 hm2 ⊢)
       | (go_at_call 159; with_reducible refine (LK2.out _ HR2.out).mono ?_; rintro e w' ⟨rfl,q3,rfl⟩; have HR3 := hid (HR2.out.drewN q3); clear HR2 LK2; have hm3 := Z3e ⟨b,0,none⟩ (w2.drewN q3) _ (HR3.out.cell hb HC.out); clear hm2; generalize w2.drewN q3 = w3 at HR3 hm3 ⊢)
       | (go_at_call 160; with_reducible refine (SW2.out _ HR3.out).mono ?_; rintro e w' ⟨rfl,hw⟩; have HR4 := hid (HR3.out.step (by have := HN.out; omega) HF.out HG.out hw); clear HR3 hw hm3 SW2))
      go_roundw
      case rel => exact ⟨2 * k + 2,_,by go_num,by omega,HR4⟩
      case measure => simp [intOf]; omega
    | false =>
     have LR2 : Hid (∀ W : World,DownRel w g n d k dk W → Calls Tryz.prog 159 #[.slice (some ⟨g,0,none⟩) m cap,.int .i64 (2 * (k : Int) + 1 + 1),.int .i64 (2 * (k : Int) + 1)] W fun e w' => e = .returned (.bool false) ∧ ∃ q,w' = W.drewN q) := hid fun W hr => by have := LR.out W (by omega) hr; rw [hL,e1,e2] at this; exact this
     have HL := hid hL; clear hL LR; cases hG : lessB dk[2 * k + 1]! dk[k]! with
     | false =>
      have HF : Hid (Z3y n k (2 * k + 1) dk) := hid (Z3t h2 fun _ => HL.out); have LK2 : Hid (∀ W : World,DownRel w g n d k dk W → Calls Tryz.prog 159 #[.slice (some ⟨g,0,none⟩) m cap,.int .i64 (2 * (k : Int) + 1),.int .i64 (k : Nat)] W fun e w' => e = .returned (.bool false) ∧ ∃ q,w' = W.drewN q) := hid fun W hr => by have := LK.out (2 * k + 1) W (by omega) hr; rw [hG,e1] at this; exact this
      have HG := hid hG; clear hG e1 e2; have hm1 := Z1c ⟨b,0,none⟩ wr _ (HR.out.cell hb HC.out); go_wp2_with (first
       | (go_at_call 159; with_reducible refine (LR2.out _ HR.out).mono ?_; rintro e w' ⟨rfl,q,rfl⟩; have HR2 := hid (HR.out.drewN q); clear HR LR2; have hm2 := Z1c ⟨b,0,none⟩ (wr.drewN q) _ (HR2.out.cell hb HC.out); clear hm1; generalize wr.drewN q = w2 at HR2 hm2 ⊢)
       | (go_at_call 159; with_reducible refine (LK2.out _ HR2.out).mono ?_; rintro e w' ⟨rfl,q3,rfl⟩; have HR3 := hid (HR2.out.drewN q3); clear HR2 LK2 hm2; generalize w2.drewN q3 = w3 at HR3 ⊢))
      go_ret
      exact ⟨⟨_,rfl⟩,HR3.out.stop HF.out HG.out⟩
     | true =>
      have HF : Hid (Z3y n k (2 * k + 1) dk) := hid (Z3t h2 fun _ => HL.out); have LK2 : Hid (∀ W : World,DownRel w g n d k dk W → Calls Tryz.prog 159 #[.slice (some ⟨g,0,none⟩) m cap,.int .i64 (2 * (k : Int) + 1),.int .i64 (k : Nat)] W fun e w' => e = .returned (.bool true) ∧ ∃ q,w' = W.drewN q) := hid fun W hr => by have := LK.out (2 * k + 1) W (by omega) hr; rw [hG,e1] at this; exact this
      have SW2 : Hid (∀ W : World,DownRel w g n d k dk W → Calls Tryz.prog 160 #[.slice (some ⟨g,0,none⟩) m cap,.int .i64 (k : Nat),.int .i64 (2 * (k : Int) + 1)] W fun e w' => e = .returned (.tuple #[]) ∧ ∃ q,w' = putRowK encIt 2 (Sort.ahead W q) g 0 (swp dk k (2 * k + 1))) := hid fun W hr => by have := SW.out (2 * k + 1) W (by omega) hr; rw [e1] at this; exact this
      have HG := hid hG; clear hG e1 e2; have hm1 := Z1c ⟨b,0,none⟩ wr _ (HR.out.cell hb HC.out); go_wp2_with (first
       | (go_at_call 159; with_reducible refine (LR2.out _ HR.out).mono ?_; rintro e w' ⟨rfl,q,rfl⟩; have HR2 := hid (HR.out.drewN q); clear HR LR2; have hm2 := Z1c ⟨b,0,none⟩ (wr.drewN q) _ (HR2.out.cell hb HC.out); clear hm1; generalize wr.drewN q = w2 at HR2 hm2 ⊢)
       | (go_at_call 159; with_reducible refine (LK2.out _ HR2.out).mono ?_; rintro e w' ⟨rfl,q3,rfl⟩; have HR3 := hid (HR2.out.drewN q3); clear HR2 LK2; have hm3 := Z3e ⟨b,0,none⟩ (w2.drewN q3) _ (HR3.out.cell hb HC.out); clear hm2; generalize w2.drewN q3 = w3 at HR3 hm3 ⊢)
       | (go_at_call 160; with_reducible refine (SW2.out _ HR3.out).mono ?_; rintro e w' ⟨rfl,hw⟩; have HR4 := hid (HR3.out.step (by have := HN.out; omega) HF.out HG.out hw); clear HR3 hw hm3 SW2))
      go_roundw
      case rel => exact ⟨2 * k + 1,_,by go_num,by omega,HR4⟩
      case measure => simp [intOf]; omega
   ·have h4 : ¬ (2 * (k : Int) + 1 + 1 < (n : Int)) := by omega
    have h5 : decide (2 * (k : Int) + 1 + 1 < (n : Int)) = false := decide_eq_false h4; cases hG : lessB dk[2 * k + 1]! dk[k]! with
    | false =>
     have HF : Hid (Z3y n k (2 * k + 1) dk) := hid (Z3t h2 fun h => absurd h h3); have LK2 : Hid (∀ W : World,DownRel w g n d k dk W → Calls Tryz.prog 159 #[.slice (some ⟨g,0,none⟩) m cap,.int .i64 (2 * (k : Int) + 1),.int .i64 (k : Nat)] W fun e w' => e = .returned (.bool false) ∧ ∃ q,w' = W.drewN q) := hid fun W hr => by have := LK.out (2 * k + 1) W (by omega) hr; rw [hG,e1] at this; exact this
     have HG := hid hG; clear hG e1 e2; have hm1 := Z1c ⟨b,0,none⟩ wr _ (HR.out.cell hb HC.out); go_wp2_with (first
      | (go_at_call 159; with_reducible refine (LK2.out _ HR.out).mono ?_; rintro e w' ⟨rfl,q3,rfl⟩; have HR3 := hid (HR.out.drewN q3); clear HR LK2 hm1; generalize wr.drewN q3 = w3 at HR3 ⊢))
     go_ret
     exact ⟨⟨_,rfl⟩,HR3.out.stop HF.out HG.out⟩
    | true =>
     have HF : Hid (Z3y n k (2 * k + 1) dk) := hid (Z3t h2 fun h => absurd h h3); have LK2 : Hid (∀ W : World,DownRel w g n d k dk W → Calls Tryz.prog 159 #[.slice (some ⟨g,0,none⟩) m cap,.int .i64 (2 * (k : Int) + 1),.int .i64 (k : Nat)] W fun e w' => e = .returned (.bool true) ∧ ∃ q,w' = W.drewN q) := hid fun W hr => by have := LK.out (2 * k + 1) W (by omega) hr; rw [hG,e1] at this; exact this
     have SW2 : Hid (∀ W : World,DownRel w g n d k dk W → Calls Tryz.prog 160 #[.slice (some ⟨g,0,none⟩) m cap,.int .i64 (k : Nat),.int .i64 (2 * (k : Int) + 1)] W fun e w' => e = .returned (.tuple #[]) ∧ ∃ q,w' = putRowK encIt 2 (Sort.ahead W q) g 0 (swp dk k (2 * k + 1))) := hid fun W hr => by have := SW.out (2 * k + 1) W (by omega) hr; rw [e1] at this; exact this
     have HG := hid hG; clear hG e1 e2; have hm1 := Z1c ⟨b,0,none⟩ wr _ (HR.out.cell hb HC.out); go_wp2_with (first
      | (go_at_call 159; with_reducible refine (LK2.out _ HR.out).mono ?_; rintro e w' ⟨rfl,q3,rfl⟩; have HR3 := hid (HR.out.drewN q3); clear HR LK2; have hm3 := Z3e ⟨b,0,none⟩ (wr.drewN q3) _ (HR3.out.cell hb HC.out); clear hm1; generalize wr.drewN q3 = w3 at HR3 hm3 ⊢)
      | (go_at_call 160; with_reducible refine (SW2.out _ HR3.out).mono ?_; rintro e w' ⟨rfl,hw⟩; have HR4 := hid (HR3.out.step (by have := HN.out; omega) HF.out HG.out hw); clear HR3 hw hm3 SW2))
     go_roundw
     case rel => exact ⟨2 * k + 1,_,by go_num,by omega,HR4⟩
     case measure => simp [intOf]; omega
end Go.Proofs.YtfkommjlmolniaaGreatDoor
end
section

namespace Go.Proofs.YtfkommjlmolniaaGreatDoor
open Go.RowKit
open Go.Sort (swp size_swp HoldsK putRowK flatK)
theorem Z8q (w : World) (g k : Nat) (f : Array Value → Array Value) (h : k ≠ g) : (Sort.mapBlock w g f).heap[k]? = w.heap[k]? := by
 simp only [Sort.mapBlock,Array.getElem?_modify]
 rw [if_neg (Ne.symm h)]
theorem Mod.put (w : World) (g q : Nat) (d : Array It) : Mod (· = g) w (putRowK encIt 2 (Sort.ahead w q) g 0 d) := by
 refine ⟨rfl,rfl,rfl,?_,fun k _ hs => ?_⟩
 ·simp [putRowK,Sort.putRow,Sort.mapBlock,Sort.ahead]
 ·exact Z8q (Sort.ahead w q) g k _ hs
/-! ### Rows of things -/
def flatI (d : Array It) : List Value := d.toList.flatMap encIt
theorem Zlg (l : List It) : (l.flatMap encIt).length = l.length * 2 := by
 induction l with
 | nil => rfl
 | cons x r ih => rw [List.flatMap_cons,List.length_append,ih,List.length_cons]; show 2 + _ = _; omega
theorem Z25 (d : Array It) : (flatI d).length = d.size * 2 := by
 unfold flatI; rw [Zlg,Array.length_toList]
theorem Z7q (d : Array It) (x : It) : flatI (d.push x) = flatI d ++ encIt x := by simp [flatI]
theorem Zc7 (l : List It) : ∀ (t : Nat),t < l.length * 2 → (l.flatMap encIt)[t]? = some (encIt (l.getD (t / 2) default))[t % 2]! := by
 induction l with
 | nil => intro t h; simp at h
 | cons x r ih =>
  intro t h; rw [List.flatMap_cons]; match t,h with
  | 0,_ => rfl
  | 1,_ => rfl
  | t + 2,h =>
   rw [List.getElem?_append_right (by simp [encIt])]
   have e1 : (t + 2) / 2 = t / 2 + 1 := by omega
   have e2 : (t + 2) % 2 = t % 2 := by omega
   rw [e1,e2]; have := ih t (by simp at h; omega)
   simpa [encIt] using this
theorem Z6d (d : Array It) : (flatK encIt 2 d).toList = flatI d := by
 apply List.ext_getElem?
 intro t; by_cases h : t < d.size * 2
 ·rw [flatI,Zc7 d.toList t (by simpa using h)]
  have hs : t < (flatK encIt 2 d).toList.length := by simpa using h
  rw [List.getElem?_eq_getElem hs]; have := Sort.get_flatK encIt 2 d t h; rw [getElem!_pos _ t (by simpa using h)] at this
  rw [Array.getElem_toList,this]; congr 3
  rw [getElem!_pos d (t / 2) (by omega)]
  simp [List.getD,show t / 2 < d.size by omega]
 ·rw [List.getElem?_eq_none (by simp; omega),List.getElem?_eq_none (by rw [Z25]; omega)]
theorem Zii (d : Array It) (n : Nat) (h : d.size = n + 1) : (flatI d).take (n * 2) = flatI d.pop := by
 have h1 : d = d.pop.push d[n]! := by
  apply Array.ext
  ·simp; omega
  ·intro k h1 h2
   rw [Array.getElem_push]; split
   ·rw [Array.getElem_pop]
   ·have : k = n := by simp at *; omega
    subst this; rw [getElem!_pos d k (by omega)]
 conv => lhs; rw [h1,Z7q]
 rw [List.take_append_of_le_length (by rw [Z25]; simp; omega),List.take_of_length_le (by rw [Z25]; simp; omega)]
def RowW (w : World) (base : Nat) (v : Value) (d : Array It) : Prop := w.ownsRow base 154 2 v d.size (flatI d)
theorem RowW.nil (w : World) (base : Nat) : RowW w base (.slice none 0 0) #[] := World.ownsRow_nil w base _ 2
theorem RowW.some_ {w : World} {base : Nat} {v : Value} {d : Array It} (h : RowW w base v d) (h0 : 0 < d.size) : ∃ g cap,v = .slice (some ⟨g,0,none⟩) d.size cap ∧ base ≤ g ∧ g < w.heap.size ∧ d.size ≤ cap := by
 rcases h.2 with ⟨_,h2⟩ | ⟨g,cap,cur,hv,hb,hg,hc,_⟩
 ·omega
 ·exact ⟨g,cap,hv,hb,(Array.getElem?_eq_some_iff.1 hg).1,hc⟩
theorem RowW.shape {w : World} {base : Nat} {v : Value} {d : Array It} (h : RowW w base v d) : ∃ a cap,v = .slice a d.size cap := by
 rcases h.2 with ⟨rfl,h2⟩ | ⟨g,cap,cur,rfl,_⟩
 ·exact ⟨none,0,by rw [h2]⟩
 ·exact ⟨_,cap,rfl⟩
theorem RowW.holds {w : World} {base g n cap : Nat} {d : Array It} (h : RowW w base (.slice (some ⟨g,0,none⟩) n cap) d) : HoldsK encIt 2 w g 0 d := by
 intro j hj; have hj' : j < d.size * 2 := by simpa using hj
 have hc := World.ownsRow.cells h (g := g) rfl j ((flatK encIt 2 d)[j]!) (by
  rw [← Z6d,List.getElem?_eq_getElem (by simpa using hj'),Array.getElem_toList,getElem!_pos _ j hj])
 rcases h.2 with ⟨e,_⟩ | ⟨g',cap',cur,e,_,hg,_⟩
 ·cases e
 ·injection e with e1 e2 e3
  injection e1 with e1
  injection e1 with e1
  subst e1; refine ⟨?_,?_⟩
  ·have hadd : (⟨g,0,none⟩ : Addr).add j = ⟨g,0 + j,none⟩ := by unfold Addr.add; split <;> simp_all
   rw [hadd] at hc; exact hc
  ·simp [World.frozen?,hg]
theorem RowW.kept {w w' : World} {base : Nat} {v : Value} {d : Array It} {S : Nat → Prop} (h : RowW w base v d) (hm : Mod S w w') (hs : ∀ k,v.ownBlock = some k → ¬ S k) : RowW w' base v d := by
 refine ⟨h.1,?_⟩; rcases h.2 with h2 | ⟨g,cap,cur,rfl,hb,hg,r⟩
 ·exact .inl h2
 ·refine .inr ⟨g,cap,cur,rfl,hb,?_,r⟩
  rw [hm.block g (Array.getElem?_eq_some_iff.1 hg).1 (hs g rfl)]; exact hg
theorem RowW.put {w : World} {base g n cap : Nat} {d d' : Array It} (h : RowW w base (.slice (some ⟨g,0,none⟩) n cap) d) (hs : d'.size = d.size) (q : Nat) : RowW (putRowK encIt 2 (Sort.ahead w q) g 0 d') base (.slice (some ⟨g,0,none⟩) n cap) d' := by
 rcases h.2 with ⟨e,_⟩ | ⟨g',cap',cur,e,hb,hg,hn,hm,hz,ht⟩
 ·cases e
 ·injection e with e1 e2 e3
  injection e1 with e1
  injection e1 with e1
  subst e1 e2 e3; refine ⟨by rw [Z25],.inr ⟨g,cap,Sort.putCells id 0 (flatK encIt 2 d') cur,by rw [hs],hb,?_,by omega,hm,?_,?_⟩⟩
  ·show (Sort.mapBlock (Sort.ahead w q) g _).heap[g]? = _
   simp [Sort.mapBlock,Array.getElem?_modify,Sort.ahead,hg,Sort.onCells]
  ·simpa [Sort.putCells] using hz
  ·rw [← Z6d]
   apply List.ext_getElem?
   intro t; by_cases ht' : t < d'.size * 2
   ·rw [List.getElem?_take,if_pos ht']
    have hlt : t < cur.size := by have := Nat.mul_le_mul_right 2 hn; omega
    simp only [Array.getElem?_toList,Sort.putCells,Array.getElem?_mapIdx,Array.getElem?_eq_getElem hlt,Option.map_some]
    rw [if_pos ⟨Nat.zero_le _,by simpa using ht'⟩,Array.getElem?_eq_getElem (by simpa using ht')]
    simp only [Nat.sub_zero,id]
    rw [getElem!_pos _ t (by simpa using ht')]
   ·rw [List.getElem?_eq_none (by simp [List.length_take]; omega),List.getElem?_eq_none (by simp; omega)]
theorem RowW.pop {w : World} {base g n cap : Nat} {d : Array It} (h : RowW w base (.slice (some ⟨g,0,none⟩) (n + 1) cap) d) (hs : d.size = n + 1) : RowW w base (.slice (some ⟨g,0,none⟩) n cap) d.pop := by
 rcases h.2 with ⟨e,_⟩ | ⟨g',cap',cur,e,hb,hg,hn,hm,hz,ht⟩
 ·cases e
 ·injection e with e1 e2 e3
  injection e1 with e1
  injection e1 with e1
  subst e1 e3; have hps : d.pop.size = n := by simp [hs]
  refine ⟨by rw [Z25],.inr ⟨g,cap,cur,by rw [hps],hb,hg,by omega,hm,hz,?_⟩⟩
  rw [hps,← Zii d n hs,← ht,List.take_take,Nat.min_eq_left (by omega)]
end Go.Proofs.YtfkommjlmolniaaGreatDoor
end

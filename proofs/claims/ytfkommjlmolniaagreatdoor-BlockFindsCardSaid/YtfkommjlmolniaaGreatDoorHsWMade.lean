/- Joined: WMade. -/
import Derived.Test.YtfkommjlmolniaaGreatDoorHd7
import Derived.Test.YtfkommjlmolniaaGreatDoorHd9
set_option linter.unusedVariables false
section

namespace Go.Proofs.YtfkommjlmolniaaGreatDoor
open Go.RowKit
variable {w w2 wr w4 : World} {a : Option Addr} {len cap lb p N s t k v i : Nat} {l : List Pi} {o : Nat → Option Nat} {c : Nat → Value} {x : Value} {far : Nat → Int}
abbrev zT (i : Nat) : TypeId := match i with | 0 => 2 | 1 => 2 | 2 => 3 | 3 => 3 | _ => 37
abbrev zN (len N : Nat) (i : Nat) : Nat := match i with | 0 => len | 1 => N | 2 => N | 3 => 2 * N | _ => 2 * N
abbrev zV (i : Nat) : Value := match i with | 0 => .int .i64 0 | 1 => .int .i64 0 | 2 => .int .i64 0 | 3 => .int .i64 0 | _ => .slice none 0 0
structure BWm (w w2 wr : World) (p lb N s t len cap : Nat) (a : Option Addr) (o : Nat → Option Nat) (c : Nat → Value) : Prop where
 box : NBox w wr w.heap.size (N : Int) a len cap
 since : Below p w2 wr
 gp : w.heap.size < p
 blk : wr.heap[p]? = some (.cells (wsV N s t lb len cap a (c 0) (c 1) (.slice none 0 0) (c 3) (c 2) (c 4) (.int .i64 0)) 137 (0,0))
 rows : ∀ i b,o i = some b → wr.rowIs b (zT i) (zN len N i) (fun _ => zV i) ∧ p < b
 ne : ∀ i j b,i ≠ j → o i = some b → o j ≠ some b
def putO (o : Nat → Option Nat) (i b : Nat) : Nat → Option Nat := fun j => if j = i then some b else o j
def putC (c : Nat → Value) (i : Nat) (x : Value) : Nat → Value := fun j => if j = i then x else c j
theorem BWm.lt (h : BWm w w2 wr p lb N s t len cap a o c) : p < wr.heap.size := (Array.getElem?_eq_some_iff.1 h.blk).1
theorem BWm.drew (h : BWm w w2 wr p lb N s t len cap a o c) : BWm w w2 wr.drew p lb N s t len cap a o c := ⟨h.box.later (Below.refl _ _).drew,h.since.drew,h.gp,h.blk,h.rows,h.ne⟩
theorem BWm.mk_ (h : BWm w w2 wr p lb N s t len cap a o c) (i : Nat) : BWm w w2 (wr.alloc (.cells (madeCells #[zV i] (zN len N i)) (zT i))) p lb N s t len cap a (putO o i wr.heap.size) c := by
 have hlt := h.lt; refine ⟨h.box.alloc _,h.since.alloc (by omega) _,h.gp,(Below.heap_alloc _ _ _ hlt).trans h.blk,fun j b hj => ?_,fun j k b hjk hj hk => ?_⟩
 ·unfold putO at hj
  by_cases e : j = i
  ·subst e
   rw [if_pos rfl] at hj; injection hj with hj
   subst hj; exact ⟨World.rowIs_made _ _ _ _,hlt⟩
  ·rw [if_neg e] at hj
   obtain ⟨h1,h2⟩ := h.rows j b hj; exact ⟨h1.alloc _,h2⟩
 ·unfold putO at hj hk
  by_cases e : j = i
  ·rw [if_pos e] at hj
   rw [if_neg (fun e2 => hjk (e.trans e2.symm))] at hk; injection hj with hj
   have := (h.rows k b hk).1.lt; omega
  ·rw [if_neg e] at hj
   by_cases e2 : k = i
   ·rw [if_pos e2] at hk
    injection hk with hk
    have := (h.rows j b hj).1.lt; omega
   ·rw [if_neg e2] at hk
    exact h.ne j k b hjk hj hk
theorem BWm.st_ (h : BWm w w2 wr p lb N s t len cap a o c) (f i : Nat) (x : Value) (hf : (wsV N s t lb len cap a (c 0) (c 1) (.slice none 0 0) (c 3) (c 2) (c 4) (.int .i64 0)).setIfInBounds f x = wsV N s t lb len cap a (putC c i x 0) (putC c i x 1) (.slice none 0 0) (putC c i x 3) (putC c i x 2) (putC c i x 4) (.int .i64 0)) :
  BWm w w2 (wr.setCell ⟨p,f,none⟩ x) p lb N s t len cap a o (putC c i x) := by
 have hlt := h.lt; have hgp := h.gp; refine ⟨⟨h.box.below.setCell (p := ⟨p,f,none⟩) (by show w.heap.size ≤ p; omega) _,h.box.ge,(heap_setCell_other _ _ _ _ (by show w.heap.size ≠ p; omega)).trans h.box.blk⟩,h.since.setCell (p := ⟨p,f,none⟩) (Nat.le_refl _) _,hgp,?_,fun j b hj => ?_,h.ne⟩
 ·rw [heap_setCell_same _ _ _ _ _ _ h.blk,hf]
 ·obtain ⟨h1,h2⟩ := h.rows j b hj
  exact ⟨h1.setOther (by show b ≠ p; omega) _,h2⟩
theorem BWm.st0 (h : BWm w w2 wr p lb N s t len cap a o c) (x : Value) : BWm w w2 (wr.setCell ⟨p,5,none⟩ x) p lb N s t len cap a o (putC c 0 x) := h.st_ 5 0 x rfl
theorem BWm.st1 (h : BWm w w2 wr p lb N s t len cap a o c) (x : Value) : BWm w w2 (wr.setCell ⟨p,6,none⟩ x) p lb N s t len cap a o (putC c 1 x) := h.st_ 6 1 x rfl
theorem BWm.st2 (h : BWm w w2 wr p lb N s t len cap a o c) (x : Value) : BWm w w2 (wr.setCell ⟨p,9,none⟩ x) p lb N s t len cap a o (putC c 2 x) := h.st_ 9 2 x rfl
theorem BWm.st3 (h : BWm w w2 wr p lb N s t len cap a o c) (x : Value) : BWm w w2 (wr.setCell ⟨p,8,none⟩ x) p lb N s t len cap a o (putC c 3 x) := h.st_ 8 3 x rfl
theorem BWm.st4 (h : BWm w w2 wr p lb N s t len cap a o c) (x : Value) : BWm w w2 (wr.setCell ⟨p,10,none⟩ x) p lb N s t len cap a o (putC c 4 x) := h.st_ 10 4 x rfl
theorem BWm.congr {o2 : Nat → Option Nat} {c2 : Nat → Value} (h : BWm w w2 wr p lb N s t len cap a o c) (e : ∀ j,o j = o2 j) (e2 : ∀ j,c j = c2 j) : BWm w w2 wr p lb N s t len cap a o2 c2 := by
 have h1 : o = o2 := funext e; have h2 : c = c2 := funext e2; subst h1 h2; exact h
theorem BWm.two (h : BWm w w2 wr p lb N s t len cap a o c) : wr.cell? ⟨w.heap.size,0,none⟩ = some (.int .i64 (N : Int)) ∧ wr.cell? ⟨w.heap.size,1,none⟩ = some (.slice a len cap) := ⟨h.box.c0,h.box.c1⟩
theorem BWm.cells (h : BWm w w2 wr p lb N s t len cap a o c) : wr.cell? ⟨p,5,none⟩ = some (c 0) ∧ wr.cell? ⟨p,6,none⟩ = some (c 1) ∧ wr.cell? ⟨p,9,none⟩ = some (c 2) ∧ wr.cell? ⟨p,8,none⟩ = some (c 3) ∧ wr.cell? ⟨p,10,none⟩ = some (c 4) ∧ wr.cell? ⟨p,7,none⟩ = some (.slice none 0 0) ∧
  wr.frozen? ⟨p,5,none⟩ = false ∧ wr.frozen? ⟨p,6,none⟩ = false ∧ wr.frozen? ⟨p,9,none⟩ = false ∧ wr.frozen? ⟨p,8,none⟩ = false ∧ wr.frozen? ⟨p,10,none⟩ = false ∧ wr.frozen? ⟨p,7,none⟩ = false := by
 have h1 := h.blk; unfold wsV at h1; simp [World.cell?,World.frozen?,h1]
/-! ### What flows first -/
variable {E : Env} {fl : Nat → Int} {hi nx : Nat → Nat} {Q : Nat → List Nat} {top m : Int} {st : Nat → Int} {j : Nat}
structure First (E : Env) (fl : Nat → Int) (j : Nat) : Prop where
 cap : ∀ (k : Nat) (x : Pi),E.l[k]? = some x → 0 ≤ fl k ∧ fl k ≤ x.2.2.1
 only : ∀ (k : Nat) (x : Pi),E.l[k]? = some x → fl k ≠ 0 → x.1 = (E.s : Int)
 sat : ∀ (i : Nat) (a : La),i < j → (E.L E.s)[i]? = some a → a.2.2 = false → lft E.l fl a ≤ 0
 exc : ∀ i,i < E.N → i ≠ E.s → 0 ≤ netTo E.l fl (i : Int) E.l.length
theorem First.begin_ (hn : E.Net) : First E (fun _ => 0) 0 := by
 refine ⟨fun k x hx => ?_,fun k x _ h => absurd rfl h,fun i a h => by omega,fun i _ _ => ?_⟩
 ·have := okP_true.1 (hn.ok x (List.mem_of_getElem? hx))
  omega
 ·have : netTo E.l (fun _ => 0) (i : Int) E.l.length = 0 := by
   unfold netTo; rw [Z1m (h := fun _ _ => 0) (fun k x _ => by simp [brings]) _,Z2h]
  omega
theorem First.caps (h : First E fl j) (hn : E.Net) : Caps E fl := fun k x hx => by
 have := h.cap k x hx; have := okP_true.1 (hn.ok x (List.mem_of_getElem? hx)); omega
theorem First.back (h : First E fl j) (hn : E.Net) {a : La} (ha : a ∈ E.L E.s) (hb : a.2.2 = true) : lft E.l fl a = 0 := by
 obtain ⟨x,hx,hne,_,_,hd⟩ := Z2z hn.lanes hn.sN ha; rw [if_pos hb] at hd; unfold lft; rw [if_pos hb]; apply Classical.byContradiction
 intro h0; have := h.only a.1 x hx h0; omega
theorem First.skip (h : First E fl j) {a : La} (hj : (E.L E.s)[j]? = some a) (hz : lft E.l fl a ≤ 0) : First E fl (j + 1) :=
 ⟨h.cap,h.only,fun i b hi hb hbb => by
  by_cases e : i = j
  ·subst e; rw [hj] at hb; injection hb with hb; subst hb; exact hz
  ·exact h.sat i b (by omega) hb hbb,h.exc⟩
theorem First.send (h : First E fl j) (hn : E.Net) {a : La} (hj : (E.L E.s)[j]? = some a) (hp : 0 < lft E.l fl a) : First E (push fl a (lft E.l fl a)) (j + 1) := by
 have ha := List.mem_of_getElem? hj; have hf : a.2.2 = false := by
  cases e : a.2.2 with
  | false => rfl
  | true => have := h.back hn ha e; omega
 obtain ⟨x,hx,hne,_,_,hd⟩ := Z2z hn.lanes hn.sN ha; rw [hf,if_neg (by simp)] at hd
 refine ⟨Zdv h.cap (by omega) (Int.le_refl _),fun k y hy h0 => ?_,fun i b hi hb hbb => ?_,fun i hi hs => ?_⟩
 ·by_cases e : k = a.1
  ·subst e; rw [hx] at hy; injection hy with hy; subst hy; exact hd.1
  ·simp only [push,e,if_false] at h0
   exact h.only k y hy h0
 ·by_cases e : b.1 = a.1
  ·rw [Z4i b e (by rw [hbb,hf])]
   have : lft E.l fl b = lft E.l fl a := by simp [lft,e,hbb,hf]
   omega
  ·rw [Zdw b e]
   by_cases e2 : i = j
   ·subst e2; rw [hj] at hb; injection hb with hb; subst hb; exact absurd rfl e
   ·exact h.sat i b (by omega) hb hbb
 ·rw [Z4w hn.lanes hn.sN ha]
  have := h.exc i hi hs; rw [if_neg hs]; split <;> omega
theorem First.pr (h : First E fl j) (hn : E.Net) (hj : (E.L E.s).length ≤ j) (hf : FarOk E.L (opH E.l) E.N E.t far) (hhi : ∀ i,hi i = hi0 E.N E.s far i) : PRE E fl hi (fun _ => 0) := by
 have hN := hn.n2; have up : ∀ i,i < E.N → hi i ≤ E.N + 1 := fun i hi2 => by
  rw [hhi]; unfold hi0; have := hf.small i hi2; split
  ·omega
  ·split <;> omega
 refine ⟨h.cap,h.exc,by rw [hhi]; simp [hi0],?_,fun i hi2 => by have := up i hi2; omega,fun i _ => Nat.zero_le _,fun u hu q a ha hp => ?_⟩
 ·rw [hhi]
  have := hf.start; simp [hi0,this,(show ¬ E.t = E.s from fun e => hn.st e.symm)]
 ·simp only [Nat.not_lt_zero,if_false]
  have ham := List.mem_of_getElem? ha; obtain ⟨x,hx,hne,hvN,_,hd⟩ := Z2z hn.lanes hu ham; by_cases b : a.2.2 = true
  ·rw [if_pos b] at hd
   unfold lft at hp; rw [if_pos b] at hp; have h1 := h.only a.1 x hx (by omega)
   have h2 : a.2.1 = E.s := by omega
   have h3 : hi a.2.1 = E.N := by rw [hhi,h2]; simp [hi0]
   have := up u hu; omega
  ·rw [if_neg b] at hd
   by_cases hus : u = E.s
   ·subst hus
    have := h.sat q a (by have := (List.getElem?_eq_some_iff.1 ha).1; omega) ha (by simpa using b)
    omega
   ·have h0 : fl a.1 = 0 := Classical.byContradiction fun h0 => by
     have := h.only a.1 x hx h0; omega
    have hroom : 0 < room E.l a.1 := by
     unfold lft at hp; rw [if_neg b] at hp; omega
    by_cases hv : 0 ≤ far a.2.1
    ·obtain ⟨c1,c2⟩ := hf.closed a.2.1 hvN hv (a.1,u,true) (hn.lanes.all a.1 x u a.2.1 hx hd.1 hd.2 hne).2 (by simp [opH,hroom])
     simp only at c1 c2
     have e1 : hi u = (far u).toNat := by rw [hhi]; unfold hi0; rw [if_neg hus,if_neg (by omega)]
     by_cases hvs : a.2.1 = E.s
     ·have e2 : hi a.2.1 = E.N := by rw [hhi,hvs]; simp [hi0]
      have := up u hu; omega
     ·have e2 : hi a.2.1 = (far a.2.1).toNat := by rw [hhi]; unfold hi0; rw [if_neg hvs,if_neg (by omega)]
      omega
    ·have e2 : E.N ≤ hi a.2.1 := by
      rw [hhi]; unfold hi0; split
      ·omega
      ·rw [if_pos (by omega)]; omega
     have := up u hu; omega
theorem Que.begin_ (hn : E.Net) : Que E (exc E (fun _ => 0)) (fun _ => []) 0 E.s := by
 have hN := hn.n2; refine ⟨fun _ _ => List.nodup_nil,fun _ _ _ _ _ h => (nomatch h),fun _ _ _ h => (nomatch h),fun i hi h1 h2 h3 h4 => ?_,by omega,by omega⟩
 have : exc E (fun _ => 0) i = 0 := by
  unfold exc netTo; rw [Z1m (h := fun _ _ => 0) (fun k x _ => by simp [brings]) _,Z2h]
 omega
theorem Que.free (h : Que E st Q top E.s) : Que E st Q top E.N :=
 ⟨h.nd,h.one,fun g hg i hi => by obtain ⟨a,b,c,d,_⟩ := h.mem g hg i hi; exact ⟨a,b,c,d,by omega⟩,fun i hi a1 a2 _ a4 => h.all i hi a1 a2 a1 a4,h.lo,h.hiT⟩
abbrev mkE (p lb fb sb hb mb nb ub D N s t len cap : Nat) (a : Option Addr) (l : List Pi) (V : Nat → Value) : Env := { C := p,p := p,lb := lb,fb := fb,sb := sb,hb := hb,mb := mb,nb := nb,ub := ub,D := D,N := N,s := s,t := t,len := len,cap := cap,a := a,l := l,V := V,L := fun i => Z0t l i l.length }
theorem Zm1 (E : Env) (i : Nat) : exc E (fun _ => 0) i = 0 := by
 unfold exc netTo; rw [Z1m (h := fun _ _ => 0) (fun k x _ => by simp [brings]) _,Z2h]
theorem Zm2 (k : Nat) (hi : Nat → Nat) (g : Nat) : cnt (k + 1) hi g = cnt k hi g + (if hi k = g then 1 else 0) := rfl
end Go.Proofs.YtfkommjlmolniaaGreatDoor
end

/- Joined: Wk. -/
import Derived.Test.YtfkommjlmolniaaGreatDoorHd5
import Derived.OneCell
import Derived.WalkSmall
import Derived.Laws.Rows
import Derived.Deep.OwnRows
set_option linter.unusedVariables false
section

namespace Go.Proofs.YtfkommjlmolniaaGreatDoor
open Go.RowKit
def LaRow (w : World) (b off : Nat) (r : List La) : Prop := ∀ (j : Nat) (x : La),r[j]? = some x →
 w.cell? ⟨b,off + j * 3,none⟩ = some (.int .i64 (x.1 : Int)) ∧ w.cell? ⟨b,off + j * 3 + 1,none⟩ = some (.int .i64 (x.2.1 : Int)) ∧ w.cell? ⟨b,off + j * 3 + 2,none⟩ = some (.bool x.2.2)
def IsLanes (C : Nat) (w : World) (a : Option Addr) (len : Nat) (r : List La) : Prop := r.length = len ∧ (len = 0 ∨ ∃ b off,a = some ⟨b,off,none⟩ ∧ b < C ∧ LaRow w b off r)
variable {w wr w2 w4 : World} {a : Option Addr} {len cap B C lb N : Nat} {r : List La} {V : Nat → Value} {L : Nat → List La}
theorem IsLanes.later (h : IsLanes C w a len r) (hb : Below C w w2) : IsLanes C w2 a len r := ⟨h.1,by
 rcases h.2 with h | ⟨b,off,e,h1,h2⟩
 ·exact .inl h
 ·refine .inr ⟨b,off,e,h1,fun j x hx => ?_⟩
  obtain ⟨c0,c1,c2⟩ := h2 j x hx; exact ⟨(hb.cell (p := ⟨b,off + j * 3,none⟩) h1).trans c0,(hb.cell (p := ⟨b,off + j * 3 + 1,none⟩) h1).trans c1,(hb.cell (p := ⟨b,off + j * 3 + 2,none⟩) h1).trans c2⟩⟩
theorem IsLanes.at_ {k : Nat} (h : IsLanes C w a len r) (hk : k < len) : ∃ b off x,a = some ⟨b,off,none⟩ ∧ b < C ∧ r[k]? = some x ∧
  w.cell? ⟨b,off + k * 3,none⟩ = some (.int .i64 (x.1 : Int)) ∧ w.cell? ⟨b,off + k * 3 + 1,none⟩ = some (.int .i64 (x.2.1 : Int)) ∧ w.cell? ⟨b,off + k * 3 + 2,none⟩ = some (.bool x.2.2) := by
 obtain ⟨h1,h2⟩ := h; subst h1; rcases h2 with h2 | ⟨b,off,e,hb,hr⟩
 ·omega
 ·exact ⟨b,off,_,e,hb,List.getElem?_eq_getElem hk,hr k _ (List.getElem?_eq_getElem hk)⟩
structure Lanes (C : Nat) (w : World) (lb N : Nat) (V : Nat → Value) (L : Nat → List La) : Prop where
 lt : lb < C
 out : w.rowIs lb 170 N V
 row : ∀ i,i < N → ∃ a c,V i = .slice a (L i).length c ∧ IsLanes C w a (L i).length (L i)
theorem Lanes.later (h : Lanes C w lb N V L) (hb : Below C w w2) : Lanes C w2 lb N V L :=
 ⟨h.lt,h.out.of_block (hb.block lb h.lt),fun i hi => by obtain ⟨a,c,e,h2⟩ := h.row i hi; exact ⟨a,c,e,h2.later hb⟩⟩
theorem IsPipes.laterC {l : List Pi} (h : IsPipes C w a len l) (hb : Below C w w2) : IsPipes C w2 a len l := ⟨h.1,by
 rcases h.2 with h | ⟨b,off,e,h1,h2⟩
 ·exact .inl h
 ·exact .inr ⟨b,off,e,h1,h2.of_block (hb.block b h1)⟩⟩
structure Env where
 (C p lb fb sb hb mb nb ub D N s t len cap : Nat)
 a : Option Addr
 l : List Pi
 V : Nat → Value
 L : Nat → List La
structure Env.Ok (E : Env) : Prop where
 cp : E.C ≤ E.p
 cf : E.C ≤ E.fb
 cs : E.C ≤ E.sb
 ch : E.C ≤ E.hb
 cm : E.C ≤ E.mb
 cn : E.C ≤ E.nb
 cu : E.C ≤ E.ub
 dp : E.p < E.D
 df : E.fb < E.D
 ds : E.sb < E.D
 dh : E.hb < E.D
 dm : E.mb < E.D
 dn : E.nb < E.D
 du : E.ub < E.D
 pf : E.p ≠ E.fb
 ps : E.p ≠ E.sb
 ph : E.p ≠ E.hb
 pm : E.p ≠ E.mb
 pn : E.p ≠ E.nb
 pu : E.p ≠ E.ub
 fs : E.fb ≠ E.sb
 fh : E.fb ≠ E.hb
 fm : E.fb ≠ E.mb
 fn : E.fb ≠ E.nb
 fu : E.fb ≠ E.ub
 sh : E.sb ≠ E.hb
 sm : E.sb ≠ E.mb
 sn : E.sb ≠ E.nb
 su : E.sb ≠ E.ub
 hm : E.hb ≠ E.mb
 hn : E.hb ≠ E.nb
 hu : E.hb ≠ E.ub
 mn : E.mb ≠ E.nb
 mu : E.mb ≠ E.ub
 nu : E.nb ≠ E.ub
structure Env.Net (E : Env) : Prop where
 ok : ∀ x ∈ E.l,okP (E.N : Int) x = true
 n2 : 2 ≤ E.N
 nm : E.N ≤ 1000
 lm : E.l.length ≤ 20000
 sN : E.s < E.N
 tN : E.t < E.N
 st : E.s ≠ E.t
 lanes : LanesOk E.l E.N E.L
 many : ∀ i,(E.L i).length ≤ 40000
def nodeV (q : List Nat) : List Value := q.map (fun i => .int .i64 ((i : Nat) : Int))
def workV (E : Env) (top : Int) : Array Value := #[.int .i64 (E.N : Int),.slice E.a E.len E.cap,.int .i64 (E.s : Int),.int .i64 (E.t : Int),.slice (some ⟨E.lb,0,none⟩) E.N E.N,
  .slice (some ⟨E.fb,0,none⟩) E.len E.len,.slice (some ⟨E.sb,0,none⟩) E.N E.N,.slice (some ⟨E.hb,0,none⟩) E.N E.N,.slice (some ⟨E.mb,0,none⟩) (2 * E.N) (2 * E.N),.slice (some ⟨E.nb,0,none⟩) E.N E.N,
  .slice (some ⟨E.ub,0,none⟩) (2 * E.N) (2 * E.N),.int .i64 top]
structure Wk (E : Env) (fl st : Nat → Int) (hi nx : Nat → Nat) (mn : Nat → Int) (fv : Nat → Value) (Q : Nat → List Nat) (top : Int) (wr : World) : Prop where
 pipes : IsPipes E.C wr E.a E.len E.l
 lanes : Lanes E.C wr E.lb E.N E.V E.L
 work : wr.heap[E.p]? = some (.cells (workV E top) 137 (0,0))
 flow : wr.rowIs E.fb 2 E.len (fun k => .int .i64 (fl k))
 stays : wr.rowIs E.sb 2 E.N (fun i => .int .i64 (st i))
 high : wr.rowIs E.hb 3 E.N (fun i => .int .i64 (hi i : Int))
 many : wr.rowIs E.mb 3 (2 * E.N) (fun h => .int .i64 (mn h))
 next : wr.rowIs E.nb 3 E.N (fun i => .int .i64 (nx i : Int))
 full : wr.rowIs E.ub 37 (2 * E.N) fv
 rows : ∀ h,h < 2 * E.N → wr.ownsRow E.D 3 1 (fv h) (Q h).length (nodeV (Q h))
 apart : ∀ h h2,h < 2 * E.N → h2 < 2 * E.N → h ≠ h2 → ∀ b,(fv h).ownBlock = some b → (fv h2).ownBlock ≠ some b
 ord : E.Ok
 size : E.D ≤ wr.heap.size
variable {E : Env} {fl st : Nat → Int} {hi nx : Nat → Nat} {mn : Nat → Int} {fv : Nat → Value} {Q : Nat → List Nat} {top : Int}
theorem Wk.later (h : Wk E fl st hi nx mn fv Q top wr) (hb : Below wr.heap.size wr w2) : Wk E fl st hi nx mn fv Q top w2 := by
 have h1 := h.ord; have h2 := h.size; have hC : Below E.C wr w2 := hb.mono (by have := h1.cp; have := h1.dp; omega)
 exact ⟨h.pipes.laterC hC,h.lanes.later hC,(hb.block _ (Array.getElem?_eq_some_iff.1 h.work).1).trans h.work,Z0a h.flow hb,Z0a h.stays hb,Z0a h.high hb,Z0a h.many hb,Z0a h.next hb,Z0a h.full hb,
  fun i hi => Z06 (h.rows i hi) hb,h.apart,h1,Nat.le_trans h2 hb.size⟩
theorem Wk.frame (h : Wk E fl st hi nx mn fv Q top wr) {b : Nat} (hC : E.C ≤ b) (hD : b < E.D) (i : Nat) (v : Value) :
  IsPipes E.C (wr.setCell ⟨b,i,none⟩ v) E.a E.len E.l ∧ Lanes E.C (wr.setCell ⟨b,i,none⟩ v) E.lb E.N E.V E.L ∧
  (∀ h,h < 2 * E.N → (wr.setCell ⟨b,i,none⟩ v).ownsRow E.D 3 1 (fv h) (Q h).length (nodeV (Q h))) ∧ E.D ≤ (wr.setCell ⟨b,i,none⟩ v).heap.size := by
 have hB : Below E.C wr (wr.setCell ⟨b,i,none⟩ v) := (Below.refl E.C wr).setCell (p := ⟨b,i,none⟩) hC v; refine ⟨h.pipes.laterC hB,h.lanes.later hB,fun k hk => ?_,Nat.le_trans h.size hB.size⟩; exact ownsRow_setCell_other (h.rows k hk) (fun e => by have := (World.ownsRow.lt (h.rows k hk) _ e).1; simp at this; omega) v
theorem Wk.setFlow (h : Wk E fl st hi nx mn fv Q top wr) (k : Nat) (z : Int) : Wk E (fun j => if j = k then z else fl j) st hi nx mn fv Q top (wr.setCell ⟨E.fb,k,none⟩ (.int .i64 z)) := by
 have o := h.ord; obtain ⟨f1,f2,f3,f4⟩ := h.frame o.cf o.df k (.int .i64 z); exact ⟨f1,f2,(heap_setCell_other _ _ _ _ o.pf).trans h.work,(h.flow.set k _).congr (fun j _ => by split <;> rfl),h.stays.setOther o.fs.symm _,h.high.setOther o.fh.symm _,h.many.setOther o.fm.symm _,h.next.setOther o.fn.symm _,h.full.setOther o.fu.symm _,f3,h.apart,o,f4⟩
theorem Wk.setStays (h : Wk E fl st hi nx mn fv Q top wr) (k : Nat) (z : Int) : Wk E fl (fun j => if j = k then z else st j) hi nx mn fv Q top (wr.setCell ⟨E.sb,k,none⟩ (.int .i64 z)) := by
 have o := h.ord; obtain ⟨f1,f2,f3,f4⟩ := h.frame o.cs o.ds k (.int .i64 z); exact ⟨f1,f2,(heap_setCell_other _ _ _ _ o.ps).trans h.work,h.flow.setOther o.fs _,(h.stays.set k _).congr (fun j _ => by split <;> rfl),h.high.setOther o.sh.symm _,h.many.setOther o.sm.symm _,h.next.setOther o.sn.symm _,h.full.setOther o.su.symm _,f3,h.apart,o,f4⟩
theorem Wk.setHigh (h : Wk E fl st hi nx mn fv Q top wr) (k : Nat) {z : Int} {m : Nat} (hz : z = (m : Int)) : Wk E fl st (Z0o hi k m) nx mn fv Q top (wr.setCell ⟨E.hb,k,none⟩ (.int .i64 z)) := by
 subst hz; have o := h.ord; obtain ⟨f1,f2,f3,f4⟩ := h.frame o.ch o.dh k (.int .i64 (m : Int)); exact ⟨f1,f2,(heap_setCell_other _ _ _ _ o.ph).trans h.work,h.flow.setOther o.fh _,h.stays.setOther o.sh _,(h.high.set k _).congr (fun j _ => by unfold Z0o; split <;> rfl),h.many.setOther o.hm.symm _,h.next.setOther o.hn.symm _,h.full.setOther o.hu.symm _,f3,h.apart,o,f4⟩
theorem Wk.setMany (h : Wk E fl st hi nx mn fv Q top wr) (k : Nat) (z : Int) : Wk E fl st hi nx (fun j => if j = k then z else mn j) fv Q top (wr.setCell ⟨E.mb,k,none⟩ (.int .i64 z)) := by
 have o := h.ord; obtain ⟨f1,f2,f3,f4⟩ := h.frame o.cm o.dm k (.int .i64 z); exact ⟨f1,f2,(heap_setCell_other _ _ _ _ o.pm).trans h.work,h.flow.setOther o.fm _,h.stays.setOther o.sm _,h.high.setOther o.hm _,(h.many.set k _).congr (fun j _ => by split <;> rfl),h.next.setOther o.mn.symm _,h.full.setOther o.mu.symm _,f3,h.apart,o,f4⟩
theorem Wk.setNext (h : Wk E fl st hi nx mn fv Q top wr) (k : Nat) {z : Int} {m : Nat} (hz : z = (m : Int)) : Wk E fl st hi (Z0o nx k m) mn fv Q top (wr.setCell ⟨E.nb,k,none⟩ (.int .i64 z)) := by
 subst hz; have o := h.ord; obtain ⟨f1,f2,f3,f4⟩ := h.frame o.cn o.dn k (.int .i64 (m : Int)); exact ⟨f1,f2,(heap_setCell_other _ _ _ _ o.pn).trans h.work,h.flow.setOther o.fn _,h.stays.setOther o.sn _,h.high.setOther o.hn _,h.many.setOther o.mn _,(h.next.set k _).congr (fun j _ => by unfold Z0o; split <;> rfl),h.full.setOther o.nu.symm _,f3,h.apart,o,f4⟩
theorem Wk.setTop (h : Wk E fl st hi nx mn fv Q top wr) (z : Int) : Wk E fl st hi nx mn fv Q z (wr.setCell ⟨E.p,11,none⟩ (.int .i64 z)) := by
 have o := h.ord; obtain ⟨f1,f2,f3,f4⟩ := h.frame o.cp o.dp 11 (.int .i64 z); refine ⟨f1,f2,?_,h.flow.setOther o.pf.symm _,h.stays.setOther o.ps.symm _,h.high.setOther o.ph.symm _,h.many.setOther o.pm.symm _,h.next.setOther o.pn.symm _,h.full.setOther o.pu.symm _,f3,h.apart,o,f4⟩; have := heap_setCell_same wr E.p 11 _ _ (.int .i64 z) h.work; rw [this]; rfl
theorem Wk.popQ (h : Wk E fl st hi nx mn fv Q top wr) {g D cp m : Nat} {q : List Nat} {u : Nat} (hg : g < 2 * E.N) (hv : fv g = .slice (some ⟨D,0,none⟩) (m + 1) cp) (hq : Q g = q ++ [u]) (hm : q.length = m) :
  Wk E fl st hi nx mn (fun j => if j = g then .slice (some ⟨D,0,none⟩) m cp else fv j) (fun j => if j = g then q else Q j) top (wr.setCell ⟨E.ub,g,none⟩ (.slice (some ⟨D,0,none⟩) m cp)) := by
 have o := h.ord; obtain ⟨f1,f2,f3,f4⟩ := h.frame o.cu o.du g (.slice (some ⟨D,0,none⟩) m cp); refine ⟨f1,f2,(heap_setCell_other _ _ _ _ o.pu).trans h.work,h.flow.setOther o.fu _,h.stays.setOther o.su _,h.high.setOther o.hu _,h.many.setOther o.mu _,h.next.setOther o.nu _,h.full.set g _,fun j hj => ?_,fun j j2 hj hj2 hne b hb => ?_,o,f4⟩
 ·by_cases e : j = g
  ·subst e
   simp only [if_true]
   have := f3 j hj; rw [hv,hq,List.length_append,List.length_singleton,hm] at this; rw [hm]; refine ownsRow_pop (last := [.int .i64 (u : Int)]) (by simp [nodeV,hm]) ?_
   simpa [nodeV] using this
  ·simp only [e,if_false]
   exact f3 j hj
 ·have same : ∀ j,(if j = g then Value.slice (some ⟨D,0,none⟩) m cp else fv j).ownBlock = (fv j).ownBlock := fun j => by
   by_cases e : j = g
   ·subst e; rw [if_pos rfl,hv]; rfl
   ·rw [if_neg e]
  simp only [same] at hb ⊢
  exact h.apart j j2 hj hj2 hne b hb
theorem Wk.pushQ (h : Wk E fl st hi nx mn fv Q top wr) {g G cp u : Nat} (hg : g < 2 * E.N) (hown : w4.ownsRow E.D 3 1 (.slice (some ⟨G,0,none⟩) ((Q g).length + 1) cp) ((Q g).length + 1) (nodeV (Q g) ++ [.int .i64 (u : Int)]))
  (hgrow : wr.grownBy w4 (fv g).ownBlock) (hfr : (fv g).ownBlock = some G ∨ G = wr.heap.size) :
  Wk E fl st hi nx mn (fun j => if j = g then .slice (some ⟨G,0,none⟩) ((Q g).length + 1) cp else fv j) (fun j => if j = g then Q g ++ [u] else Q j) top (w4.setCell ⟨E.ub,g,none⟩ (.slice (some ⟨G,0,none⟩) ((Q g).length + 1) cp)) ∧
  w4.cell? ⟨E.ub,g,none⟩ = some (fv g) ∧ w4.frozen? ⟨E.ub,g,none⟩ = false := by
 have o := h.ord; have hsz := h.size; have hlt : ∀ j,j < 2 * E.N → ∀ k,(fv j).ownBlock = some k → E.D ≤ k ∧ k < wr.heap.size := fun j hj k hk => World.ownsRow.lt (h.rows j hj) k hk; have far : ∀ b,b < E.D → w4.heap[b]? = wr.heap[b]? := fun b hb => hgrow.block b (by omega) (fun e => by have := (hlt g hg b e.symm).1; omega)
 have hB : Below E.C wr w4 := ⟨hgrow.os,hgrow.tape,hgrow.output,hgrow.size,fun k hk => far k (by have := o.cp; have := o.dp; omega)⟩
 have w4full : w4.rowIs E.ub 37 (2 * E.N) fv := h.full.of_block (far _ o.du); have hB2 : Below E.C w4 (w4.setCell ⟨E.ub,g,none⟩ (.slice (some ⟨G,0,none⟩) ((Q g).length + 1) cp)) := (Below.refl E.C w4).setCell (p := ⟨E.ub,g,none⟩) o.cu _; refine ⟨⟨(h.pipes.laterC hB).laterC hB2,(h.lanes.later hB).later hB2,(heap_setCell_other _ _ _ _ o.pu).trans ((far _ o.dp).trans h.work),(h.flow.of_block (far _ o.df)).setOther o.fu _,(h.stays.of_block (far _ o.ds)).setOther o.su _,(h.high.of_block (far _ o.dh)).setOther o.hu _,(h.many.of_block (far _ o.dm)).setOther o.mu _,(h.next.of_block (far _ o.dn)).setOther o.nu _,w4full.set g _,fun j hj => ?_,fun j j2 hj hj2 hne b hb => ?_,o,Nat.le_trans hsz (Nat.le_trans hgrow.size hB2.size)⟩,w4full.cell hg,w4full.frozen g⟩
 ·by_cases e : j = g
  ·subst e
   simp only [if_true,List.length_append,List.length_singleton]
   have : nodeV (Q j ++ [u]) = nodeV (Q j) ++ [.int .i64 (u : Int)] := by simp [nodeV]
   rw [this]; exact ownsRow_setCell_other hown (fun e => by have h9 : E.D ≤ E.ub := (World.ownsRow.lt hown _ e).1; have := o.du; omega) _
  ·simp only [e,if_false]
   refine ownsRow_setCell_other ((h.rows j hj).kept hgrow ?_) (fun e2 => by have h9 : E.D ≤ E.ub := (hlt j hj _ e2).1; have := o.du; omega) _
   cases hv : (fv j).ownBlock with
   | none => exact .inl rfl
   | some b => exact .inr (fun e2 => h.apart j g hj hg e b hv (by rw [← e2]))
 ·have new : ∀ b,some G = some b → ∀ i,i < 2 * E.N → i ≠ g → (fv i).ownBlock ≠ some b := fun b hb i hi hif he => by
   cases hb
   rcases hfr with hfr | hfr
   ·exact h.apart i g hi hg hif G he hfr
   ·have := (hlt i hi _ he).2
    omega
  by_cases e1 : j = g
  ·subst e1
   simp only [if_true] at hb
   rw [if_neg (fun e => hne e.symm)]; exact new b hb j2 hj2 (fun e => hne e.symm)
  ·rw [if_neg e1] at hb
   by_cases e2 : j2 = g
   ·rw [if_pos e2]
    intro he; exact new b he j hj e1 hb
   ·rw [if_neg e2]
    exact h.apart j j2 hj hj2 hne b hb
theorem Wk.cellW (h : Wk E fl st hi nx mn fv Q top wr) : wr.cell? ⟨E.p,0,none⟩ = some (.int .i64 (E.N : Int)) ∧ wr.cell? ⟨E.p,1,none⟩ = some (.slice E.a E.len E.cap) ∧ wr.cell? ⟨E.p,2,none⟩ = some (.int .i64 (E.s : Int)) ∧ wr.cell? ⟨E.p,3,none⟩ = some (.int .i64 (E.t : Int)) ∧
  wr.cell? ⟨E.p,4,none⟩ = some (.slice (some ⟨E.lb,0,none⟩) E.N E.N) ∧ wr.cell? ⟨E.p,5,none⟩ = some (.slice (some ⟨E.fb,0,none⟩) E.len E.len) ∧ wr.cell? ⟨E.p,6,none⟩ = some (.slice (some ⟨E.sb,0,none⟩) E.N E.N) ∧ wr.cell? ⟨E.p,7,none⟩ = some (.slice (some ⟨E.hb,0,none⟩) E.N E.N) ∧
  wr.cell? ⟨E.p,8,none⟩ = some (.slice (some ⟨E.mb,0,none⟩) (2 * E.N) (2 * E.N)) ∧ wr.cell? ⟨E.p,9,none⟩ = some (.slice (some ⟨E.nb,0,none⟩) E.N E.N) ∧ wr.cell? ⟨E.p,10,none⟩ = some (.slice (some ⟨E.ub,0,none⟩) (2 * E.N) (2 * E.N)) ∧ wr.cell? ⟨E.p,11,none⟩ = some (.int .i64 top) ∧ wr.frozen? ⟨E.p,11,none⟩ = false := by
 have hw := h.work; unfold workV at hw; simp [World.cell?,World.frozen?,hw]
end Go.Proofs.YtfkommjlmolniaaGreatDoor
end

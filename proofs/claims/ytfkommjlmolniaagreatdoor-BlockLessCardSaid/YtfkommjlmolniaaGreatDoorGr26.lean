/- Joined: ISetB, AOwn, BWT, RSoon, BSoon. -/
import Derived.Test.YtfkommjlmolniaaGreatDoorGr21
import Derived.Test.YtfkommjlmolniaaGreatDoorGr15
import Derived.Test.YtfkommjlmolniaaGreatDoorGr2
set_option linter.unusedVariables false
section

namespace Go.Proofs.YtfkommjlmolniaaGreatDoor
open Go.RowKit
variable {w wr w2 w4 : World} {A : InA} {x : Ins} {B N C D b i k j g sz n gx g4 cap : Nat} {VK VT V : Nat → Nat} {LK LT L : Nat → Nat → Int} {v : Value} {z : Int} {p : Int × Int} {S : Nat → Prop}
theorem OwnSq.mod (h : OwnSq B w v n N V L) (hm : Mod S w w2) (h1 : ∀ k,v.ownBlock = some k → ¬ S k) (h2 : ∀ j,j < n → ¬ S (V j)) : OwnSq B w2 v n N V L :=
 ⟨owns_kept h.outer hm h1,fun k hk => ⟨(h.row k hk).1.of_block (hm.block _ (h.row k hk).1.lt (h2 k hk)),(h.row k hk).2⟩,h.inj,h.out⟩
theorem IsRows.take_ {a : Option Addr} {len : Nat} {L : List (List Int)} (h : IsRows B w a len L) (hi : i ≤ len) : IsRows B w a i (L.take i) := by
 obtain ⟨h1,h2⟩ := h; subst h1; refine ⟨by rw [List.length_take]; omega,?_⟩
 rcases h2 with h2 | ⟨b,off,e,hb,hr⟩
 ·exact .inl (by omega)
 ·refine .inr ⟨b,off,e,hb,fun k r hk => ?_⟩
  rw [List.getElem?_take] at hk; split at hk
  ·exact hr k r hk
  ·cases hk
end Go.Proofs.YtfkommjlmolniaaGreatDoor
end
section

namespace Go.Proofs.YtfkommjlmolniaaGreatDoor
open Go.RowKit
variable {w wr w2 : World} {A3 : InA} {m : Ins} {D0 ga b B N C D : Nat} {u : Value} {VK VT : Nat → Nat} {LK LT : Nat → Nat → Int} {S P Q : Nat → Prop}
def OwnAll (A : InA) (x : Ins) (N : Nat) (VK VT : Nat → Nat) (P : Nat → Prop) : Prop :=
 (∀ g,(Value.slice A.sa x.sats.length A.sc).ownBlock = some g → P g) ∧ (∀ g,(Value.slice A.ca x.cus.length A.cc).ownBlock = some g → P g) ∧ (∀ g,(Value.slice A.ka N A.kc).ownBlock = some g → P g) ∧ (∀ g,(Value.slice A.ta N A.tc).ownBlock = some g → P g) ∧ (∀ i,i < N → P (VK i)) ∧ ∀ i,i < N → P (VT i)
theorem OwnAll.imp (h : OwnAll A3 m N VK VT P) (hp : ∀ g,P g → Q g) : OwnAll A3 m N VK VT Q :=
 ⟨fun g e => hp _ (h.1 g e),fun g e => hp _ (h.2.1 g e),fun g e => hp _ (h.2.2.1 g e),fun g e => hp _ (h.2.2.2.1 g e),fun i hi => hp _ (h.2.2.2.2.1 i hi),fun i hi => hp _ (h.2.2.2.2.2 i hi)⟩
theorem OwnIns.all_lt (h : OwnIns B w A3 m N C D VK VT LK LT) : OwnAll A3 m N VK VT (fun g => g < w.heap.size) :=
 ⟨fun g e => (World.ownsRow.lt h.sats g e).2,fun g e => (World.ownsRow.lt h.cus g e).2,fun g e => (World.ownsRow.lt h.cost.outer g e).2,fun g e => (World.ownsRow.lt h.time.outer g e).2,fun i hi => (h.cost.row i hi).1.lt,fun i hi => (h.time.row i hi).1.lt⟩
theorem OwnIns.mod (h : OwnIns B w A3 m N C D VK VT LK LT) (hm : Mod S w w2) (hP : OwnAll A3 m N VK VT (fun g => ¬ S g)) : OwnIns B w2 A3 m N C D VK VT LK LT :=
 ⟨owns_kept h.sats hm hP.1,owns_kept h.cus hm hP.2.1,h.cost.mod hm hP.2.2.1 hP.2.2.2.2.1,h.time.mod hm hP.2.2.2.1 hP.2.2.2.2.2,h.ck,h.tk,h.nl,h.ap,h.sb,h.kb,h.bc,h.cd⟩
def AOwn (w : World) (D0 : Nat) (A : InA) (x : Ins) : Prop := ∃ B N C D VK VT LK LT,OwnIns B w A x N C D VK VT LK LT ∧ OwnAll A x N VK VT (fun g => g < D0)
theorem AOwn.make (h : OwnIns B w A3 m N C D VK VT LK LT) : AOwn w w.heap.size A3 m := ⟨B,N,C,D,VK,VT,LK,LT,h,h.all_lt⟩
theorem AOwn.later (h : AOwn w D0 A3 m) (hb : Below w.heap.size w w2) : AOwn w2 D0 A3 m := by
 obtain ⟨B,N,C,D,VK,VT,LK,LT,h1,h2⟩ := h; exact ⟨B,N,C,D,VK,VT,LK,LT,h1.later hb,h2⟩
theorem AOwn.mod (h : AOwn w D0 A3 m) (hm : Mod S w w2) (hS : ∀ k,S k → D0 ≤ k) : AOwn w2 D0 A3 m := by
 obtain ⟨B,N,C,D,VK,VT,LK,LT,h1,h2⟩ := h; exact ⟨B,N,C,D,VK,VT,LK,LT,h1.mod hm (h2.imp (fun g hg hs => by have := hS g hs; omega)),h2⟩
theorem AOwn.box (h : AOwn w D0 A3 m) {cb : Array Value} (hb : w.heap[b]? = some (.cells cb 34 (0,0))) (i : Nat) (u : Value) : AOwn (w.setCell ⟨b,i,none⟩ u) D0 A3 m := by
 obtain ⟨B,N,C,D,VK,VT,LK,LT,h1,h2⟩ := h; exact ⟨B,N,C,D,VK,VT,LK,LT,h1.keep hb (by decide) (by decide) (by decide) (by decide) i u,h2⟩
theorem AOwn.is_ (h : AOwn w D0 A3 m) : IsIns w.heap.size w A3 m := by
 obtain ⟨B,N,C,D,VK,VT,LK,LT,h1,_⟩ := h; exact h1.is_
/-! ### The two instances made,in whatever order -/
theorem below_storeI {r : Nat} {y0 y1 y2 y3 y4 y5 y6 y7 y8 : Value} (hr : B ≤ r) : Below B wr (storeI wr r y0 y1 y2 y3 y4 y5 y6 y7 y8) := storeI_below (Below.refl _ _) hr
theorem OwnIns.storeI_ {r : Nat} {y0 y1 y2 y3 y4 y5 y6 y7 y8 v0 v1 v2 v3 v4 v5 v6 v7 v8 : Value} (h : OwnIns B w A3 m N C D VK VT LK LT) (hb : w.heap[r]? = some (.cells #[v0,v1,v2,v3,v4,v5,v6,v7,v8] 34 (0,0))) : OwnIns B (storeI w r y0 y1 y2 y3 y4 y5 y6 y7 y8) A3 m N C D VK VT LK LT := by
 unfold storeI; have k : ∀ {W : World} {c : Array Value},W.heap[r]? = some (.cells c 34 (0,0)) → OwnIns B W A3 m N C D VK VT LK LT → ∀ i u,OwnIns B (W.setCell ⟨r,i,none⟩ u) A3 m N C D VK VT LK LT ∧ ∃ c2,(W.setCell ⟨r,i,none⟩ u).heap[r]? = some (.cells c2 34 (0,0)) := fun hc ho i u => ⟨ho.keep hc (by decide) (by decide) (by decide) (by decide) i u,_,heap_setCell_same _ _ _ _ _ _ hc⟩
 obtain ⟨h0,_,b0⟩ := k hb h 0 y0; obtain ⟨h1,_,b1⟩ := k b0 h0 1 y1; obtain ⟨h2,_,b2⟩ := k b1 h1 2 y2; obtain ⟨h3,_,b3⟩ := k b2 h2 3 y3; obtain ⟨h4,_,b4⟩ := k b3 h3 4 y4; obtain ⟨h5,_,b5⟩ := k b4 h4 5 y5; obtain ⟨h6,_,b6⟩ := k b5 h5 6 y6; obtain ⟨h7,_,b7⟩ := k b6 h6 7 y7; exact (k b7 h7 8 y8).1
theorem storeI_other {r b : Nat} {y0 y1 y2 y3 y4 y5 y6 y7 y8 : Value} (h : b ≠ r) : (storeI w r y0 y1 y2 y3 y4 y5 y6 y7 y8).heap[b]? = w.heap[b]? := by
 unfold storeI; have k : ∀ (W : World) i u,(W.setCell ⟨r,i,none⟩ u).heap[b]? = W.heap[b]? := fun W i u => heap_setCell_other _ _ _ _ (fun e => h (show b = r from e))
 rw [k,k,k,k,k,k,k,k,k]
theorem AOwn.storeI_ {r : Nat} {y0 y1 y2 y3 y4 y5 y6 y7 y8 v0 v1 v2 v3 v4 v5 v6 v7 v8 : Value} (h : AOwn w D0 A3 m) (hb : w.heap[r]? = some (.cells #[v0,v1,v2,v3,v4,v5,v6,v7,v8] 34 (0,0))) : AOwn (storeI w r y0 y1 y2 y3 y4 y5 y6 y7 y8) D0 A3 m := by
 obtain ⟨B,N,C,D,VK,VT,LK,LT,h1,h2⟩ := h; exact ⟨B,N,C,D,VK,VT,LK,LT,h1.storeI_ hb,h2⟩
/-! ### A clone as what came in -/
end Go.Proofs.YtfkommjlmolniaaGreatDoor
end
section

namespace Go.Proofs.YtfkommjlmolniaaGreatDoor
open Go.RowKit
variable {w wr w2 : World} {A A3 : InA} {AS : SmA} {s : Sm} {x y m : Ins} {D0 ga gx b B N C D i k : Nat} {u : Value} {VK VT : Nat → Nat} {LK LT : Nat → Nat → Int} {S : Nat → Prop} {z n : Int} {p : Pi}
theorem SBox.lt (h : SBox w wr AS s) : w.heap.size + 1 ≤ wr.heap.size := (Array.getElem?_eq_some_iff.1 h.blk).1
theorem SBox.mod (h : SBox w wr AS s) (hb : Below (w.heap.size + 1) wr w2) : SBox w w2 AS s := ⟨h.below.trans (hb.mono (by omega)),(hb.block _ (by omega)).trans h.blk⟩
structure BW (w wr : World) (D0 ga : Nat) (AS : SmA) (s : Sm) (A3 : InA) (m : Ins) : Prop where
 sb : SBox w wr AS s
 a : wr.heap[ga]? = some (.cells (insC A3 m) 34 (0,0))
 ao : AOwn wr D0 A3 m
 ge : w.heap.size + 1 ≤ ga
 dge : w.heap.size + 1 ≤ D0
theorem BW.later (h : BW w wr D0 ga AS s A3 m) (hb : Below wr.heap.size wr w2) : BW w w2 D0 ga AS s A3 m :=
 ⟨h.sb.later hb,(hb.block _ (Array.getElem?_eq_some_iff.1 h.a).1).trans h.a,h.ao.later hb,h.ge,h.dge⟩
theorem BW.mod (h : BW w wr D0 ga AS s A3 m) (hm : Mod S wr w2) (hS : ∀ k,S k → D0 ≤ k) (hg : ¬ S ga) : BW w w2 D0 ga AS s A3 m :=
 ⟨h.sb.mod (hm.below h.sb.lt (fun k hk => Nat.le_trans h.dge (hS k hk))),(hm.block _ (Array.getElem?_eq_some_iff.1 h.a).1 hg).trans h.a,h.ao.mod hm hS,h.ge,h.dge⟩
theorem BW.set_ (h : BW w wr D0 ga AS s A3 m) (hb : D0 ≤ b) (hne : ga ≠ b) (i : Nat) (u : Value) : BW w (wr.setCell ⟨b,i,none⟩ u) D0 ga AS s A3 m :=
 h.mod ((Mod.refl (fun k => k = b) wr).setCell (p := ⟨b,i,none⟩) (.inr rfl) u) (fun k e => by rw [e]; exact hb) (fun e => hne e)
theorem BW.box (h : BW w wr D0 ga AS s A3 m) {cb : Array Value} (hb : wr.heap[b]? = some (.cells cb 34 (0,0))) (hge : w.heap.size + 1 ≤ b) (hne : ga ≠ b) (i : Nat) (u : Value) : BW w (wr.setCell ⟨b,i,none⟩ u) D0 ga AS s A3 m :=
 ⟨h.sb.mod ((Below.refl _ wr).setCell (p := ⟨b,i,none⟩) hge u),(heap_setCell_other _ _ _ _ (fun e => hne (show ga = b from e))).trans h.a,h.ao.box hb i u,h.ge,h.dge⟩
structure Low (m : Ins) : Prop where
 en : 0 ≤ m.en ∧ m.en ≤ 10000
 stay : ∀ q ∈ m.cus,0 ≤ q.2.2.2 ∧ q.2.2.2 ≤ 10000
 time : ∀ r ∈ m.time,∀ v ∈ r,0 ≤ v ∧ v ≤ 10000
theorem Low.lt (h : Low m) (ht : m.time = (List.range N).map (fun i => (List.range N).map (LT i))) (hi : i < N) (hk : k < N) : 0 ≤ LT i k ∧ LT i k ≤ 10000 :=
 h.time _ (by rw [ht]; exact List.mem_map.2 ⟨i,List.mem_range.2 hi,rfl⟩) _ (List.mem_map.2 ⟨k,List.mem_range.2 hk,rfl⟩)
theorem makeI_low (h : SmOk s) : Low (makeI s) := by
 have hw := s.wide_le; have he := h.ok.e; unfold sm8 at he; refine ⟨?_,?_,?_⟩
 ·have := wide_in s.wide s.e 255 hw he.1 he.2
  show 0 ≤ 40 + s.e * s.wide ∧ 40 + s.e * s.wide ≤ 10000
  rw [Int.mul_comm s.e]; omega
 ·intro q hq
  change q ∈ cusOf s at hq
  unfold cusOf at hq; split at hq
  ·simp at hq
   subst hq; exact ⟨by decide,by decide⟩
  ·unfold cusTo at hq
   rw [List.mem_map] at hq; obtain ⟨c,_,rfl⟩ := hq; show 0 ≤ c.2.2.2 % 8 ∧ c.2.2.2 % 8 ≤ 10000
   omega
 ·intro r hr v hv
  change r ∈ sqRows s.time (nodesOf s) at hr
  unfold sqRows at hr; rw [List.mem_map] at hr; obtain ⟨i,_,rfl⟩ := hr; rw [List.mem_map] at hv; obtain ⟨j,_,rfl⟩ := hv; have := sqE_in s.time (nodesOf s) i j; omega
end Go.Proofs.YtfkommjlmolniaaGreatDoor
end
section

namespace Go.Proofs.YtfkommjlmolniaaGreatDoor
open Go.RowKit
variable {m : Ins} {k s c : Nat} {p : Pi} {z : Int}
structure Low2 (m : Ins) : Prop where
 br : 0 ≤ m.br ∧ m.br ≤ 10000
 close : ∀ q ∈ m.cus,q.2.2.1 ≤ 10000
theorem makeI_low2 {s : Sm} (h : SmOk s) : Low2 (makeI s) := by
 have hw := s.wide_le; have hb := h.ok.br; unfold sm8 at hb; refine ⟨?_,?_⟩
 ·have := wide_in s.wide (s.br % 20) 19 hw (by omega) (by omega)
  show 0 ≤ 3 + s.wide * (s.br % 20) ∧ 3 + s.wide * (s.br % 20) ≤ 10000
  omega
 ·intro q hq
  change q ∈ cusOf s at hq
  unfold cusOf at hq; split at hq
  ·simp at hq
   subst hq; decide
  ·unfold cusTo at hq
   rw [List.mem_map] at hq; obtain ⟨y,hy,rfl⟩ := hq; have hc := h.whos y (List.mem_of_mem_take (List.mem_of_mem_take hy)); unfold sm8 at hc; have := wide_in s.wide y.2.2.1 255 hw (by omega) (by omega)
   unfold whoOf; simp only
   omega
theorem Fresh.cus_geR {wr : World} {gx B N C D g : Nat} {A : InA} {x : Ins} {VK VT : Nat → Nat} {LK LT : Nat → Nat → Int} (h : Fresh wr gx B A x N C D VK VT LK LT) (e : A.ca = some ⟨g,0,none⟩) : B ≤ g := by
 have hs := h.own.cus; rw [e] at hs; exact (World.ownsRow.lt hs g rfl).1
end Go.Proofs.YtfkommjlmolniaaGreatDoor
end
section

namespace Go.Proofs.YtfkommjlmolniaaGreatDoor
open Go.RowKit
def upL {α : Type} (f : α → α) (l : List α) (k : Nat) : List α := l.mapIdx fun i p => if i < k then f p else p
section
variable {α : Type} {f : α → α} {l : List α} {k : Nat} {p : α}
theorem upL_len : (upL f l k).length = l.length := by simp [upL]
theorem upL_zero : upL f l 0 = l := by
 apply List.ext_getElem?
 intro j; simp [upL]
theorem upL_all : upL f l l.length = l.map f := by
 apply List.ext_getElem?
 intro j; by_cases h : j < l.length
 ·simp [upL,h]
 ·simp [upL,List.getElem?_eq_none (Nat.le_of_not_lt h)]
theorem upL_at (h : l[k]? = some p) : (upL f l k)[k]? = some p := by simp [upL,h]
theorem upL_set (h : l[k]? = some p) : (upL f l k).set k (f p) = upL f l (k + 1) := by
 have hk := (List.getElem?_eq_some_iff.1 h).1; apply List.ext_getElem?
 intro j; rw [List.getElem?_set]; by_cases e : k = j
 ·subst e
  obtain ⟨_,hp⟩ := List.getElem?_eq_some_iff.1 h; simp [upL,hk,hp]
 ·rw [if_neg e]
  have e2 : (j < k) = (j < k + 1) := propext ⟨fun _ => by omega,fun _ => by omega⟩
  simp only [upL,List.getElem?_mapIdx,e2]
end
variable {m : Ins} {k s c who z k2 who2 z2 : Nat} {n : Int} {l : List Int}
def raiseS (n : Int) (p : Int × Int) : Int × Int := (p.1 + n,p.2)
def raiseC (n : Int) (p : Pi) : Pi := (p.1,p.2.1,p.2.2.1 + n,p.2.2.2)
def stI (m : Ins) (n : Int) (i j : Nat) : Ins := { m with en := m.en + n,br := m.br + n,tr := m.tr + n,sats := upL (raiseS n) m.sats i,cus := upL (raiseC n) m.cus j }
def moreAll (m : Ins) (n : Int) : Ins := { m with en := m.en + n,br := m.br + n,tr := m.tr + n,sats := m.sats.map (raiseS n),cus := m.cus.map (raiseC n) }
theorem stI_zero : stI m n 0 0 = { m with en := m.en + n,br := m.br + n,tr := m.tr + n } := by unfold stI; rw [upL_zero,upL_zero]
theorem stI_all : stI m n m.sats.length m.cus.length = moreAll m n := by unfold stI moreAll; rw [upL_all,upL_all]
theorem stI_sl {i j : Nat} : (stI m n i j).sats.length = m.sats.length := upL_len
theorem stI_cl {i j : Nat} : (stI m n i j).cus.length = m.cus.length := upL_len
theorem stI_sat {i j : Nat} {p : Int × Int} (h : m.sats[i]? = some p) : (stI m n i j).sats[i]? = some p ∧ { stI m n i j with sats := (stI m n i j).sats.set i (p.1 + n,p.2) } = stI m n (i + 1) j :=
 ⟨upL_at h,by
  have e := upL_set (f := raiseS n) h; unfold stI; simp only
  rw [← e]; rfl⟩
theorem stI_cus {i j : Nat} {p : Pi} (h : m.cus[j]? = some p) : (stI m n i j).cus[j]? = some p ∧ { stI m n i j with cus := (stI m n i j).cus.set j (p.1,p.2.1,p.2.2.1 + n,p.2.2.2) } = stI m n i (j + 1) :=
 ⟨upL_at h,by
  have e := upL_set (f := raiseC n) h; unfold stI; simp only
  rw [← e]; rfl⟩
structure Low3 (m : Ins) : Prop where
 tr : 0 ≤ m.tr ∧ m.tr ≤ 10000
 room : ∀ q ∈ m.sats,0 ≤ q.1 ∧ q.1 ≤ 10000
theorem makeI_low3 {s : Sm} (h : SmOk s) : Low3 (makeI s) := by
 have hw := s.wide_le; have hb := h.ok.tr; unfold sm8 at hb; refine ⟨?_,?_⟩
 ·have := wide_in s.wide (s.tr % 40) 39 hw (by omega) (by omega)
  show 0 ≤ 5 + s.wide * (s.tr % 40) ∧ 5 + s.wide * (s.tr % 40) ≤ 10000
  omega
 ·intro q hq
  change q ∈ satsOf s at hq
  unfold satsOf at hq; split at hq
  ·simp at hq
   subst hq; decide
  ·unfold satsTo at hq
   rw [List.mem_map] at hq; obtain ⟨y,hy,rfl⟩ := hq; have := wide_in s.wide (y.1 % 40) 39 hw (by omega) (by omega)
   unfold satOf; simp only
   omega
theorem moreAll_nodes : (moreAll m n).nodes = m.nodes := by simp [moreAll,Ins.nodes]
theorem moreAll_sl : (moreAll m n).sats.length = m.sats.length := by simp [moreAll]
theorem moreAll_cl : (moreAll m n).cus.length = m.cus.length := by simp [moreAll]
theorem moreAll_sat (h : s < m.sats.length) : (moreAll m n).sats.getD s (0,0) = raiseS n (m.sats.getD s (0,0)) := by
 simp [moreAll,List.getD,h]
theorem moreAll_cus (h : c < m.cus.length) : (moreAll m n).cus.getD c (0,0,0,0) = raiseC n (m.cus.getD c (0,0,0,0)) := by
 simp [moreAll,List.getD,h]
theorem moreAll_may (hm : May m) (hl : Low m) (h2 : Low2 m) (h3 : Low3 m) (hz : 0 ≤ n ∧ n ≤ 255) : May (moreAll m n) := by
 have hn := moreAll_nodes (m := m) (n := n); refine ⟨?_,hm.tm,?_,hm.bm,?_,?_,?_,?_,?_,by rw [hn]; exact hm.lc,by rw [hn]; exact hm.lt,fun j u hj => by rw [hn]; exact hm.cost j u hj,fun j u hj => by rw [hn]; exact hm.time j u hj⟩
 ·have := hl.en
  show 0 ≤ m.en + n ∧ m.en + n ≤ 1000000000
  omega
 ·have := h3.tr
  show 0 ≤ m.tr + n ∧ m.tr + n ≤ 1000000000
  omega
 ·have := h2.br
  show 0 ≤ m.br + n ∧ m.br + n ≤ 1000000000
  omega
 ·rw [moreAll_sl]; exact hm.ns
 ·rw [moreAll_cl]; exact hm.nc
 ·intro q hq
  obtain ⟨p,hp,rfl⟩ := List.mem_map.1 hq; have a := hm.sats p hp; have b := h3.room p hp; unfold satB inB_ raiseS at *; simp only [Bool.and_eq_true,decide_eq_true_eq] at a ⊢
  omega
 ·intro q hq
  obtain ⟨p,hp,rfl⟩ := List.mem_map.1 hq; have a := hm.cus p hp; have b := h2.close p hp; unfold cusB inB_ raiseC at *; simp only [Bool.and_eq_true,decide_eq_true_eq] at a ⊢
  omega
theorem moreAll_sty : styI (moreAll m n) = styI m := by
 funext i
 unfold styI; rw [moreAll_sl]; by_cases h : i - (1 + m.sats.length) < m.cus.length
 ·rw [moreAll_cus h]
  rfl
 ·have e1 : (moreAll m n).cus.getD (i - (1 + m.sats.length)) (0,0,0,0) = (0,0,0,0) := by rw [List.getD,List.getElem?_eq_none (by rw [moreAll_cl]; omega)]; rfl
  have e2 : m.cus.getD (i - (1 + m.sats.length)) (0,0,0,0) = (0,0,0,0) := by rw [List.getD,List.getElem?_eq_none (by omega)]; rfl
  rw [e1,e2]
theorem moreAll_in : inS (moreAll m n) = inS m := by
 funext i
 unfold inS; rw [moreAll_sl]
theorem moreAll_ready (h : ReadyOf m l) : ReadyOf (moreAll m n) l := ⟨by rw [moreAll_sl]; exact h.1,fun s hs => by
 rw [moreAll_sl] at hs; have e : arcS (moreAll m n) = arcS m := by
  unfold arcS; rw [moreAll_nodes,moreAll_in]; rfl
 rw [e,moreAll_sat hs]; exact h.2 s hs⟩
theorem moreAll_arcC : arcC (moreAll m n) s = arcC m s := by
 have e : inC (moreAll m n) s = inC m s := by
  funext i
  unfold inC; rw [moreAll_sl]
 unfold arcC; rw [moreAll_nodes,moreAll_sty,e]; rfl
theorem moreAll_out (h : OutOf m s l) : OutOf (moreAll m n) s l := ⟨by rw [moreAll_cl]; exact h.1,fun c hc => by
 rw [moreAll_cl] at hc; rw [moreAll_arcC,moreAll_sl]; exact h.2 c hc⟩
theorem moreAll_back (h : BackOf m s l) : BackOf (moreAll m n) s l := ⟨by rw [moreAll_cl]; exact h.1,fun c hc => by
 rw [moreAll_cl] at hc; rw [moreAll_arcC,moreAll_sl]; exact h.2 c hc⟩
theorem moreAll_mono {P Q : Nat → Nat → Bool} (hz : 0 ≤ n) (h : MayOf m P) (h2 : MayOf (moreAll m n) Q) (hs : s < m.sats.length) (hc : c < m.cus.length) (ht : P s c = true) : Q s c = true := by
 obtain ⟨rd,hr,h1⟩ := h; obtain ⟨ou,ba,ho,hb,he⟩ := h1 s hs; obtain ⟨rd2,hr2,h3⟩ := h2; obtain ⟨ou2,ba2,ho2,hb2,he2⟩ := h3 s (by rw [moreAll_sl]; exact hs)
 have e1 := hr2.unique (moreAll_ready hr); have e2 := ho2.unique (moreAll_out ho); have e3 := hb2.unique (moreAll_back hb); subst e1 e2 e3; rw [he2 c (by rw [moreAll_cl]; exact hc)]
 rw [he c hc] at ht; unfold mayI at ht ⊢; rw [moreAll_cus hc,moreAll_sat hs]; have b1 : (moreAll m n).br = m.br + n := rfl; have b2 : (moreAll m n).en = m.en + n := rfl; rw [b1,b2]; unfold raiseS raiseC; simp only [Bool.and_eq_true,decide_eq_true_eq] at ht ⊢
 omega
theorem moreAll_B (hz : 0 ≤ n) : MoreB m (moreAll m n) := by
 refine ⟨moreAll_sl,moreAll_cl,fun c => ?_,fun s hs => ?_,?_,?_,rfl,rfl⟩
 ·unfold ldI
  by_cases h : c < m.cus.length
  ·rw [moreAll_cus h]
   rfl
  ·rw [List.getD,List.getD,List.getElem?_eq_none (by rw [moreAll_cl]; omega),List.getElem?_eq_none (by omega)]
 ·unfold roomI
  rw [moreAll_sat hs]; unfold raiseS; simp only
  omega
 ·show m.br ≤ m.br + n
  omega
 ·show m.tr ≤ m.tr + n
  omega
theorem more_found (hm : May m) (hz : 0 ≤ n) (h : FoundX m k who z) (h2 : FoundX (moreAll m n) k2 who2 z2) : (decide (k ≠ 0) || !decide (k2 ≠ 0)) = true := by
 obtain ⟨p,l,a1,a2,a3⟩ := h; obtain ⟨q,l2,b1,b2,b3⟩ := h2; rcases a3 with ⟨rfl,-,-,hn⟩ | ⟨hf,-⟩
 ·have hn2 := (moreAll_B hz).none_ hm (fun s c hs hc ht => moreAll_mono hz a1 b1 hs hc ht) a2 b2 hn
  rcases b3 with ⟨rfl,-,-,-⟩ | ⟨hf,-⟩
  ·rfl
  ·exact (hf.not (hn2.less hf.kind.2)).elim
 ·have : k ≠ 0 := by have := hf.kind; omega
  simp [this]
variable {w wr : World} {A : InA} {x : Ins} {gx B N C D g : Nat} {VK VT : Nat → Nat} {LK LT : Nat → Nat → Int}
theorem Fresh.tr_ (h : Fresh wr gx B A x N C D VK VT LK LT) (z : Int) : Fresh (wr.setCell ⟨gx,2,none⟩ (.int .i64 z)) gx B A { x with tr := z } N C D VK VT LK LT :=
 ⟨heap_setCell_same _ _ _ _ _ _ h.box,(h.own.keep h.box (by decide) (by decide) (by decide) (by decide) 2 (.int .i64 z)) |> fun q => ⟨q.sats,q.cus,q.cost,q.time,q.ck,q.tk,q.nl,q.ap,q.sb,q.kb,q.bc,q.cd⟩,h.ns,h.nc,h.nn⟩
theorem Fresh.sats_geR (h : Fresh wr gx B A x N C D VK VT LK LT) (e : A.sa = some ⟨g,0,none⟩) : B ≤ g := by
 have hs := h.own.sats; rw [e] at hs; exact (World.ownsRow.lt hs g rfl).1
end Go.Proofs.YtfkommjlmolniaaGreatDoor
end

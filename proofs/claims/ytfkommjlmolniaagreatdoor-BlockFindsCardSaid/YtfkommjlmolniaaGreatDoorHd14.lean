/- Joined: NearS, NearW, NearLook, TookK, NearO, ArcFunc. -/
import Derived.Test.YtfkommjlmolniaaGreatDoorHd12
import Derived.Test.YtfkommjlmolniaaGreatDoorHd13
import Derived.Test.YtfkommjlmolniaaGreatDoorHd2
import Derived.Test.YtfkommjlmolniaaGreatDoorHd11
import Derived.StillTailTactics
import Derived.Deep.RegionHeld3
import Derived.Deep.QuietTactic
import Derived.BigQuiet
import Derived.Maps.RangeWalk
import Derived.Test.YtfkommjlmolniaaGreatDoorHd6
import Derived.Deep.LoopGhost
import Derived.LoopTactic
set_option linter.unusedVariables false
section

namespace Go.Proofs.YtfkommjlmolniaaGreatDoor
variable {f g : Nat → Int} {n u N s i j k q t : Nat} {l : List Ar} {dn : Nat → Bool} {far : Nat → Option Int} {d e p : Int} {x : Ar} {y : Int × Int} {Q Q2 : List (Int × Int)}
def leftD (N : Nat) (l : List Ar) (dn : Nat → Bool) : Int := sumD (fun i => if dn i = true then 0 else ((outK l i).length : Int)) N
def doneD (N : Nat) (dn : Nat → Bool) : Int := sumD (fun i => if dn i = true then 1 else 0) N
theorem Z54 : 0 ≤ leftD N l dn := Z20 (fun i _ => by split <;> omega)
theorem Zfr (hu : u < N) (h : dn u = false) : leftD N l (markN dn u) + ((outK l u).length : Int) = leftD N l dn := by
 unfold leftD; refine Z5m hu (fun i _ hne => ?_) ?_
 ·simp only [markN,hne,if_false]
 ·simp [markN,h]
theorem Z7n (hu : u < N) (h : dn u = false) : doneD N (markN dn u) = doneD N dn + 1 := by
 have : doneD N (markN dn u) + (-1) = doneD N dn := by
  unfold doneD; refine Z5m hu (fun i _ hne => ?_) ?_
  ·simp only [markN,hne,if_false]
  ·simp [markN,h]
 omega
theorem Zdn : 0 ≤ doneD N dn ∧ doneD N dn ≤ (N : Int) := ⟨Z20 (fun i _ => by split <;> omega),by
 rw [← Zg8 N]; exact Z44 (fun i _ => by split <;> omega)⟩
theorem Zfs : doneD N (fun _ => false) = 0 := by
 unfold doneD; rw [Z0f (g := fun _ => 0) (fun i _ => by simp),Z3j]
theorem Znd (N : Nat) (l : List Ar) : sumD (fun i => ((outK l i).length : Int)) N ≤ (l.length : Int) := by
 have key : ∀ m,m ≤ l.length → sumD (fun i => ((outK (l.take m) i).length : Int)) N ≤ (m : Int) := fun m => by
  induction m with
  | zero =>
   intro _; rw [Z0f (g := fun _ => 0) (fun i _ => by simp [outK]),Z3j]
   omega
  | succ m ih =>
   intro hm; have h1 := ih (by omega)
   have hx : l[m]? = some l[m] := List.getElem?_eq_getElem (by omega)
   have h2 : sumD (fun i => ((outK (l.take (m + 1)) i).length : Int)) N ≤ sumD (fun i => ((outK (l.take m) i).length : Int)) N + 1 := by
    by_cases hn : ∃ u : Nat,u < N ∧ l[m].1 = (u : Int)
    ·obtain ⟨u,hu,hux⟩ := hn
     have := Z5m (f := fun i => ((outK (l.take m) i).length : Int)) (g := fun i => ((outK (l.take (m + 1)) i).length : Int)) (c := 1) hu (fun i _ hne => by
      simp only [Z45 hx i]
      rw [if_neg (by omega)]) (by
      simp only [Z45 hx u]
      rw [if_pos hux,List.length_append]; simp)
     omega
    ·have : sumD (fun i => ((outK (l.take (m + 1)) i).length : Int)) N = sumD (fun i => ((outK (l.take m) i).length : Int)) N := Z0f (fun i hi => by
      simp only [Z45 hx i]
      rw [if_neg (fun e => hn ⟨i,hi,e⟩)])
     omega
   omega
 have := key l.length (Nat.le_refl _); rw [List.take_length] at this; exact this
theorem Zc1 : leftD N l (fun _ => false) ≤ (l.length : Int) := by
 unfold leftD; rw [Z0f (g := fun i => ((outK l i).length : Int)) (fun i _ => by simp)]
 exact Znd N l
/-! ### The search -/
def LkN (l : List Ar) (u j k : Nat) : Prop := (∀ x,l[k]? = some x → x.1 ≠ (u : Int)) ∨ (k : Int) ∈ (outK l u).take j
theorem LkN.zero (h : LkN l u 0 k) : ∀ x,l[k]? = some x → x.1 ≠ (u : Int) := by
 rcases h with h | h
 ·exact h
 ·simp at h
theorem LkN.succ (hq : (outK l u)[j]? = some (q : Int)) (h : LkN l u (j + 1) k) : LkN l u j k ∨ k = q := by
 rcases h with h | h
 ·exact .inl (.inl h)
 ·rw [List.take_add_one,hq] at h
  simp at h
  rcases h with h | h
  ·exact .inl (.inr h)
  ·exact .inr (by omega)
theorem LkN.all (hj : (outK l u).length ≤ j) (k : Nat) (hk : k < l.length) : LkN l u j k := by
 by_cases h : l[k].1 = (u : Int)
 ·refine .inr ?_
  rw [List.take_of_length_le hj]; exact mem_outK.2 ⟨k,l[k],rfl,List.getElem?_eq_getElem hk,h⟩
 ·refine .inl (fun x hx => ?_)
  rw [List.getElem?_eq_getElem hk] at hx; injection hx with hx
  rw [← hx]; exact h
def BndN (far : Nat → Option Int) (c : Int) : Prop := ∀ i d,far i = some d → 0 ≤ d ∧ d ≤ c * 1099511627776
structure SrchH (l : List Ar) (s N : Nat) (far : Nat → Option Int) (dn : Nat → Bool) (Q : List (Int × Int)) : Prop where
 base : NearB l s N far dn Q
 led : Led l far dn (fun _ => True)
 bnd : BndN far (doneD N dn)
structure SrchI (l : List Ar) (s N u : Nat) (d : Int) (far : Nat → Option Int) (dn : Nat → Bool) (Q : List (Int × Int)) (j : Nat) : Prop where
 base : NearB l s N far dn Q
 last : LastN far dn d
 led : Led l far dn (LkN l u j)
 at_ : far u = some d
 dnu : dn u = true
 bnd : BndN far (doneD N dn)
 low : 0 ≤ d ∧ d + 1099511627776 ≤ doneD N dn * 1099511627776
theorem SrchH.begin_ (hs : s < N) : SrchH l s N (fun i => if i = s then some 0 else none) (fun _ => false) [(0,(s : Int))] := by
 refine ⟨NearB.begin_ hs,Led.begin_,fun i d h => ?_⟩; rw [Zfs]; by_cases e : i = s
 ·simp [e] at h; omega
 ·simp [e] at h
theorem SrchH.perm (h : SrchH l s N far dn Q) (hp : Q.Perm Q2) : SrchH l s N far dn Q2 := ⟨h.base.perm hp,h.led,h.bnd⟩
theorem SrchH.skip (h : SrchH l s N far dn (y :: Q)) (hy : y.2 = (i : Int)) (hd : dn i = true) : SrchH l s N far dn Q := ⟨h.base.skip hy hd,h.led,h.bnd⟩
theorem SrchH.take_ (h : SrchH l s N far dn (y :: Q)) (hl : ∀ z ∈ Q,y.1 ≤ z.1) (hy : y.2 = (u : Int)) (hd : dn u = false) : u < N ∧ SrchI l s N u y.1 far (markN dn u) Q 0 := by
 obtain ⟨hu,hf⟩ := h.base.take_far hl hy hd; obtain ⟨h1,h2⟩ := h.base.take_ hl hy hd; have hb := h.bnd u y.1 hf; refine ⟨hu,h1,h2,(h.led.mark u).sub (fun k hk => hk.zero),hf,by simp [markN],fun i d hi => ?_,?_⟩
 ·have := h.bnd i d hi
  rw [Z7n hu hd]; omega
 ·rw [Z7n hu hd]
  omega
theorem SrchI.far_in (h : SrchI l s N u d far dn Q j) : 0 ≤ d ∧ d ≤ (N : Int) * 1099511627776 := by
 have := h.low; have := (Zdn (N := N) (dn := dn)).2; omega
theorem SrchI.no (h : SrchI l s N u d far dn Q j) (hok : ∀ x ∈ l,okA (N : Int) x = true) (hN : N ≤ 1000) (hj : (outK l u)[j]? = some (k : Int)) (hx : l[k]? = some x) (h1 : x.1 = (u : Int)) (h2 : x.2.1 = (t : Int)) (hge : ¬ d + x.2.2 < valI far t) :
  SrchI l s N u d far dn Q (j + 1) := by
 have hf := h.far_in; have hw := Z4s hok x (List.mem_of_getElem? hx); cases e : far t with
 | none => rw [Zhn e] at hge; omega
 | some dt =>
  rw [Z49 e] at hge; exact ⟨h.base,h.last,(h.led.no hx h1 h2 h.at_ e (by omega)).sub (fun q hq => hq.succ hj),h.at_,h.dnu,h.bnd,h.low⟩
theorem SrchI.yes (h : SrchI l s N u d far dn Q j) (hok : ∀ x ∈ l,okA (N : Int) x = true) (hw0 : 0 ≤ x.2.2) (hj : (outK l u)[j]? = some (k : Int)) (hx : l[k]? = some x) (h1 : x.1 = (u : Int)) (h2 : x.2.1 = (t : Int)) (ht : t < N) (hlt : d + x.2.2 < valI far t) :
  SrchI l s N u d (Z1o far t (d + x.2.2)) dn ((d + x.2.2,(t : Int)) :: Q) (j + 1) := by
 have hw := Z4s hok x (List.mem_of_getElem? hx); have hl : ∀ e,far t = some e → d + x.2.2 < e := fun e he => by rw [Z49 he] at hlt; exact hlt
 obtain ⟨htd,g1,g2⟩ := h.base.yes h.last hx hw0 h1 h2 ht h.at_ hl; have hut : u ≠ t := fun e => by subst e; rw [h.dnu] at htd; cases htd
 have hlow := h.low; refine ⟨g1,g2,(h.led.yes hx h1 h2 h.at_ hut htd hl).sub (fun q hq => hq.succ hj),by unfold Z1o; rw [if_neg hut]; exact h.at_,h.dnu,fun i e hi => ?_,h.low⟩
 unfold Z1o at hi; by_cases ei : i = t
 ·rw [if_pos ei] at hi
  injection hi with hi
  omega
 ·rw [if_neg ei] at hi
  exact h.bnd i e hi
theorem SrchI.done (h : SrchI l s N u d far dn Q j) (hj : (outK l u).length ≤ j) : SrchH l s N far dn Q := ⟨h.base,h.led.all (fun k hk => LkN.all hj k hk),h.bnd⟩
theorem Z68 (t i : Nat) (d : Int) : (if i = t then d else valI far i) = valI (Z1o far t d) i := by
 by_cases e : i = t <;> simp [valI,Z1o,e]
end Go.Proofs.YtfkommjlmolniaaGreatDoor
end
section

namespace Go.Proofs.YtfkommjlmolniaaGreatDoor
set_option maxHeartbeats 16000000
set_option maxRecDepth 100000
open Go.Lib (hid)
open Go.RowKit
variable {w w0 wr w2 : World} {a : Option Addr} {len cap K co g tb tn nx gf cf gb cb L b N i j k t : Nat} {l : List Ar} {V : Nat → Value} {f f2 by_ by2 : Nat → Int} {v v' : Value} {Q Q2 : List It} {d u : Int} {S : Nat → Prop}
structure NearW (w0 wr : World) (K co g tb tn nx gf cf gb cb L b N : Nat) (a : Option Addr) (len cap : Nat) (V : Nat → Value) (l : List Ar) (f by_ : Nat → Int) (v : Value) (Q : List It) : Prop where
 adj : AdjK w0.heap.size wr co L N V (outK l)
 gr : wr.heap[g]? = some (.cells #[.int .i64 (N : Int),.slice a len cap] 95 (0,0))
 tr : wr.heap[tb]? = some (.cells #[.slice (some ⟨gf,0,none⟩) N cf,.slice (some ⟨gb,0,none⟩) N cb] 117 (0,0))
 tr2 : wr.heap[tn]? = some (.cells #[.slice (some ⟨gf,0,none⟩) N cf,.slice (some ⟨gb,0,none⟩) N cb] 117 (0,0))
 nv : wr.heap[nx]? = some (.cells #[.pointer (some ⟨b,0,none⟩)] 150 (0,0))
 arcs : IsArcs w0.heap.size wr a len l
 far : LongRow wr w0.heap.size (.slice (some ⟨gf,0,none⟩) N cf) N f
 by_ : IntRow wr w0.heap.size (.slice (some ⟨gb,0,none⟩) N cb) N by_
 pile : Have w0 b v Q wr
 ne : gf ≠ gb
 o1 : gf < tn
 o2 : gb < tn
 o3 : tn < tb
 o4 : tb < g
 o5 : g < L
 o6 : co < K
 o7 : K ≤ b
 o8 : b < nx
 rows : ∀ i,i < N → ∀ k,(V i).ownBlock = some k → k < K
 pv : ∀ k,v.ownBlock = some k → nx < k
def NS (gf gb b : Nat) (v : Value) (k : Nat) : Prop := k = gf ∨ k = gb ∨ k = b ∨ v.ownBlock = some k
theorem NearW.frame (h : NearW w0 wr K co g tb tn nx gf cf gb cb L b N a len cap V l f by_ v Q) (hm : Mod S wr w2) (h1 : ∀ k,w0.heap.size ≤ k → tn ≤ k → k < K → ¬ S k) (h2 : ¬ S nx) (h3 : ∀ k,k < w0.heap.size → ¬ S k) :
  AdjK w0.heap.size w2 co L N V (outK l) ∧ w2.heap[g]? = some (.cells #[.int .i64 (N : Int),.slice a len cap] 95 (0,0)) ∧
  w2.heap[tb]? = some (.cells #[.slice (some ⟨gf,0,none⟩) N cf,.slice (some ⟨gb,0,none⟩) N cb] 117 (0,0)) ∧
  w2.heap[tn]? = some (.cells #[.slice (some ⟨gf,0,none⟩) N cf,.slice (some ⟨gb,0,none⟩) N cb] 117 (0,0)) ∧
  w2.heap[nx]? = some (.cells #[.pointer (some ⟨b,0,none⟩)] 150 (0,0)) ∧ IsArcs w0.heap.size w2 a len l := by
 have a1 := h.o1; have a2 := h.o2; have a3 := h.o3; have a4 := h.o4; have a5 := h.o5; have a6 := h.o6; have a7 := h.adj.lt; have a8 := h.adj.ge; have a9 := h.far.base_; have hK : ∀ k,tn ≤ k → k < K → ¬ S k := fun k e1 e2 => h1 k (by omega) e1 e2
 refine ⟨⟨a8,a7,h.adj.out.of_block (hm.block L h.adj.out.lt (hK L (by omega) (by omega))),(hm.block co h.adj.ltc (hK co (by omega) (by omega))).trans h.adj.var,fun i hi => Z1a (h.adj.row i hi) hm (fun k hk => ?_),h.adj.apart⟩,
  (hm.block g (Array.getElem?_eq_some_iff.1 h.gr).1 (hK g (by omega) (by omega))).trans h.gr,(hm.block tb (Array.getElem?_eq_some_iff.1 h.tr).1 (hK tb (by omega) (by omega))).trans h.tr,
  (hm.block tn (Array.getElem?_eq_some_iff.1 h.tr2).1 (hK tn (by omega) (by omega))).trans h.tr2,(hm.block nx (Array.getElem?_eq_some_iff.1 h.nv).1 h2).trans h.nv,h.arcs.1,?_⟩
 ·have := (World.ownsRow.lt (h.adj.row i hi) k hk).1
  exact hK k (by omega) (h.rows i hi k hk)
 ·rcases h.arcs.2 with q | ⟨b,off,e,e1,e2⟩
  ·exact .inl q
  ·exact .inr ⟨b,off,e,e1,e2.of_block (hm.block b (by omega) (h3 b e1))⟩
theorem NearW.later (h : NearW w0 wr K co g tb tn nx gf cf gb cb L b N a len cap V l f by_ v Q) (hb : Below wr.heap.size wr w2) : NearW w0 w2 K co g tb tn nx gf cf gb cb L b N a len cap V l f by_ v Q := by
 obtain ⟨c1,c2,c3,c4,c5,c6⟩ := h.frame (Mod.of_below (fun _ => False) hb) (fun _ _ _ _ h => h) (fun h => h) (fun _ _ h => h); exact ⟨c1,c2,c3,c4,c5,c6,h.far.below hb,h.by_.below hb,h.pile.later hb,h.ne,h.o1,h.o2,h.o3,h.o4,h.o5,h.o6,h.o7,h.o8,h.rows,h.pv⟩
theorem NearW.set_ (h : NearW w0 wr K co g tb tn nx gf cf gb cb L b N a len cap V l f by_ v Q) (ht : t < N) (d u : Int) :
  NearW w0 ((wr.setCell ⟨gf,t,none⟩ (.int .i64 d)).setCell ⟨gb,t,none⟩ (.int .i64 u)) K co g tb tn nx gf cf gb cb L b N a len cap V l (fun i => if i = t then d else f i) (fun i => if i = t then u else by_ i) v Q := by
 have a1 := h.o1; have a2 := h.o2; have a3 := h.o3; have a4 := h.o4; have a5 := h.o5; have a6 := h.o6; have a7 := h.adj.lt; have a8 := h.o7; have a9 := h.o8; have b1 := h.far.base_; have b2 := h.by_.base_; have hne := h.ne; have hm1 : Mod (fun k => k = gf) wr (wr.setCell ⟨gf,t,none⟩ (.int .i64 d)) := (Mod.refl (fun k => k = gf) wr).setCell (p := ⟨gf,t,none⟩) (.inr rfl) _; have hm2 : Mod (fun k => k = gb) (wr.setCell ⟨gf,t,none⟩ (.int .i64 d)) ((wr.setCell ⟨gf,t,none⟩ (.int .i64 d)).setCell ⟨gb,t,none⟩ (.int .i64 u)) := (Mod.refl (fun k => k = gb) _).setCell (p := ⟨gb,t,none⟩) (.inr rfl) _; have hm : Mod (fun k => k = gf ∨ k = gb) wr ((wr.setCell ⟨gf,t,none⟩ (.int .i64 d)).setCell ⟨gb,t,none⟩ (.int .i64 u)) := (hm1.mono (fun _ _ q => .inl q)).trans (hm2.mono (fun _ _ q => .inr q)); obtain ⟨c1,c2,c3,c4,c5,c6⟩ := h.frame hm (fun k _ e1 _ (e : k = gf ∨ k = gb) => by omega) (fun (e : nx = gf ∨ nx = gb) => by omega) (fun k e1 (e : k = gf ∨ k = gb) => by omega)
 refine ⟨c1,c2,c3,c4,c5,c6,(h.far.set_ ht d).kept hm2 (fun k hk (e : k = gb) => ?_),(h.by_.kept hm1 (fun k hk (e : k = gf) => ?_)).set_ ht u,h.pile.kept hm (fun (e : b = gf ∨ b = gb) => by omega) (fun k hk (e : k = gf ∨ k = gb) => ?_) (fun k (e : k = gf ∨ k = gb) => by omega),h.ne,h.o1,h.o2,h.o3,h.o4,h.o5,h.o6,h.o7,h.o8,h.rows,h.pv⟩
 ·have e2 : gf = k := Option.some.inj hk; omega
 ·have e2 : gb = k := Option.some.inj hk; omega
 ·have := h.pv k hk; omega
theorem NearW.piled (h : NearW w0 wr K co g tb tn nx gf cf gb cb L b N a len cap V l f by_ v Q) (hP : Have w0 b v' Q2 w2) (ht : Turned b v v' wr w2) : NearW w0 w2 K co g tb tn nx gf cf gb cb L b N a len cap V l f by_ v' Q2 := by
 have a1 := h.o1; have a2 := h.o2; have a3 := h.o3; have a4 := h.o4; have a5 := h.o5; have a6 := h.o6; have a7 := h.adj.lt; have a8 := h.o7; have a9 := h.o8; have b1 := h.far.base_; have b2 := h.by_.base_; have hpv := h.pv; have no : ∀ k,k < b → ¬ pileS b v k := fun k hk hs => by
  rcases hs with hs | hs
  ·omega
  ·have := hpv k hs; omega
 obtain ⟨c1,c2,c3,c4,c5,c6⟩ := h.frame ht.mod (fun k _ _ e => no k (by omega)) (fun hs => by
  rcases hs with hs | hs
  ·omega
  ·have := hpv nx hs; omega) (fun k e => no k (by omega))
 refine ⟨c1,c2,c3,c4,c5,c6,h.far.kept ht.mod (fun k hk => ?_),h.by_.kept ht.mod (fun k hk => ?_),hP,h.ne,h.o1,h.o2,h.o3,h.o4,h.o5,h.o6,h.o7,h.o8,h.rows,fun k hk => ?_⟩
 ·have e2 : gf = k := Option.some.inj hk
  exact no k (by omega)
 ·have e2 : gb = k := Option.some.inj hk
  exact no k (by omega)
 ·rcases ht.fresh with e | ⟨g2,e,e2⟩
  ·exact h.pv k (e ▸ hk)
  ·rw [e] at hk
   injection hk with hk
   have := (Array.getElem?_eq_some_iff.1 h.nv).1; omega
theorem NearW.congr (h : NearW w0 wr K co g tb tn nx gf cf gb cb L b N a len cap V l f by_ v Q) (e : ∀ i,i < N → f i = f2 i) (e2 : ∀ i,i < N → by_ i = by2 i) : NearW w0 wr K co g tb tn nx gf cf gb cb L b N a len cap V l f2 by2 v Q :=
 ⟨h.adj,h.gr,h.tr,h.tr2,h.nv,h.arcs,h.far.congr e,h.by_.congr e2,h.pile,h.ne,h.o1,h.o2,h.o3,h.o4,h.o5,h.o6,h.o7,h.o8,h.rows,h.pv⟩
theorem NearW.perm (h : NearW w0 wr K co g tb tn nx gf cf gb cb L b N a len cap V l f by_ v Q) (hp : Q.Perm Q2) : NearW w0 wr K co g tb tn nx gf cf gb cb L b N a len cap V l f by_ v Q2 := by
 obtain ⟨⟨d,hP,hh,hp0⟩,hB,hf⟩ := h.pile; exact ⟨h.adj,h.gr,h.tr,h.tr2,h.nv,h.arcs,h.far,h.by_,⟨⟨d,hP,hh,hp0.trans hp⟩,hB,hf⟩,h.ne,h.o1,h.o2,h.o3,h.o4,h.o5,h.o6,h.o7,h.o8,h.rows,h.pv⟩
theorem NearW.gcell (h : NearW w0 wr K co g tb tn nx gf cf gb cb L b N a len cap V l f by_ v Q) : wr.cell? ⟨g,1,none⟩ = some (.slice a len cap) := by simp [World.cell?,h.gr]
theorem NearW.t0 (h : NearW w0 wr K co g tb tn nx gf cf gb cb L b N a len cap V l f by_ v Q) : wr.cell? ⟨tb,0,none⟩ = some (.slice (some ⟨gf,0,none⟩) N cf) := by simp [World.cell?,h.tr]
theorem NearW.t1 (h : NearW w0 wr K co g tb tn nx gf cf gb cb L b N a len cap V l f by_ v Q) : wr.cell? ⟨tb,1,none⟩ = some (.slice (some ⟨gb,0,none⟩) N cb) := by simp [World.cell?,h.tr]
theorem NearW.n0 (h : NearW w0 wr K co g tb tn nx gf cf gb cb L b N a len cap V l f by_ v Q) : wr.cell? ⟨tn,0,none⟩ = some (.slice (some ⟨gf,0,none⟩) N cf) := by simp [World.cell?,h.tr2]
theorem NearW.n1 (h : NearW w0 wr K co g tb tn nx gf cf gb cb L b N a len cap V l f by_ v Q) : wr.cell? ⟨tn,1,none⟩ = some (.slice (some ⟨gb,0,none⟩) N cb) := by simp [World.cell?,h.tr2]
theorem NearW.nc (h : NearW w0 wr K co g tb tn nx gf cf gb cb L b N a len cap V l f by_ v Q) : wr.cell? ⟨nx,0,none⟩ = some (.pointer (some ⟨b,0,none⟩)) := by simp [World.cell?,h.nv]
theorem NearW.row (h : NearW w0 wr K co g tb tn nx gf cf gb cb L b N a len cap V l f by_ v Q) (hi : i < N) {va : Option Addr} {vc n : Nat} (hv : V i = .slice va n vc) (hj : j < (outK l i).length) :
  ∃ (gv k : Nat) (x : Ar),va = some ⟨gv,0,none⟩ ∧ (outK l i)[j]? = some (k : Int) ∧ wr.cell? ⟨gv,j,none⟩ = some (.int .i64 (k : Int)) ∧ l[k]? = some x ∧ x.1 = (i : Int) ∧ k < len := by
 have hr := h.adj.row i hi; obtain ⟨gv,cv,e,_,_,_,_⟩ := Z0x hr (by omega)
 have e2 := hv.symm.trans e; simp only [Value.slice.injEq] at e2
 obtain ⟨rfl,rfl,rfl⟩ := e2; have hx := List.getElem?_eq_getElem hj; obtain ⟨k,x,h1,h2,h3⟩ := mem_outK.1 (List.mem_of_getElem? hx); rw [h1] at hx; rw [e] at hr; have hl := h.arcs.1; have hk : k < l.length := (List.getElem?_eq_some_iff.1 h2).1; exact ⟨gv,k,x,rfl,hx,Z4g hr hx,h2,h3,by omega⟩
theorem Zo2 (wr : World) (gf gb b t : Nat) (v d u : Value) : Mod (NS gf gb b v) wr ((wr.setCell ⟨gf,t,none⟩ d).setCell ⟨gb,t,none⟩ u) :=
 ((Mod.refl _ wr).setCell (p := ⟨gf,t,none⟩) (.inr (.inl rfl)) _).setCell (p := ⟨gb,t,none⟩) (.inr (.inr (.inl rfl))) _
theorem Zib {b gf gb : Nat} (hm : Mod (pileS b v) wr w2) : Mod (NS gf gb b v) wr w2 := hm.mono (fun _ _ hk => by
 rcases hk with hk | hk
 ·exact .inr (.inr (.inl hk))
 ·exact .inr (.inr (.inr hk)))
theorem Zic (ht : t < N) (hQ : Q.length ≤ 50000) (w : World) (h : NearW w0 w K co g tb tn nx gf cf gb cb L b N a len cap V l f by_ v Q) :
  Calls Tryz.prog 93 #[.int .i64 (t : Int),.pointer (some ⟨nx,0,none⟩),.pointer (some ⟨tn,0,none⟩)] w fun e w' => e = .returned (.tuple #[]) ∧
   ∃ v',NearW w0 w' K co g tb tn nx gf cf gb cb L b N a len cap V l f by_ v' ((f t,(t : Int)) :: Q) ∧ Turned b v v' w w' := by
 have t1 : (0 : Int) ≤ (t : Int) := by omega
 have t2 : (t : Int) < (N : Int) := by omega
 have H := hid h; obtain ⟨w2,hw2⟩ : ∃ w2,w2 = World.drew w := ⟨_,rfl⟩; have hb2 : Below w.heap.size w w2 := by rw [hw2]; exact (Below.refl _ _).drew
 have H2 := hid (h.later hb2); have hsz : w2.heap.size = w.heap.size := by rw [hw2]; rfl
 have HB := hid hb2; clear h hb2; have c1 := H2.out.nc; have c2 := H2.out.n0; have c3 := H2.out.far.cell ht; obtain ⟨z,hz⟩ : ∃ z,f t = z := ⟨_,rfl⟩; rw [hz] at c3; have HZ := hid hz; clear hz; have HP := hid (Zd8 (z,(t : Int)) H2.out.pile hQ); clear hQ; go_enter Tryz.func93,Tryz.ntmps93
 go_wp2_with fail
 refine wp_region_still_tail 8 (by kernel_rfl) (by kernel_rfl) ?_
 simp only [List.take_succ_cons,List.take_zero,List.drop_succ_cons,List.drop_zero]
 change wpStill _ _ (World.drew w) (fun a' => wpList _ _ _ _ a' (World.drew w)) _ _
 rw [← hw2]; clear hw2; repeat still_step
 refine wpStill_nil ?_; go_wp2_with (go_at_call 91; refine HP.out.mono ?_; rintro e w5 ⟨rfl,v',hP,hT⟩; have HN := hid (H2.out.piled hP hT); have HT := hid hT; clear hP hT)
 go_end0
 refine ⟨rfl,v',by rw [HZ.out]; exact HN.out,(Mod.of_below _ HB.out).trans (HT.out.mod),?_⟩
 rcases HT.out.fresh with e | ⟨g2,e1,e2⟩
 ·exact .inl e
 ·exact .inr ⟨g2,e1,by omega⟩
end Go.Proofs.YtfkommjlmolniaaGreatDoor
end
section

namespace Go.Proofs.YtfkommjlmolniaaGreatDoor
set_option maxHeartbeats 16000000
set_option maxRecDepth 100000
open Go.Lib (hid)
open Go.RowKit
variable {w w0 wr w2 : World} {a : Option Addr} {len cap K co g tb tn nx gf cf gb cb L b N i j k t s ab : Nat} {l : List Ar} {V : Nat → Value} {by_ : Nat → Int} {v v' : Value} {Q : List It} {p c : Int} {far : Nat → Option Int} {dn : Nat → Bool} {S : Nat → Prop}
def LkRN (tb gf cf gb cb N ab : Nat) (t : Int) (c : Int) (W : World) : Prop := W.cell? ⟨tb,0,none⟩ = some (.slice (some ⟨gf,0,none⟩) N cf) ∧ W.cell? ⟨tb,1,none⟩ = some (.slice (some ⟨gb,0,none⟩) N cb) ∧ W.cell? ⟨ab,1,none⟩ = some (.int .i64 t) ∧ W.cell? ⟨ab,2,none⟩ = some (.int .i64 c) ∧ tb < W.heap.size ∧ ab < W.heap.size
theorem LkRN.mod {t c : Int} (h : LkRN tb gf cf gb cb N ab t c w) (hm : Mod S w w2) (h1 : ¬ S tb) (h2 : ¬ S ab) : LkRN tb gf cf gb cb N ab t c w2 :=
 ⟨(hm.cell (p := ⟨tb,0,none⟩) h.2.2.2.2.1 h1).trans h.1,(hm.cell (p := ⟨tb,1,none⟩) h.2.2.2.2.1 h1).trans h.2.1,(hm.cell (p := ⟨ab,1,none⟩) h.2.2.2.2.2 h2).trans h.2.2.1,(hm.cell (p := ⟨ab,2,none⟩) h.2.2.2.2.2 h2).trans h.2.2.2.1,Nat.lt_of_lt_of_le h.2.2.2.2.1 hm.size,Nat.lt_of_lt_of_le h.2.2.2.2.2 hm.size⟩
def FrN (m : Nat) (v v' : Value) : Prop := v'.ownBlock = v.ownBlock ∨ ∃ g,v'.ownBlock = some g ∧ m ≤ g
theorem FrN.next {v2 v3 : Value} {W W2 : World} {m : Nat} (h : FrN m v v2) (hm : m ≤ W.heap.size) (ht : Turned b v2 v3 W W2) : FrN m v v3 := by
 rcases ht.fresh with e | ⟨g,e,e2⟩
 ·rcases h with h | ⟨g2,h,h2⟩
  ·exact .inl (e.trans h)
  ·exact .inr ⟨g2,e.trans h,h2⟩
 ·exact .inr ⟨g,e,by omega⟩
theorem FrN.mod {v2 v3 : Value} {W W2 : World} (h : FrN w.heap.size v v2) (hm : Mod (NS gf gb b v) w W) (ht : Turned b v2 v3 W W2) : Mod (NS gf gb b v) w W2 :=
 hm.then_ ht.mod (fun i hi hs => by
  rcases hs with hs | hs
  ·exact .inr (.inr (.inl hs))
  ·rcases h with h | ⟨g2,h,h2⟩
   ·exact .inr (.inr (.inr (h ▸ hs)))
   ·rw [h] at hs
    injection hs with hs
    omega)
theorem Z0p {P : Program} {md : Region.Mode} {ops : Array Oper} {Q : Exit → Act → World → Prop} {S : World → Prop} (i : Nat) {oi : Oper} {v : Value} {fuel : Nat} {listed : Array Bool} {a : Act} {w : World} (hS : S w) (h : wpAnyH P md ops Q S fuel (listed.setIfInBounds i true) (a.put oi.dst v) w) (hi : ops[i]? = some oi := by exact rfl) (hs : Region.noSelect ops = true := by kernel_rfl) (hf : Region.free md ops listed i = true := by kernel_rfl) (hr : (Region.ready md ops listed).contains i = true := by kernel_rfl) (hQ : ∀ c a w,Q (.panic c) (a.put oi.dst v) w → Q (.panic c) a w := by exact fun _ _ _ h => h) (hw : Region.wanted oi (yielded ops a.tmps) = true := by rfl) (y : ∀ w,S w → (execOp a.eval oi).run P w = .ok (.value v) w := by intro W0 hW; obtain ⟨hW1,hW2,hW3,hW4,hW5,hW6⟩ := hW; go_simp; (try with_reducible rfl)) : wpAnyH P md ops Q S (fuel + 1) listed a w := stpT i hS h hi hs hf hr hQ hw y
theorem Zan (hN : N ≤ 1000) (hlen : len ≤ 20000) (hok : ∀ x ∈ l,okA (N : Int) x = true) (hw0 : ∀ x ∈ l,0 ≤ x.2.2) (hi : i < N) (hQ : Q.length + (outK l i).length ≤ 50000) (w : World)
  (hW : NearW w0 w K co g tb tn nx gf cf gb cb L b N a len cap V l (valI far) by_ v Q) (hr : SrchI l s N i p far dn Q 0) :
  Calls Tryz.prog 118 #[.int .i64 (i : Int),.int .i64 p,.func (.func 93) #[] #[.pointer (some ⟨nx,0,none⟩),.pointer (some ⟨tn,0,none⟩)],.pointer (some ⟨co,0,none⟩),.pointer (some ⟨g,0,none⟩),.pointer (some ⟨tb,0,none⟩)] w fun e w' =>
   e = .returned (.tuple #[]) ∧ ∃ far2 by2 v2 Q2,NearW w0 w' K co g tb tn nx gf cf gb cb L b N a len cap V l (valI far2) by2 v2 Q2 ∧ SrchI l s N i p far2 dn Q2 (outK l i).length ∧ Q2.length ≤ Q.length + (outK l i).length ∧ Mod (NS gf gb b v) w w' ∧ FrN w.heap.size v v2 := by
 have HOK := hid hok; clear hok; have HW1 := hid hw0; clear hw0; have hps := hr.far_in; have hi1 : (0 : Int) ≤ (i : Int) := by omega
 have hi2 : (i : Int) < (N : Int) := by omega
 obtain ⟨va,vc,hv⟩ := Z04 (hW.adj.row i hi); have hml : (outK l i).length ≤ 20000 := Nat.le_trans (Zgc _ _) (by have := hW.arcs.1; omega)
 have x0 := hW.adj.cell; have x1 := hW.adj.out.cell hi; rw [hv] at x1; have HV := hid hv; clear hv; have HW0 := hid hW; clear hW; have HR0 : Hid (SrchI l s N i p far dn Q 0) := hid hr; clear hr; have HM0 : Hid (Mod (NS gf gb b v) w w ∧ FrN w.heap.size v v) := hid ⟨Mod.refl _ _,.inl rfl⟩; obtain ⟨n,hn⟩ : ∃ n,(outK l i).length = n := ⟨_,rfl⟩; rw [hn] at x1 hml HV hQ; have HN := hid hn; clear hn; go_enter Tryz.func118,Tryz.ntmps118
 go_wp2_with fail
 clear x0 x1; go_loopw [17] (fun jv wr => ∃ (j : Nat) (far2 : Nat → Option Int) (by2 : Nat → Int) (v2 : Value) (Q2 : List It),jv = .int .i64 j ∧ j ≤ n ∧ Q2.length ≤ Q.length + j ∧ Hid (NearW w0 wr K co g tb tn nx gf cf gb cb L b N a len cap V l (valI far2) by2 v2 Q2) ∧ Hid (SrchI l s N i p far2 dn Q2 j) ∧ Hid (Mod (NS gf gb b v) w wr ∧ FrN w.heap.size v v2)) (fun jv _ => n - (intOf jv).toNat)
 case atStart => exact ⟨0,_,_,_,_,rfl,Nat.zero_le _,Nat.le_refl _,HW0,HR0,HM0⟩
 case round =>
  obtain ⟨j,far2,by2,v2,Q2,rfl,hj,hq2,HX,HR,HM⟩ := hrel; clear HW0 HR0 HM0; by_cases hlt : j < n
  ·obtain ⟨gv,k,x,rfl,hx1,x0,hx2,hx3,hk⟩ := HX.out.row (j := j) hi HV.out (by have := HN.out; omega)
   obtain ⟨ba,off,x',rfl,hb,hx',e0,e1,e2⟩ := HX.out.arcs.at_ hk; rw [hx2] at hx'; cases hx'
   have hxok := okA_true.1 (HOK.out x (List.mem_of_getElem? hx2)); have hxw := HW1.out x (List.mem_of_getElem? hx2); have HX1 := hid hx1; have HX2 := hid hx2; clear hx1 hx2 hb; obtain ⟨f0,t0,c⟩ := x; simp only at hx3 e0 e1 e2 hxok hxw
   have HXW := hid hxw; clear hxw; subst hx3; obtain ⟨t,rfl⟩ : ∃ t : Nat,t0 = (t : Int) := ⟨t0.toNat,by omega⟩
   have ht : t < N := by omega
   have u1 : (0 : Int) ≤ (t : Int) := by omega
   have u2 : (t : Int) < (N : Int) := by omega
   have hc1 : -1099511627776 ≤ c := hxok.2.2.1; have hc2 : c ≤ 1099511627776 := hxok.2.2.2; clear hxok; have u3 : (0 : Int) ≤ (k : Int) := by omega
   have u4 : (k : Int) < (len : Int) := by omega
   have x1 := HX.out.gcell; have HXA := hid (HX.out.later ((Below.refl wr.heap.size wr).alloc (Nat.le_refl _) (.cells #[.int .i64 (i : Int),.int .i64 (t : Int),.int .i64 c] 121))); have y0 := HXA.out.t0; have y1 := HXA.out.t1; have y2 := HXA.out.far.cell ht; have hw1 : IntKind.i64.wrap (p + c) = p + c := by rw [IntKind.wrap_i64]; omega
   by_cases hge : p + c < valI far2 t
   ·have HGE := hid hge
    generalize hy : valI far2 t = y at y2 hge; have HY := hid hy; clear hy; have hgb : decide (p + c < y) = true := by simpa using hge
    clear hge; go_wp2_with fail
    go_quiet (fail)
    go_wp2_with fail
    have HX5 := hid (HXA.out.later ((Z03 (Below.refl _ _) nq).drew)); have HNE : Hid ((¬ tb = gf ∧ ¬ wr.heap.size = gf ∧ ¬ tb = gb ∧ ¬ wr.heap.size = gb)) := hid (by
     have a1 := HX.out.o1; have a2 := HX.out.o2; have a3 := HX.out.o3; have a4 := HX.out.o4; have a5 := HX.out.o5; have a6 := HX.out.adj.lt; have a7 := HX.out.far.base_; have a8 := HX.out.by_.base_; omega)
    have z3 := HXA.out.by_.cell ht; have z4 := HXA.out.far.frozen t; have z5 := HXA.out.by_.frozen t; have z6 := HXA.out.ne; generalize by2 t = oldk at z3; have HA0 : Hid (LkRN tb gf cf gb cb N wr.heap.size (t : Int) c (World.drew (World.drewN (wr.alloc (.cells #[.int .i64 (i : Int),.int .i64 (t : Int),.int .i64 c] 121)) nq))) := hid ⟨y0,y1,by simp,by simp,(Array.getElem?_eq_some_iff.1 HX5.out.tr).1,by simp⟩
    refine wp_region_held_drew (S := LkRN tb gf cf gb cb N wr.heap.size (t : Int) c) (by kernel_rfl) HA0.out (fun hHeld => ?_)
    refine Z0p 0 hHeld ?_; try go_frame
    refine Z0p 1 hHeld ?_; try go_frame
    refine Z0p 2 hHeld ?_; try go_frame
    refine Z0p 3 hHeld ?_; try go_frame
    refine Z0p 4 hHeld ?_; try go_frame
    refine Z0p 5 hHeld ?_; try go_frame
    refine Z0p 6 hHeld ?_; try go_frame
    refine Z0p 7 hHeld ?_; try go_frame
    refine Z0p 8 hHeld ?_; try go_frame
    refine Z0p 9 hHeld ?_; try go_frame
    refine Z0p 10 hHeld ?_; try go_frame
    refine Z0p 11 hHeld ?_; try go_frame
    try simp only [hw1]
    refine Z0p 12 hHeld ?_; try go_frame
    refine Z0p 13 hHeld ?_; try go_frame
    refine stpR 14 (fun K hK => ?_); go_simp; refine hK.out _ _ ?_ (fun hHeld => ?_)
    ·exact hHeld.mod ((Mod.refl (fun b => b = gf) _).setCell (p := ⟨gf,t,none⟩) (.inr rfl) _) HNE.out.1 HNE.out.2.1
    clear hK K; try go_frame
    refine Z0p 15 hHeld ?_; try go_frame
    refine stpR 16 (fun K hK => ?_); go_simp; refine hK.out _ _ ?_ (fun hHeld => ?_)
    ·exact hHeld.mod ((Mod.refl (fun b => b = gb) _).setCell (p := ⟨gb,t,none⟩) (.inr rfl) _) HNE.out.2.2.1 HNE.out.2.2.2
    clear hK K; try go_frame
    refine wpAnyH_done (by kernel_rfl) ?_ _
    obtain ⟨_,_,q3,_⟩ := hHeld; have HW6 := hid ((HX5.out.set_ ht (p + c) (k : Int)).congr (by2 := fun i => if i = t then (k : Int) else by2 i) (fun i _ => Z68 t i (p + c)) (fun _ _ => rfl))
    have HR6 := hid (HR.out.yes HOK.out HXW.out HX1.out HX2.out rfl rfl ht HGE.out); have HM6 : Hid (Mod (NS gf gb b v) w (((((wr.alloc (.cells #[.int .i64 (i : Int),.int .i64 (t : Int),.int .i64 c] 121)).drewN nq).drew).setCell ⟨gf,t,none⟩ (.int .i64 (p + c))).setCell ⟨gb,t,none⟩ (.int .i64 (k : Int)))) := hid (HM.out.1.trans ((((((Mod.refl (NS gf gb b v) wr).alloc (.cells #[.int .i64 (i : Int),.int .i64 (t : Int),.int .i64 c] 121)).drewN nq).drew).trans (Zo2 _ gf gb b t v (.int .i64 (p + c)) (.int .i64 (k : Int)))))); have HVT : Hid (valI (Z1o far2 t (p + c)) t = p + c) := hid (by rw [← Z68]; simp)
    have HQ2 : Hid (Q2.length ≤ 50000) := hid (by omega)
    go_wp2_with (go_at_call 93; refine (Zic ht HQ2.out _ HW6.out).mono ?_; rw [HVT.out]; rintro e w6 ⟨rfl,v3,hN3,hT3⟩; have HW7 := hid hN3; have HM7 : Hid (Mod (NS gf gb b v) w w6 ∧ FrN w.heap.size v v3) := hid ⟨HM.out.2.mod HM6.out hT3,HM.out.2.next HM6.out.size hT3⟩; clear hN3 hT3)
    go_roundw
    case rel => exact ⟨j + 1,_,_,_,_,by go_num,by omega,(by simp only [List.length_cons]; omega),HW7,HR6,HM7⟩
    case measure => simp [intOf]; omega
   ·have HGE := hid hge
    generalize hy : valI far2 t = y at y2 hge; have HY := hid hy; clear hy; have hgb : decide (p + c < y) = false := by simpa using hge
    clear hge; go_wp2_with fail
    go_quiet (fail)
    have HX5 := hid (HXA.out.later (Z03 (Below.refl _ _) nq)); have HR6 := hid (HR.out.no HOK.out hN HX1.out HX2.out rfl rfl (show ¬ p + c < valI far2 t by have := HGE.out; omega))
    have HM6 : Hid (Mod (NS gf gb b v) w ((wr.alloc (.cells #[.int .i64 (i : Int),.int .i64 (t : Int),.int .i64 c] 121)).drewN nq) ∧ FrN w.heap.size v v2) := hid ⟨HM.out.1.trans (((Mod.refl (NS gf gb b v) wr).alloc (.cells #[.int .i64 (i : Int),.int .i64 (t : Int),.int .i64 c] 121)).drewN nq),HM.out.2⟩; go_wp2_with fail
    go_roundw
    case rel => exact ⟨j + 1,_,_,_,_,by go_num,by omega,by omega,HX5,HR6,HM6⟩
    case measure => simp [intOf]; omega
  ·have hjn : j = n := by omega
   subst hjn; go_wp2_with fail
   go_end0
   exact ⟨rfl,_,_,_,_,HX.out,(by rw [HN.out]; exact HR.out),(by rw [HN.out]; exact hq2),HM.out.1,HM.out.2⟩
end Go.Proofs.YtfkommjlmolniaaGreatDoor
end
section

namespace Go.Proofs.YtfkommjlmolniaaGreatDoor
open Go.RowKit
variable {w0 : World} {b : Nat} {v : Value}
def TookK (Q : List It) (ok : Bool) (x : It) (p : List It) : Prop := (ok = true ∧ Q.Perm (x :: p) ∧ ∀ y ∈ Q,Le x y) ∨ (ok = false ∧ Q = [] ∧ p = [])
theorem Z6m {W : World} {l : List It} (H : Have w0 b v l W) (hl : l.length ≤ 50000) :
  Calls Tryz.prog 92 #[.pointer (some ⟨b,0,none⟩)] W fun e W' => ∃ (ok : Bool) (x : It) (p : List It) (v' : Value),e = .returned (.tuple #[.agg #[.int .i64 x.1,.int .i64 x.2],.bool ok]) ∧ TookK l ok x p ∧ Have w0 b v' p W' ∧ Turned b v v' W W' := by
 by_cases h0 : 0 < l.length
 ·refine (Zhr H h0 hl).mono ?_
  rintro e W' ⟨x,l',rfl,h1,h2,v',h3,h4⟩; exact ⟨true,x,l',v',rfl,.inl ⟨rfl,h1,h2⟩,h3,h4⟩
 ·obtain rfl : l = [] := List.eq_nil_of_length_eq_zero (by omega)
  refine (Zf1 H).mono ?_; rintro e W' ⟨rfl,hb⟩; exact ⟨false,(0,0),[],v,rfl,.inr ⟨rfl,rfl,rfl⟩,H.later hb,⟨Mod.of_below _ hb,.inl rfl⟩⟩
end Go.Proofs.YtfkommjlmolniaaGreatDoor
end
section

namespace Go.Proofs.YtfkommjlmolniaaGreatDoor
open Go.RowKit
variable {w w0 wr w2 : World} {a : Option Addr} {len cap K co g tb tn nx gf cf gb cb L b N i j k t s D rs bx u : Nat} {l : List Ar} {V : Nat → Value} {f by_ : Nat → Int} {v v' : Value} {Q : List It} {x y : It} {dn : Nat → Bool} {S : Nat → Prop}
theorem NearW.aside (h : NearW w0 wr K co g tb tn nx gf cf gb cb L b N a len cap V l f by_ v Q) (hm : Mod S wr w2) (hS : ∀ k,S k → K ≤ k ∧ k ≠ b ∧ k ≠ nx ∧ v.ownBlock ≠ some k) : NearW w0 w2 K co g tb tn nx gf cf gb cb L b N a len cap V l f by_ v Q := by
 have a1 := h.o1; have a2 := h.o2; have a3 := h.o3; have a4 := h.o4; have a5 := h.o5; have a6 := h.o6; have a7 := h.adj.lt; have a8 := h.adj.ge; have no : ∀ k,k < K → ¬ S k := fun k hk hs => by have := (hS k hs).1; omega
 obtain ⟨c1,c2,c3,c4,c5,c6⟩ := h.frame hm (fun k _ _ e => no k e) (fun hs => (hS nx hs).2.2.1 rfl) (fun k e => no k (by omega))
 refine ⟨c1,c2,c3,c4,c5,c6,h.far.kept hm (fun k hk => ?_),h.by_.kept hm (fun k hk => ?_),h.pile.kept hm (fun hs => (hS b hs).2.1 rfl) (fun k hk hs => (hS k hs).2.2.2 hk) (fun k hs => by have := (hS k hs).1; omega),h.ne,h.o1,h.o2,h.o3,h.o4,h.o5,h.o6,h.o7,h.o8,h.rows,h.pv⟩
 ·have e2 : gf = k := Option.some.inj hk
  exact no k (by omega)
 ·have e2 : gb = k := Option.some.inj hk
  exact no k (by omega)
structure NearP (w0 wr : World) (K D rs N b nx gf gb : Nat) (dn : Nat → Bool) (v : Value) : Prop where
 dr : wr.rowIs D 4 N (fun i => .bool (dn i))
 res : wr.heap[rs]? = some (.cells #[.slice none 0 0,.slice none 0 0] 117 (0,0))
 k1 : K ≤ D
 k2 : D < b
 k3 : b < nx
 k4 : nx < wr.heap.size
 r1 : w0.heap.size ≤ rs
 r2 : rs < gf
 r3 : rs < gb
 r4 : gf < K
 r5 : gb < K
 pn : ∀ k,v.ownBlock = some k → nx < k
structure BxN (wr : World) (nx : Nat) (v : Value) (bx : Nat) (x : It) : Prop where
 blk : wr.heap[bx]? = some (.cells #[.int .i64 x.1,.int .i64 x.2] 154 (0,0))
 gt : nx < bx
 pv : v.ownBlock ≠ some bx
theorem NearP.later (h : NearP w0 wr K D rs N b nx gf gb dn v) (hb : Below wr.heap.size wr w2) : NearP w0 w2 K D rs N b nx gf gb dn v :=
 ⟨Z0a h.dr hb,(hb.block rs (Array.getElem?_eq_some_iff.1 h.res).1).trans h.res,h.k1,h.k2,h.k3,Nat.lt_of_lt_of_le h.k4 hb.size,h.r1,h.r2,h.r3,h.r4,h.r5,h.pn⟩
theorem BxN.later (h : BxN wr nx v bx x) (hb : Below wr.heap.size wr w2) : BxN w2 nx v bx x := ⟨(hb.block bx (Array.getElem?_eq_some_iff.1 h.blk).1).trans h.blk,h.gt,h.pv⟩
theorem NearP.look (h : NearP w0 wr K D rs N b nx gf gb dn v) (hm : Mod (NS gf gb b v) wr w2) (hf : FrN wr.heap.size v v') : NearP w0 w2 K D rs N b nx gf gb dn v' := by
 have a1 := h.k1; have a2 := h.k2; have a3 := h.k3; have a4 := h.k4; have b2 := h.r2; have b3 := h.r3; have b4 := h.r4; have b5 := h.r5; refine ⟨h.dr.of_block (hm.block D h.dr.lt (fun hs => ?_)),(hm.block rs (Array.getElem?_eq_some_iff.1 h.res).1 (fun hs => ?_)).trans h.res,h.k1,h.k2,h.k3,Nat.lt_of_lt_of_le h.k4 hm.size,h.r1,h.r2,h.r3,h.r4,h.r5,fun k hk => ?_⟩
 ·rcases hs with hs | hs | hs | hs
  ·omega
  ·omega
  ·omega
  ·have := h.pn D hs; omega
 ·rcases hs with hs | hs | hs | hs
  ·omega
  ·omega
  ·omega
  ·have := h.pn rs hs; omega
 ·rcases hf with e | ⟨g2,e,e2⟩
  ·exact h.pn k (e ▸ hk)
  ·rw [e] at hk
   injection hk with hk
   omega
theorem BxN.look (h : BxN wr nx v bx x) (hP : NearP w0 wr K D rs N b nx gf gb dn v) (hm : Mod (NS gf gb b v) wr w2) (hf : FrN wr.heap.size v v') : BxN w2 nx v' bx x := by
 have a1 := hP.k1; have a2 := hP.k2; have a3 := hP.k3; have b4 := hP.r4; have b5 := hP.r5; have c1 := h.gt; have hlt := (Array.getElem?_eq_some_iff.1 h.blk).1; refine ⟨(hm.block bx hlt (fun hs => ?_)).trans h.blk,h.gt,fun e2 => ?_⟩
 ·rcases hs with hs | hs | hs | hs
  ·omega
  ·omega
  ·omega
  ·exact h.pv hs
 ·rcases hf with e | ⟨g2,e,e3⟩
  ·exact h.pv (e ▸ e2)
  ·rw [e] at e2
   injection e2 with e2
   omega
theorem BxN.new (hP : NearP w0 wr K D rs N b nx gf gb dn v) (hv : ∀ k,v.ownBlock = some k → k < wr.heap.size) (x : It) : BxN (wr.alloc (.cells #[.int .i64 x.1,.int .i64 x.2] 154)) nx v wr.heap.size x :=
 ⟨heap_alloc_new _ _,hP.k4,fun e => by have := hv _ e; omega⟩
theorem BxN.cells (h : BxN wr nx v bx x) : wr.cell? ⟨bx,0,none⟩ = some (.int .i64 x.1) ∧ wr.cell? ⟨bx,1,none⟩ = some (.int .i64 x.2) := by
 have := h.blk; simp [World.cell?,this]
theorem BxN.frozen (h : BxN wr nx v bx x) (i : Nat) : wr.frozen? ⟨bx,i,none⟩ = false := by
 have := h.blk; simp [World.frozen?,this]
theorem Zmc (wr : World) (bx : Nat) (y : It) : Mod (fun k => k = bx) wr ((wr.setCell ⟨bx,0,none⟩ (.int .i64 y.1)).setCell ⟨bx,1,none⟩ (.int .i64 y.2)) := ((Mod.refl (fun k => k = bx) wr).setCell (p := ⟨bx,0,none⟩) (.inr rfl) _).setCell (p := ⟨bx,1,none⟩) (.inr rfl) _
theorem BxN.put_ (h : BxN wr nx v bx x) (y : It) : BxN ((wr.setCell ⟨bx,0,none⟩ (.int .i64 y.1)).setCell ⟨bx,1,none⟩ (.int .i64 y.2)) nx v bx y := by
 refine ⟨?_,h.gt,h.pv⟩; rw [heap_setCell_same _ bx 1 _ _ _ (heap_setCell_same wr bx 0 _ _ _ h.blk)]; rfl
theorem NearP.put_ (h : NearP w0 wr K D rs N b nx gf gb dn v) (hx : BxN wr nx v bx x) (y : It) : NearP w0 ((wr.setCell ⟨bx,0,none⟩ (.int .i64 y.1)).setCell ⟨bx,1,none⟩ (.int .i64 y.2)) K D rs N b nx gf gb dn v := by
 have hm := Zmc wr bx y; have a1 := h.k1; have a2 := h.k2; have a3 := h.k3; have b2 := h.r2; have b4 := h.r4; have c1 := hx.gt; exact ⟨h.dr.of_block (hm.block D h.dr.lt (fun (e : D = bx) => by omega)),(hm.block rs (Array.getElem?_eq_some_iff.1 h.res).1 (fun (e : rs = bx) => by omega)).trans h.res,h.k1,h.k2,h.k3,Nat.lt_of_lt_of_le h.k4 hm.size,h.r1,h.r2,h.r3,h.r4,h.r5,h.pn⟩
theorem NearW.put_ (h : NearW w0 wr K co g tb tn nx gf cf gb cb L b N a len cap V l f by_ v Q) (hx : BxN wr nx v bx x) (y : It) : NearW w0 ((wr.setCell ⟨bx,0,none⟩ (.int .i64 y.1)).setCell ⟨bx,1,none⟩ (.int .i64 y.2)) K co g tb tn nx gf cf gb cb L b N a len cap V l f by_ v Q :=
 h.aside (Zmc wr bx y) (fun k (e : k = bx) => by
  have := h.o7; have := h.o8; have := hx.gt; subst e; exact ⟨by omega,by omega,by omega,hx.pv⟩)
theorem d_mod (wr : World) (D u : Nat) : Mod (fun k => k = D) wr (wr.setCell ⟨D,u,none⟩ (.bool true)) := (Mod.refl (fun k => k = D) wr).setCell (p := ⟨D,u,none⟩) (.inr rfl) _
theorem NearP.mark (h : NearP w0 wr K D rs N b nx gf gb dn v) (u : Nat) : NearP w0 (wr.setCell ⟨D,u,none⟩ (.bool true)) K D rs N b nx gf gb (markN dn u) v := by
 have hm := d_mod wr D u; have a1 := h.k1; have b2 := h.r2; have b4 := h.r4; exact ⟨(h.dr.set u _).congr (fun j _ => by unfold markN; split <;> rfl),(hm.block rs (Array.getElem?_eq_some_iff.1 h.res).1 (fun (e : rs = D) => by omega)).trans h.res,h.k1,h.k2,h.k3,Nat.lt_of_lt_of_le h.k4 hm.size,h.r1,h.r2,h.r3,h.r4,h.r5,h.pn⟩
theorem BxN.mark (h : BxN wr nx v bx x) (hP : NearP w0 wr K D rs N b nx gf gb dn v) (u : Nat) : BxN (wr.setCell ⟨D,u,none⟩ (.bool true)) nx v bx x := by
 have a2 := hP.k2; have a3 := hP.k3; have c1 := h.gt; exact ⟨((d_mod wr D u).block bx (Array.getElem?_eq_some_iff.1 h.blk).1 (fun (e : bx = D) => by omega)).trans h.blk,h.gt,h.pv⟩
theorem NearW.mark (h : NearW w0 wr K co g tb tn nx gf cf gb cb L b N a len cap V l f by_ v Q) (hP : NearP w0 wr K D rs N b nx gf gb dn v) (u : Nat) : NearW w0 (wr.setCell ⟨D,u,none⟩ (.bool true)) K co g tb tn nx gf cf gb cb L b N a len cap V l f by_ v Q :=
 h.aside (d_mod wr D u) (fun k (e : k = D) => by
  have := hP.k1; have := hP.k2; have := hP.k3; subst e; exact ⟨by omega,by omega,by omega,fun e2 => by have := hP.pn _ e2; omega⟩)
theorem NearP.piled (h : NearP w0 wr K D rs N b nx gf gb dn v) (ht : Turned b v v' wr w2) : NearP w0 w2 K D rs N b nx gf gb dn v' := h.look (Zib ht.mod) ht.fresh
theorem BxN.piled (h : BxN wr nx v bx x) (hP : NearP w0 wr K D rs N b nx gf gb dn v) (ht : Turned b v v' wr w2) : BxN w2 nx v' bx x := h.look hP (Zib ht.mod) ht.fresh
theorem Zia {far : Nat → Option Int} {ok : Bool} {p : List It} (ht : TookK Q ok x p) (H : SrchH l s N far dn Q) :
  (ok = true ∧ Q.length = p.length + 1 ∧ SrchH l s N far dn (x :: p) ∧ ∀ y ∈ p,x.1 ≤ y.1) ∨ (ok = false ∧ p = [] ∧ SrchH l s N far dn []) := by
 rcases ht with ⟨rfl,h1,h2⟩ | ⟨rfl,rfl,rfl⟩
 ·refine .inl ⟨rfl,by simpa using h1.length_eq,H.perm h1,fun y hy => ?_⟩
  have := h2 y (h1.mem_iff.2 (List.mem_cons_of_mem _ hy)); unfold Le at this; omega
 ·exact .inr ⟨rfl,rfl,H⟩
def HeadN (l : List Ar) (s N : Nat) (far : Nat → Option Int) (dn : Nat → Bool) (x : It) (p : List It) (ok : Bool) (gn : Nat) : Prop :=
 (ok = true ∧ (p.length : Int) + 1 + leftD N l dn < gn ∧ gn ≤ 20002 ∧ SrchH l s N far dn (x :: p) ∧ ∀ y ∈ p,x.1 ≤ y.1) ∨ (ok = false ∧ SrchH l s N far dn [] ∧ p = [])
theorem Z8o {far : Nat → Option Int} {ok : Bool} {p : List It} {gn : Nat} (ht : TookK Q ok x p) (H : SrchH l s N far dn Q) (h1 : (Q.length : Int) + leftD N l dn < gn) (h2 : gn ≤ 20002) : HeadN l s N far dn x p ok gn := by
 rcases Zia ht H with ⟨e1,e2,e3,e4⟩ | ⟨e1,e2,e3⟩
 ·exact .inl ⟨e1,by omega,h2,e3,e4⟩
 ·exact .inr ⟨e1,e3,e2⟩
end Go.Proofs.YtfkommjlmolniaaGreatDoor
end
section

namespace Go.Proofs.YtfkommjlmolniaaGreatDoor
open Go.Lib (hid)
open Go.RowKit
variable {w wr w2 : World} {a : Option Addr} {len cap : Nat} {l : List Ar}
theorem Z91 (x : Ar) (h : 0 ≤ x.2.2) (w : World) : Calls Tryz.prog 87 #[.agg #[.int .i64 x.1,.int .i64 x.2.1,.int .i64 x.2.2]] w fun e w' => e = .returned (.bool false) ∧ Below w.heap.size w w' := by
 obtain ⟨x1,x2,x3⟩ := x; simp only at h
 have HB := hid ((Below.refl w.heap.size w).alloc (Nat.le_refl _) (.cells #[.int .i64 x1,.int .i64 x2,.int .i64 x3] 121)); have hd : decide (x3 < 0) = false := by simp; omega
 clear h; go_enter Tryz.func87,Tryz.ntmps87
 go_wp2_with fail
 go_ret
 exact ⟨rfl,HB.out⟩
set_option maxHeartbeats 2000000 in
theorem Z81 (hl2 : len ≤ 20000) (hw : ∀ x ∈ l,0 ≤ x.2.2) (hl : IsArcs w.heap.size w a len l) :
  Calls Tryz.prog 116 #[.slice a len cap,.func (.func 87) #[] #[]] w fun e w' => e = .returned (.int .i64 (-1)) ∧ Below w.heap.size w w' := by
 have HL := hid hl; have HW := hid hw; have HB0 : Hid (Below w.heap.size w w) := hid (Below.refl _ _); clear hl hw; go_enter Tryz.func116,Tryz.ntmps116
 go_wp2_with fail
 go_loopw [8] (fun iv wr => ∃ k : Nat,iv = .int .i64 k ∧ k ≤ len ∧ Hid (Below w.heap.size w wr)) (fun iv _ => len - (intOf iv).toNat)
 case atStart => exact ⟨0,rfl,Nat.zero_le _,HB0⟩
 case round =>
  obtain ⟨k,rfl,hk,HB⟩ := hrel; clear HB0; by_cases hlt : k < len
  ·obtain ⟨pb,off,x,rfl,hpb,hx,p0,p1,p2⟩ := (HL.out.later HB.out).at_ hlt
   have HC := hid (Z91 x (HW.out x (List.mem_of_getElem? hx)) wr); clear hx; go_wp2_with (go_at_call 87; refine HC.out.mono ?_; rintro e w3 ⟨rfl,hb3⟩; have HB3 := hid (HB.out.trans (hb3.mono HB.out.size)); clear hb3)
   go_roundw
   case rel => exact ⟨k + 1,by go_num,by omega,HB3⟩
   case measure => simp [intOf]; omega
  ·go_wp2_with fail
   go_ret
   exact ⟨rfl,HB.out⟩
theorem Z59 (hl2 : len ≤ 20000) (hw : ∀ x ∈ l,0 ≤ x.2.2) (hl : IsArcs w.heap.size w a len l) :
  Calls Tryz.prog 86 #[.slice a len cap,.func (.func 87) #[] #[]] w fun e w' => e = .returned (.bool false) ∧ Below w.heap.size w w' := by
 have HC := hid (Z81 (cap := cap) hl2 hw hl); clear hl hw; go_enter Tryz.func86,Tryz.ntmps86
 go_wp2_with (go_at_call 116; refine HC.out.mono ?_; rintro e w3 ⟨rfl,hb3⟩; have HB3 := hid hb3; clear hb3)
 go_ret
 exact ⟨rfl,HB3.out⟩
end Go.Proofs.YtfkommjlmolniaaGreatDoor
end

/- Joined: FLanes, WHigh. -/
import Derived.Test.YtfkommjlmolniaaGreatDoorHsWk
import Derived.Test.YtfkommjlmolniaaGreatDoorHsFCheck
import Derived.OneCell
import Derived.LoopTactic
import Derived.Deep.RegionHeld3
import Derived.StillTailTactics
import Derived.Maps.RangeWalk
import Derived.Test.YtfkommjlmolniaaGreatDoorHd6
import Derived.Test.YtfkommjlmolniaaGreatDoorHd8
import Derived.BigQuiet
import Derived.BigRegion
import Derived.Deep.QuietTactic
import Derived.Deep.RegionWith
set_option linter.unusedVariables false
section

namespace Go.Proofs.YtfkommjlmolniaaGreatDoor
set_option maxHeartbeats 16000000
set_option maxRecDepth 100000
open Go.Lib (hid)
open Go.RowKit
variable {w wr w2 w4 : World} {a : Option Addr} {len cap B g Lb N g' cap' f k q p i n : Nat} {l : List Pi} {V : Nat → Value} {R R2 : Nat → List La} {o : Obj} {x : Pi} {nn : Int} {y : La}
def Z3a (k : Nat) (x : Pi) (i : Nat) : List La := if x.1 = x.2.1 then [] else if x.1 = (i : Int) then [(k,x.2.1.toNat,false)] else if x.2.1 = (i : Int) then [(k,x.1.toNat,true)] else []
def Z0t (l : List Pi) (i : Nat) : Nat → List La
 | 0 => []
 | k + 1 => Z0t l i k ++ (match l[k]? with | some x => Z3a k x i | none => [])
theorem Zbx (hx : l[k]? = some x) (i : Nat) : Z0t l i (k + 1) = Z0t l i k ++ Z3a k x i := by rw [Z0t,hx]
theorem Zhi (k : Nat) (x : Pi) (i : Nat) : (Z3a k x i).length ≤ 1 := by
 unfold Z3a; split
 ·simp
 ·split
  ·simp
  ·split <;> simp
theorem Z23 (l : List Pi) (i : Nat) : ∀ n,(Z0t l i n).length ≤ n
 | 0 => Nat.le_refl _
 | n + 1 => by
  rw [Z0t,List.length_append]; have := Z23 l i n; cases l[n]? with
  | none => simp only [List.length_nil]; omega
  | some x => have := Zhi n x i; simp only; omega
theorem Z3n : ∀ n,y ∈ Z0t l i n ↔ ∃ k x,k < n ∧ l[k]? = some x ∧ y ∈ Z3a k x i
 | 0 => by
  constructor
  ·intro h; cases h
  ·rintro ⟨k,x,h,_⟩; omega
 | n + 1 => by
  rw [Z0t,List.mem_append,Z3n n]; constructor
  ·rintro (⟨k,x,h1,h2,h3⟩ | h)
   ·exact ⟨k,x,by omega,h2,h3⟩
   ·cases hx : l[n]? with
    | none => rw [hx] at h; cases h
    | some x => rw [hx] at h; exact ⟨n,x,by omega,hx,h⟩
  ·rintro ⟨k,x,h1,h2,h3⟩
   by_cases e : k = n
   ·subst e
    right
    rw [h2]; exact h3
   ·exact .inl ⟨k,x,by omega,h2,h3⟩
theorem Z78 (hok : ∀ x ∈ l,okP (N : Int) x = true) : LanesOk l N (fun i => Z0t l i l.length) := by
 refine ⟨fun u hu a ha => ?_,fun k x f t hx hf ht hne => ?_⟩
 ·obtain ⟨k,x,hk,hx,hm⟩ := (Z3n _).1 ha
  have hxo := okP_true.1 (hok x (List.mem_of_getElem? hx)); unfold Z3a at hm; by_cases h1 : x.1 = x.2.1
  ·rw [if_pos h1] at hm; cases hm
  ·rw [if_neg h1] at hm
   by_cases h2 : x.1 = (u : Int)
   ·rw [if_pos h2] at hm
    simp only [List.mem_singleton] at hm
    subst hm; exact ⟨x,hx,by simp only; omega,by simp only; omega,by simp only [Bool.false_eq_true,if_false]; omega⟩
   ·rw [if_neg h2] at hm
    by_cases h3 : x.2.1 = (u : Int)
    ·rw [if_pos h3] at hm
     simp only [List.mem_singleton] at hm
     subst hm; exact ⟨x,hx,by simp only; omega,by simp only; omega,by simp only [if_true]; omega⟩
    ·rw [if_neg h3] at hm; cases hm
 ·have hk := (List.getElem?_eq_some_iff.1 hx).1
  have h1 : ¬ x.1 = x.2.1 := by omega
  have h2 : ¬ x.1 = (t : Int) := by omega
  refine ⟨(Z3n _).2 ⟨k,x,hk,hx,?_⟩,(Z3n _).2 ⟨k,x,hk,hx,?_⟩⟩
  ·have e : x.2.1.toNat = t := by omega
   simp [Z3a,hf,e]
   omega
  ·have e : x.1.toNat = f := by omega
   have e3 : ¬ (f : Int) = (t : Int) := by omega
   simp [Z3a,hf,ht,e3]
def laneC (a : La) : List Value := [.int .i64 (a.1 : Int),.int .i64 (a.2.1 : Int),.bool a.2.2]
def flatL (r : List La) : List Value := r.flatMap laneC
theorem Zey (r : List La) (a : La) : flatL (r ++ [a]) = flatL r ++ laneC a := by simp [flatL]
theorem Za1 : ∀ (r : List La) (j : Nat) (x : La),r[j]? = some x → (flatL r)[j * 3]? = some (.int .i64 (x.1 : Int)) ∧ (flatL r)[j * 3 + 1]? = some (.int .i64 (x.2.1 : Int)) ∧ (flatL r)[j * 3 + 2]? = some (.bool x.2.2)
 | [],j,x,h => by simp at h
 | a :: r,0,x,h => by simp at h; subst h; simp [flatL,laneC]
 | a :: r,j + 1,x,h => by
  have ih := Za1 r j x (by simpa using h)
  have e : flatL (a :: r) = laneC a ++ flatL r := by simp [flatL]
  rw [e]; have e1 : (j + 1) * 3 = (laneC a).length + j * 3 := by simp [laneC]; omega
  rw [e1,Nat.add_assoc,Nat.add_assoc,List.getElem?_append_right (by omega),List.getElem?_append_right (by omega),List.getElem?_append_right (by omega)]
  simpa using ih
structure AdjL (B : Nat) (w : World) (Lb N : Nat) (V : Nat → Value) (R : Nat → List La) : Prop where
 ge : B ≤ Lb
 out : w.rowIs Lb 170 N V
 row : ∀ i,i < N → w.ownsRow (Lb + 1) 140 3 (V i) (R i).length (flatL (R i))
 apart : ∀ i j,i < N → j < N → i ≠ j → ∀ b,(V i).ownBlock = some b → (V j).ownBlock ≠ some b
theorem AdjL.later (h : AdjL B w Lb N V R) (hb : Below w.heap.size w w2) : AdjL B w2 Lb N V R :=
 ⟨h.ge,Z0a h.out hb,fun i hi => Z06 (h.row i hi) hb,h.apart⟩
theorem AdjL.congr (h : AdjL B w Lb N V R) (e : ∀ i,i < N → R i = R2 i) : AdjL B w Lb N V R2 :=
 ⟨h.ge,h.out,fun i hi => by rw [← e i hi]; exact h.row i hi,h.apart⟩
theorem AdjL.push (h : AdjL B w Lb N V R) (hf : f < N) (hown : w4.ownsRow (Lb + 1) 140 3 (.slice (some ⟨g',0,none⟩) ((R f).length + 1) cap') ((R f).length + 1) (flatL (R f) ++ laneC y))
  (hgrow : w.grownBy w4 (V f).ownBlock) (hfr : (V f).ownBlock = some g' ∨ g' = w.heap.size) :
  AdjL B (w4.setCell ⟨Lb,f,none⟩ (.slice (some ⟨g',0,none⟩) ((R f).length + 1) cap')) Lb N (fun j => if j = f then .slice (some ⟨g',0,none⟩) ((R f).length + 1) cap' else V j) (fun j => if j = f then R f ++ [y] else R j) ∧
  w4.cell? ⟨Lb,f,none⟩ = some (V f) ∧ w4.frozen? ⟨Lb,f,none⟩ = false := by
 have hlt : ∀ i,i < N → ∀ k,(V i).ownBlock = some k → Lb + 1 ≤ k ∧ k < w.heap.size := fun i hi k hk => World.ownsRow.lt (h.row i hi) k hk; have ho4 : w4.rowIs Lb 170 N V := h.out.of_block (hgrow.block Lb h.out.lt (fun e => by have := (hlt f hf Lb e.symm).1; omega))
 refine ⟨⟨h.ge,ho4.set f _,fun i hi => ?_,fun i j hi hj hij b hb => ?_⟩,ho4.cell hf,ho4.frozen f⟩
 ·by_cases e : i = f
  ·subst e
   simp only [if_true,List.length_append,List.length_singleton,Zey]
   exact ownsRow_setCell_other hown (fun e => by have h9 : Lb + 1 ≤ Lb := (World.ownsRow.lt hown _ e).1; omega) _
  ·simp only [e,if_false]
   refine ownsRow_setCell_other ((h.row i hi).kept hgrow ?_) (fun e2 => by have h9 : Lb + 1 ≤ Lb := (hlt i hi _ e2).1; omega) _
   cases hv : (V i).ownBlock with
   | none => exact .inl rfl
   | some b => exact .inr (fun e2 => h.apart i f hi hf e b hv (by rw [← e2]))
 ·have new : ∀ b,some g' = some b → ∀ i,i < N → i ≠ f → (V i).ownBlock ≠ some b := fun b hb i hi hif he => by
   cases hb
   rcases hfr with hfr | hfr
   ·exact h.apart i f hi hf hif g' he hfr
   ·have := (hlt i hi _ he).2
    omega
  by_cases e1 : i = f
  ·subst e1
   simp only [if_true] at hb
   rw [if_neg (fun e => hij e.symm)]; exact new b hb j hj (fun e => hij e.symm)
  ·rw [if_neg e1] at hb
   by_cases e2 : j = f
   ·rw [if_pos e2]
    intro he; exact new b he i hi e1 hb
   ·rw [if_neg e2]
    exact h.apart i j hi hj hij b hb
theorem AdjL.lanes (h : AdjL B w Lb N V R) : Lanes w.heap.size w Lb N V R := by
 refine ⟨h.out.lt,h.out,fun i hi => ?_⟩; obtain ⟨a,c,e⟩ := Z04 (h.row i hi); refine ⟨a,c,e,rfl,?_⟩; by_cases h0 : (R i).length = 0
 ·exact .inl h0
 ·obtain ⟨D,cp,hv,_,hD,_⟩ := Z0x (h.row i hi) (by omega)
  have ho := h.row i hi; rw [e] at hv; injection hv with e1
  subst e1; refine .inr ⟨D,0,rfl,hD,fun j x hx => ?_⟩; rw [Nat.zero_add]; obtain ⟨c0,c1,c2⟩ := Za1 _ j x hx; have hj : j < (R i).length := (List.getElem?_eq_some_iff.1 hx).1; rw [e] at ho; exact ⟨(World.ownsRow.cellAt ho (j * 3) (by omega)).trans c0,(World.ownsRow.cellAt ho (j * 3 + 1) (by omega)).trans c1,(World.ownsRow.cellAt ho (j * 3 + 2) (by omega)).trans c2⟩
theorem Zkd : (Tryz.prog.info? 140).map (fun i => (i.zero,i.size,i.bytes)) = some (some (.agg #[.int .i64 0,.int .i64 0,.bool false]),3,24) := by kernel_rfl
theorem Zhj : (Tryz.prog.info? 170).map (fun i => (i.zero,i.size,i.bytes)) = some (some (.slice none 0 0),1,24) := by kernel_rfl
theorem AdjL.start (hL : wr.heap.size = Lb) (hB : B ≤ Lb) (N : Nat) (l : List Pi) : AdjL B (wr.alloc (.cells (madeCells #[.slice none 0 0] N) 170)) Lb N (fun _ => .slice none 0 0) (fun i => Z0t l i 0) := by
 subst hL; exact ⟨hB,World.rowIs_made _ _ _ _,fun i _ => World.ownsRow_nil _ _ _ 3,fun i j _ _ _ b hb => by cases hb⟩
structure LaW (w wr : World) (g : Nat) (nn : Int) (a : Option Addr) (len cap : Nat) (Lb N : Nat) (V : Nat → Value) (R : Nat → List La) : Prop where
 box : NBox w wr g nn a len cap
 adj : AdjL w.heap.size wr Lb N V R
 lt : g < Lb
theorem LaW.later (h : LaW w wr g nn a len cap Lb N V R) (hb : Below wr.heap.size wr w2) : LaW w w2 g nn a len cap Lb N V R := ⟨h.box.later hb,h.adj.later hb,h.lt⟩
theorem LaW.push (h : LaW w wr g nn a len cap Lb N V R) (hf : f < N) (hown : w4.ownsRow (Lb + 1) 140 3 (.slice (some ⟨g',0,none⟩) ((R f).length + 1) cap') ((R f).length + 1) (flatL (R f) ++ laneC y))
  (hgrow : wr.grownBy w4 (V f).ownBlock) (hfr : (V f).ownBlock = some g' ∨ g' = wr.heap.size) :
  LaW w (w4.setCell ⟨Lb,f,none⟩ (.slice (some ⟨g',0,none⟩) ((R f).length + 1) cap')) g nn a len cap Lb N (fun j => if j = f then .slice (some ⟨g',0,none⟩) ((R f).length + 1) cap' else V j) (fun j => if j = f then R f ++ [y] else R j) := by
 have hlt : ∀ k,(V f).ownBlock = some k → Lb + 1 ≤ k ∧ k < wr.heap.size := fun k hk => World.ownsRow.lt (h.adj.row f hf) k hk; have hge := h.adj.ge; have hm : Mod (fun k => (V f).ownBlock = some k ∨ k = Lb) wr (w4.setCell ⟨Lb,f,none⟩ (.slice (some ⟨g',0,none⟩) ((R f).length + 1) cap')) :=
  ((Mod.refl _ wr).grown hgrow (fun k hk => .inr (.inl hk))).setCell (p := ⟨Lb,f,none⟩) (.inr (.inr rfl)) _
 have hS : ∀ k,((V f).ownBlock = some k ∨ k = Lb) → Lb ≤ k := fun k hk => by
  rcases hk with hk | hk
  ·have := (hlt k hk).1; omega
  ·omega
 refine ⟨⟨((Mod.of_below (fun k => (V f).ownBlock = some k ∨ k = Lb) h.box.below).trans hm).below (Nat.le_refl _) (fun k hk => Nat.le_trans hge (hS k hk)),h.box.ge,?_⟩,(h.adj.push hf hown hgrow hfr).1,h.lt⟩; rw [hm.block g h.box.lt (fun hk => by have := hS g hk; have := h.lt; omega)]
 exact h.box.blk
theorem LaW.congr (h : LaW w wr g nn a len cap Lb N V R) (e : ∀ i,i < N → R i = R2 i) : LaW w wr g nn a len cap Lb N V R2 := ⟨h.box,h.adj.congr e,h.lt⟩
def PipS (ab : Nat) (p q : Nat) (W : World) : Prop := W.cell? ⟨ab,0,none⟩ = some (.int .i64 (p : Int)) ∧ W.cell? ⟨ab,1,none⟩ = some (.int .i64 (q : Int)) ∧ ab < W.heap.size
theorem PipS.mod {S : Nat → Prop} {ab : Nat} (h : PipS ab p q w) (hm : Mod S w w2) (hs : ¬ S ab) : PipS ab p q w2 :=
 ⟨(hm.cell (p := ⟨ab,0,none⟩) h.2.2 hs).trans h.1,(hm.cell (p := ⟨ab,1,none⟩) h.2.2 hs).trans h.2.1,Nat.lt_of_lt_of_le h.2.2 hm.size⟩
theorem Z48 {RB : Nat → List La} {rm cs : Int} (hpq : ¬ p = q) (h : (fun j => if j = p then Z0t l p k ++ [(k,q,false)] else Z0t l j k) = RB) (hq : RB q = Z0t l q k) :
  (if i = q then RB q ++ [(k,p,true)] else RB i) = Z0t l i k ++ Z3a k ((p : Int),(q : Int),rm,cs) i := by
 have h1 : ¬ (p : Int) = (q : Int) := by omega
 rw [hq,← h]; unfold Z3a; simp only [h1,if_false,Int.toNat_natCast]
 by_cases e1 : i = q
 ·subst e1
  rw [if_pos rfl,if_neg h1,if_pos rfl]
 ·rw [if_neg e1]
  by_cases e2 : i = p
  ·subst e2
   rw [if_pos rfl,if_pos rfl]
  ·rw [if_neg e2,if_neg (by omega),if_neg (by omega),List.append_nil]
theorem Z3o (w : World) (a : La) (T : TypeId) (z : Nat) (hz : w.heap.size = z) : ∀ (j : Nat) (u : Value),(laneC a)[j]? = some u → (w.alloc (.cells #[.int .i64 (a.1 : Int),.int .i64 (a.2.1 : Int),.bool a.2.2] T)).cell? ((⟨z,0,none⟩ : Addr).add j) = some u := by
 subst hz; intro j u hj; rw [Addr.add_lit]; match j,hj with
 | 0,hj => simp [laneC] at hj; subst hj; simp
 | 1,hj => simp [laneC] at hj; subst hj; simp
 | 2,hj => simp [laneC] at hj; subst hj; simp
theorem oneL (a : La) : ∀ u ∈ laneC a,u.oneCell' = true := by
 intro u hu; simp [laneC] at hu
 rcases hu with rfl | rfl | rfl <;> rfl
theorem Z07 {P : Program} {md : Region.Mode} {ops : Array Oper} {Q : Exit → Act → World → Prop} {S : World → Prop} (i : Nat) {oi : Oper} {v : Value} {fuel : Nat} {listed : Array Bool} {a : Act} {w : World} (hS : S w) (h : wpAnyH P md ops Q S fuel (listed.setIfInBounds i true) (a.put oi.dst v) w) (hi : ops[i]? = some oi := by exact rfl) (hs : Region.noSelect ops = true := by kernel_rfl) (hf : Region.free md ops listed i = true := by kernel_rfl) (hr : (Region.ready md ops listed).contains i = true := by kernel_rfl) (hQ : ∀ c a w,Q (.panic c) (a.put oi.dst v) w → Q (.panic c) a w := by exact fun _ _ _ h => h) (hw : Region.wanted oi (yielded ops a.tmps) = true := by rfl) (y : ∀ w,S w → (execOp a.eval oi).run P w = .ok (.value v) w := by intro W0 hW; obtain ⟨hW1,hW2,hW3⟩ := hW; go_simp; (try with_reducible rfl)) : wpAnyH P md ops Q S (fuel + 1) listed a w := stpT i hS h hi hs hf hr hQ hw y
theorem Z79 (N : Nat) (hN : N ≤ 1000) (hlen : len ≤ 20000) (hok : ∀ x ∈ l,okP (N : Int) x = true) (a : Option Addr) (cap : Nat) (w : World) (hl : IsPipes w.heap.size w a len l) :
  Calls Tryz.prog 82 #[.agg #[.int .i64 (N : Int),.slice a len cap]] w fun e w' => ∃ Lb V,e = .returned (.slice (some ⟨Lb,0,none⟩) N N) ∧ AdjL w.heap.size w' Lb N V (fun i => Z0t l i l.length) ∧ Below w.heap.size w w' := by
 obtain ⟨i0,hi,hz0,hz1,hz2⟩ := info_parts Zkd; have hmk := run_make_row' (P := Tryz.prog) 134 170 (.slice none 0 0) 24 Tryz.underlying134 Zhj rfl .i64 .i64 N (by omega) (by omega)
 have HOK := hid hok; clear hok; have HLn : Hid (l.length = len) := hid hl.1; have HL := hid hl; clear hl; have HG0 : Hid (LaW w ((w.alloc (.cells #[.int .i64 (N : Int),.slice a len cap] 105)).alloc (.cells (madeCells #[.slice none 0 0] N) 170)) w.heap.size (N : Int) a len cap (w.heap.size + 1) N (fun _ => .slice none 0 0) (fun i => Z0t l i 0)) :=
  hid ⟨(NBox.make (Below.refl _ w) _ a len cap).alloc _,AdjL.start (by simp) (by simp) N l,by omega⟩
 go_enter Tryz.func82,Tryz.ntmps82
 go_wp2_with fail
 clear hmk; obtain ⟨Lb,hL⟩ : ∃ L,L = w.heap.size + 1 := ⟨_,rfl⟩; rw [← hL] at HG0 ⊢; clear hL; go_loopw [12] (fun i wr => ∃ (k : Nat) (V : Nat → Value),i = .int .i64 k ∧ k ≤ len ∧ Hid (LaW w wr w.heap.size (N : Int) a len cap Lb N V (fun i => Z0t l i k))) (fun i _ => len - (intOf i).toNat)
 case atStart => exact ⟨0,_,rfl,Nat.zero_le _,HG0⟩
 case round =>
  obtain ⟨k,V,rfl,hk,HX⟩ := hrel; clear HG0; by_cases hlt : k < len
  ·obtain ⟨b,off,x,rfl,hb,hx,e0,e1,e2,e3⟩ := (HX.out.box.pipes HL.out).at_ hlt
   have hxo := okP_true.1 (HOK.out x (List.mem_of_getElem? hx)); have HXT := hid (fun i => Zbx hx i); clear hx hb; obtain ⟨f0,t0,rm,cs⟩ := x; simp only at e0 e1 e2 e3 hxo
   obtain ⟨p,rfl⟩ : ∃ p : Nat,f0 = (p : Int) := ⟨f0.toNat,by omega⟩
   obtain ⟨q,rfl⟩ : ∃ q : Nat,t0 = (q : Int) := ⟨t0.toNat,by omega⟩
   have hp : p < N := by omega
   have hq : q < N := by omega
   clear hxo; have HX1 := hid (HX.out.later ((Below.refl wr.heap.size wr).alloc (Nat.le_refl _) (.cells #[.int .i64 (p : Int),.int .i64 (q : Int),.int .i64 rm,.int .i64 cs] 127))); have HP1 : Hid (PipS wr.heap.size p q (wr.alloc (.cells #[.int .i64 (p : Int),.int .i64 (q : Int),.int .i64 rm,.int .i64 cs] 127))) := hid ⟨by simp,by simp,by simp⟩
   have HLL : Hid (Lb + 1 ≤ wr.heap.size) := hid (by have := HX.out.adj.out.lt; omega)
   by_cases hpq : p = q
   ·subst hpq
    have HN := hid (HX1.out.congr (R2 := fun i => Z0t l i (k + 1)) (fun i _ => by rw [HXT.out]; simp [Z3a]))
    clear HX1 HP1; go_wp2_with fail
    go_roundw
    case rel => exact ⟨k + 1,V,by go_num,by omega,HN⟩
    case measure => simp [intOf]; omega
   ·have hpb : ((p : Int) == (q : Int)) = false := by simp; omega
    have HPQ := hid hpq; clear hpq; have HVL : Hid (∀ i,i < N → ∀ b,(V i).ownBlock = some b → b < wr.heap.size) := hid (fun i hi b hb => (World.ownsRow.lt (HX.out.adj.row i hi) b hb).2); go_wp2_with fail
    obtain ⟨ab,hab⟩ : ∃ ab,wr.heap.size = ab := ⟨_,rfl⟩; obtain ⟨wa,hwa⟩ : ∃ wa,wr.alloc (.cells #[.int .i64 (p : Int),.int .i64 (q : Int),.int .i64 rm,.int .i64 cs] 127) = wa := ⟨_,rfl⟩; have HSA : Hid (wa.heap.size = ab + 1) := hid (by rw [← hwa,← hab]; simp)
    rw [hwa] at HX1 HP1; rw [hab] at HP1 HLL HVL; rw [hab,hwa]; clear hab hwa HX e0 e1 e2 e3; obtain ⟨vaA,vcA,hvA⟩ := Z04 (HX1.out.adj.row p hp); have HVVA := hid hvA; have HYA := hid (HX1.out.later (((Below.refl wa.heap.size wa).drew).alloc (Nat.le_refl _) (.cells #[.int .i64 (k : Int),.int .i64 (q : Int),.bool false] 140))); have cA := HX1.out.adj.out.cell hp; have dA := HYA.out.adj.out.cell hp; skip
    rw [hvA] at cA dA; have d2A : (wa.alloc (.cells #[.int .i64 (k : Int),.int .i64 (q : Int),.bool false] 140)).cell? ⟨Lb,p,none⟩ = some (.slice vaA (Z0t l p k).length vcA) := dA; obtain ⟨nlA,hnlA⟩ : ∃ m,(Z0t l p k).length = m := ⟨_,rfl⟩; have HNLA := hid hnlA; have hmlA : nlA ≤ 40000 := by have := Z23 l p k; omega
    have HOA : Hid ((wa.drew.alloc (.cells #[.int .i64 (k : Int),.int .i64 (q : Int),.bool false] 140)).ownsRow (Lb + 1) 140 3 (.slice vaA nlA vcA) nlA (flatL (Z0t l p k))) := hid (by have := HYA.out.adj.row p hp; rw [hvA] at this; simp only [hnlA] at this; exact this)
    rw [hnlA] at cA dA d2A; have hvbA : (Value.slice vaA nlA vcA).ownBlock = (V p).ownBlock := by rw [hvA,hnlA]
    have HABA : Hid ((Value.slice vaA nlA vcA).ownBlock ≠ some ab) := hid (by rw [hvbA]; intro e; have := HVL.out p hp ab e; omega)
    have HVBA := hid hvbA; have HDA := hid (show PipS ab p q wa.drew from HP1.out)
    have HSZA : Hid (Lb + 1 ≤ (wa.drew.alloc (.cells #[.int .i64 (k : Int),.int .i64 (q : Int),.bool false] 140)).heap.size) := hid (by have := HYA.out.adj.out.lt; omega)
    clear hvA hnlA hvbA; refine wp_region_held_drew (S := PipS ab p q) (by kernel_rfl) HDA.out (fun hHeld => ?_)
    refine Z07 0 hHeld ?_; try go_frame
    refine Z07 1 hHeld ?_; try go_frame
    refine Z07 2 hHeld ?_; try go_frame
    refine Z07 3 hHeld ?_; try go_frame
    refine Z07 4 hHeld ?_; try go_frame
    refine Z07 5 hHeld ?_; try go_frame
    refine Z07 6 hHeld ?_; try go_frame
    refine Z07 8 hHeld ?_; try go_frame
    refine Z07 9 hHeld ?_; try go_frame
    refine Z07 10 hHeld ?_; try go_frame
    refine Z07 11 hHeld ?_; try go_frame
    refine wpAnyH_ready (rs := [7,12]) (by kernel_rfl) (by simp) ?_
    refine AllReadyH.cons rfl (fun K hK => ?_) (AllReadyH.cons rfl (fun K hK => ?_) AllReadyH.nil)
    ·go_simp
     refine hK.out _ _ ?_ (fun hHeld => ?_)
     ·exact hHeld
     clear hK K; try go_frame
     refine stpR 12 (fun K hK => ?_); go_simp; refine hK.out _ _ ?_ (fun hHeld => ?_)
     ·exact hHeld.mod ((Mod.refl (fun _ => False) _).alloc _) (fun h => h)
     clear hK K; try go_frame
     refine stpR 13 (fun K hK => ?_); refine Z01 rfl (.tmp 29) (.tmp 34) 170 rfl (Lb + 1) 140 i0 _ 3 24 Tryz.underlying170 hi hz0 hz1 hz2 (by decide) (.slice vaA nlA vcA) nlA (flatL (Z0t l p k)) rfl HOA.out ⟨wa.heap.size,0,none⟩ 1 (laneC (k,q,false)) rfl rfl (Z3o _ (k,q,false) _ _ rfl) (oneL _) (by unfold maxLen; omega) (by omega) HSZA.out ?_
     intro gA cpA w4A hown hgrow hfr; have x4 : PipS ab p q w4A := HDA.out.mod (((Mod.refl (fun k => (Value.slice vaA nlA vcA).ownBlock = some k) _).alloc _).grown hgrow (fun k hk => .inr hk)) HABA.out; rw [HVBA.out] at hgrow hfr; have hown2 := hown; rw [← HNLA.out] at hown2; obtain ⟨_,c4,f4⟩ := HYA.out.adj.push hp hown2 hgrow hfr; skip
     have HZA := hid (HYA.out.push hp hown2 hgrow hfr); skip
     clear hown hown2 hgrow hfr; refine hK.out _ _ ?_ (fun hHeld => ?_)
     ·exact x4
     clear hK K; try go_frame
     refine Z07 14 hHeld ?_; try go_frame
     refine stpR 15 (fun K hK => ?_); go_simp; refine hK.out _ _ ?_ (fun hHeld => ?_)
     ·exact x4.mod ((Mod.refl (fun b => b = Lb) _).setCell (p := ⟨Lb,p,none⟩) (.inr rfl) _) (fun h => by have h2 : ab = Lb := h; have := HLL.out; omega)
     clear hK K; try go_frame
     refine wpAnyH_done (by kernel_rfl) ?_ _
     rw [HNLA.out] at HZA; clear c4 f4 x4; have HQ1 := hid hHeld; clear hHeld; obtain ⟨wb,hwb⟩ : ∃ wb,w4A.setCell ⟨Lb,p,none⟩ (.slice (some ⟨gA,0,none⟩) (nlA + 1) cpA) = wb := ⟨_,rfl⟩; rw [hwb] at HZA HQ1 ⊢; clear hwb cA dA d2A; obtain ⟨VB,hVB⟩ : ∃ VB,(fun j => if j = p then Value.slice (some ⟨gA,0,none⟩) (nlA + 1) cpA else V j) = VB := ⟨_,rfl⟩
     obtain ⟨RB,hRB⟩ : ∃ RB : Nat → List La,(fun j => if j = p then Z0t l p k ++ [(k,q,false)] else Z0t l j k) = RB := ⟨_,rfl⟩
     have HRB := hid hRB; have HVBB := hid hVB; rw [hVB,hRB] at HZA; have HRQ : Hid (RB q = Z0t l q k) := hid (by rw [← hRB]; simp only; rw [if_neg (fun e => HPQ.out e.symm)])
     have HVQ : Hid ((VB q).ownBlock ≠ some ab) := hid (by rw [← hVB]; simp only; rw [if_neg (fun e => HPQ.out e.symm)]; intro e; have := HVL.out q hq ab e; omega)
     clear hVB hRB; go_wp2_with fail
     obtain ⟨vaB,vcB,hvB⟩ := Z04 (HZA.out.adj.row q hq); have HVVB := hid hvB; have HYB := hid (HZA.out.later (((Below.refl wb.heap.size wb).drew).alloc (Nat.le_refl _) (.cells #[.int .i64 (k : Int),.int .i64 (p : Int),.bool true] 140))); have cB := HZA.out.adj.out.cell hq; have dB := HYB.out.adj.out.cell hq; skip
     rw [hvB] at cB dB; have d2B : (wb.alloc (.cells #[.int .i64 (k : Int),.int .i64 (p : Int),.bool true] 140)).cell? ⟨Lb,q,none⟩ = some (.slice vaB (RB q).length vcB) := dB; obtain ⟨nlB,hnlB⟩ : ∃ m,(RB q).length = m := ⟨_,rfl⟩; have HNLB := hid hnlB; have hmlB : nlB ≤ 40000 := by rw [← hnlB,HRQ.out]; have := Z23 l q k; omega
     have HOB : Hid ((wb.drew.alloc (.cells #[.int .i64 (k : Int),.int .i64 (p : Int),.bool true] 140)).ownsRow (Lb + 1) 140 3 (.slice vaB nlB vcB) nlB (flatL (RB q))) := hid (by have := HYB.out.adj.row q hq; rw [hvB] at this; simp only [hnlB] at this; exact this)
     rw [hnlB] at cB dB d2B; have hvbB : (Value.slice vaB nlB vcB).ownBlock = (VB q).ownBlock := by rw [hvB,hnlB]
     have HABB : Hid ((Value.slice vaB nlB vcB).ownBlock ≠ some ab) := hid (by rw [hvbB]; exact HVQ.out)
     have HVBB := hid hvbB; have HDB := hid (show PipS ab p q wb.drew from HQ1.out)
     have HSZB : Hid (Lb + 1 ≤ (wb.drew.alloc (.cells #[.int .i64 (k : Int),.int .i64 (p : Int),.bool true] 140)).heap.size) := hid (by have := HYB.out.adj.out.lt; omega)
     clear hvB hnlB hvbB; refine wp_region_held_drew (S := PipS ab p q) (by kernel_rfl) HDB.out (fun hHeld => ?_)
     refine Z07 0 hHeld ?_; try go_frame
     refine Z07 1 hHeld ?_; try go_frame
     refine Z07 2 hHeld ?_; try go_frame
     refine Z07 3 hHeld ?_; try go_frame
     refine Z07 4 hHeld ?_; try go_frame
     refine Z07 5 hHeld ?_; try go_frame
     refine Z07 6 hHeld ?_; try go_frame
     refine Z07 8 hHeld ?_; try go_frame
     refine Z07 9 hHeld ?_; try go_frame
     refine Z07 10 hHeld ?_; try go_frame
     refine Z07 11 hHeld ?_; try go_frame
     refine wpAnyH_ready (rs := [7,12]) (by kernel_rfl) (by simp) ?_
     refine AllReadyH.cons rfl (fun K hK => ?_) (AllReadyH.cons rfl (fun K hK => ?_) AllReadyH.nil)
     ·go_simp
      refine hK.out _ _ ?_ (fun hHeld => ?_)
      ·exact hHeld
      clear hK K; try go_frame
      refine stpR 12 (fun K hK => ?_); go_simp; refine hK.out _ _ ?_ (fun hHeld => ?_)
      ·exact hHeld.mod ((Mod.refl (fun _ => False) _).alloc _) (fun h => h)
      clear hK K; try go_frame
      refine stpR 13 (fun K hK => ?_); refine Z01 rfl (.tmp 44) (.tmp 49) 170 rfl (Lb + 1) 140 i0 _ 3 24 Tryz.underlying170 hi hz0 hz1 hz2 (by decide) (.slice vaB nlB vcB) nlB (flatL (RB q)) rfl HOB.out ⟨wb.heap.size,0,none⟩ 1 (laneC (k,p,true)) rfl rfl (Z3o _ (k,p,true) _ _ rfl) (oneL _) (by unfold maxLen; omega) (by omega) HSZB.out ?_
      intro gB cpB w4B hown hgrow hfr; have x4 : PipS ab p q w4B := HDB.out.mod (((Mod.refl (fun k => (Value.slice vaB nlB vcB).ownBlock = some k) _).alloc _).grown hgrow (fun k hk => .inr hk)) HABB.out; rw [HVBB.out] at hgrow hfr; have hown2 := hown; rw [← HNLB.out] at hown2; obtain ⟨_,c4,f4⟩ := HYB.out.adj.push hq hown2 hgrow hfr; skip
      have HZB := hid (HYB.out.push hq hown2 hgrow hfr); skip
      clear hown hown2 hgrow hfr; refine hK.out _ _ ?_ (fun hHeld => ?_)
      ·exact x4
      clear hK K; try go_frame
      refine Z07 14 hHeld ?_; try go_frame
      refine stpR 15 (fun K hK => ?_); go_simp; refine hK.out _ _ ?_ (fun hHeld => ?_)
      ·exact x4.mod ((Mod.refl (fun b => b = Lb) _).setCell (p := ⟨Lb,q,none⟩) (.inr rfl) _) (fun h => by have h2 : ab = Lb := h; have := HLL.out; omega)
      clear hK K; try go_frame
      refine wpAnyH_done (by kernel_rfl) ?_ _
      rw [HNLB.out] at HZB; clear c4 f4 x4; clear hHeld; go_wp2_with fail
      go_roundw
      case rel => exact ⟨k + 1,_,by go_num,by omega,hid (HZB.out.congr (R2 := fun i => Z0t l i (k + 1)) (fun i _ => by rw [HXT.out]; exact Z48 HPQ.out HRB.out HRQ.out))⟩
      case measure => simp [intOf]; omega
     ·go_simp
      refine hK.out _ _ ?_ (fun hHeld => ?_)
      ·exact hHeld.mod ((Mod.refl (fun _ => False) _).alloc _) (fun h => h)
      clear hK K; try go_frame
      refine stpR 7 (fun K hK => ?_); go_simp; refine hK.out _ _ ?_ (fun hHeld => ?_)
      ·exact hHeld
      clear hK K; try go_frame
      refine stpR 13 (fun K hK => ?_); refine Z01 rfl (.tmp 44) (.tmp 49) 170 rfl (Lb + 1) 140 i0 _ 3 24 Tryz.underlying170 hi hz0 hz1 hz2 (by decide) (.slice vaB nlB vcB) nlB (flatL (RB q)) rfl HOB.out ⟨wb.heap.size,0,none⟩ 1 (laneC (k,p,true)) rfl rfl (Z3o _ (k,p,true) _ _ rfl) (oneL _) (by unfold maxLen; omega) (by omega) HSZB.out ?_
      intro gB cpB w4B hown hgrow hfr; have x4 : PipS ab p q w4B := HDB.out.mod (((Mod.refl (fun k => (Value.slice vaB nlB vcB).ownBlock = some k) _).alloc _).grown hgrow (fun k hk => .inr hk)) HABB.out; rw [HVBB.out] at hgrow hfr; have hown2 := hown; rw [← HNLB.out] at hown2; obtain ⟨_,c4,f4⟩ := HYB.out.adj.push hq hown2 hgrow hfr; skip
      have HZB := hid (HYB.out.push hq hown2 hgrow hfr); skip
      clear hown hown2 hgrow hfr; refine hK.out _ _ ?_ (fun hHeld => ?_)
      ·exact x4
      clear hK K; try go_frame
      refine Z07 14 hHeld ?_; try go_frame
      refine stpR 15 (fun K hK => ?_); go_simp; refine hK.out _ _ ?_ (fun hHeld => ?_)
      ·exact x4.mod ((Mod.refl (fun b => b = Lb) _).setCell (p := ⟨Lb,q,none⟩) (.inr rfl) _) (fun h => by have h2 : ab = Lb := h; have := HLL.out; omega)
      clear hK K; try go_frame
      refine wpAnyH_done (by kernel_rfl) ?_ _
      rw [HNLB.out] at HZB; clear c4 f4 x4; clear hHeld; go_wp2_with fail
      go_roundw
      case rel => exact ⟨k + 1,_,by go_num,by omega,hid (HZB.out.congr (R2 := fun i => Z0t l i (k + 1)) (fun i _ => by rw [HXT.out]; exact Z48 HPQ.out HRB.out HRQ.out))⟩
      case measure => simp [intOf]; omega
    ·go_simp
     refine hK.out _ _ ?_ (fun hHeld => ?_)
     ·exact hHeld.mod ((Mod.refl (fun _ => False) _).alloc _) (fun h => h)
     clear hK K; try go_frame
     refine stpR 7 (fun K hK => ?_); go_simp; refine hK.out _ _ ?_ (fun hHeld => ?_)
     ·exact hHeld
     clear hK K; try go_frame
     refine stpR 13 (fun K hK => ?_); refine Z01 rfl (.tmp 29) (.tmp 34) 170 rfl (Lb + 1) 140 i0 _ 3 24 Tryz.underlying170 hi hz0 hz1 hz2 (by decide) (.slice vaA nlA vcA) nlA (flatL (Z0t l p k)) rfl HOA.out ⟨wa.heap.size,0,none⟩ 1 (laneC (k,q,false)) rfl rfl (Z3o _ (k,q,false) _ _ rfl) (oneL _) (by unfold maxLen; omega) (by omega) HSZA.out ?_
     intro gA cpA w4A hown hgrow hfr; have x4 : PipS ab p q w4A := HDA.out.mod (((Mod.refl (fun k => (Value.slice vaA nlA vcA).ownBlock = some k) _).alloc _).grown hgrow (fun k hk => .inr hk)) HABA.out; rw [HVBA.out] at hgrow hfr; have hown2 := hown; rw [← HNLA.out] at hown2; obtain ⟨_,c4,f4⟩ := HYA.out.adj.push hp hown2 hgrow hfr; skip
     have HZA := hid (HYA.out.push hp hown2 hgrow hfr); skip
     clear hown hown2 hgrow hfr; refine hK.out _ _ ?_ (fun hHeld => ?_)
     ·exact x4
     clear hK K; try go_frame
     refine Z07 14 hHeld ?_; try go_frame
     refine stpR 15 (fun K hK => ?_); go_simp; refine hK.out _ _ ?_ (fun hHeld => ?_)
     ·exact x4.mod ((Mod.refl (fun b => b = Lb) _).setCell (p := ⟨Lb,p,none⟩) (.inr rfl) _) (fun h => by have h2 : ab = Lb := h; have := HLL.out; omega)
     clear hK K; try go_frame
     refine wpAnyH_done (by kernel_rfl) ?_ _
     rw [HNLA.out] at HZA; clear c4 f4 x4; have HQ1 := hid hHeld; clear hHeld; obtain ⟨wb,hwb⟩ : ∃ wb,w4A.setCell ⟨Lb,p,none⟩ (.slice (some ⟨gA,0,none⟩) (nlA + 1) cpA) = wb := ⟨_,rfl⟩; rw [hwb] at HZA HQ1 ⊢; clear hwb cA dA d2A; obtain ⟨VB,hVB⟩ : ∃ VB,(fun j => if j = p then Value.slice (some ⟨gA,0,none⟩) (nlA + 1) cpA else V j) = VB := ⟨_,rfl⟩
     obtain ⟨RB,hRB⟩ : ∃ RB : Nat → List La,(fun j => if j = p then Z0t l p k ++ [(k,q,false)] else Z0t l j k) = RB := ⟨_,rfl⟩
     have HRB := hid hRB; have HVBB := hid hVB; rw [hVB,hRB] at HZA; have HRQ : Hid (RB q = Z0t l q k) := hid (by rw [← hRB]; simp only; rw [if_neg (fun e => HPQ.out e.symm)])
     have HVQ : Hid ((VB q).ownBlock ≠ some ab) := hid (by rw [← hVB]; simp only; rw [if_neg (fun e => HPQ.out e.symm)]; intro e; have := HVL.out q hq ab e; omega)
     clear hVB hRB; go_wp2_with fail
     obtain ⟨vaB,vcB,hvB⟩ := Z04 (HZA.out.adj.row q hq); have HVVB := hid hvB; have HYB := hid (HZA.out.later (((Below.refl wb.heap.size wb).drew).alloc (Nat.le_refl _) (.cells #[.int .i64 (k : Int),.int .i64 (p : Int),.bool true] 140))); have cB := HZA.out.adj.out.cell hq; have dB := HYB.out.adj.out.cell hq; skip
     rw [hvB] at cB dB; have d2B : (wb.alloc (.cells #[.int .i64 (k : Int),.int .i64 (p : Int),.bool true] 140)).cell? ⟨Lb,q,none⟩ = some (.slice vaB (RB q).length vcB) := dB; obtain ⟨nlB,hnlB⟩ : ∃ m,(RB q).length = m := ⟨_,rfl⟩; have HNLB := hid hnlB; have hmlB : nlB ≤ 40000 := by rw [← hnlB,HRQ.out]; have := Z23 l q k; omega
     have HOB : Hid ((wb.drew.alloc (.cells #[.int .i64 (k : Int),.int .i64 (p : Int),.bool true] 140)).ownsRow (Lb + 1) 140 3 (.slice vaB nlB vcB) nlB (flatL (RB q))) := hid (by have := HYB.out.adj.row q hq; rw [hvB] at this; simp only [hnlB] at this; exact this)
     rw [hnlB] at cB dB d2B; have hvbB : (Value.slice vaB nlB vcB).ownBlock = (VB q).ownBlock := by rw [hvB,hnlB]
     have HABB : Hid ((Value.slice vaB nlB vcB).ownBlock ≠ some ab) := hid (by rw [hvbB]; exact HVQ.out)
     have HVBB := hid hvbB; have HDB := hid (show PipS ab p q wb.drew from HQ1.out)
     have HSZB : Hid (Lb + 1 ≤ (wb.drew.alloc (.cells #[.int .i64 (k : Int),.int .i64 (p : Int),.bool true] 140)).heap.size) := hid (by have := HYB.out.adj.out.lt; omega)
     clear hvB hnlB hvbB; refine wp_region_held_drew (S := PipS ab p q) (by kernel_rfl) HDB.out (fun hHeld => ?_)
     refine Z07 0 hHeld ?_; try go_frame
     refine Z07 1 hHeld ?_; try go_frame
     refine Z07 2 hHeld ?_; try go_frame
     refine Z07 3 hHeld ?_; try go_frame
     refine Z07 4 hHeld ?_; try go_frame
     refine Z07 5 hHeld ?_; try go_frame
     refine Z07 6 hHeld ?_; try go_frame
     refine Z07 8 hHeld ?_; try go_frame
     refine Z07 9 hHeld ?_; try go_frame
     refine Z07 10 hHeld ?_; try go_frame
     refine Z07 11 hHeld ?_; try go_frame
     refine wpAnyH_ready (rs := [7,12]) (by kernel_rfl) (by simp) ?_
     refine AllReadyH.cons rfl (fun K hK => ?_) (AllReadyH.cons rfl (fun K hK => ?_) AllReadyH.nil)
     ·go_simp
      refine hK.out _ _ ?_ (fun hHeld => ?_)
      ·exact hHeld
      clear hK K; try go_frame
      refine stpR 12 (fun K hK => ?_); go_simp; refine hK.out _ _ ?_ (fun hHeld => ?_)
      ·exact hHeld.mod ((Mod.refl (fun _ => False) _).alloc _) (fun h => h)
      clear hK K; try go_frame
      refine stpR 13 (fun K hK => ?_); refine Z01 rfl (.tmp 44) (.tmp 49) 170 rfl (Lb + 1) 140 i0 _ 3 24 Tryz.underlying170 hi hz0 hz1 hz2 (by decide) (.slice vaB nlB vcB) nlB (flatL (RB q)) rfl HOB.out ⟨wb.heap.size,0,none⟩ 1 (laneC (k,p,true)) rfl rfl (Z3o _ (k,p,true) _ _ rfl) (oneL _) (by unfold maxLen; omega) (by omega) HSZB.out ?_
      intro gB cpB w4B hown hgrow hfr; have x4 : PipS ab p q w4B := HDB.out.mod (((Mod.refl (fun k => (Value.slice vaB nlB vcB).ownBlock = some k) _).alloc _).grown hgrow (fun k hk => .inr hk)) HABB.out; rw [HVBB.out] at hgrow hfr; have hown2 := hown; rw [← HNLB.out] at hown2; obtain ⟨_,c4,f4⟩ := HYB.out.adj.push hq hown2 hgrow hfr; skip
      have HZB := hid (HYB.out.push hq hown2 hgrow hfr); skip
      clear hown hown2 hgrow hfr; refine hK.out _ _ ?_ (fun hHeld => ?_)
      ·exact x4
      clear hK K; try go_frame
      refine Z07 14 hHeld ?_; try go_frame
      refine stpR 15 (fun K hK => ?_); go_simp; refine hK.out _ _ ?_ (fun hHeld => ?_)
      ·exact x4.mod ((Mod.refl (fun b => b = Lb) _).setCell (p := ⟨Lb,q,none⟩) (.inr rfl) _) (fun h => by have h2 : ab = Lb := h; have := HLL.out; omega)
      clear hK K; try go_frame
      refine wpAnyH_done (by kernel_rfl) ?_ _
      rw [HNLB.out] at HZB; clear c4 f4 x4; clear hHeld; go_wp2_with fail
      go_roundw
      case rel => exact ⟨k + 1,_,by go_num,by omega,hid (HZB.out.congr (R2 := fun i => Z0t l i (k + 1)) (fun i _ => by rw [HXT.out]; exact Z48 HPQ.out HRB.out HRQ.out))⟩
      case measure => simp [intOf]; omega
     ·go_simp
      refine hK.out _ _ ?_ (fun hHeld => ?_)
      ·exact hHeld.mod ((Mod.refl (fun _ => False) _).alloc _) (fun h => h)
      clear hK K; try go_frame
      refine stpR 7 (fun K hK => ?_); go_simp; refine hK.out _ _ ?_ (fun hHeld => ?_)
      ·exact hHeld
      clear hK K; try go_frame
      refine stpR 13 (fun K hK => ?_); refine Z01 rfl (.tmp 44) (.tmp 49) 170 rfl (Lb + 1) 140 i0 _ 3 24 Tryz.underlying170 hi hz0 hz1 hz2 (by decide) (.slice vaB nlB vcB) nlB (flatL (RB q)) rfl HOB.out ⟨wb.heap.size,0,none⟩ 1 (laneC (k,p,true)) rfl rfl (Z3o _ (k,p,true) _ _ rfl) (oneL _) (by unfold maxLen; omega) (by omega) HSZB.out ?_
      intro gB cpB w4B hown hgrow hfr; have x4 : PipS ab p q w4B := HDB.out.mod (((Mod.refl (fun k => (Value.slice vaB nlB vcB).ownBlock = some k) _).alloc _).grown hgrow (fun k hk => .inr hk)) HABB.out; rw [HVBB.out] at hgrow hfr; have hown2 := hown; rw [← HNLB.out] at hown2; obtain ⟨_,c4,f4⟩ := HYB.out.adj.push hq hown2 hgrow hfr; skip
      have HZB := hid (HYB.out.push hq hown2 hgrow hfr); skip
      clear hown hown2 hgrow hfr; refine hK.out _ _ ?_ (fun hHeld => ?_)
      ·exact x4
      clear hK K; try go_frame
      refine Z07 14 hHeld ?_; try go_frame
      refine stpR 15 (fun K hK => ?_); go_simp; refine hK.out _ _ ?_ (fun hHeld => ?_)
      ·exact x4.mod ((Mod.refl (fun b => b = Lb) _).setCell (p := ⟨Lb,q,none⟩) (.inr rfl) _) (fun h => by have h2 : ab = Lb := h; have := HLL.out; omega)
      clear hK K; try go_frame
      refine wpAnyH_done (by kernel_rfl) ?_ _
      rw [HNLB.out] at HZB; clear c4 f4 x4; clear hHeld; go_wp2_with fail
      go_roundw
      case rel => exact ⟨k + 1,_,by go_num,by omega,hid (HZB.out.congr (R2 := fun i => Z0t l i (k + 1)) (fun i _ => by rw [HXT.out]; exact Z48 HPQ.out HRB.out HRQ.out))⟩
      case measure => simp [intOf]; omega
  ·have hk2 : k = l.length := by have := HLn.out; omega
   subst hk2; go_wp2_with fail
   go_ret
   exact ⟨_,V,rfl,HX.out.adj,HX.out.box.below⟩
end Go.Proofs.YtfkommjlmolniaaGreatDoor
end
section

namespace Go.Proofs.YtfkommjlmolniaaGreatDoor
set_option maxHeartbeats 16000000
set_option maxRecDepth 100000
open Go.Lib (hid)
open Go.RowKit
variable {w wr w2 : World} {a : Option Addr} {len cap lb p N s t k v : Nat} {l : List Pi} {far : Nat → Int} {L : Nat → List La} {V : Nat → Value} {x5 x6 x7 x8 x9 x10 x11 : Value}
theorem Lanes.mono2 {B B2 : Nat} (h : Lanes B w lb N V L) (hb : B ≤ B2) : Lanes B2 w lb N V L := by
 refine ⟨Nat.lt_of_lt_of_le h.lt hb,h.out,fun i hi => ?_⟩; obtain ⟨a,c,e,h2⟩ := h.row i hi; refine ⟨a,c,e,h2.1,?_⟩; rcases h2.2 with h3 | ⟨b,off,e2,h3,h4⟩
 ·exact .inl h3
 ·exact .inr ⟨b,off,e2,by omega,h4⟩
def opH (l : List Pi) (a : La) : Bool := a.2.2 && decide (0 < room l a.1)
abbrev wsV (N s t lb len cap : Nat) (a : Option Addr) (x5 x6 x7 x8 x9 x10 x11 : Value) : Array Value := #[.int .i64 (N : Int),.slice a len cap,.int .i64 (s : Int),.int .i64 (t : Int),.slice (some ⟨lb,0,none⟩) N N,x5,x6,x7,x8,x9,x10,x11]
structure HiW (w0 wr : World) (p g : Nat) (ws : Array Value) : Prop where
 below : Below w0.heap.size w0 wr
 blk : wr.heap[p]? = some (.cells ws 137 (0,0))
 box : wr.heap[g]? = some (.cells #[.pointer (some ⟨p,0,none⟩)] 129 (0,0))
theorem HiW.later {w0 : World} {g : Nat} {ws : Array Value} (h : HiW w0 wr p g ws) (hb : Below wr.heap.size wr w2) : HiW w0 w2 p g ws :=
 ⟨h.below.trans (hb.mono h.below.size),(hb.block p (Array.getElem?_eq_some_iff.1 h.blk).1).trans h.blk,(hb.block g (Array.getElem?_eq_some_iff.1 h.box).1).trans h.box⟩
theorem HiW.cells {w0 : World} {g : Nat} (h : HiW w0 wr p g (wsV N s t lb len cap a x5 x6 x7 x8 x9 x10 x11)) : wr.cell? ⟨p,0,none⟩ = some (.int .i64 (N : Int)) ∧ wr.cell? ⟨p,1,none⟩ = some (.slice a len cap) ∧ wr.cell? ⟨p,2,none⟩ = some (.int .i64 (s : Int)) ∧ wr.cell? ⟨p,3,none⟩ = some (.int .i64 (t : Int)) ∧ wr.cell? ⟨p,4,none⟩ = some (.slice (some ⟨lb,0,none⟩) N N) ∧ wr.cell? ⟨g,0,none⟩ = some (.pointer (some ⟨p,0,none⟩)) := by
 have h1 := h.blk; have h2 := h.box; unfold wsV at h1; simp [World.cell?,h1,h2]
theorem HiW.set_ {w0 : World} {g G i : Nat} {ws : Array Value} {z : Value} (h : HiW w0 wr p g ws) (h1 : p ≠ G) (h2 : g ≠ G) (h3 : w0.heap.size ≤ G) : HiW w0 (wr.setCell ⟨G,i,none⟩ z) p g ws :=
 ⟨h.below.setCell h3 _,(heap_setCell_other _ _ _ _ h1).trans h.blk,(heap_setCell_other _ _ _ _ h2).trans h.box⟩
theorem HiW.three {w0 : World} {g : Nat} (h : HiW w0 wr p g (wsV N s t lb len cap a x5 x6 x7 x8 x9 x10 x11)) : wr.cell? ⟨p,3,none⟩ = some (.int .i64 (t : Int)) ∧ wr.cell? ⟨p,4,none⟩ = some (.slice (some ⟨lb,0,none⟩) N N) ∧ wr.cell? ⟨g,0,none⟩ = some (.pointer (some ⟨p,0,none⟩)) := h.cells.2.2.2
theorem Zji {w0 : World} {g : Nat} (h : HiW w0 wr p g (wsV N s t lb len cap a x5 x6 x7 x8 x9 x10 x11)) (hl : IsPipes w0.heap.size w0 a len l) (k v : Nat) (bk : Bool) (hk : k < len) :
  Calls Tryz.prog 130 #[.agg #[.int .i64 (k : Int),.int .i64 (v : Int),.bool bk],.pointer (some ⟨g,0,none⟩)] wr fun e w' => e = .returned (.bool (opH l (k,v,bk))) ∧ Below wr.heap.size wr w' := by
 have HB := hid ((Below.refl wr.heap.size wr).alloc (Nat.le_refl _) (.cells #[.int .i64 (k : Int),.int .i64 (v : Int),.bool bk] 140)); have H1 := h.later HB.out; obtain ⟨c0,c1,c2,c3,c4,c5⟩ := H1.cells; obtain ⟨pb,off,x,ha,_,hxx,e0,e1,e2,e3⟩ := (hl.later H1.below).at_ hk; subst ha; have HO : Hid (opH l (k,v,bk) = (bk && decide (0 < x.2.2.1))) := hid (by simp [opH,Z3f hxx])
 generalize opH l (k,v,bk) = ov at HO ⊢; have hkl : (k : Int) < (len : Int) := by omega
 clear h H1 hl hxx; cases bk with
 | true =>
  by_cases h0 : 0 < x.2.2.1
  ·have HV : Hid (ov = true) := hid (by rw [HO.out]; simp [h0])
   have d0 : decide (0 < x.2.2.1) = true := by simp [h0]
   clear HO; go_enter Tryz.func130,Tryz.ntmps130
   go_wp2_with fail
   go_quiet (fail)
   go_wp2_with fail
   go_ret
   exact ⟨by rw [HV.out]; simp ,Z03 HB.out _⟩
  ·have HV : Hid (ov = false) := hid (by rw [HO.out]; simp [h0])
   have d0 : decide (0 < x.2.2.1) = false := by simpa using h0
   clear HO; go_enter Tryz.func130,Tryz.ntmps130
   go_wp2_with fail
   go_quiet (fail)
   go_wp2_with fail
   go_ret
   exact ⟨by rw [HV.out]; simp ,Z03 HB.out _⟩
 | false =>
  have HV : Hid (ov = false) := hid (by rw [HO.out]; simp)
  clear HO; go_enter Tryz.func130,Tryz.ntmps130
  go_wp2_with fail
  go_quiet (fail)
  go_wp2_with fail
  go_ret
  exact ⟨by rw [HV.out]; rfl,Z03 HB.out _⟩
theorem Zlz {w0 : World} {g : Nat} (h : HiW w0 wr p g (wsV N s t lb len cap a x5 x6 x7 x8 x9 x10 x11)) (hl : IsPipes w0.heap.size w0 a len l) (k v : Nat) (bk : Bool) (hk : k < len) :
  Calls Tryz.prog 130 (#[.agg #[.int .i64 (k : Int),.int .i64 (v : Int),.bool bk]] ++ #[.pointer (some ⟨g,0,none⟩)]) wr fun e w' => e = .returned (.bool (opH l (k,v,bk))) ∧ Below wr.heap.size wr w' := by
 have e : (#[.agg #[.int .i64 (k : Int),.int .i64 (v : Int),.bool bk]] ++ #[.pointer (some ⟨g,0,none⟩)] : Array Value) = #[.agg #[.int .i64 (k : Int),.int .i64 (v : Int),.bool bk],.pointer (some ⟨g,0,none⟩)] := rfl; rw [e]; exact Zji h hl k v bk hk
def hi0 (N s : Nat) (far : Nat → Int) (i : Nat) : Nat := if i = s then N else if far i < 0 then N + 1 else (far i).toNat
theorem Zcj (w : World) (hblk : w.heap[p]? = some (.cells (wsV N s t lb len cap a x5 x6 x7 x8 x9 x10 x11) 137 (0,0))) (hN1 : 1 ≤ N) (hN : N ≤ 1000) (hs : s < N) (ht : t < N) (hl : IsPipes w.heap.size w a len l) (hL : Lanes w.heap.size w lb N V L) (hlo : LanesOk l N L) (hLn : ∀ i,(L i).length ≤ 40000) :
  Calls Tryz.prog 109 #[.pointer (some ⟨p,0,none⟩)] w fun e w' => ∃ G far,e = .returned (.slice (some ⟨G,0,none⟩) N N) ∧ w'.rowIs G 3 N (fun i => .int .i64 (hi0 N s far i : Int)) ∧ w.heap.size ≤ G ∧ Below w.heap.size w w' ∧ FarOk L (opH l) N t far := by
 have hmf : ∀ (fn : Fn) (first cap : Array Value) (w : World),(Instr.makeFunc fn first cap).run Tryz.prog w = .ok (.func fn first cap) w := fun _ _ _ _ => rfl
 have hHF : ∀ (args : Array Value) (W : World),(callFunc 130 args).run Tryz.prog W = .ok (.enter 130 args) W := enters_of Tryz.func130 (by kernel_rfl) rfl
 have HHF := hid hHF; have HW : Hid (HiW w (w.alloc (.cells #[.pointer (some ⟨p,0,none⟩)] 129)) p w.heap.size (wsV N s t lb len cap a x5 x6 x7 x8 x9 x10 x11)) := hid ⟨(Below.refl _ w).alloc (Nat.le_refl _) _,(Below.heap_alloc _ _ _ (Array.getElem?_eq_some_iff.1 hblk).1).trans hblk,heap_alloc_new _ _⟩; have HL := hid hl; have HLL := hid hL; have HLO := hid hlo; have HLN := hid hLn; have HLT : Hid (∀ u,u < N → ∀ a ∈ L u,a.2.1 < N) := hid (fun u hu a ha => by obtain ⟨_,_,_,h,_⟩ := hlo.sound u hu a ha; exact h)
 have HOP : Hid (∀ w5,HiW w w5 p w.heap.size (wsV N s t lb len cap a x5 x6 x7 x8 x9 x10 x11) → ∀ W,Below w5.heap.size w5 W → ∀ u,u < N → ∀ k v bk,(k,v,bk) ∈ L u → Calls Tryz.prog 130 (#[.agg #[.int .i64 (k : Int),.int .i64 (v : Int),.bool bk]] ++ #[.pointer (some ⟨w.heap.size,0,none⟩)]) W fun e w' => e = .returned (.bool (opH l (k,v,bk))) ∧ Below W.heap.size W w') :=
  hid (fun w5 h5 W hW u hu k v bk hm => Zlz (h5.later hW) HL.out k v bk (by
   obtain ⟨x,hx,_⟩ := HLO.out.sound u hu _ hm; have h1 := (List.getElem?_eq_some_iff.1 hx).1; have := HL.out.1; simp only at h1
   omega))
 obtain ⟨c0,c1,c2,c3,c4,c5⟩ := HW.out.cells; have HPL : Hid (p < w.heap.size) := hid (Array.getElem?_eq_some_iff.1 hblk).1; clear hHF hblk hl hL hlo hLn; have HWd := hid (HW.out.later (Below.refl _ _).drew); have HST := hid (Za3 N t hN1 hN ht _ ((HLL.out.later HWd.out.below).mono2 HWd.out.below.size) HLN.out HLT.out (opH l) 130 #[.pointer (some ⟨w.heap.size,0,none⟩)] HHF.out (HOP.out _ HWd.out)); have HT3 := HWd.out.three; go_enter Tryz.func109,Tryz.ntmps109
 go_wp2_with fail
 refine wp_region_held_drew (S := fun W => W.cell? ⟨p,3,none⟩ = some (.int .i64 (t : Int)) ∧ W.cell? ⟨p,4,none⟩ = some (.slice (some ⟨lb,0,none⟩) N N) ∧ W.cell? ⟨w.heap.size,0,none⟩ = some (.pointer (some ⟨p,0,none⟩))) (by kernel_rfl) HT3 (fun hHeld => ?_)
 refine stpT 0 hHeld ?_ (y := fun W0 hW => by obtain ⟨hW1,hW2,hW3⟩ := hW; go_simp; (try with_reducible rfl))
 try go_frame
 refine stpT 1 hHeld ?_ (y := fun W0 hW => by obtain ⟨hW1,hW2,hW3⟩ := hW; go_simp; (try with_reducible rfl))
 try go_frame
 refine stpT 2 hHeld ?_ (y := fun W0 hW => by obtain ⟨hW1,hW2,hW3⟩ := hW; go_simp; (try with_reducible rfl))
 try go_frame
 refine stpT 3 hHeld ?_ (y := fun W0 hW => by obtain ⟨hW1,hW2,hW3⟩ := hW; go_simp; (try with_reducible rfl))
 try go_frame
 refine stpT 4 hHeld ?_ (y := fun W0 hW => by obtain ⟨hW1,hW2,hW3⟩ := hW; go_simp; (try with_reducible rfl))
 try go_frame
 refine stpT 5 hHeld ?_ (y := fun W0 hW => by obtain ⟨hW1,hW2,hW3⟩ := hW; go_simp; (try with_reducible rfl))
 try go_frame
 refine stpT 6 hHeld ?_ (y := fun W0 hW => by obtain ⟨hW1,hW2,hW3⟩ := hW; go_simp; (try with_reducible rfl))
 try go_frame
 refine stpT 7 hHeld ?_ (y := fun W0 hW => by obtain ⟨hW1,hW2,hW3⟩ := hW; go_simp; (try with_reducible rfl))
 try go_frame
 refine stpT 8 hHeld ?_ (y := fun W0 hW => by obtain ⟨hW1,hW2,hW3⟩ := hW; go_simp; (try with_reducible rfl))
 try go_frame
 refine stpR 9 (fun K hK => ?_); go_simp; refine HST.out.mono ?_; rintro e w6 ⟨G,far,rfl,hrow,hge,hb6,hfar⟩; have HRW := hid hrow; have HFR := hid hfar; have HW6 := hid (HWd.out.later hb6); have HGE := hid hge; clear hrow hge hb6 hfar; go_wp2_with fail; refine hK.out _ _ ?_ (fun hHeld => ?_)
 ·exact HW6.out.three
 clear hK K; try go_frame
 refine stpT 10 hHeld ?_ (y := fun W0 hW => by go_simp; (try with_reducible rfl))
 try go_frame
 refine wpAnyH_done (by kernel_rfl) ?_ _
 clear hHeld; have HPG : Hid (p < w.heap.size ∧ w.heap.size < G) := hid ⟨HPL.out,by have h := HGE.out; simp at h; omega⟩
 have hNw : IntKind.i64.wrap ((N : Int) + 1) = (N : Int) + 1 := by rw [IntKind.wrap_i64]; omega
 clear HST HT3 HWd c0 c1 c2 c3 c4 c5; go_wp2_with fail
 go_loopw [18] (fun i wr => ∃ k : Nat,i = .int .i64 k ∧ k ≤ N ∧ Hid (HiW w wr p w.heap.size (wsV N s t lb len cap a x5 x6 x7 x8 x9 x10 x11) ∧ wr.rowIs G 3 N (fun i => .int .i64 (if i < k ∧ far i < 0 then (N : Int) + 1 else far i)))) (fun i _ => N - (intOf i).toNat)
 case atStart => exact ⟨0,rfl,Nat.zero_le _,hid ⟨HW6.out,HRW.out.congr (fun i _ => by rw [if_neg (by omega)])⟩⟩
 case round =>
  obtain ⟨k,rfl,hk,HR⟩ := hrel; by_cases hlt : k < N
  ·have r0 := HR.out.2.cell hlt
   have f0 := HR.out.2.frozen k; rw [if_neg (by omega)] at r0
   obtain ⟨c0,_,_,_,_,c5⟩ := HR.out.1.cells; obtain ⟨fk,hfk⟩ : ∃ z,far k = z := ⟨_,rfl⟩; have HFK := hid hfk; rw [hfk] at r0; clear hfk; by_cases h0 : fk < 0
   ·have HN : Hid (HiW w (wr.setCell ⟨G,k,none⟩ (.int .i64 ((N : Int) + 1))) p w.heap.size (wsV N s t lb len cap a x5 x6 x7 x8 x9 x10 x11) ∧ (wr.setCell ⟨G,k,none⟩ (.int .i64 ((N : Int) + 1))).rowIs G 3 N (fun i => .int .i64 (if i < k + 1 ∧ far i < 0 then (N : Int) + 1 else far i))) :=
     hid ⟨HR.out.1.set_ (by have := HPG.out; omega) (by have := HPG.out; omega) (by have := HPG.out; omega),(HR.out.2.set k _).congr (fun i _ => by
      by_cases e : i = k
      ·subst e; rw [if_pos rfl,if_pos (by have := HFK.out; omega)]
      ·rw [if_neg e]; congr 1
       by_cases e2 : i < k ∧ far i < 0
       ·rw [if_pos e2,if_pos (by omega)]
       ·rw [if_neg e2,if_neg (by omega)])⟩
    go_wp2_with fail
    go_roundw
    case rel => exact ⟨k + 1,by go_num,by omega,HN⟩
    case measure => simp [intOf]; omega
   ·have HN : Hid (HiW w wr p w.heap.size (wsV N s t lb len cap a x5 x6 x7 x8 x9 x10 x11) ∧ wr.rowIs G 3 N (fun i => .int .i64 (if i < k + 1 ∧ far i < 0 then (N : Int) + 1 else far i))) :=
     hid ⟨HR.out.1,HR.out.2.congr (fun i _ => by
      congr 1
      by_cases e2 : i < k ∧ far i < 0
      ·rw [if_pos e2,if_pos (by omega)]
      ·rw [if_neg e2,if_neg (fun h => by
        by_cases e : i = k
        ·subst e; have := HFK.out; omega
        ·omega)])⟩
    go_wp2_with fail
    go_roundw
    case rel => exact ⟨k + 1,by go_num,by omega,HN⟩
    case measure => simp [intOf]; omega
  ·obtain rfl : k = N := by omega
   obtain ⟨c0,_,c2,_,_,c5⟩ := HR.out.1.cells; have f0 := HR.out.2.frozen s; have r0 := HR.out.2.cell hs; have HZ := hid ((HR.out.2.set s (.int .i64 (k : Int))).drew.congr (g := fun i => .int .i64 (hi0 k s far i : Int)) (fun i hi => by
    unfold hi0; by_cases e : i = s
    ·rw [if_pos e,if_pos e]
    ·rw [if_neg e,if_neg e]
     congr 1
     by_cases e2 : far i < 0
     ·rw [if_pos ⟨hi,e2⟩,if_pos e2]; omega
     ·rw [if_neg (fun h => e2 h.2),if_neg e2]; omega))
   have HBZ := hid ((HR.out.1.below.setCell (p := ⟨G,s,none⟩) (by have := HPG.out; show w.heap.size ≤ G; omega) (.int .i64 (k : Int))).drew)
   go_wp2_with fail
   go_region
   go_wp2_with fail
   go_ret
   exact ⟨G,far,rfl,HZ.out,by have := HPG.out; omega,HBZ.out,HFR.out⟩
end Go.Proofs.YtfkommjlmolniaaGreatDoor
end

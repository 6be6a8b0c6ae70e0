/- Joined: BViewed. -/
import Derived.Test.YtfkommjlmolniaaGreatDoorHsBCnt
import Derived.Test.YtfkommjlmolniaaGreatDoorHd16
import Derived.Deep.CutRange
import Derived.Deep.RegionHeld3
import Derived.Maps.RangeWalk
import Derived.Test.YtfkommjlmolniaaGreatDoorHd6
set_option linter.unusedVariables false
section

namespace Go.Proofs.YtfkommjlmolniaaGreatDoor
set_option maxHeartbeats 16000000
set_option maxRecDepth 100000
open Go.Lib (hid)
open Go.RowKit
variable {w wr w2 : World} {A : InA} {x : Ins} {V : VA} {y : Vw} {B g gr gv gc c s z t k C n N : Nat} {D : Nat → Int} {zs : List Nat} {ma : Option Addr} {mc : Nat} {T : TypeId}
theorem joinV {p : Prop} {F G : World → Nat → Nat → List Nat → Option Addr → Nat → Prop} (h1 : (∀ v a b z c d,F v a b z c d → G v a b z c d) → p) (h2 : ∀ v a b z c d,F v a b z c d → G v a b z c d) : p := h1 h2
theorem Zgy : (Tryz.prog.info? 3).map (fun i => (i.zero,i.size,i.bytes)) = some (some (.int .i64 0),1,8) := by kernel_rfl
theorem Zk1 (n : Nat) (h : n ≤ 1000) (W : World) : (Instr.makeSlice 37 (.int .i64 (n : Int)) (.int .i64 (n : Int))).run Tryz.prog W = .ok (.slice (some ⟨W.heap.size,0,none⟩) n n) (W.alloc (.cells (madeCells #[.int .i64 0] n) 3)) :=
 run_make_row' 37 3 (.int .i64 0) 8 Tryz.underlying37 Zgy rfl .i64 .i64 n (by omega) (by omega) W
abbrev zeroV : Array Value := #[.int .i64 0,.int .i64 0,.int .i64 0,.int .i64 0,.int .i64 0,.slice none 0 0,.slice none 0 0,.slice none 0 0,.slice none 0 0,.slice none 0 0,.slice none 0 0]
abbrev vwA (A : InA) (x : Ins) (ma : Option Addr) (ml mc gc N : Nat) : Array Value := #[.int .i64 x.en,.int .i64 x.tm,.int .i64 x.tr,.int .i64 x.bm,.int .i64 x.br,.slice A.sa x.sats.length A.sc,.slice A.ca x.cus.length A.cc,.slice A.ka x.cost.length A.kc,.slice A.ta x.time.length A.tc,.slice ma ml mc,.slice (some ⟨gc,0,none⟩) N N]
def cntL (D : Nat → Int) (N : Nat) : List Int := (List.range N).map D
theorem Z2s : (cntL D N).length = N := by simp [cntL]
theorem Zcx (h : s < N) : (cntL D N)[s]? = some (D s) := by simp [cntL,h]
theorem Zm7 : vwA A x ma zs.length mc gc N = viewC ⟨A,ma,mc,some ⟨gc,0,none⟩,N⟩ ⟨x,zs,cntL D N⟩ := by
 unfold vwA viewC; simp only [Z2s]
theorem Z9n (h : w.rowIs g T N (fun i => .int .i64 (D i))) : IsNums w.heap.size w (some ⟨g,0,none⟩) N (cntL D N) :=
 ⟨Z2s,.inr ⟨g,0,rfl,h.lt,fun j v hj => by
  have hl : j < N := by have := (List.getElem?_eq_some_iff.1 hj).1; rwa [Z2s] at this
  rw [Zcx hl] at hj; injection hj with hj
  rw [Nat.zero_add,← hj]; exact h.cell hl⟩⟩
theorem IsSets.ne {a : Option Addr} {len : Nat} {b off : Nat} {cs : Array Value} {fr : Nat × Nat} (h : IsSets B w a len zs) (h0 : 0 < len) (e : a = some ⟨b,off,none⟩) (hg : w.heap[g]? = some (.cells cs T fr)) (hno : ∀ (i : Nat) (z : Int),cs[i]? ≠ some (.int .u64 z)) : b ≠ g := fun hbg => by
 obtain ⟨b2,off2,z,e2,_,_,hc⟩ := h.at_ h0; rw [e] at e2; injection e2 with e2
 injection e2 with e3 e4
 subst e3; subst hbg; rw [World.cell?] at hc; simp only [hg] at hc
 exact hno _ _ (by simpa using hc)
theorem IsSets.kept {S : Nat → Prop} {a : Option Addr} {len : Nat} (h : IsSets w.heap.size w a len zs) (hm : Mod S w w2) (hs : ∀ b off,a = some ⟨b,off,none⟩ → 0 < len → ¬ S b) : IsSets w2.heap.size w2 a len zs := ⟨h.1,h.2.1,by
 rcases h.2.2 with h0 | ⟨b,off,e,h1,h2⟩
 ·exact .inl h0
 ·rcases Nat.eq_zero_or_pos len with h0 | h0
  ·exact .inl h0
  ·exact .inr ⟨b,off,e,Nat.lt_of_lt_of_le h1 hm.size,fun j z hz => (hm.cell (p := ⟨b,off + j,none⟩) h1 (hs b off e h0)).trans (h2 j z hz)⟩⟩
theorem Zgz (h : w.rowIs g T N (fun i => .int .i64 (D i))) : ∃ cs fr,w.heap[g]? = some (.cells cs T fr) ∧ ∀ (i : Nat) (z : Int),cs[i]? ≠ some (.int .u64 z) := by
 obtain ⟨cs,h1,h2,h3⟩ := h; refine ⟨cs,_,h1,fun i z hi => ?_⟩; have hl : i < N := by rw [← h2]; exact (Array.getElem?_eq_some_iff.1 hi).1
 rw [h3 i hl] at hi; injection hi with hi
 cases hi
theorem Z73 : ∀ (i : Nat) (z : Int),(zeroV)[i]? ≠ some (.int .u64 z) := by
 intro i z; match i with
 | 0 | 1 | 2 | 3 | 4 | 5 | 6 | 7 | 8 | 9 | 10 => simp
 | k + 11 => simp
def st11 (w : World) (g : Nat) (a0 a1 a2 a3 a4 a5 a6 a7 a8 a9 a10 : Value) : World := ((((((((((w.setCell ⟨g,0,none⟩ a0).setCell ⟨g,1,none⟩ a1).setCell ⟨g,2,none⟩ a2).setCell ⟨g,3,none⟩ a3).setCell ⟨g,4,none⟩ a4).setCell ⟨g,5,none⟩ a5).setCell ⟨g,6,none⟩ a6).setCell ⟨g,7,none⟩ a7).setCell ⟨g,8,none⟩ a8).setCell ⟨g,9,none⟩ a9).setCell ⟨g,10,none⟩ a10
theorem Z4o {b0 b1 b2 b3 b4 b5 b6 b7 b8 b9 b10 : Value} (a0 a1 a2 a3 a4 a5 a6 a7 a8 a9 a10 : Value) (h : w.heap[g]? = some (.cells #[b0,b1,b2,b3,b4,b5,b6,b7,b8,b9,b10] T (0,0))) :
  (st11 w g a0 a1 a2 a3 a4 a5 a6 a7 a8 a9 a10).heap[g]? = some (.cells #[a0,a1,a2,a3,a4,a5,a6,a7,a8,a9,a10] T (0,0)) := by
 unfold st11; have h0 := heap_setCell_same w g 0 _ _ a0 h; have h1 := heap_setCell_same _ g 1 _ _ a1 h0; have h2 := heap_setCell_same _ g 2 _ _ a2 h1; have h3 := heap_setCell_same _ g 3 _ _ a3 h2; have h4 := heap_setCell_same _ g 4 _ _ a4 h3; have h5 := heap_setCell_same _ g 5 _ _ a5 h4; have h6 := heap_setCell_same _ g 6 _ _ a6 h5; have h7 := heap_setCell_same _ g 7 _ _ a7 h6; have h8 := heap_setCell_same _ g 8 _ _ a8 h7; have h9 := heap_setCell_same _ g 9 _ _ a9 h8; have h10 := heap_setCell_same _ g 10 _ _ a10 h9; simp only [List.setIfInBounds_toArray,List.set_cons_zero,List.set_cons_succ] at h10
 exact h10
theorem Z5h (w : World) (g : Nat) (a0 a1 a2 a3 a4 a5 a6 a7 a8 a9 a10 : Value) : Mod (fun b => b = g) w (st11 w g a0 a1 a2 a3 a4 a5 a6 a7 a8 a9 a10) := by
 unfold st11; exact ((((((((((((Mod.refl (fun b => b = g) w).setCell (p := ⟨g,0,none⟩) (.inr rfl) _).setCell (p := ⟨g,1,none⟩) (.inr rfl) _).setCell (p := ⟨g,2,none⟩) (.inr rfl) _).setCell (p := ⟨g,3,none⟩) (.inr rfl) _).setCell (p := ⟨g,4,none⟩) (.inr rfl) _).setCell (p := ⟨g,5,none⟩) (.inr rfl) _).setCell (p := ⟨g,6,none⟩) (.inr rfl) _).setCell (p := ⟨g,7,none⟩) (.inr rfl) _).setCell (p := ⟨g,8,none⟩) (.inr rfl) _).setCell (p := ⟨g,9,none⟩) (.inr rfl) _).setCell (p := ⟨g,10,none⟩) (.inr rfl) _)
structure VMade (w wr : World) (gr gv gc N : Nat) (A : InA) (x : Ins) (ma : Option Addr) (mc : Nat) (zs : List Nat) (D : Nat → Int) : Prop where
 below : Below w.heap.size w wr
 res : wr.heap[gr]? = some (.cells zeroV 65 (0,0))
 box : wr.heap[gv]? = some (.cells (vwA A x ma zs.length mc gc N) 65 (0,0))
 row : wr.rowIs gc 3 N (fun i => .int .i64 (D i))
 mays : IsSets wr.heap.size wr ma zs.length zs
 ger : w.heap.size ≤ gr
 gev : w.heap.size ≤ gv
 gec : w.heap.size ≤ gc
 ne1 : gv ≠ gc
 ne2 : gr ≠ gc
 ne3 : gr ≠ gv
theorem VMade.later (h : VMade w wr gr gv gc N A x ma mc zs D) (hb : Below wr.heap.size wr w2) : VMade w w2 gr gv gc N A x ma mc zs D :=
 ⟨h.below.trans (hb.mono h.below.size),(hb.block gr (Array.getElem?_eq_some_iff.1 h.res).1).trans h.res,(hb.block gv (Array.getElem?_eq_some_iff.1 h.box).1).trans h.box,h.row.of_block (hb.block gc h.row.lt),(h.mays.later hb).mono hb.size,h.ger,h.gev,h.gec,h.ne1,h.ne2,h.ne3⟩
theorem VMade.put (h : VMade w wr gr gv gc N A x ma mc zs D) (s : Nat) (v : Int) : VMade w (wr.setCell ⟨gc,s,none⟩ (.int .i64 v)) gr gv gc N A x ma mc zs (fun j => if j = s then v else D j) := by
 have hm : Mod (fun b => b = gc) wr (wr.setCell ⟨gc,s,none⟩ (.int .i64 v)) := (Mod.refl (fun b => b = gc) wr).setCell (p := ⟨gc,s,none⟩) (.inr rfl) _; obtain ⟨cs,fr,hcs,hno⟩ := Zgz h.row; refine ⟨h.below.setCell (p := ⟨gc,s,none⟩) h.gec _,(hm.block gr (Array.getElem?_eq_some_iff.1 h.res).1 h.ne2).trans h.res,(hm.block gv (Array.getElem?_eq_some_iff.1 h.box).1 h.ne1).trans h.box,?_,h.mays.kept hm (fun b off e h0 => h.mays.ne h0 e hcs hno),h.ger,h.gev,h.gec,h.ne1,h.ne2,h.ne3⟩; refine (h.row.set s (.int .i64 v)).congr fun i _ => ?_; by_cases e : i = s <;> simp [e]
theorem VMade.view (h : VMade w wr gr gv gc N A x ma mc zs D) (hi : IsIns w.heap.size w A x) : IsView wr.heap.size wr ⟨A,ma,mc,some ⟨gc,0,none⟩,N⟩ ⟨x,zs,cntL D N⟩ :=
 ⟨(hi.later h.below).mono h.below.size,h.mays,by rw [Z2s]; exact Z9n h.row⟩
theorem VMade.cells (h : VMade w wr gr gv gc N A x ma mc zs D) : wr.cell? ⟨gv,0,none⟩ = some (.int .i64 x.en) ∧ wr.cell? ⟨gv,1,none⟩ = some (.int .i64 x.tm) ∧ wr.cell? ⟨gv,2,none⟩ = some (.int .i64 x.tr) ∧ wr.cell? ⟨gv,3,none⟩ = some (.int .i64 x.bm) ∧ wr.cell? ⟨gv,4,none⟩ = some (.int .i64 x.br) ∧
  wr.cell? ⟨gv,5,none⟩ = some (.slice A.sa x.sats.length A.sc) ∧ wr.cell? ⟨gv,6,none⟩ = some (.slice A.ca x.cus.length A.cc) ∧ wr.cell? ⟨gv,7,none⟩ = some (.slice A.ka x.cost.length A.kc) ∧ wr.cell? ⟨gv,8,none⟩ = some (.slice A.ta x.time.length A.tc) ∧
  wr.cell? ⟨gv,9,none⟩ = some (.slice ma zs.length mc) ∧ wr.cell? ⟨gv,10,none⟩ = some (.slice (some ⟨gc,0,none⟩) N N) := by
 have hb := h.box; simp [World.cell?,hb]
theorem Z0v {cs : Array Value} (h : w.heap[g]? = some (.cells cs T (0,0))) (k : Nat) : w.frozen? ⟨g,k,none⟩ = false := by simp [World.frozen?,h]
theorem Z8a (hs : Z7u x zs) (hb : ∀ u ∈ zs,u < 18446744073709551616) (hC : x.cus.length ≤ 64) : (∀ z,z ∈ zs → ∀ c,x.cus.length ≤ c → z.testBit c = false) ∧ ∀ cs,∃ p,MayOf x p ∧ ∀ s c,s < x.sats.length → c < x.cus.length → p s c = (Vw.mk x zs cs).p s c := by
 obtain ⟨h1,p,h2,h3⟩ := hs; refine ⟨fun z hz c hc => ?_,fun cs => ⟨p,h2,fun s c hs hc => ?_⟩⟩
 ·rcases Nat.lt_or_ge c 64 with h | h
  ·obtain ⟨s,hs⟩ := List.getElem?_of_mem hz
   rw [h3 s z hs c h,decide_eq_false (by omega),Bool.false_and]
  ·exact Z5i (hb z hz) c h
 ·have hsz : s < zs.length := by omega
  unfold Vw.p; rw [List.getD,List.getElem?_eq_getElem hsz,Option.getD_some,h3 s _ (List.getElem?_eq_getElem hsz) c (by omega),decide_eq_true hc,Bool.true_and]
structure ViewOk (w w' : World) (A : InA) (x : Ins) (V : VA) (y : Vw) : Prop where
 eA : V.A = A
 ex : y.x = x
 ok : y.Ok
 view : IsView w'.heap.size w' V y
 small : ∀ u ∈ y.zs,u < 18446744073709551616
 mayp : ∃ p,MayOf x p ∧ ∀ s c,s < x.sats.length → c < x.cus.length → p s c = y.p s c
 cnt : CountsOf x y.p y.cs
 below : Below w.heap.size w w'
theorem Z2m {a0 a1 a2 a3 a4 a5 a6 a7 a8 a9 a10 : Value} (h : w.heap[g]? = some (.cells #[a0,a1,a2,a3,a4,a5,a6,a7,a8,a9,a10] T (0,0))) : w.cell? ⟨g,0,none⟩ = some a0 ∧ w.cell? ⟨g,1,none⟩ = some a1 ∧ w.cell? ⟨g,2,none⟩ = some a2 ∧ w.cell? ⟨g,3,none⟩ = some a3 ∧ w.cell? ⟨g,4,none⟩ = some a4 ∧ w.cell? ⟨g,5,none⟩ = some a5 ∧ w.cell? ⟨g,6,none⟩ = some a6 ∧ w.cell? ⟨g,7,none⟩ = some a7 ∧ w.cell? ⟨g,8,none⟩ = some a8 ∧ w.cell? ⟨g,9,none⟩ = some a9 ∧ w.cell? ⟨g,10,none⟩ = some a10 := by
 simp [World.cell?,h]
theorem Z5u (A : InA) (x : Ins) (w : World) (hi : IsIns w.heap.size w A x) (hl3 : x.cost.length ≤ 9223372036854775807) (hl4 : x.time.length ≤ 9223372036854775807) (hn : Z0m x ≠ 0) :
  Calls Tryz.prog 20 #[.agg (insC A x)] w fun e w' => e = .returned (.tuple #[.agg zeroV,.bool false]) ∧ Below w.heap.size w w' := by
 have hz1 : (w.alloc (.cells (insC A x) 34)).heap.size = w.heap.size + 1 := by simp
 have hR := heap_alloc_new (w.alloc (.cells (insC A x) 34)) (.cells zeroV 65); rw [hz1] at hR; have hX := (XBox.make (Below.refl _ w) A x).later (Z0g (w.alloc (.cells (insC A x) 34)) (.cells zeroV 65)); obtain ⟨W0,hW0⟩ : ∃ W9,(w.alloc (.cells (insC A x) 34)).alloc (.cells zeroV 65) = W9 := ⟨_,rfl⟩; rw [hW0] at hR hX; have HW0 := hid hW0; have HR := hid hR; have HX := hid hX; have HI := hid hi; have HL3 := hid hl3; have HL4 := hid hl4; obtain ⟨er,her⟩ : ∃ er,Z0m x = er := ⟨_,rfl⟩; rw [her] at hn; have hne : (er != 0) = true := by simpa using hn
 clear hi hl3 hl4 hz1 hW0 hR hX; unfold insC at *; go_enter Tryz.func20,Tryz.ntmps20
 go_wp2_with fail
 rw [HW0.out]; obtain ⟨c0,c1,c2,c3,c4,c5,c6,c7,c8⟩ := HX.out.cells; clear HW0; go_wp2_with (go_at_call 14; refine (Z1x A x _ (HX.out.pipesHere HI.out) HL3.out HL4.out).mono ?_; rw [her]; rintro e w7 ⟨rfl,hb7⟩; have HX7 := hid (HX.out.later hb7); have HR7 := hid ((hb7.block _ (Array.getElem?_eq_some_iff.1 HR.out).1).trans HR.out); clear hb7 c0 c1 c2 c3 c4 c5 c6 c7 c8; have f0 := Z0v HR7.out 0; have f1 := Z0v HR7.out 1; have f2 := Z0v HR7.out 2; have f3 := Z0v HR7.out 3; have f4 := Z0v HR7.out 4; have f5 := Z0v HR7.out 5; have f6 := Z0v HR7.out 6; have f7 := Z0v HR7.out 7; have f8 := Z0v HR7.out 8; have f9 := Z0v HR7.out 9; have f10 := Z0v HR7.out 10; obtain ⟨d0,d1,d2,d3,d4,d5,d6,d7,d8,d9,d10⟩ : w7.cell? ⟨w.heap.size + 1,0,none⟩ = some (.int .i64 0) ∧ w7.cell? ⟨w.heap.size + 1,1,none⟩ = some (.int .i64 0) ∧ w7.cell? ⟨w.heap.size + 1,2,none⟩ = some (.int .i64 0) ∧ w7.cell? ⟨w.heap.size + 1,3,none⟩ = some (.int .i64 0) ∧ w7.cell? ⟨w.heap.size + 1,4,none⟩ = some (.int .i64 0) ∧ w7.cell? ⟨w.heap.size + 1,5,none⟩ = some (.slice none 0 0) ∧ w7.cell? ⟨w.heap.size + 1,6,none⟩ = some (.slice none 0 0) ∧ w7.cell? ⟨w.heap.size + 1,7,none⟩ = some (.slice none 0 0) ∧ w7.cell? ⟨w.heap.size + 1,8,none⟩ = some (.slice none 0 0) ∧ w7.cell? ⟨w.heap.size + 1,9,none⟩ = some (.slice none 0 0) ∧ w7.cell? ⟨w.heap.size + 1,10,none⟩ = some (.slice none 0 0) := (by have hq := HR7.out; simp [World.cell?,hq]))
 have HM := hid (Z5h w7 (w.heap.size + 1) (.int .i64 0) (.int .i64 0) (.int .i64 0) (.int .i64 0) (.int .i64 0) (.slice none 0 0) (.slice none 0 0) (.slice none 0 0) (.slice none 0 0) (.slice none 0 0) (.slice none 0 0)); have HE := hid (Z2m (Z4o (.int .i64 0) (.int .i64 0) (.int .i64 0) (.int .i64 0) (.int .i64 0) (.slice none 0 0) (.slice none 0 0) (.slice none 0 0) (.slice none 0 0) (.slice none 0 0) (.slice none 0 0) HR7.out)); unfold st11 at HM HE; obtain ⟨e0,e1,e2,e3,e4,e5,e6,e7,e8,e9,e10⟩ := HE.out; refine bodyPost_ret (v := .tuple #[.agg zeroV,.bool false]) ?_ rfl ⟨rfl,((Mod.of_below (fun b => b = w.heap.size + 1) HX7.out.below).trans HM.out).below (Nat.le_refl _) (fun k hk => by omega)⟩
 simp [results,Tryz.results20,go_sem,e0,e1,e2,e3,e4,e5,e6,e7,e8,e9,e10]
theorem Zmr {v : World} (hb : Below w.heap.size w v) (hr : v.heap[gr]? = some (.cells zeroV 65 (0,0))) (hv : v.heap[gv]? = some (.cells zeroV 65 (0,0))) (hc : v.rowIs gc 3 N (fun _ => .int .i64 0)) (hz : IsSets v.heap.size v ma zs.length zs)
  (h1 : w.heap.size ≤ gr) (h2 : w.heap.size ≤ gv) (h3 : w.heap.size ≤ gc) (h4 : gv ≠ gc) (h5 : gr ≠ gc) (h6 : gr ≠ gv) (h0 : 0 < zs.length) :
  VMade w (st11 v gv (.int .i64 x.en) (.int .i64 x.tm) (.int .i64 x.tr) (.int .i64 x.bm) (.int .i64 x.br) (.slice A.sa x.sats.length A.sc) (.slice A.ca x.cus.length A.cc) (.slice A.ka x.cost.length A.kc) (.slice A.ta x.time.length A.tc) (.slice ma zs.length mc) (.slice (some ⟨gc,0,none⟩) N N)) gr gv gc N A x ma mc zs (fun _ => 0) := by
 have hm := Z5h v gv (.int .i64 x.en) (.int .i64 x.tm) (.int .i64 x.tr) (.int .i64 x.bm) (.int .i64 x.br) (.slice A.sa x.sats.length A.sc) (.slice A.ca x.cus.length A.cc) (.slice A.ka x.cost.length A.kc) (.slice A.ta x.time.length A.tc) (.slice ma zs.length mc) (.slice (some ⟨gc,0,none⟩) N N); exact ⟨((Mod.of_below (fun b => b = gv) hb).trans hm).below (Nat.le_refl _) (fun k hk => by omega),(hm.block gr (Array.getElem?_eq_some_iff.1 hr).1 h6).trans hr,Z4o _ _ _ _ _ _ _ _ _ _ _ hv,hc.of_block (hm.block gc hc.lt (Ne.symm h4)),hz.kept hm (fun b off e _ => hz.ne h0 e hv Z73),h1,h2,h3,h4,h5,h6⟩
theorem Zk2 {v : World} (h : XBox w v w.heap.size A x) (hr : v.heap[w.heap.size + 1]? = some (.cells zeroV 65 (0,0))) (hg : w.heap.size + 1 < gv) (a0 a1 a2 a3 a4 a5 a6 a7 a8 a9 a10 : Value) :
  XBox w (st11 v gv a0 a1 a2 a3 a4 a5 a6 a7 a8 a9 a10) w.heap.size A x ∧ (st11 v gv a0 a1 a2 a3 a4 a5 a6 a7 a8 a9 a10).heap[w.heap.size + 1]? = some (.cells zeroV 65 (0,0)) := by
 have hm := Z5h v gv a0 a1 a2 a3 a4 a5 a6 a7 a8 a9 a10; exact ⟨⟨((Mod.of_below (fun b => b = gv) h.below).trans hm).below (Nat.le_refl _) (fun k hk => by omega),h.ge,(hm.block _ h.lt (by omega)).trans h.blk⟩,(hm.block _ (Array.getElem?_eq_some_iff.1 hr).1 (by omega)).trans hr⟩
theorem Zh0 (h : VMade w wr gr gv gc N A x ma mc zs D) (hi : IsIns w.heap.size w A x) (a0 a1 a2 a3 a4 a5 a6 a7 a8 a9 a10 : Value) :
  IsView (st11 wr gr a0 a1 a2 a3 a4 a5 a6 a7 a8 a9 a10).heap.size (st11 wr gr a0 a1 a2 a3 a4 a5 a6 a7 a8 a9 a10) ⟨A,ma,mc,some ⟨gc,0,none⟩,N⟩ ⟨x,zs,cntL D N⟩ ∧ Below w.heap.size w (st11 wr gr a0 a1 a2 a3 a4 a5 a6 a7 a8 a9 a10) := by
 have hm := Z5h wr gr a0 a1 a2 a3 a4 a5 a6 a7 a8 a9 a10; have hb := ((Mod.of_below (fun b => b = gr) h.below).trans hm).below (Nat.le_refl _) (fun k hk => by have := h.ger; omega)
 exact ⟨⟨(hi.later hb).mono hb.size,h.mays.kept hm (fun b off e h0 => h.mays.ne h0 e h.res Z73),by rw [Z2s]; exact Z9n (h.row.of_block (hm.block gc h.row.lt (fun e => h.ne2 e.symm)))⟩,hb⟩
theorem Z9o (R : ReachSpec) (A : InA) (x : Ins) (w : World) (hi : IsIns w.heap.size w A x) (ht : TabD w) (hm : May x) :
  Calls Tryz.prog 20 #[.agg (insC A x)] w fun e w' => ∃ V y,e = .returned (.tuple #[.agg (viewC V y),.bool true]) ∧ ViewOk w w' A x V y := by
 have hz1 : (w.alloc (.cells (insC A x) 34)).heap.size = w.heap.size + 1 := by simp
 have hR := heap_alloc_new (w.alloc (.cells (insC A x) 34)) (.cells zeroV 65); rw [hz1] at hR; have hX := (XBox.make (Below.refl _ w) A x).later (Z0g (w.alloc (.cells (insC A x) 34)) (.cells zeroV 65)); obtain ⟨W0,hW0⟩ : ∃ W9,(w.alloc (.cells (insC A x) 34)).alloc (.cells zeroV 65) = W9 := ⟨_,rfl⟩; rw [hW0] at hR hX; have HW0 := hid hW0; have HR := hid hR; have HX := hid hX; have HI := hid hi; have HT := hid ht; have HM := hid hm; have HRS := hid R; have h61 := Z29 hm; have HL3 := hid (show x.cost.length ≤ 9223372036854775807 by rw [hm.lc]; omega)
 have HL4 := hid (show x.time.length ≤ 9223372036854775807 by rw [hm.lt]; omega)
 have her := hm.err; obtain ⟨N,hN⟩ : ∃ N,x.sats.length = N := ⟨_,rfl⟩; have hns := hm.ns; have hnc := hm.nc; have hmk := fun W => Zk1 N (by omega) W
 have HN := hid hN; have hNb : 1 ≤ N ∧ N ≤ 12 := by omega
 clear hi ht hm hz1 hW0 hR hX R hN hns; unfold insC at *; go_enter Tryz.func20,Tryz.ntmps20
 go_wp2_with fail
 rw [HW0.out]; obtain ⟨c0,c1,c2,c3,c4,c5,c6,c7,c8⟩ := HX.out.cells; clear HW0; go_wp2_with (go_at_call 14; refine (Z1x A x _ (HX.out.pipesHere HI.out) HL3.out HL4.out).mono ?_; rw [her]; rintro e w7 ⟨rfl,hb7⟩; have HX7 := hid (HX.out.later hb7); have HR7 := hid ((hb7.block _ (Array.getElem?_eq_some_iff.1 HR.out).1).trans HR.out); clear hb7 c0 c1 c2 c3 c4 c5 c6 c7 c8)
 go_cut [4] from 10 to 17 (fun p wx => ∃ gv gc zs ma mc,p = .pointer (some ⟨gv,0,none⟩) ∧ VMade w wx (w.heap.size + 1) gv gc N A x ma mc zs (fun _ => 0) ∧ Z7u x zs)
 case first =>
  have HX8 := hid (HX7.out.later (Below.refl _ w7).drew); have HR8 : Hid (w7.drew.heap[w.heap.size + 1]? = some (.cells zeroV 65 (0,0))) := HR7; obtain ⟨v0,hv0⟩ : ∃ v,World.drew w7 = v := ⟨_,rfl⟩; rw [hv0] at HX8 HR8; refine wp_region_held_drew (S := fun Wz => XBox w Wz w.heap.size A x ∧ Wz.heap[w.heap.size + 1]? = some (.cells zeroV 65 (0,0))) (by kernel_rfl) (by rw [hv0]; exact ⟨HX8.out,HR8.out⟩) (fun hHeld => ?_)
  rw [hv0] at hHeld ⊢; clear hv0 HX8 HR8 HX7 HR7; refine stpT 0 hHeld ?_ (y := fun Wz hWz => by obtain ⟨c0,c1,c2,c3,c4,c5,c6,c7,c8⟩ := XBox.cells hWz.1; clear hWz; go_simp; (try with_reducible rfl))
  try go_frame
  refine stpT 1 hHeld ?_ (y := fun Wz hWz => by obtain ⟨c0,c1,c2,c3,c4,c5,c6,c7,c8⟩ := XBox.cells hWz.1; clear hWz; go_simp; (try with_reducible rfl))
  try go_frame
  refine stpT 3 hHeld ?_ (y := fun Wz hWz => by obtain ⟨c0,c1,c2,c3,c4,c5,c6,c7,c8⟩ := XBox.cells hWz.1; rw [HN.out] at c5; clear hWz; go_simp; (try with_reducible rfl))
  try go_frame
  refine stpT 4 hHeld ?_ (y := fun Wz hWz => by obtain ⟨c0,c1,c2,c3,c4,c5,c6,c7,c8⟩ := XBox.cells hWz.1; rw [HN.out] at c5; clear hWz; go_simp; (try with_reducible rfl))
  try go_frame
  refine stpT 5 hHeld ?_ (y := fun Wz hWz => by obtain ⟨c0,c1,c2,c3,c4,c5,c6,c7,c8⟩ := XBox.cells hWz.1; rw [HN.out] at c5; clear hWz; go_simp; (try with_reducible rfl))
  try go_frame
  apply joinV (F := fun v gv gc zs ma mc => (XBox w v w.heap.size A x ∧ v.heap[w.heap.size + 1]? = some (.cells zeroV 65 (0,0))) ∧ Hid (IsSets v.heap.size v ma zs.length zs) ∧ Hid (Z7u x zs) ∧ Hid (0 < zs.length) ∧ Hid (v.rowIs gc 3 N (fun _ => .int .i64 0)) ∧ Hid (w.heap.size ≤ gc) ∧ Hid (w.heap.size + 1 ≠ gc) ∧ Hid (gv ≠ gc) ∧ Hid (v.heap[gv]? = some (.cells zeroV 65 (0,0))) ∧ Hid (w.heap.size ≤ gv) ∧ Hid (w.heap.size + 1 ≠ gv) ∧ Hid (w.heap.size + 1 < gv))
  intro TL; refine wpAnyH_ready (rs := [2,6,8]) (by kernel_rfl) (by simp) ?_
  refine AllReadyH.cons rfl (fun K hK => ?_) (AllReadyH.cons rfl (fun K hK => ?_) (AllReadyH.cons rfl (fun K hK => ?_) AllReadyH.nil))
  ·go_simp
   refine (HRS.out.mays A x _ (hHeld.1.pipesHere HI.out) HM.out).mono ?_; rintro e v1 ⟨zs,ma,mc,rfl,hset,hso,hbn⟩; have hd : XBox w v1 w.heap.size A x ∧ v1.heap[w.heap.size + 1]? = some (.cells zeroV 65 (0,0)) := ⟨hHeld.1.later hbn,(hbn.block _ (Array.getElem?_eq_some_iff.1 hHeld.2).1).trans hHeld.2⟩; have HZ := hid hset; have HSO := hid hso; have HPOS := hid (show 0 < zs.length by rw [hso.1,HN.out]; omega)
   clear hset hso hbn; refine hK.out _ _ ?_ (fun hHeld => ?_)
   ·exact hd
   clear hK K; try go_frame
   clear hd; refine wpAnyH_ready (rs := [6,8]) (by kernel_rfl) (by simp) ?_
   refine AllReadyH.cons rfl (fun K hK => ?_) (AllReadyH.cons rfl (fun K hK => ?_) AllReadyH.nil)
   ·go_simp
    have hbn := Z0g v1 (.cells (madeCells #[.int .i64 0] N) 3); have hHn : XBox w (v1.alloc (.cells (madeCells #[.int .i64 0] N) 3)) w.heap.size A x ∧ (v1.alloc (.cells (madeCells #[.int .i64 0] N) 3)).heap[w.heap.size + 1]? = some (.cells zeroV 65 (0,0)) := ⟨hHeld.1.later hbn,(hbn.block _ (Array.getElem?_eq_some_iff.1 hHeld.2).1).trans hHeld.2⟩; have HZn := hid ((HZ.out.later hbn).mono hbn.size); clear HZ; have HZ := HZn; clear HZn; have HC := hid (World.rowIs_made v1 (.int .i64 0) N 3); have HGC := hid hHeld.1.below.size; have HNR : Hid (w.heap.size + 1 ≠ v1.heap.size) := hid (by have := (Array.getElem?_eq_some_iff.1 hHeld.2).1; omega)
    refine hK.out _ _ ?_ (fun hHeld => ?_)
    ·exact hHn
    clear hK K; try go_frame
    obtain ⟨v2,hvn⟩ : ∃ W9,(v1.alloc (.cells (madeCells #[.int .i64 0] N) 3)) = W9 := ⟨_,rfl⟩; obtain ⟨gc,hgn⟩ : ∃ g9,v1.heap.size = g9 := ⟨_,rfl⟩; rw [hvn] at HZ HC hHeld ⊢; rw [hgn] at HC HNR ⊢; have HGCn : Hid (w.heap.size ≤ gc) := hid (by rw [← hgn]; exact HGC.out)
    have HCL : Hid (gc < v2.heap.size) := hid HC.out.lt; clear HGC; have HGC := HGCn; clear HGCn hvn hgn hHn hbn; refine stpT 7 hHeld ?_ (y := fun Wz hWz => by clear hWz; go_simp; (try with_reducible rfl))
    try go_frame
    refine stpR 8 (fun K hK => ?_); go_simp; have hbn := Z0g v2 (.cells zeroV 65); have hHn : XBox w (v2.alloc (.cells zeroV 65)) w.heap.size A x ∧ (v2.alloc (.cells zeroV 65)).heap[w.heap.size + 1]? = some (.cells zeroV 65 (0,0)) := ⟨hHeld.1.later hbn,(hbn.block _ (Array.getElem?_eq_some_iff.1 hHeld.2).1).trans hHeld.2⟩; have HZn := hid ((HZ.out.later hbn).mono hbn.size); clear HZ; have HZ := HZn; clear HZn; have HCn := hid (HC.out.of_block (hbn.block gc HC.out.lt)); clear HC; have HC := HCn; clear HCn; have HV := hid (heap_alloc_new v2 (.cells zeroV 65)); have HGV := hid hHeld.1.below.size; have HNV : Hid (w.heap.size + 1 ≠ v2.heap.size) := hid (by have := (Array.getElem?_eq_some_iff.1 hHeld.2).1; omega)
    have HGV1 : Hid (w.heap.size + 1 < v2.heap.size) := hid (Array.getElem?_eq_some_iff.1 hHeld.2).1; have HNE : Hid (v2.heap.size ≠ gc) := hid (by have := HCL.out; omega)
    refine hK.out _ _ ?_ (fun hHeld => ?_)
    ·exact hHn
    clear hK K; try go_frame
    obtain ⟨v3,hvn⟩ : ∃ W9,(v2.alloc (.cells zeroV 65)) = W9 := ⟨_,rfl⟩; obtain ⟨gv,hgn⟩ : ∃ g9,v2.heap.size = g9 := ⟨_,rfl⟩; rw [hvn] at HZ HV hHeld ⊢; rw [hvn] at HC; rw [hgn] at HV HNV HGV1 HNE ⊢; have HGVn : Hid (w.heap.size ≤ gv) := hid (by rw [← hgn]; exact HGV.out)
    have HGL : Hid (gv < v3.heap.size) := hid (Array.getElem?_eq_some_iff.1 HV.out).1; clear HGV; have HGV := HGVn; clear HGVn hvn hgn hHn hbn; exact TL v3 gv gc zs ma mc ⟨hHeld,HZ,HSO,HPOS,HC,HGC,HNR,HNE,HV,HGV,HNV,HGV1⟩
   ·go_simp
    have hbn := Z0g v1 (.cells zeroV 65); have hHn : XBox w (v1.alloc (.cells zeroV 65)) w.heap.size A x ∧ (v1.alloc (.cells zeroV 65)).heap[w.heap.size + 1]? = some (.cells zeroV 65 (0,0)) := ⟨hHeld.1.later hbn,(hbn.block _ (Array.getElem?_eq_some_iff.1 hHeld.2).1).trans hHeld.2⟩; have HZn := hid ((HZ.out.later hbn).mono hbn.size); clear HZ; have HZ := HZn; clear HZn; have HV := hid (heap_alloc_new v1 (.cells zeroV 65)); have HGV := hid hHeld.1.below.size; have HNV : Hid (w.heap.size + 1 ≠ v1.heap.size) := hid (by have := (Array.getElem?_eq_some_iff.1 hHeld.2).1; omega)
    have HGV1 : Hid (w.heap.size + 1 < v1.heap.size) := hid (Array.getElem?_eq_some_iff.1 hHeld.2).1; refine hK.out _ _ ?_ (fun hHeld => ?_)
    ·exact hHn
    clear hK K; try go_frame
    obtain ⟨v2,hvn⟩ : ∃ W9,(v1.alloc (.cells zeroV 65)) = W9 := ⟨_,rfl⟩; obtain ⟨gv,hgn⟩ : ∃ g9,v1.heap.size = g9 := ⟨_,rfl⟩; rw [hvn] at HZ HV hHeld ⊢; rw [hgn] at HV HNV HGV1 ⊢; have HGVn : Hid (w.heap.size ≤ gv) := hid (by rw [← hgn]; exact HGV.out)
    have HGL : Hid (gv < v2.heap.size) := hid (Array.getElem?_eq_some_iff.1 HV.out).1; clear HGV; have HGV := HGVn; clear HGVn hvn hgn hHn hbn; refine stpR 6 (fun K hK => ?_); go_simp; have hbn := Z0g v2 (.cells (madeCells #[.int .i64 0] N) 3); have hHn : XBox w (v2.alloc (.cells (madeCells #[.int .i64 0] N) 3)) w.heap.size A x ∧ (v2.alloc (.cells (madeCells #[.int .i64 0] N) 3)).heap[w.heap.size + 1]? = some (.cells zeroV 65 (0,0)) := ⟨hHeld.1.later hbn,(hbn.block _ (Array.getElem?_eq_some_iff.1 hHeld.2).1).trans hHeld.2⟩; have HZn := hid ((HZ.out.later hbn).mono hbn.size); clear HZ; have HZ := HZn; clear HZn; have HVn := hid ((hbn.block gv (Array.getElem?_eq_some_iff.1 HV.out).1).trans HV.out); clear HV; have HV := HVn; clear HVn; have HC := hid (World.rowIs_made v2 (.int .i64 0) N 3); have HGC := hid hHeld.1.below.size; have HNR : Hid (w.heap.size + 1 ≠ v2.heap.size) := hid (by have := (Array.getElem?_eq_some_iff.1 hHeld.2).1; omega)
    have HNE : Hid (gv ≠ v2.heap.size) := hid (by have := HGL.out; omega)
    refine hK.out _ _ ?_ (fun hHeld => ?_)
    ·exact hHn
    clear hK K; try go_frame
    obtain ⟨v3,hvn⟩ : ∃ W9,(v2.alloc (.cells (madeCells #[.int .i64 0] N) 3)) = W9 := ⟨_,rfl⟩; obtain ⟨gc,hgn⟩ : ∃ g9,v2.heap.size = g9 := ⟨_,rfl⟩; rw [hvn] at HZ HC hHeld ⊢; rw [hvn] at HV; rw [hgn] at HC HNR HNE ⊢; have HGCn : Hid (w.heap.size ≤ gc) := hid (by rw [← hgn]; exact HGC.out)
    have HCL : Hid (gc < v3.heap.size) := hid HC.out.lt; clear HGC; have HGC := HGCn; clear HGCn hvn hgn hHn hbn; refine stpT 7 hHeld ?_ (y := fun Wz hWz => by clear hWz; go_simp; (try with_reducible rfl))
    try go_frame
    exact TL v3 gv gc zs ma mc ⟨hHeld,HZ,HSO,HPOS,HC,HGC,HNR,HNE,HV,HGV,HNV,HGV1⟩
  ·go_simp
   have hbn := Z0g v0 (.cells (madeCells #[.int .i64 0] N) 3); have hHn : XBox w (v0.alloc (.cells (madeCells #[.int .i64 0] N) 3)) w.heap.size A x ∧ (v0.alloc (.cells (madeCells #[.int .i64 0] N) 3)).heap[w.heap.size + 1]? = some (.cells zeroV 65 (0,0)) := ⟨hHeld.1.later hbn,(hbn.block _ (Array.getElem?_eq_some_iff.1 hHeld.2).1).trans hHeld.2⟩; have HC := hid (World.rowIs_made v0 (.int .i64 0) N 3); have HGC := hid hHeld.1.below.size; have HNR : Hid (w.heap.size + 1 ≠ v0.heap.size) := hid (by have := (Array.getElem?_eq_some_iff.1 hHeld.2).1; omega)
   refine hK.out _ _ ?_ (fun hHeld => ?_)
   ·exact hHn
   clear hK K; try go_frame
   obtain ⟨v1,hvn⟩ : ∃ W9,(v0.alloc (.cells (madeCells #[.int .i64 0] N) 3)) = W9 := ⟨_,rfl⟩; obtain ⟨gc,hgn⟩ : ∃ g9,v0.heap.size = g9 := ⟨_,rfl⟩; rw [hvn] at HC hHeld ⊢; rw [hgn] at HC HNR ⊢; have HGCn : Hid (w.heap.size ≤ gc) := hid (by rw [← hgn]; exact HGC.out)
   have HCL : Hid (gc < v1.heap.size) := hid HC.out.lt; clear HGC; have HGC := HGCn; clear HGCn hvn hgn hHn hbn; refine wpAnyH_ready (rs := [2,8]) (by kernel_rfl) (by simp) ?_
   refine AllReadyH.cons rfl (fun K hK => ?_) (AllReadyH.cons rfl (fun K hK => ?_) AllReadyH.nil)
   ·go_simp
    refine (HRS.out.mays A x _ (hHeld.1.pipesHere HI.out) HM.out).mono ?_; rintro e v2 ⟨zs,ma,mc,rfl,hset,hso,hbn⟩; have hd : XBox w v2 w.heap.size A x ∧ v2.heap[w.heap.size + 1]? = some (.cells zeroV 65 (0,0)) := ⟨hHeld.1.later hbn,(hbn.block _ (Array.getElem?_eq_some_iff.1 hHeld.2).1).trans hHeld.2⟩; have HCn := hid (HC.out.of_block (hbn.block gc HC.out.lt)); clear HC; have HC := HCn; clear HCn; have HZ := hid hset; have HSO := hid hso; have HPOS := hid (show 0 < zs.length by rw [hso.1,HN.out]; omega)
    clear hset hso hbn; refine hK.out _ _ ?_ (fun hHeld => ?_)
    ·exact hd
    clear hK K; try go_frame
    clear hd; have HCL : Hid (gc < v2.heap.size) := hid HC.out.lt; refine stpT 7 hHeld ?_ (y := fun Wz hWz => by clear hWz; go_simp; (try with_reducible rfl))
    try go_frame
    refine stpR 8 (fun K hK => ?_); go_simp; have hbn := Z0g v2 (.cells zeroV 65); have hHn : XBox w (v2.alloc (.cells zeroV 65)) w.heap.size A x ∧ (v2.alloc (.cells zeroV 65)).heap[w.heap.size + 1]? = some (.cells zeroV 65 (0,0)) := ⟨hHeld.1.later hbn,(hbn.block _ (Array.getElem?_eq_some_iff.1 hHeld.2).1).trans hHeld.2⟩; have HZn := hid ((HZ.out.later hbn).mono hbn.size); clear HZ; have HZ := HZn; clear HZn; have HCn := hid (HC.out.of_block (hbn.block gc HC.out.lt)); clear HC; have HC := HCn; clear HCn; have HV := hid (heap_alloc_new v2 (.cells zeroV 65)); have HGV := hid hHeld.1.below.size; have HNV : Hid (w.heap.size + 1 ≠ v2.heap.size) := hid (by have := (Array.getElem?_eq_some_iff.1 hHeld.2).1; omega)
    have HGV1 : Hid (w.heap.size + 1 < v2.heap.size) := hid (Array.getElem?_eq_some_iff.1 hHeld.2).1; have HNE : Hid (v2.heap.size ≠ gc) := hid (by have := HCL.out; omega)
    refine hK.out _ _ ?_ (fun hHeld => ?_)
    ·exact hHn
    clear hK K; try go_frame
    obtain ⟨v3,hvn⟩ : ∃ W9,(v2.alloc (.cells zeroV 65)) = W9 := ⟨_,rfl⟩; obtain ⟨gv,hgn⟩ : ∃ g9,v2.heap.size = g9 := ⟨_,rfl⟩; rw [hvn] at HZ HV hHeld ⊢; rw [hvn] at HC; rw [hgn] at HV HNV HGV1 HNE ⊢; have HGVn : Hid (w.heap.size ≤ gv) := hid (by rw [← hgn]; exact HGV.out)
    have HGL : Hid (gv < v3.heap.size) := hid (Array.getElem?_eq_some_iff.1 HV.out).1; clear HGV; have HGV := HGVn; clear HGVn hvn hgn hHn hbn; exact TL v3 gv gc zs ma mc ⟨hHeld,HZ,HSO,HPOS,HC,HGC,HNR,HNE,HV,HGV,HNV,HGV1⟩
   ·go_simp
    have hbn := Z0g v1 (.cells zeroV 65); have hHn : XBox w (v1.alloc (.cells zeroV 65)) w.heap.size A x ∧ (v1.alloc (.cells zeroV 65)).heap[w.heap.size + 1]? = some (.cells zeroV 65 (0,0)) := ⟨hHeld.1.later hbn,(hbn.block _ (Array.getElem?_eq_some_iff.1 hHeld.2).1).trans hHeld.2⟩; have HCn := hid (HC.out.of_block (hbn.block gc HC.out.lt)); clear HC; have HC := HCn; clear HCn; have HV := hid (heap_alloc_new v1 (.cells zeroV 65)); have HGV := hid hHeld.1.below.size; have HNV : Hid (w.heap.size + 1 ≠ v1.heap.size) := hid (by have := (Array.getElem?_eq_some_iff.1 hHeld.2).1; omega)
    have HGV1 : Hid (w.heap.size + 1 < v1.heap.size) := hid (Array.getElem?_eq_some_iff.1 hHeld.2).1; have HNE : Hid (v1.heap.size ≠ gc) := hid (by have := HCL.out; omega)
    refine hK.out _ _ ?_ (fun hHeld => ?_)
    ·exact hHn
    clear hK K; try go_frame
    obtain ⟨v2,hvn⟩ : ∃ W9,(v1.alloc (.cells zeroV 65)) = W9 := ⟨_,rfl⟩; obtain ⟨gv,hgn⟩ : ∃ g9,v1.heap.size = g9 := ⟨_,rfl⟩; rw [hvn] at HV hHeld ⊢; rw [hvn] at HC; rw [hgn] at HV HNV HGV1 HNE ⊢; have HGVn : Hid (w.heap.size ≤ gv) := hid (by rw [← hgn]; exact HGV.out)
    have HGL : Hid (gv < v2.heap.size) := hid (Array.getElem?_eq_some_iff.1 HV.out).1; clear HGV; have HGV := HGVn; clear HGVn hvn hgn hHn hbn; refine stpR 2 (fun K hK => ?_); go_simp; refine (HRS.out.mays A x _ (hHeld.1.pipesHere HI.out) HM.out).mono ?_; rintro e v3 ⟨zs,ma,mc,rfl,hset,hso,hbn⟩; have hd : XBox w v3 w.heap.size A x ∧ v3.heap[w.heap.size + 1]? = some (.cells zeroV 65 (0,0)) := ⟨hHeld.1.later hbn,(hbn.block _ (Array.getElem?_eq_some_iff.1 hHeld.2).1).trans hHeld.2⟩; have HCn := hid (HC.out.of_block (hbn.block gc HC.out.lt)); clear HC; have HC := HCn; clear HCn; have HVn := hid ((hbn.block gv (Array.getElem?_eq_some_iff.1 HV.out).1).trans HV.out); clear HV; have HV := HVn; clear HVn; have HZ := hid hset; have HSO := hid hso; have HPOS := hid (show 0 < zs.length by rw [hso.1,HN.out]; omega)
    clear hset hso hbn; refine hK.out _ _ ?_ (fun hHeld => ?_)
    ·exact hd
    clear hK K; try go_frame
    clear hd; have HCL : Hid (gc < v3.heap.size) := hid HC.out.lt; have HGL : Hid (gv < v3.heap.size) := hid (Array.getElem?_eq_some_iff.1 HV.out).1; refine stpT 7 hHeld ?_ (y := fun Wz hWz => by clear hWz; go_simp; (try with_reducible rfl))
    try go_frame
    exact TL v3 gv gc zs ma mc ⟨hHeld,HZ,HSO,HPOS,HC,HGC,HNR,HNE,HV,HGV,HNV,HGV1⟩
  ·go_simp
   have hbn := Z0g v0 (.cells zeroV 65); have hHn : XBox w (v0.alloc (.cells zeroV 65)) w.heap.size A x ∧ (v0.alloc (.cells zeroV 65)).heap[w.heap.size + 1]? = some (.cells zeroV 65 (0,0)) := ⟨hHeld.1.later hbn,(hbn.block _ (Array.getElem?_eq_some_iff.1 hHeld.2).1).trans hHeld.2⟩; have HV := hid (heap_alloc_new v0 (.cells zeroV 65)); have HGV := hid hHeld.1.below.size; have HNV : Hid (w.heap.size + 1 ≠ v0.heap.size) := hid (by have := (Array.getElem?_eq_some_iff.1 hHeld.2).1; omega)
   have HGV1 : Hid (w.heap.size + 1 < v0.heap.size) := hid (Array.getElem?_eq_some_iff.1 hHeld.2).1; refine hK.out _ _ ?_ (fun hHeld => ?_)
   ·exact hHn
   clear hK K; try go_frame
   obtain ⟨v1,hvn⟩ : ∃ W9,(v0.alloc (.cells zeroV 65)) = W9 := ⟨_,rfl⟩; obtain ⟨gv,hgn⟩ : ∃ g9,v0.heap.size = g9 := ⟨_,rfl⟩; rw [hvn] at HV hHeld ⊢; rw [hgn] at HV HNV HGV1 ⊢; have HGVn : Hid (w.heap.size ≤ gv) := hid (by rw [← hgn]; exact HGV.out)
   have HGL : Hid (gv < v1.heap.size) := hid (Array.getElem?_eq_some_iff.1 HV.out).1; clear HGV; have HGV := HGVn; clear HGVn hvn hgn hHn hbn; refine wpAnyH_ready (rs := [2,6]) (by kernel_rfl) (by simp) ?_
   refine AllReadyH.cons rfl (fun K hK => ?_) (AllReadyH.cons rfl (fun K hK => ?_) AllReadyH.nil)
   ·go_simp
    refine (HRS.out.mays A x _ (hHeld.1.pipesHere HI.out) HM.out).mono ?_; rintro e v2 ⟨zs,ma,mc,rfl,hset,hso,hbn⟩; have hd : XBox w v2 w.heap.size A x ∧ v2.heap[w.heap.size + 1]? = some (.cells zeroV 65 (0,0)) := ⟨hHeld.1.later hbn,(hbn.block _ (Array.getElem?_eq_some_iff.1 hHeld.2).1).trans hHeld.2⟩; have HVn := hid ((hbn.block gv (Array.getElem?_eq_some_iff.1 HV.out).1).trans HV.out); clear HV; have HV := HVn; clear HVn; have HZ := hid hset; have HSO := hid hso; have HPOS := hid (show 0 < zs.length by rw [hso.1,HN.out]; omega)
    clear hset hso hbn; refine hK.out _ _ ?_ (fun hHeld => ?_)
    ·exact hd
    clear hK K; try go_frame
    clear hd; have HGL : Hid (gv < v2.heap.size) := hid (Array.getElem?_eq_some_iff.1 HV.out).1; refine stpR 6 (fun K hK => ?_); go_simp; have hbn := Z0g v2 (.cells (madeCells #[.int .i64 0] N) 3); have hHn : XBox w (v2.alloc (.cells (madeCells #[.int .i64 0] N) 3)) w.heap.size A x ∧ (v2.alloc (.cells (madeCells #[.int .i64 0] N) 3)).heap[w.heap.size + 1]? = some (.cells zeroV 65 (0,0)) := ⟨hHeld.1.later hbn,(hbn.block _ (Array.getElem?_eq_some_iff.1 hHeld.2).1).trans hHeld.2⟩; have HZn := hid ((HZ.out.later hbn).mono hbn.size); clear HZ; have HZ := HZn; clear HZn; have HVn := hid ((hbn.block gv (Array.getElem?_eq_some_iff.1 HV.out).1).trans HV.out); clear HV; have HV := HVn; clear HVn; have HC := hid (World.rowIs_made v2 (.int .i64 0) N 3); have HGC := hid hHeld.1.below.size; have HNR : Hid (w.heap.size + 1 ≠ v2.heap.size) := hid (by have := (Array.getElem?_eq_some_iff.1 hHeld.2).1; omega)
    have HNE : Hid (gv ≠ v2.heap.size) := hid (by have := HGL.out; omega)
    refine hK.out _ _ ?_ (fun hHeld => ?_)
    ·exact hHn
    clear hK K; try go_frame
    obtain ⟨v3,hvn⟩ : ∃ W9,(v2.alloc (.cells (madeCells #[.int .i64 0] N) 3)) = W9 := ⟨_,rfl⟩; obtain ⟨gc,hgn⟩ : ∃ g9,v2.heap.size = g9 := ⟨_,rfl⟩; rw [hvn] at HZ HC hHeld ⊢; rw [hvn] at HV; rw [hgn] at HC HNR HNE ⊢; have HGCn : Hid (w.heap.size ≤ gc) := hid (by rw [← hgn]; exact HGC.out)
    have HCL : Hid (gc < v3.heap.size) := hid HC.out.lt; clear HGC; have HGC := HGCn; clear HGCn hvn hgn hHn hbn; refine stpT 7 hHeld ?_ (y := fun Wz hWz => by clear hWz; go_simp; (try with_reducible rfl))
    try go_frame
    exact TL v3 gv gc zs ma mc ⟨hHeld,HZ,HSO,HPOS,HC,HGC,HNR,HNE,HV,HGV,HNV,HGV1⟩
   ·go_simp
    have hbn := Z0g v1 (.cells (madeCells #[.int .i64 0] N) 3); have hHn : XBox w (v1.alloc (.cells (madeCells #[.int .i64 0] N) 3)) w.heap.size A x ∧ (v1.alloc (.cells (madeCells #[.int .i64 0] N) 3)).heap[w.heap.size + 1]? = some (.cells zeroV 65 (0,0)) := ⟨hHeld.1.later hbn,(hbn.block _ (Array.getElem?_eq_some_iff.1 hHeld.2).1).trans hHeld.2⟩; have HVn := hid ((hbn.block gv (Array.getElem?_eq_some_iff.1 HV.out).1).trans HV.out); clear HV; have HV := HVn; clear HVn; have HC := hid (World.rowIs_made v1 (.int .i64 0) N 3); have HGC := hid hHeld.1.below.size; have HNR : Hid (w.heap.size + 1 ≠ v1.heap.size) := hid (by have := (Array.getElem?_eq_some_iff.1 hHeld.2).1; omega)
    have HNE : Hid (gv ≠ v1.heap.size) := hid (by have := HGL.out; omega)
    refine hK.out _ _ ?_ (fun hHeld => ?_)
    ·exact hHn
    clear hK K; try go_frame
    obtain ⟨v2,hvn⟩ : ∃ W9,(v1.alloc (.cells (madeCells #[.int .i64 0] N) 3)) = W9 := ⟨_,rfl⟩; obtain ⟨gc,hgn⟩ : ∃ g9,v1.heap.size = g9 := ⟨_,rfl⟩; rw [hvn] at HC hHeld ⊢; rw [hvn] at HV; rw [hgn] at HC HNR HNE ⊢; have HGCn : Hid (w.heap.size ≤ gc) := hid (by rw [← hgn]; exact HGC.out)
    have HCL : Hid (gc < v2.heap.size) := hid HC.out.lt; clear HGC; have HGC := HGCn; clear HGCn hvn hgn hHn hbn; refine stpR 2 (fun K hK => ?_); go_simp; refine (HRS.out.mays A x _ (hHeld.1.pipesHere HI.out) HM.out).mono ?_; rintro e v3 ⟨zs,ma,mc,rfl,hset,hso,hbn⟩; have hd : XBox w v3 w.heap.size A x ∧ v3.heap[w.heap.size + 1]? = some (.cells zeroV 65 (0,0)) := ⟨hHeld.1.later hbn,(hbn.block _ (Array.getElem?_eq_some_iff.1 hHeld.2).1).trans hHeld.2⟩; have HCn := hid (HC.out.of_block (hbn.block gc HC.out.lt)); clear HC; have HC := HCn; clear HCn; have HVn := hid ((hbn.block gv (Array.getElem?_eq_some_iff.1 HV.out).1).trans HV.out); clear HV; have HV := HVn; clear HVn; have HZ := hid hset; have HSO := hid hso; have HPOS := hid (show 0 < zs.length by rw [hso.1,HN.out]; omega)
    clear hset hso hbn; refine hK.out _ _ ?_ (fun hHeld => ?_)
    ·exact hd
    clear hK K; try go_frame
    clear hd; have HCL : Hid (gc < v3.heap.size) := hid HC.out.lt; have HGL : Hid (gv < v3.heap.size) := hid (Array.getElem?_eq_some_iff.1 HV.out).1; refine stpT 7 hHeld ?_ (y := fun Wz hWz => by clear hWz; go_simp; (try with_reducible rfl))
    try go_frame
    exact TL v3 gv gc zs ma mc ⟨hHeld,HZ,HSO,HPOS,HC,HGC,HNR,HNE,HV,HGV,HNV,HGV1⟩
  ·rintro v gv gc zs ma mc ⟨hHeld,HZ,HSO,HPOS,HC,HGC,HNR,HNE,HV,HGV,HNV,HGV1⟩
   have hgr := (Array.getElem?_eq_some_iff.1 hHeld.2).1; have HCS := hid hHeld; obtain ⟨f0,f1,f2,f3,f4,f5,f6,f7,f8,f9,f10⟩ : v.frozen? ⟨gv,0,none⟩ = false ∧ v.frozen? ⟨gv,1,none⟩ = false ∧ v.frozen? ⟨gv,2,none⟩ = false ∧ v.frozen? ⟨gv,3,none⟩ = false ∧ v.frozen? ⟨gv,4,none⟩ = false ∧ v.frozen? ⟨gv,5,none⟩ = false ∧ v.frozen? ⟨gv,6,none⟩ = false ∧ v.frozen? ⟨gv,7,none⟩ = false ∧ v.frozen? ⟨gv,8,none⟩ = false ∧ v.frozen? ⟨gv,9,none⟩ = false ∧ v.frozen? ⟨gv,10,none⟩ = false := by have hq := HV.out; simp [World.frozen?,hq]
   obtain ⟨d0,d1,d2,d3,d4,d5,d6,d7,d8,d9,d10⟩ := Z2m HV.out; have HMD := hid (Zmr (A := A) (x := x) (mc := mc) HCS.out.1.below HCS.out.2 HV.out HC.out HZ.out (show w.heap.size ≤ w.heap.size + 1 by omega) HGV.out HGC.out HNE.out HNR.out HNV.out HPOS.out)
   have HXX := hid (Zk2 (gv := gv) HCS.out.1 HCS.out.2 HGV1.out (.int .i64 x.en) (.int .i64 x.tm) (.int .i64 x.tr) (.int .i64 x.bm) (.int .i64 x.br) (.slice A.sa x.sats.length A.sc) (.slice A.ca x.cus.length A.cc) (.slice A.ka x.cost.length A.kc) (.slice A.ta x.time.length A.tc) (.slice ma zs.length mc) (.slice (some ⟨gc,0,none⟩) N N)); unfold st11 at HMD HXX; clear hgr; refine stpR 9 (fun K hK => ?_); go_simp; refine hK.out _ _ ?_ (fun hHeld => ?_)
   ·exact HXX.out
   clear hK K; try go_frame
   refine wpAnyH_done (by kernel_rfl) ?_ _
   clear hHeld f0 f1 f2 f3 f4 f5 f6 f7 f8 f9 f10 d0 d1 d2 d3 d4 d5 d6 d7 d8 d9 d10; go_wp2_with fail
   go_meet
   exact ⟨gv,gc,zs,ma,mc,rfl,HMD.out,HSO.out⟩
 case rest =>
  obtain ⟨gv,gc,zs,ma,mc,hp,hmd,hso⟩ := hcut; subst hp; have HMD := hid hmd; have HSO := hid hso; obtain ⟨c0,c1,c2,c3,c4,c5,c6,c7,c8,c9,c10⟩ := hmd.cells; clear hmd hso HX7 HR7; go_wp2_with fail
  clear c0 c1 c2 c3 c4 c5 c6 c7 c8 c9 c10; go_loopw [21] (fun iv wr => ∃ (s : Nat) (D : Nat → Int),iv = .int .i64 (s : Int) ∧ s ≤ N ∧ Hid (VMade w wr (w.heap.size + 1) gv gc N A x ma mc zs D) ∧ Hid (∀ i,i < s → CountOf x.cus.length ((Vw.mk x zs []).p i) (ldI x) (roomI x i) (D i) ∧ 0 ≤ D i ∧ D i ≤ 64)) (fun iv _ => N - (intOf iv).toNat)
  case atStart => exact ⟨0,_,rfl,Nat.zero_le _,HMD,hid (fun i hi => absurd hi (by omega))⟩
  case round =>
   obtain ⟨s,D,rfl,hs,HV,HC⟩ := hrel; clear HMD; by_cases hlt : s < N
   ·obtain ⟨c0,c1,c2,c3,c4,c5,c6,c7,c8,c9,c10⟩ := HV.out.cells
    have hs1 : (0 : Int) ≤ (s : Int) := by omega
    have hs2 : (s : Int) < (N : Int) := by omega
    go_wp2_with fail
    clear c0 c1 c2 c3 c4 c5 c6 c7 c8 c9 c10; have HV1 := hid (HV.out.later (Below.refl _ wr).drew); refine wp_region_held_drew (S := fun Wz => Wz.heap[gv]? = some (.cells (vwA A x ma zs.length mc gc N) 65 (0,0))) (by kernel_rfl) HV1.out.box (fun hHeld => ?_)
    refine stpT 0 hHeld ?_ (y := fun Wz hWz => by obtain ⟨c0,c1,c2,c3,c4,c5,c6,c7,c8,c9,c10⟩ := Z2m hWz; clear hWz; go_simp; (try with_reducible rfl))
    try go_frame
    refine stpT 1 hHeld ?_ (y := fun Wz hWz => by obtain ⟨c0,c1,c2,c3,c4,c5,c6,c7,c8,c9,c10⟩ := Z2m hWz; clear hWz; go_simp; (try with_reducible rfl))
    try go_frame
    refine stpT 2 hHeld ?_ (y := fun Wz hWz => by obtain ⟨c0,c1,c2,c3,c4,c5,c6,c7,c8,c9,c10⟩ := Z2m hWz; clear hWz; go_simp; (try with_reducible rfl))
    try go_frame
    refine stpT 3 hHeld ?_ (y := fun Wz hWz => by obtain ⟨c0,c1,c2,c3,c4,c5,c6,c7,c8,c9,c10⟩ := Z2m hWz; clear hWz; go_simp; (try with_reducible rfl))
    try go_frame
    refine stpT 4 hHeld ?_ (y := fun Wz hWz => by obtain ⟨c0,c1,c2,c3,c4,c5,c6,c7,c8,c9,c10⟩ := Z2m hWz; clear hWz; go_simp; (try with_reducible rfl))
    try go_frame
    refine stpR 5 (fun K hK => ?_); go_simp; have hcn := Zgf ⟨A,ma,mc,some ⟨gc,0,none⟩,N⟩ ⟨x,zs,cntL D N⟩ s _ (HV1.out.view HI.out) (Z09 HT.out HV1.out.below) HM.out HSO.out.1 (Z8a HSO.out HV.out.mays.2.1 (by omega)).1 (by rw [HN.out]; exact hlt)
    rw [← Zm7] at hcn; refine hcn.mono ?_; clear hcn; rintro e w9 ⟨m,rfl,hco,hm64,hb9⟩; have HV9 := hid (HV1.out.later hb9); have HCO := hid hco; clear hb9 hco; refine hK.out _ _ ?_ (fun hHeld => ?_)
    ·exact HV9.out.box
    clear hK K; try go_frame
    refine stpT 6 hHeld ?_ (y := fun Wz hWz => by clear hWz; go_simp; (try with_reducible rfl))
    try go_frame
    have hfz := HV9.out.row.frozen s; obtain ⟨q0,hq0⟩ : ∃ u,w9.cell? ⟨gc,s,none⟩ = some u := ⟨_,HV9.out.row.cell hlt⟩; have HVA := hid (HV9.out.put s (m : Int)); refine stpR 7 (fun K hK => ?_); go_simp; refine hK.out _ _ ?_ (fun hHeld => ?_)
    ·exact HVA.out.box
    clear hK K; try go_frame
    refine wpAnyH_done (by kernel_rfl) ?_ _
    clear hHeld hfz hq0; go_wp2_with fail
    go_roundw
    case rel => exact ⟨s + 1,_,by go_num,by omega,HVA,hid (fun i hi => by
     by_cases e : i = s
     ·subst e
      rw [if_pos rfl]; exact ⟨HCO.out,by omega,by omega⟩
     ·rw [if_neg e]
      exact HC.out i (by omega))⟩
    case measure => simp [intOf]; omega
   ·obtain rfl : s = N := by omega
    obtain ⟨c0,c1,c2,c3,c4,c5,c6,c7,c8,c9,c10⟩ := HV.out.cells; obtain ⟨d0,d1,d2,d3,d4,d5,d6,d7,d8,d9,d10⟩ := Z2m HV.out.res; have f0 := Z0v HV.out.res 0; have f1 := Z0v HV.out.res 1; have f2 := Z0v HV.out.res 2; have f3 := Z0v HV.out.res 3; have f4 := Z0v HV.out.res 4; have f5 := Z0v HV.out.res 5; have f6 := Z0v HV.out.res 6; have f7 := Z0v HV.out.res 7; have f8 := Z0v HV.out.res 8; have f9 := Z0v HV.out.res 9; have f10 := Z0v HV.out.res 10; have HE := hid (Z4o (.int .i64 x.en) (.int .i64 x.tm) (.int .i64 x.tr) (.int .i64 x.bm) (.int .i64 x.br) (.slice A.sa x.sats.length A.sc) (.slice A.ca x.cus.length A.cc) (.slice A.ka x.cost.length A.kc) (.slice A.ta x.time.length A.tc) (.slice ma zs.length mc) (.slice (some ⟨gc,0,none⟩) s s) HV.out.res); have HVW := hid (Zh0 HV.out HI.out (.int .i64 x.en) (.int .i64 x.tm) (.int .i64 x.tr) (.int .i64 x.bm) (.int .i64 x.br) (.slice A.sa x.sats.length A.sc) (.slice A.ca x.cus.length A.cc) (.slice A.ka x.cost.length A.kc) (.slice A.ta x.time.length A.tc) (.slice ma zs.length mc) (.slice (some ⟨gc,0,none⟩) s s)); unfold st11 at HE HVW; go_wp2_with fail
    clear c0 c1 c2 c3 c4 c5 c6 c7 c8 c9 c10 d0 d1 d2 d3 d4 d5 d6 d7 d8 d9 d10 f0 f1 f2 f3 f4 f5 f6 f7 f8 f9 f10; obtain ⟨e0,e1,e2,e3,e4,e5,e6,e7,e8,e9,e10⟩ := Z2m HE.out; refine bodyPost_ret (v := .tuple #[.agg (vwA A x ma zs.length mc gc s),.bool true]) (by simp [results,Tryz.results20,go_sem,e0,e1,e2,e3,e4,e5,e6,e7,e8,e9,e10]) rfl ?_
    refine ⟨⟨A,ma,mc,some ⟨gc,0,none⟩,s⟩,⟨x,zs,cntL D s⟩,by rw [← Zm7],rfl,rfl,?_,HVW.out.1,HV.out.mays.2.1,(Z8a HSO.out HV.out.mays.2.1 (by omega)).2 _,?_,HVW.out.2⟩
    ·refine ⟨HM.out,HSO.out.1,by rw [Z2s]; exact HN.out.symm,(Z8a HSO.out HV.out.mays.2.1 (by omega)).1,fun n hn => ?_⟩
     unfold cntL at hn; rw [List.mem_map] at hn; obtain ⟨i,hi,rfl⟩ := hn; exact (HC.out i (List.mem_range.1 hi)).2
    ·refine ⟨by rw [Z2s]; exact HN.out.symm,fun i hi => ⟨D i,(HC.out i (by rw [← HN.out]; exact hi)).1,Zcx (by rw [← HN.out]; exact hi)⟩⟩
end Go.Proofs.YtfkommjlmolniaaGreatDoor
end

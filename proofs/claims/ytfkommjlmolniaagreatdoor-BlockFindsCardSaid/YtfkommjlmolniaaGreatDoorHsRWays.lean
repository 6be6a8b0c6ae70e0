/- Joined: RWays. -/
import Derived.Test.YtfkommjlmolniaaGreatDoorHd21
import Derived.Maps.RangeWalk
import Derived.Test.YtfkommjlmolniaaGreatDoorHd6
set_option linter.unusedVariables false
section

namespace Go.Proofs.YtfkommjlmolniaaGreatDoor
set_option maxHeartbeats 16000000
set_option maxRecDepth 100000
open Go.Lib (hid)
open Go.RowKit
theorem Z55 (w2 : World) (o : Obj) (z : Value) (N : Nat) (t : TypeId) : ((w2.alloc o).alloc (.cells (madeCells #[z] N) t)).drew.rowIs (w2.heap.size + 1) t N (fun _ => z) := by
 have h := World.rowIs_made (w2.alloc o) z N t; have e : (w2.alloc o).heap.size = w2.heap.size + 1 := by simp
 rw [e] at h; exact h
theorem Zoc {W : World} {g : Nat} {v0 v1 v2 v3 : Value} {T : TypeId} (h : W.heap[g]? = some (.cells #[v0,v1,v2,v3] T (0,0))) : W.cell? ⟨g,0,none⟩ = some v0 ∧ W.cell? ⟨g,1,none⟩ = some v1 ∧ W.cell? ⟨g,2,none⟩ = some v2 ∧ W.cell? ⟨g,3,none⟩ = some v3 := by simp [World.cell?,h]
def KeepB (B tb : Nat) (w7 W : World) : Prop := ∀ b,b < B ∨ b = tb → W.heap[b]? = w7.heap[b]?
theorem KeepB.below {B tb : Nat} {w7 W W2 : World} (h : KeepB B tb w7 W) (hb : Below W.heap.size W W2) (h1 : B ≤ W.heap.size) (h2 : tb < W.heap.size) : KeepB B tb w7 W2 := fun b hh =>
 (hb.block b (by rcases hh with hh | hh <;> omega)).trans (h b hh)
theorem KeepB.grown {B tb : Nat} {w7 W W2 : World} {row : Option Nat} (h : KeepB B tb w7 W) (hg : W.grownBy W2 row) (h1 : B ≤ W.heap.size) (h2 : tb < W.heap.size) (hr : ∀ b,(b < B ∨ b = tb) → ¬ row = some b) : KeepB B tb w7 W2 := fun b hh =>
 (hg.block b (by rcases hh with hh | hh <;> omega) (fun e => hr b hh e.symm)).trans (h b hh)
theorem Z7t {w w2 : World} {B n : Nat} {v : Value} {xs : List Value} {row : Option Nat} (h : w.ownsRow B 2 1 v n xs) (hg : w.grownBy w2 row) (hr : ∀ b,v.ownBlock = some b → ¬ row = some b) : w2.ownsRow B 2 1 v n xs := by
 refine ⟨h.1,?_⟩; rcases h.2 with h2 | ⟨g,cap,cur,rfl,hb,hgg,r⟩
 ·exact .inl h2
 ·exact .inr ⟨g,cap,cur,rfl,hb,(hg.block g (Array.getElem?_eq_some_iff.1 hgg).1 (fun e => hr g rfl e.symm)).trans hgg,r⟩
theorem Z0j {P : Program} {md : Region.Mode} {ops : Array Oper} {Q : Exit → Act → World → Prop} {S : World → Prop} (i : Nat) {oi : Oper} {v : Value} {fuel : Nat} {listed : Array Bool} {a : Act} {w : World} (hS : S w) (h : wpAnyH P md ops Q S fuel (listed.setIfInBounds i true) (a.put oi.dst v) w) (hi : ops[i]? = some oi := by exact rfl) (hs : Region.noSelect ops = true := by kernel_rfl) (hf : Region.free md ops listed i = true := by kernel_rfl) (hr : (Region.ready md ops listed).contains i = true := by kernel_rfl) (hQ : ∀ c a w,Q (.panic c) (a.put oi.dst v) w → Q (.panic c) a w := by exact fun _ _ _ h => h) (hw : Region.wanted oi (yielded ops a.tmps) = true := by rfl) (y : ∀ w,S w → (execOp a.eval oi).run P w = .ok (.value v) w := by intro Wz hWz; clear hWz; go_simp; (try with_reducible rfl)) : wpAnyH P md ops Q S (fuel + 1) listed a w := stpT i hS h hi hs hf hr hQ hw y
theorem Zlq (A : InA) (x : Ins) (s : Nat) (hs : s < x.sats.length) (w : World) (hi : IsIns w.heap.size w A x) (hm : May x) :
  Calls Tryz.prog 35 #[.agg (insC A x),.int .i64 (s : Int)] w fun e w' => ∃ (l m : List Int) (a1 a2 : Option Addr) (k1 k2 : Nat),e = .returned (.tuple #[.slice a1 l.length k1,.slice a2 m.length k2]) ∧ IsNums w'.heap.size w' a1 l.length l ∧ IsNums w'.heap.size w' a2 m.length m ∧ OutOf x s l ∧ BackOf x s m ∧ Below w.heap.size w w' := by
 have HIW := hid hi; have HM := hid hm; have HX1 := hid (XBox.make (Below.refl _ w) A x); have hn61 := Z29 hm; have hns := hm.ns; have hnc := hm.nc; have hnodes : x.nodes = 1 + x.sats.length + x.cus.length := rfl; obtain ⟨N,hN⟩ : ∃ N,x.nodes = N := ⟨_,rfl⟩; have HN := hid hN; rw [hN] at hn61 hnodes; have HTL : Hid (x.time.length = N) := hid (by rw [hm.lt,hN])
 have HND := hid (fun W => Zmf A x N hN W (by omega))
 have HAT := hid (fun c W (h : c < x.cus.length) => atR A x c W (by omega))
 have hmb := fun W => Ze4 N (by omega) W
 have hml := fun W => Z8v N (by omega) W
 have hw1 : IntKind.i64.wrap (1 + (s : Int)) = ((1 + s : Nat) : Int) := by rw [IntKind.wrap_i64]; omega
 obtain ⟨c0,c1,c2,c3,c4,c5,c6,c7,c8⟩ := HX1.out.cells; have hnb : 1 + x.sats.length < N := by omega
 have h1s : 1 + s < N := by omega
 have HNE := hid hnodes; clear hi hm hN hnodes; unfold insC at *; go_enter Tryz.func35,Tryz.ntmps35
 go_wp2_with fail
 refine (HND.out _).mono ?_; rintro e w2 ⟨rfl,hb2⟩; have HX2 := hid (HX1.out.later hb2); obtain ⟨gx,hgx⟩ : ∃ g,g = w.heap.size := ⟨_,rfl⟩; rw [← hgx] at HX2 ⊢; clear hgx hb2 HX1 c0 c1 c2 c3 c4 c5 c6 c7 c8; go_upto_region 2 with fail
 go_cut [7,8] from 16 to 19 (fun p q wx => ∃ gs gb,p = .slice (some ⟨gs,0,none⟩) N N ∧ q = .slice (some ⟨gb,0,none⟩) N N ∧ XBox w wx gx A x ∧ wx.rowIs gs 2 N (fun _ => .int .i64 0) ∧ wx.rowIs gb 4 N (fun _ => .bool false) ∧ w.heap.size ≤ gs ∧ w.heap.size ≤ gb)
 case first =>
  have HSZ := hid HX2.out.below.size; go_region
  ·go_wp2_with fail
   go_meet
   exact ⟨_,_,rfl,rfl,HX2.out.later ((((Below.refl w2.heap.size w2).alloc (Nat.le_refl _) (.cells (madeCells #[.int .i64 0] N) 2)).alloc (by simp) (.cells (madeCells #[.bool false] N) 4)).drew),(World.rowIs_made w2 (.int .i64 0) N 2).alloc _,Z55 w2 _ (.bool false) N 4,HSZ.out,Nat.le_trans HSZ.out (by simp)⟩
  ·go_wp2_with fail
   go_meet
   exact ⟨_,_,rfl,rfl,HX2.out.later ((((Below.refl w2.heap.size w2).alloc (Nat.le_refl _) (.cells (madeCells #[.bool false] N) 4)).alloc (by simp) (.cells (madeCells #[.int .i64 0] N) 2)).drew),Z55 w2 _ (.int .i64 0) N 2,(World.rowIs_made w2 (.bool false) N 4).alloc _,Nat.le_trans HSZ.out (by simp),HSZ.out⟩
 case rest =>
  obtain ⟨gs,gb,hp,hq,hX,hR1,hR2,hg1,hg2⟩ := hcut; subst hp hq; have k1 := hR2.cell (i := 1 + s) h1s; have k2 := hR2.frozen (1 + s); have hne : gs ≠ gb := by
   obtain ⟨q1,e1,_⟩ := hR1; obtain ⟨q2,e2,_⟩ := hR2; intro e; rw [e,e2] at e1; injection e1 with e1
   injection e1 with _ e1
   exact absurd e1 (by decide)
  have hxb : gx ≠ gb := by
   obtain ⟨q2,e2,_⟩ := hR2; intro e; have e1 := hX.blk; rw [e,e2] at e1; injection e1 with e1
   injection e1 with _ e1
   exact absurd e1 (by decide)
  have hxs : gx ≠ gs := by
   obtain ⟨q2,e2,_⟩ := hR1; intro e; have e1 := hX.blk; rw [e,e2] at e1; injection e1 with e1
   injection e1 with _ e1
   exact absurd e1 (by decide)
  have HX4 : Hid (XBox w (wc.setCell ⟨gb,1 + s,none⟩ (.bool true)) gx A x) := hid ⟨hX.below.setCell (p := ⟨gb,1 + s,none⟩) hg2 (.bool true),hX.ge,(heap_setCell_other _ _ _ _ hxb).trans hX.blk⟩; have HR4 : Hid ((wc.setCell ⟨gb,1 + s,none⟩ (.bool true)).rowIs gs 2 N (fun j => .int .i64 (if 1 + x.sats.length ≤ j ∧ j < 1 + x.sats.length + 0 then styI x j else 0))) := hid ((hR1.setOther (a := ⟨gb,1 + s,none⟩) hne _).congr fun j _ => by rw [if_neg (by omega)])
  have HB4 : Hid ((wc.setCell ⟨gb,1 + s,none⟩ (.bool true)).rowIs gb 4 N (fun j => .bool (decide (j = 1 + s) || (decide (1 + x.sats.length ≤ j) && decide (j < 1 + x.sats.length + 0))))) := hid ((hR2.set (1 + s) (.bool true)).congr fun j _ => by
   by_cases e : j = 1 + s
   ·simp [e]
   ·rw [if_neg e]
    congr 1
    simp [e])
  obtain ⟨w4,hw4⟩ : ∃ z,z = wc.setCell ⟨gb,1 + s,none⟩ (.bool true) := ⟨_,rfl⟩; have HG1 := hid hg1; have HG2 := hid hg2; have HNS := hid hne; have HXB := hid hxb; have HXS := hid hxs; obtain ⟨-,-,-,-,-,-,c6,-,-⟩ := HX4.out.cells; clear hX hR1 hR2 hg1 hg2 hne hxb hxs; go_wp2_with fail
  rw [← hw4] at HX4 HR4 HB4 ⊢; clear hw4 c6 k1 k2; go_loopw [27] (fun iv wr => ∃ c : Nat,iv = .int .i64 (c : Int) ∧ c ≤ x.cus.length ∧ Hid (XBox w wr gx A x) ∧ Hid (wr.rowIs gs 2 N (fun j => .int .i64 (if 1 + x.sats.length ≤ j ∧ j < 1 + x.sats.length + c then styI x j else 0))) ∧ Hid (wr.rowIs gb 4 N (fun j => .bool (decide (j = 1 + s) || (decide (1 + x.sats.length ≤ j) && decide (j < 1 + x.sats.length + c)))))) (fun iv _ => x.cus.length - (intOf iv).toNat)
  case atStart => exact ⟨0,rfl,Nat.zero_le _,HX4,HR4,HB4⟩
  case round =>
   obtain ⟨c,rfl,hc,HX,HR,HB⟩ := hrel; clear HX4 HR4 HB4; by_cases hct : c < x.cus.length
   ·obtain ⟨b,off,q,hA,hb,hq,p0,p1,p2,p3⟩ := (HIW.out.cus.later HX.out.below).at_ hct
    have HQ := hid hq; obtain ⟨a0,a1,a2,a3⟩ := q; simp only at p0 p1 p2 p3
    rw [hA]; clear hq hA; go_wp2_with fail
    obtain ⟨m,hm⟩ : ∃ m,1 + x.sats.length + c = m := ⟨_,rfl⟩; have HMM := hid hm; have hmN : m < N := by have := HNE.out; omega
    have HAC : Hid (∀ W,Calls Tryz.prog 54 #[.agg #[.int .i64 x.en,.int .i64 x.tm,.int .i64 x.tr,.int .i64 x.bm,.int .i64 x.br,.slice A.sa x.sats.length A.sc,.slice A.ca x.cus.length A.cc,.slice A.ka x.cost.length A.kc,.slice A.ta x.time.length A.tc],.int .i64 (c : Int)] W fun e w' => e = .returned (.int .i64 (m : Int)) ∧ Below W.heap.size W w') := hid fun W => by
     have h := HAT.out c W hct; rw [hm] at h; exact h
    have hbn := (Below.refl wr.heap.size wr).alloc (Nat.le_refl _) (.cells #[.int .i64 a0,.int .i64 a1,.int .i64 a2,.int .i64 a3] 53); have HX5 := hid (HX.out.later hbn.drew); have HR5 := hid (Z0a HR.out hbn.drew); have HB5 := hid (Z0a HB.out hbn.drew); have HC5 : Hid ((World.drew (wr.alloc (.cells #[.int .i64 a0,.int .i64 a1,.int .i64 a2,.int .i64 a3] 53))).heap[wr.heap.size]? = some (.cells #[.int .i64 a0,.int .i64 a1,.int .i64 a2,.int .i64 a3] 53 (0,0))) := hid (heap_alloc_new wr _); have HL1 : Hid (gs < wr.heap.size) := hid HR.out.lt; have HL2 : Hid (gb < wr.heap.size) := hid HB.out.lt; obtain ⟨tb,htb⟩ : ∃ tb,tb = wr.heap.size := ⟨_,rfl⟩; rw [← htb] at HC5 HL1 HL2 ⊢; refine wp_region_held_drew (S := (fun Wz => Wz.heap[gx]? = some (.cells #[.int .i64 x.en,.int .i64 x.tm,.int .i64 x.tr,.int .i64 x.bm,.int .i64 x.br,.slice A.sa x.sats.length A.sc,.slice A.ca x.cus.length A.cc,.slice A.ka x.cost.length A.kc,.slice A.ta x.time.length A.tc] 34 (0,0)) ∧ Wz.heap[tb]? = some (.cells #[.int .i64 a0,.int .i64 a1,.int .i64 a2,.int .i64 a3] 53 (0,0)))) (by kernel_rfl) ⟨HX5.out.blk,HC5.out⟩ (fun hHeld => ?_)
    obtain ⟨v,hv⟩ : ∃ v,v = World.drew (wr.alloc (.cells #[.int .i64 a0,.int .i64 a1,.int .i64 a2,.int .i64 a3] 53)) := ⟨_,rfl⟩; rw [← hv] at HX5 HR5 HB5 HC5 hHeld ⊢; clear hv htb hbn HX HR HB p0 p1 p2 p3 hm; refine Z0j 0 hHeld ?_; try go_frame
    refine stpT 1 hHeld ?_ (y := fun Wz hWz => by obtain ⟨hw1_,hw2_⟩ := hWz; obtain ⟨k0,k1,k2,k3,k4,k5,k6,k7,k8,_⟩ := Z1f hw1_; clear hw2_; go_simp; (try with_reducible rfl))
    try go_frame
    refine Z0j 2 hHeld ?_; try go_frame
    refine Z0j 4 hHeld ?_; try go_frame
    refine stpT 5 hHeld ?_ (y := fun Wz hWz => by obtain ⟨hw1_,hw2_⟩ := hWz; obtain ⟨k0,k1,k2,k3,k4,k5,k6,k7,k8,_⟩ := Z1f hw1_; clear hw2_; go_simp; (try with_reducible rfl))
    try go_frame
    refine Z0j 6 hHeld ?_; try go_frame
    refine Z0j 8 hHeld ?_; try go_frame
    refine stpT 9 hHeld ?_ (y := fun Wz hWz => by obtain ⟨hw1_,hw2_⟩ := hWz; obtain ⟨k0,k1,k2,k3⟩ := Zoc hw2_; clear hw1_; go_simp; (try with_reducible rfl))
    try go_frame
    refine stpR 3 (fun K hK => ?_); go_simp; refine (HAC.out _).mono ?_; rintro e v6 ⟨rfl,hb⟩; have HX6 := hid (HX5.out.later hb); have HR6 := hid (Z0a HR5.out hb); have HB6 := hid (Z0a HB5.out hb); have HC6 := hid ((hb.block tb (Array.getElem?_eq_some_iff.1 HC5.out).1).trans HC5.out); clear hb HX5 HR5 HB5 HC5; refine hK.out _ _ ?_ (fun hHeld => ?_)
    ·exact ⟨HX6.out.blk,HC6.out⟩
    clear hK K; try go_frame
    refine stpR 7 (fun K hK => ?_); go_simp; refine (HAC.out _).mono ?_; rintro e v7 ⟨rfl,hb⟩; have HX7 := hid (HX6.out.later hb); have HR7 := hid (Z0a HR6.out hb); have HB7 := hid (Z0a HB6.out hb); have HC7 := hid ((hb.block tb (Array.getElem?_eq_some_iff.1 HC6.out).1).trans HC6.out); clear hb HX6 HR6 HB6 HC6; refine hK.out _ _ ?_ (fun hHeld => ?_)
    ·exact ⟨HX7.out.blk,HC7.out⟩
    clear hK K; try go_frame
    refine Z0j 10 hHeld ?_; try go_frame
    have k1 := HB7.out.cell (i := m) hmN; have k2 := HB7.out.frozen m; have HX8 : Hid (XBox w (v7.setCell ⟨gb,m,none⟩ (.bool true)) gx A x) := hid ⟨HX7.out.below.setCell (p := ⟨gb,m,none⟩) HG2.out (.bool true),HX7.out.ge,(heap_setCell_other _ _ _ _ HXB.out).trans HX7.out.blk⟩; have HC8 : Hid ((v7.setCell ⟨gb,m,none⟩ (.bool true)).heap[tb]? = some (.cells #[.int .i64 a0,.int .i64 a1,.int .i64 a2,.int .i64 a3] 53 (0,0))) := hid ((heap_setCell_other _ _ _ _ (by have := HL2.out; show tb ≠ gb; omega)).trans HC7.out)
    have HR8 := hid (HR7.out.setOther (a := ⟨gb,m,none⟩) HNS.out (.bool true)); have HB8 : Hid ((v7.setCell ⟨gb,m,none⟩ (.bool true)).rowIs gb 4 N (fun j => .bool (decide (j = 1 + s) || (decide (1 + x.sats.length ≤ j) && decide (j < 1 + x.sats.length + (c + 1)))))) := hid ((HB7.out.set m (.bool true)).congr fun j _ => by
     have := HMM.out; by_cases e : j = m
     ·rw [if_pos e]
      simp [show 1 + x.sats.length ≤ j by omega,show j < 1 + x.sats.length + (c + 1) by omega]
     ·rw [if_neg e]
      congr 3
      exact decide_eq_decide.2 (by omega))
    clear HX7 HR7 HB7 HC7; refine stpR 11 (fun K hK => ?_); go_simp; refine hK.out _ _ ?_ (fun hHeld => ?_)
    ·exact ⟨HX8.out.blk,HC8.out⟩
    clear hK K k1 k2; try go_frame
    obtain ⟨v8,hv8⟩ : ∃ z,z = v7.setCell ⟨gb,m,none⟩ (.bool true) := ⟨_,rfl⟩; rw [← hv8] at HX8 HR8 HB8 HC8 hHeld ⊢; clear hv8; refine Z0j 12 hHeld ?_; try go_frame
    have k1 := HR8.out.cell (i := m) hmN; have k2 := HR8.out.frozen m; have HX9 : Hid (XBox w (v8.setCell ⟨gs,m,none⟩ (.int .i64 a3)) gx A x) := hid ⟨HX8.out.below.setCell (p := ⟨gs,m,none⟩) HG1.out (.int .i64 a3),HX8.out.ge,(heap_setCell_other _ _ _ _ HXS.out).trans HX8.out.blk⟩; have HC9 : Hid ((v8.setCell ⟨gs,m,none⟩ (.int .i64 a3)).heap[tb]? = some (.cells #[.int .i64 a0,.int .i64 a1,.int .i64 a2,.int .i64 a3] 53 (0,0))) := hid ((heap_setCell_other _ _ _ _ (by have := HL1.out; show tb ≠ gs; omega)).trans HC8.out)
    have HB9 := hid (HB8.out.setOther (a := ⟨gs,m,none⟩) (Ne.symm HNS.out) (.int .i64 a3)); have HR9 : Hid ((v8.setCell ⟨gs,m,none⟩ (.int .i64 a3)).rowIs gs 2 N (fun j => .int .i64 (if 1 + x.sats.length ≤ j ∧ j < 1 + x.sats.length + (c + 1) then styI x j else 0))) := hid ((HR8.out.set m (.int .i64 a3)).congr fun j _ => by
     have hmm := HMM.out; by_cases e : j = m
     ·subst e
      rw [if_pos rfl,if_pos (by omega)]
      unfold styI; rw [if_neg (by omega),show j - (1 + x.sats.length) = c by omega]
      simp [List.getD,HQ.out]
     ·rw [if_neg e]
      by_cases h2 : 1 + x.sats.length ≤ j ∧ j < 1 + x.sats.length + c
      ·rw [if_pos h2,if_pos (by omega)]
      ·rw [if_neg h2,if_neg (by omega)])
    clear HX8 HR8 HB8 HC8; refine stpR 13 (fun K hK => ?_); go_simp; refine hK.out _ _ ?_ (fun hHeld => ?_)
    ·exact ⟨HX9.out.blk,HC9.out⟩
    clear hK K k1 k2; try go_frame
    refine wpAnyH_done (by kernel_rfl) ?_ _
    clear hHeld HC9; go_wp2_with fail
    go_roundw
    case rel => exact ⟨c + 1,by go_num,by omega,HX9,HR9,HB9⟩
    case measure => simp [intOf]; omega
   ·obtain rfl : c = x.cus.length := by omega
    have HRS : Hid (wr.rowIs gs 2 N (fun j => .int .i64 (styI x j))) := hid (HR.out.congr fun j hj => by
     have := HNE.out; by_cases h : 1 + x.sats.length ≤ j
     ·rw [if_pos ⟨h,by omega⟩]
     ·rw [if_neg (fun h2 => h h2.1)]
      unfold styI; rw [if_pos (by omega)])
    have HBS : Hid (wr.rowIs gb 4 N (fun j => .bool (inC x s j))) := hid (HB.out.congr fun j hj => by
     have := HNE.out; unfold inC; rw [show decide (j < 1 + x.sats.length + x.cus.length) = true by simp; omega,Bool.and_true])
    have HTR : Hid (IsRows wr.heap.size wr A.ta N ((List.range N).map (fun i => rowL N (tmI x i)))) := hid (by
     have h := (HX.out.pipesHere HIW.out).time; rw [HM.out.time_rows,HN.out] at h; simpa [rowL] using h)
    have HTI : Hid (∀ i k,i < N → k < N → 0 ≤ tmI x i k ∧ tmI x i k ≤ 1000000000) := hid fun i k h1 h2 => HM.out.tm_in (by rw [HN.out]; exact h1) (by rw [HN.out]; exact h2)
    have HSI : Hid (∀ i,i < N → 0 ≤ styI x i ∧ styI x i ≤ 1000000000) := hid fun i h1 => HM.out.sty_in (by rw [HN.out]; exact h1)
    have HAP := hid (Zav A.ta (some ⟨gs,0,none⟩) (some ⟨gb,0,none⟩) A.tc N N N (tmI x) (styI x) (inC x s) wr (by omega) HTR.out (Z6l HRS.out) (IsBools.made HBS.out) HTI.out HSI.out)
    obtain ⟨-,-,-,-,-,-,c6,-,c8⟩ := HX.out.cells; have htl := HTL.out; clear HR HB HRS HBS HTR hc; go_wp2_with fail
    rw [htl]; clear htl; refine HAP.out.mono ?_; rintro e v6 ⟨go,V,C,D,rfl,hd,hsw,hb⟩; have HX6 := hid (HX.out.later hb); have HD6 := hid hd; have HSW := hid hsw; clear hd hsw hb HAP HX c6 c8; have HO6 : Hid (v6.ownsRow v6.heap.size 2 1 (.slice none 0 0) 0 (numsV [])) := hid ⟨by simp [numsV],.inl ⟨rfl,rfl⟩⟩
    have HB6 := hid (Below.refl v6.heap.size v6); obtain ⟨-,-,-,-,-,-,c6,-,-⟩ := HX6.out.cells; go_wp2_with fail
    clear c6; go_loopw [4,5,53] (fun ov bv iv wr => ∃ (c : Nat) (l m : List Int),iv = .int .i64 (c : Int) ∧ c ≤ x.cus.length ∧ Hid (wr.ownsRow v6.heap.size 2 1 ov c (numsV l)) ∧ Hid (wr.ownsRow v6.heap.size 2 1 bv c (numsV m)) ∧ Hid (∀ b,ov.ownBlock = some b → ¬ bv.ownBlock = some b) ∧ Hid (Below v6.heap.size v6 wr) ∧ Hid (l.length = c ∧ ∀ j,j < c → l[j]? = some (D (1 + s) (1 + x.sats.length + j))) ∧ Hid (m.length = c ∧ ∀ j,j < c → m[j]? = some (styI x (1 + x.sats.length + j) + D (1 + x.sats.length + j) (1 + s)))) (fun _ _ iv _ => x.cus.length - (intOf iv).toNat)
    case atStart => exact ⟨0,[],[],rfl,Nat.zero_le _,HO6,HO6,hid (fun b h => by cases h),HB6,hid ⟨rfl,fun j h => absurd h (by omega)⟩,hid ⟨rfl,fun j h => absurd h (by omega)⟩⟩
    case round =>
     obtain ⟨c,l,m,rfl,hc,HO,HP,HAB,HB,HL,HK⟩ := hrel; clear HO6 HB6; obtain ⟨oa,oc,rfl⟩ := Z04 HO.out; obtain ⟨pa,pc,rfl⟩ := Z04 HP.out; by_cases hct : c < x.cus.length
     ·obtain ⟨b,off,q,hA,hb,hq,p0,p1,p2,p3⟩ := (HIW.out.cus.later (HX6.out.later HB.out).below).at_ hct
      have HQ := hid hq; have hqb := HM.out.cus q (List.mem_of_getElem? hq); obtain ⟨a0,a1,a2,a3⟩ := q; simp only at p0 p1 p2 p3
      have hab : 0 ≤ a3 ∧ a3 ≤ 1000000000 := by
       simp [cusB,inB_] at hqb
       omega
      rw [hA]; clear hq hA hqb; go_wp2_with fail
      obtain ⟨i0,hi0,hz0,hz1,hz2⟩ := info_parts Z6k; obtain ⟨nd,hnd⟩ : ∃ nd,1 + x.sats.length + c = nd := ⟨_,rfl⟩; obtain ⟨ss,hss⟩ : ∃ ss,1 + s = ss := ⟨_,rfl⟩; have hnN : nd < N := by have := HNE.out; omega
      have hsN : ss < N := by omega
      have hsn : ss ≠ nd := by omega
      have HAC : Hid (∀ W,Calls Tryz.prog 54 #[.agg #[.int .i64 x.en,.int .i64 x.tm,.int .i64 x.tr,.int .i64 x.bm,.int .i64 x.br,.slice A.sa x.sats.length A.sc,.slice A.ca x.cus.length A.cc,.slice A.ka x.cost.length A.kc,.slice A.ta x.time.length A.tc],.int .i64 (c : Int)] W fun e w' => e = .returned (.int .i64 (nd : Int)) ∧ Below W.heap.size W w') := hid fun W => by
       have h := HAT.out c W hct; rw [hnd] at h; exact h
      have hms : inC x s ss = true := by simp [inC,← hss]
      have hmn : inC x s nd = true := by rw [← hnd]; simp [inC]
      have HTP : Hid (∀ i k,i < N → k < N → 0 ≤ tmI x i k) := hid fun i k h1 h2 => (HTI.out i k h1 h2).1; have HSP : Hid (∀ i,i < N → 0 ≤ styI x i) := hid fun i h1 => (HSI.out i h1).1; have b1 := HSW.out.pos HTP.out HSP.out hsN hnN hms hmn; have b2 := HSW.out.pos HTP.out HSP.out hnN hsN hmn hms; have b3 := HSW.out.le ss nd hsN hnN hms hmn hsn; have b4 := HSW.out.le nd ss hnN hsN hmn hms (Ne.symm hsn); have b5 := (HTI.out ss nd hsN hnN).2; have b6 := (HTI.out nd ss hnN hsN).2; have hbn := (Below.refl wr.heap.size wr).alloc (Nat.le_refl _) (.cells #[.int .i64 a0,.int .i64 a1,.int .i64 a2,.int .i64 a3] 53); obtain ⟨w7,hw7⟩ : ∃ w7,w7 = World.drew (wr.alloc (.cells #[.int .i64 a0,.int .i64 a1,.int .i64 a2,.int .i64 a3] 53)) := ⟨_,rfl⟩; have hb7 : Below wr.heap.size wr w7 := by rw [hw7]; exact hbn.drew
      have hd := HD6.out.later (HB.out.trans (hb7.mono HB.out.size)); have d2 := hd.at_ (i := ss) hsN (Nat.le_refl _); have d3 := hd.at_ (i := nd) hnN (Nat.le_refl _); have d4 := hd.get (i := ss) (k := nd) hsN hnN; have d5 := hd.get (i := nd) (k := ss) hnN hsN; have d6 : w7.cell? ⟨wr.heap.size,3,none⟩ = some (.int .i64 a3) := by rw [hw7]; simp
      have HBK := hid (HX6.out.later (HB.out.trans (hb7.mono HB.out.size))).blk; have L1 : Hid (go < v6.heap.size) := hid HD6.out.outer.lt; have L2 : Hid (V ss < v6.heap.size) := hid ((HD6.out.row ss hsN).base_).2; have L3 : Hid (V nd < v6.heap.size) := hid ((HD6.out.row nd hnN).base_).2; have L5 : Hid (gx < v6.heap.size) := hid HX6.out.lt; have LO := hid (World.ownsRow.lt HO.out); have LP := hid (World.ownsRow.lt HP.out); have LS : Hid (v6.heap.size ≤ wr.heap.size) := hid HB.out.size; have LW : Hid (wr.heap.size < w7.heap.size) := hid (by rw [hw7]; simp)
      have HO7 := hid (Z06 HO.out hb7); have HP7 := hid (Z06 HP.out hb7); have HB7 := hid (HB.out.trans (hb7.mono HB.out.size)); have HKP : Hid (KeepB v6.heap.size wr.heap.size w7 w7) := hid fun _ _ => rfl; have hw0 : IntKind.i64.wrap (1 + (s : Int)) = (ss : Int) := by rw [IntKind.wrap_i64]; omega
      obtain ⟨dv1,hv1⟩ : ∃ z,D ss nd = z := ⟨_,rfl⟩; obtain ⟨dv2,hv2⟩ : ∃ z,D nd ss = z := ⟨_,rfl⟩; rw [hv1] at d4 b1 b3; rw [hv2] at d5 b2 b4; have hw2 : IntKind.i64.wrap (a3 + dv2) = a3 + dv2 := by rw [IntKind.wrap_i64]; omega
      have HL2 : Hid ((l ++ [dv1]).length = c + 1 ∧ ∀ j,j < c + 1 → (l ++ [dv1])[j]? = some (D (1 + s) (1 + x.sats.length + j))) := hid ⟨by simp [HL.out.1],fun j hj => by
       by_cases e : j = c
       ·subst e
        rw [hnd,hss,hv1,List.getElem?_append_right (by have := HL.out.1; omega)]
        simp [HL.out.1]
       ·rw [List.getElem?_append_left (by have := HL.out.1; omega)]
        exact HL.out.2 j (by omega)⟩
      have HK2 : Hid ((m ++ [a3 + dv2]).length = c + 1 ∧ ∀ j,j < c + 1 → (m ++ [a3 + dv2])[j]? = some (styI x (1 + x.sats.length + j) + D (1 + x.sats.length + j) (1 + s))) := hid ⟨by simp [HK.out.1],fun j hj => by
       by_cases e : j = c
       ·subst e
        have h0 : styI x (1 + x.sats.length + j) = a3 := by
         unfold styI; rw [if_neg (by omega),show 1 + x.sats.length + j - (1 + x.sats.length) = j by omega]
         simp [List.getD,HQ.out]
        rw [h0,hnd,hss,hv2,List.getElem?_append_right (by have := HK.out.1; omega)]
        simp [HK.out.1]
       ·rw [List.getElem?_append_left (by have := HK.out.1; omega)]
        exact HK.out.2 j (by omega)⟩
      clear hd hbn hb7 p0 p1 p2 p3 hnd hss hms hmn b1 b2 b3 b4 b5 b6 hv1 hv2 hw1 h1s; refine wp_region_held_drew (S := (fun Wz => KeepB v6.heap.size wr.heap.size w7 Wz)) (by kernel_rfl) (by rw [← hw7]; exact HKP.out) (fun hHeld => ?_)
      rw [← hw7] at hHeld ⊢; clear hw7; refine Z0j 0 hHeld ?_; try go_frame
      refine Z0j 1 hHeld ?_; try go_frame
      refine Z0j 2 hHeld ?_; try go_frame
      refine Z0j 3 hHeld ?_; try go_frame
      refine Z0j 4 hHeld ?_; try go_frame
      refine stpT 5 hHeld ?_ (y := fun Wz hWz => by have r1 := (Z02 (hWz go (.inl L1.out)) ss).trans d2; clear hWz; go_simp; (try with_reducible rfl))
      try go_frame
      refine stpT 6 hHeld ?_ (y := fun Wz hWz => by obtain ⟨k0,k1,k2,k3,k4,k5,k6,k7,k8,_⟩ := Z1f ((hWz gx (.inl L5.out)).trans HBK.out); clear hWz; go_simp; (try with_reducible rfl))
      try go_frame
      refine Z0j 7 hHeld ?_; try go_frame
      refine Z0j 13 hHeld ?_; try go_frame
      refine Z0j 14 hHeld ?_; try go_frame
      refine stpT 15 hHeld ?_ (y := fun Wz hWz => by have r1 := (Z02 (hWz wr.heap.size (.inr rfl)) 3).trans d6; clear hWz; go_simp; (try with_reducible rfl))
      try go_frame
      refine Z0j 16 hHeld ?_; try go_frame
      refine stpT 17 hHeld ?_ (y := fun Wz hWz => by obtain ⟨k0,k1,k2,k3,k4,k5,k6,k7,k8,_⟩ := Z1f ((hWz gx (.inl L5.out)).trans HBK.out); clear hWz; go_simp; (try with_reducible rfl))
      try go_frame
      refine Z0j 18 hHeld ?_; try go_frame
      refine Z0j 22 hHeld ?_; try go_frame
      refine Z0j 23 hHeld ?_; try go_frame
      refine stpR 8 (fun K hK => ?_); go_simp; refine (HAC.out _).mono ?_; rintro e u1 ⟨rfl,hb⟩; have HO8 := hid (Z06 HO7.out hb); have HP8 := hid (Z06 HP7.out hb); have HB8 := hid (HB7.out.trans (hb.mono HB7.out.size)); have LW2 : Hid (wr.heap.size < u1.heap.size) := hid (Nat.lt_of_lt_of_le LW.out hb.size); have HKQ : Hid (KeepB v6.heap.size wr.heap.size w7 u1) := hid (hHeld.below hb HB7.out.size LW.out); clear hb HO7 HP7 HB7 LW HKP; have LW := LW2; clear LW2; refine hK.out _ _ ?_ (fun hHeld => ?_)
      ·exact HKQ.out
      clear hK K; try go_frame
      have HKP := HKQ; clear HKQ; refine Z0j 9 hHeld ?_; try go_frame
      refine stpT 10 hHeld ?_ (y := fun Wz hWz => by have r1 := (Z02 (hWz (V ss) (.inl L2.out)) nd).trans d4; clear hWz; go_simp; (try with_reducible rfl))
      try go_frame
      refine stpR 11 (fun K hK => ?_); go_simp; have hb := (Below.refl u1.heap.size u1).alloc (Nat.le_refl _) (.cells #[.int .i64 dv1] 2); have HO9 := hid (Z06 HO8.out hb); have HP9 := hid (Z06 HP8.out hb); have HB9 := hid (HB8.out.trans (hb.mono HB8.out.size)); have LW2 : Hid (wr.heap.size < (World.alloc u1 (.cells #[.int .i64 dv1] 2)).heap.size) := hid (Nat.lt_of_lt_of_le LW.out hb.size); have HKQ : Hid (KeepB v6.heap.size wr.heap.size w7 (World.alloc u1 (.cells #[.int .i64 dv1] 2))) := hid (hHeld.below hb HB8.out.size LW.out); have HNW := hid (Z1b u1 (.int .i64 dv1) 2 _ rfl); clear hb HO8 HP8 HB8 LW HKP; have LW := LW2; clear LW2; refine hK.out _ _ ?_ (fun hHeld => ?_)
      ·exact HKQ.out
      clear hK K; try go_frame
      have HKP := HKQ; clear HKQ; obtain ⟨u2,hvn⟩ : ∃ z,z = World.alloc u1 (.cells #[.int .i64 dv1] 2) := ⟨_,rfl⟩; obtain ⟨nb,hnb⟩ : ∃ z,z = u1.heap.size := ⟨_,rfl⟩; rw [← hvn] at HO9 HP9 HB9 LW HKP HNW hHeld ⊢; rw [← hnb] at HNW ⊢; clear hvn hnb; refine stpR 12 (fun K hK => ?_); refine Z01 rfl (.tmp 58) (.tmp 69) 56 rfl v6.heap.size 2 i0 _ 1 8 Tryz.underlying56 hi0 hz0 hz1 hz2 (by decide) (.slice oa c oc) c (numsV l) rfl HO9.out ⟨nb,0,none⟩ 1 [.int .i64 dv1] rfl rfl HNW.out (Z2y _) (by unfold maxLen; omega) (by omega) HB9.out.size ?_
      intro g1 g1c u3 hown hgrow hfr; have HOW : Hid (u3.ownsRow v6.heap.size 2 1 (.slice (some ⟨g1,0,none⟩) (c + 1) g1c) (c + 1) (numsV (l ++ [dv1]))) := hid (by rw [Z2r]; exact hown)
      have HP10 : Hid (u3.ownsRow v6.heap.size 2 1 (.slice pa c pc) c (numsV m)) := hid (Z7t HP9.out hgrow (fun b h1 h2 => HAB.out b h2 h1)); have HAB2 : Hid (∀ b,(Value.slice (some ⟨g1,0,none⟩) (c + 1) g1c).ownBlock = some b → ¬ (Value.slice pa c pc).ownBlock = some b) := hid (fun b h1 h2 => by have e1 : g1 = b := (by simpa [Value.ownBlock] using h1); subst e1; rcases hfr with hfr | hfr; exact HAB.out g1 hfr h2; have := (LP.out g1 h2).2; have := LW.out; omega)
      have HB10 := hid (HB9.out.grown hgrow HB9.out.size (fun k hk => (LO.out k hk).1)); have LW2 : Hid (wr.heap.size < u3.heap.size) := hid (Nat.lt_of_lt_of_le LW.out hgrow.size); have HKQ : Hid (KeepB v6.heap.size wr.heap.size w7 u3) := hid (hHeld.grown hgrow HB9.out.size LW.out (fun b hb e => by have := LO.out b e; omega))
      have LG1 : Hid (g1 < u3.heap.size) := hid ((World.ownsRow.lt hown g1 rfl).2); clear hown hgrow hfr HO9 HP9 HB9 LW HKP HAB HNW; have LW := LW2; clear LW2; refine hK.out _ _ ?_ (fun hHeld => ?_)
      ·exact HKQ.out
      clear hK K; try go_frame
      have HKP := HKQ; have HO10 := HOW; clear HKQ HOW; refine stpR 19 (fun K hK => ?_); go_simp; refine (HAC.out _).mono ?_; rintro e u4 ⟨rfl,hb⟩; have HO11 := hid (Z06 HO10.out hb); have HP11 := hid (Z06 HP10.out hb); have HB11 := hid (HB10.out.trans (hb.mono HB10.out.size)); have LW2 : Hid (wr.heap.size < u4.heap.size) := hid (Nat.lt_of_lt_of_le LW.out hb.size); have HKQ : Hid (KeepB v6.heap.size wr.heap.size w7 u4) := hid (hHeld.below hb HB10.out.size LW.out); clear hb HO10 HP10 HB10 LW HKP; have LW := LW2; clear LW2; refine hK.out _ _ ?_ (fun hHeld => ?_)
      ·exact HKQ.out
      clear hK K; try go_frame
      have HKP := HKQ; clear HKQ; refine Z0j 20 hHeld ?_; try go_frame
      refine stpT 21 hHeld ?_ (y := fun Wz hWz => by have r1 := (Z02 (hWz go (.inl L1.out)) nd).trans d3; clear hWz; go_simp; (try with_reducible rfl))
      try go_frame
      refine Z0j 24 hHeld ?_; try go_frame
      refine stpT 25 hHeld ?_ (y := fun Wz hWz => by have r1 := (Z02 (hWz (V nd) (.inl L3.out)) ss).trans d5; clear hWz; go_simp; (try with_reducible rfl))
      try go_frame
      refine Z0j 26 hHeld ?_; try go_frame
      refine stpR 27 (fun K hK => ?_); go_simp; have hb := (Below.refl u4.heap.size u4).alloc (Nat.le_refl _) (.cells #[.int .i64 (a3 + dv2)] 2); have HO12 := hid (Z06 HO11.out hb); have HP12 := hid (Z06 HP11.out hb); have HB12 := hid (HB11.out.trans (hb.mono HB11.out.size)); have LW2 : Hid (wr.heap.size < (World.alloc u4 (.cells #[.int .i64 (a3 + dv2)] 2)).heap.size) := hid (Nat.lt_of_lt_of_le LW.out hb.size); have HKQ : Hid (KeepB v6.heap.size wr.heap.size w7 (World.alloc u4 (.cells #[.int .i64 (a3 + dv2)] 2))) := hid (hHeld.below hb HB11.out.size LW.out); have HNW := hid (Z1b u4 (.int .i64 (a3 + dv2)) 2 _ rfl); clear hb HO11 HP11 HB11 LW HKP; have LW := LW2; clear LW2; refine hK.out _ _ ?_ (fun hHeld => ?_)
      ·exact HKQ.out
      clear hK K; try go_frame
      have HKP := HKQ; clear HKQ; obtain ⟨u5,hvn⟩ : ∃ z,z = World.alloc u4 (.cells #[.int .i64 (a3 + dv2)] 2) := ⟨_,rfl⟩; obtain ⟨nb,hnb⟩ : ∃ z,z = u4.heap.size := ⟨_,rfl⟩; rw [← hvn] at HO12 HP12 HB12 LW HKP HNW hHeld ⊢; rw [← hnb] at HNW ⊢; clear hvn hnb; refine stpR 28 (fun K hK => ?_); refine Z01 rfl (.tmp 71) (.tmp 85) 56 rfl v6.heap.size 2 i0 _ 1 8 Tryz.underlying56 hi0 hz0 hz1 hz2 (by decide) (.slice pa c pc) c (numsV m) rfl HP12.out ⟨nb,0,none⟩ 1 [.int .i64 (a3 + dv2)] rfl rfl HNW.out (Z2y _) (by unfold maxLen; omega) (by omega) HB12.out.size ?_
      intro g2 g2c u6 hown hgrow hfr; have HPW : Hid (u6.ownsRow v6.heap.size 2 1 (.slice (some ⟨g2,0,none⟩) (c + 1) g2c) (c + 1) (numsV (m ++ [a3 + dv2]))) := hid (by rw [Z2r]; exact hown)
      have HOW : Hid (u6.ownsRow v6.heap.size 2 1 (.slice (some ⟨g1,0,none⟩) (c + 1) g1c) (c + 1) (numsV (l ++ [dv1]))) := hid (Z7t HO12.out hgrow (fun b h1 h2 => HAB2.out b h1 h2)); have HAB3 : Hid (∀ b,(Value.slice (some ⟨g1,0,none⟩) (c + 1) g1c).ownBlock = some b → ¬ (Value.slice (some ⟨g2,0,none⟩) (c + 1) g2c).ownBlock = some b) := hid (fun b h1 h2 => by have e2 : g2 = b := (by simpa [Value.ownBlock] using h2); subst e2; rcases hfr with hfr | hfr; exact HAB2.out g2 h1 hfr; have := (World.ownsRow.lt HO12.out g2 h1).2; omega)
      have HB13 := hid (HB12.out.grown hgrow HB12.out.size (fun k hk => (LP.out k hk).1)); have HKQ : Hid (KeepB v6.heap.size wr.heap.size w7 u6) := hid (hHeld.grown hgrow HB12.out.size LW.out (fun b hb e => by have := LP.out b e; omega))
      clear hown hgrow hfr HO12 HP12 HB12 LW HKP HAB2 HNW; refine hK.out _ _ ?_ (fun hHeld => ?_)
      ·exact HKQ.out
      clear hK K; try go_frame
      refine Z0j 29 hHeld ?_; try go_frame
      refine Z0j 30 hHeld ?_; try go_frame
      refine wpAnyH_done (by kernel_rfl) ?_ _
      clear hHeld HKQ; go_wp2_with fail
      go_roundw
      case rel => exact ⟨c + 1,_,_,by go_num,by omega,HOW,HPW,HAB3,HB13,HL2,HK2⟩
      case measure => simp [intOf]; omega
     ·obtain rfl : c = x.cus.length := by omega
      have hMs : inC x s (1 + s) = true := by simp [inC]
      have hMc : ∀ j,inC x s (1 + x.sats.length + j) = true := fun j => by simp [inC]
      have HTP : Hid (∀ i k,i < N → k < N → 0 ≤ tmI x i k) := hid fun i k h1 h2 => (HTI.out i k h1 h2).1; have HSP : Hid (∀ i,i < N → 0 ≤ styI x i) := hid fun i h1 => (HSI.out i h1).1; have hs0 : styI x (1 + s) = 0 := by unfold styI; rw [if_pos (by omega)]
      have HOU : Hid (OutOf x s l) := hid ⟨HL.out.1,fun j hj => ⟨_,by
       have := HNE.out; have h := HSW.out.least (i := 1 + s) (k := 1 + x.sats.length + j) HTP.out HSP.out (by omega) (by omega) (by omega) hMs (hMc j) (by omega)
       unfold arcC; rw [HN.out]; rw [hs0,Int.add_zero] at h; exact h,HL.out.2 j hj⟩⟩
      have HBA : Hid (BackOf x s m) := hid ⟨HK.out.1,fun j hj => ⟨_,by
       have := HNE.out; have h := HSW.out.least (i := 1 + x.sats.length + j) (k := 1 + s) HTP.out HSP.out (by omega) (by omega) (by omega) (hMc j) hMs (by omega)
       unfold arcC; rw [HN.out]; exact h,by rw [HK.out.2 j hj,Int.add_comm]⟩⟩
      have HLS := hid HL.out.1; have HKS := hid HK.out.1; clear hMs hMc hs0; go_wp2_with fail
      go_ret2
      have hll := HLS.out; have hkk := HKS.out; refine ⟨l,m,oa,pa,oc,pc,by rw [hll,hkk]; rfl,?_,?_,HOU.out,HBA.out,HX6.out.below.trans (HB.out.mono HX6.out.below.size)⟩
      ·rw [hll]
       exact Z8w HO.out HLS.out (by omega)
      ·rw [hkk]
       exact Z8w HP.out HKS.out (by omega)
end Go.Proofs.YtfkommjlmolniaaGreatDoor
end

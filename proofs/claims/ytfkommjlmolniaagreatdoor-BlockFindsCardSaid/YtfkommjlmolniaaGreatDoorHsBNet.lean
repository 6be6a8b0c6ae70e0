/- Joined: BNet. -/
import Derived.Test.YtfkommjlmolniaaGreatDoorHd23
import Derived.Test.YtfkommjlmolniaaGreatDoorHsBViewed
import Derived.Test.YtfkommjlmolniaaGreatDoorHd4
import Derived.Test.YtfkommjlmolniaaGreatDoorHd15
import Derived.Deep.CutRange
import Derived.Maps.RangeWalk
import Derived.Test.YtfkommjlmolniaaGreatDoorHd6
set_option linter.unusedVariables false
section

namespace Go.Proofs.YtfkommjlmolniaaGreatDoor
set_option maxHeartbeats 16000000
set_option maxRecDepth 100000
open Go.Lib (hid)
open Go.RowKit
variable {w wr w2 w4 : World} {V : VA} {y : Vw} {B g r c s z t n g' cap' : Nat} {N k : Int} {lv u : Value} {xs : List Pi} {p : Pi} {T : TypeId} {ls : List Value}
theorem Zgp : (Tryz.prog.info? 127).map (fun i => (i.zero,i.size,i.bytes)) = some (some (.agg #[.int .i64 0,.int .i64 0,.int .i64 0,.int .i64 0]),4,32) := by kernel_rfl
theorem Zjv : (Tryz.prog.info? 105).map (fun i => i.size) = some 2 := by kernel_rfl
theorem Zgq {p : Prop} {F G : World → Prop} (h1 : (∀ v,F v → G v) → p) (h2 : ∀ v,F v → G v) : p := h1 h2
theorem Z5r (w : World) (y : Pi) (T : TypeId) (z : Nat) (hz : w.heap.size = z) : ∀ (j : Nat) (u : Value),(encP y)[j]? = some u → (w.alloc (.cells #[.int .i64 y.1,.int .i64 y.2.1,.int .i64 y.2.2.1,.int .i64 y.2.2.2] T)).cell? ((⟨z,0,none⟩ : Addr).add j) = some u := by
 subst hz; intro j u hj; rw [Addr.add_lit]; match j,hj with
 | 0,hj => simp [encP] at hj; subst hj; simp
 | 1,hj => simp [encP] at hj; subst hj; simp
 | 2,hj => simp [encP] at hj; subst hj; simp
 | 3,hj => simp [encP] at hj; subst hj; simp
theorem onePB (y : Pi) : ∀ u ∈ encP y,u.oneCell' = true := by
 intro u hu; simp [encP] at hu
 rcases hu with rfl | rfl | rfl | rfl <;> rfl
structure NetW (w wr : World) (r g : Nat) (N : Int) (lv : Value) (xs : List Pi) (V : VA) (y : Vw) : Prop where
 nm : NMakeW w wr r g N lv xs
 blk : wr.heap[w.heap.size]? = some (.cells (viewC V y) 65 (0,0))
 rgt : w.heap.size < r
theorem NetW.later (h : NetW w wr r g N lv xs V y) (hb : Below wr.heap.size wr w2) : NetW w w2 r g N lv xs V y := ⟨h.nm.later hb,(hb.block _ (Array.getElem?_eq_some_iff.1 h.blk).1).trans h.blk,h.rgt⟩
theorem NetW.box (h : NetW w wr r g N lv xs V y) : VBox w wr w.heap.size V y := ⟨h.nm.below,Nat.le_refl _,h.blk⟩
theorem NetW.turn {xs2 : List Pi} (h : NetW w wr r g N lv xs V y) (e : xs = xs2) : NetW w wr r g N lv xs2 V y := e ▸ h
theorem NetW.push (h : NetW w wr r g N lv xs V y) (hown : w4.ownsRow (g + 1) 127 4 (.slice (some ⟨g',0,none⟩) (xs.length + 1) cap') (xs.length + 1) (flatP xs ++ encP p)) (hgrow : wr.grownBy w4 lv.ownBlock) :
  NetW w (w4.setCell ⟨g,1,none⟩ (.slice (some ⟨g',0,none⟩) (xs.length + 1) cap')) r g N (.slice (some ⟨g',0,none⟩) (xs.length + 1) cap') (xs ++ [p]) V y ∧
  w4.cell? ⟨g,1,none⟩ = some lv ∧ w4.frozen? ⟨g,1,none⟩ = false ∧ w4.heap[w.heap.size]? = some (.cells (viewC V y) 65 (0,0)) ∧
  Mod (fun b => lv.ownBlock = some b ∨ b = g) wr (w4.setCell ⟨g,1,none⟩ (.slice (some ⟨g',0,none⟩) (xs.length + 1) cap')) := by
 obtain ⟨h1,_,h3,h4⟩ := h.nm.push (y := p) hown hgrow; have hm : Mod (fun b => lv.ownBlock = some b ∨ b = g) wr w4 := (Mod.refl _ wr).grown hgrow (fun k hk => .inr (.inl hk)); have hC : ∀ k,lv.ownBlock = some k → g + 1 ≤ k := fun k hk => (World.ownsRow.lt h.nm.row k hk).1; have hrg := h.nm.lt; have hwr := h.rgt; have hlt := (Array.getElem?_eq_some_iff.1 h.blk).1; have hbv : w4.heap[w.heap.size]? = some (.cells (viewC V y) 65 (0,0)) := (hm.block _ hlt (fun e => by rcases e with e | e <;> first | omega | (have := hC _ e; omega))).trans h.blk
 have hm2 := hm.setCell (p := ⟨g,1,none⟩) (.inr (.inr rfl)) (.slice (some ⟨g',0,none⟩) (xs.length + 1) cap'); exact ⟨⟨h1,(heap_setCell_other _ _ _ _ (show w.heap.size ≠ g by omega)).trans hbv,hwr⟩,h3,h4,hbv,hm2⟩
theorem NetW.done (h2 : NetW w wr r g N lv xs V y) :
  ((wr.setCell ⟨r,0,none⟩ (.int .i64 N)).setCell ⟨r,1,none⟩ lv).heap[r]? = some (.cells #[.int .i64 N,lv] 105 (0,0)) ∧
  ((wr.setCell ⟨r,0,none⟩ (.int .i64 N)).setCell ⟨r,1,none⟩ lv).ownsRow w.heap.size 127 4 lv xs.length (flatP xs) ∧
  Below w.heap.size w ((wr.setCell ⟨r,0,none⟩ (.int .i64 N)).setCell ⟨r,1,none⟩ lv) := by
 have h := h2.nm; have h1 := h.ge; have h2 := h.lt; have hm : Mod (fun b => b = r) wr ((wr.setCell ⟨r,0,none⟩ (.int .i64 N)).setCell ⟨r,1,none⟩ lv) :=
  ((Mod.refl (fun b => b = r) wr).setCell (p := ⟨r,0,none⟩) (.inr rfl) _).setCell (p := ⟨r,1,none⟩) (.inr rfl) _
 exact ⟨heap_setCell_same _ _ _ _ _ _ (heap_setCell_same _ _ _ _ _ _ h.res),Z1y (Z1a h.row hm (fun k hk => by have := (World.ownsRow.lt h.row k hk).1; omega)) (by omega),
  ((Mod.of_below (fun b => b = r) h.below).trans hm).below (Nat.le_refl _) (fun k hk => by omega)⟩
theorem Z70 {base sz m : Nat} {v : Value} {xs : List Value} (h : w.ownsRow base T sz v m xs) {k : Nat} (hk : v.ownBlock = some k) : ∃ cur,w.heap[k]? = some (.cells cur T (0,0)) := by
 rcases h.2 with ⟨rfl,_⟩ | ⟨g,cap,cur,rfl,_,hg,_⟩
 ·simp [Value.ownBlock] at hk
 ·simp only [Value.ownBlock,Option.some.injEq] at hk
  subst hk; exact ⟨cur,hg⟩
theorem NetW.list {B m : Nat} (h : NetW w wr r g N lv xs V y) (hl : wr.ownsRow B 3 1 u m ls) (hm : Mod (fun b => lv.ownBlock = some b ∨ b = g) wr w2) : w2.ownsRow B 3 1 u m ls := Z1a hl hm (fun k hk e => by
 obtain ⟨c1,h1⟩ := Z70 hl hk; rcases e with e | e
 ·obtain ⟨c2,h2⟩ := Z70 h.nm.row e
  rw [h1] at h2; injection h2 with h2
  injection h2 with _ h2
  exact absurd h2 (by decide)
 ·subst e
  have h2 := h.nm.blk; rw [h1] at h2; injection h2 with h2
  injection h2 with _ h2
  exact absurd h2 (by decide))
theorem Zeo {B m : Nat} {oa : Option Addr} {oc : Nat} (h : wr.ownsRow B T 1 (.slice oa n oc) m ls) (h0 : 0 < m) : ∃ g cp,Value.slice oa n oc = .slice (some ⟨g,0,none⟩) n cp ∧ g < wr.heap.size := by
 obtain ⟨g,cp,e,_,h1,_⟩ := Z0x h h0; injection e with e1 e2 e3
 subst e1; exact ⟨g,oc,rfl,h1⟩
theorem Zgr {B m oc : Nat} {l : List Nat} {j : Nat} (h : wr.ownsRow B T 1 (.slice (some ⟨g,0,none⟩) n oc) m (natsV l)) (hc : l[j]? = some c) : wr.cell? ⟨g,j,none⟩ = some (.int .i64 (c : Int)) := by
 have := World.ownsRow.cells h (g := g) rfl j (.int .i64 (c : Int)) (by simp [natsV,hc])
 simpa [Addr.add_lit] using this
theorem zs_at {zs : List Nat} (h : zs[s]? = some z) : zs.getD s 0 = z := by rw [List.getD,h]; rfl
theorem Z0s {P : Program} {md : Region.Mode} {ops : Array Oper} {Q : Exit → Act → World → Prop} {S : World → Prop} (i : Nat) {oi : Oper} {v : Value} {fuel : Nat} {listed : Array Bool} {a : Act} {w : World} (hS : S w) (h : wpAnyH P md ops Q S fuel (listed.setIfInBounds i true) (a.put oi.dst v) w) (hi : ops[i]? = some oi := by exact rfl) (hs : Region.noSelect ops = true := by kernel_rfl) (hf : Region.free md ops listed i = true := by kernel_rfl) (hr : (Region.ready md ops listed).contains i = true := by kernel_rfl) (hQ : ∀ c a w,Q (.panic c) (a.put oi.dst v) w → Q (.panic c) a w := by exact fun _ _ _ h => h) (hw : Region.wanted oi (yielded ops a.tmps) = true := by rfl) (y : ∀ w,S w → (execOp a.eval oi).run P w = .ok (.value v) w := by intro Wz hWz; obtain ⟨c0,c1,c2,c3,c4,c5,c6,c7,c8,c9,c10⟩ := Z0c hWz; clear hWz; go_simp; (try with_reducible rfl)) : wpAnyH P md ops Q S (fuel + 1) listed a w := stpT i hS h hi hs hf hr hQ hw y
theorem Zmm (V : VA) (y : Vw) (k : Int) (w : World) (hi : IsView w.heap.size w V y) (ht : TabD w) (ho : y.Ok) :
  Calls Tryz.prog 55 #[.agg (viewC V y),.int .i64 k] w fun e w' => ∃ a cp,e = .returned (.agg #[.int .i64 ((y.nd + 1 : Nat) : Int),.slice a (netL y k y.x.sats.length).length cp]) ∧ IsPipes w'.heap.size w' a (netL y k y.x.sats.length).length (netL y k y.x.sats.length) ∧ Below w.heap.size w w' := by
 obtain ⟨i0,hi0,hz0,hz1,hz2⟩ := info_parts Zgp; have hz1s : (w.alloc (.cells (viewC V y) 65)).heap.size = w.heap.size + 1 := by simp
 have hX := (VBox.make (Below.refl _ w) V y).later (Z0g (w.alloc (.cells (viewC V y) 65)) (.cells #[.int .i64 0,.slice none 0 0] 105)); have hR := heap_alloc_new (w.alloc (.cells (viewC V y) 65)) (.cells #[.int .i64 0,.slice none 0 0] 105); rw [hz1s] at hR; obtain ⟨W0,hW0⟩ : ∃ W9,(w.alloc (.cells (viewC V y) 65)).alloc (.cells #[.int .i64 0,.slice none 0 0] 105) = W9 := ⟨_,rfl⟩; rw [hW0] at hX hR; have HW0 := hid hW0; have HX := hid hX; have HR := hid hR; have HI := hid hi; have HT := hid ht; have HO := hid ho; have hns := ho.may.ns; have hnc := ho.may.nc; have HNZ := hid ho.nz; have hzl12 : y.zs.length ≤ 12 := by rw [ho.nz]; omega
 have HNN := hid ho.nn; have HNS := hid (show y.x.sats.length + y.x.cus.length ≤ 1000 by omega)
 have HNS2 := hid (show y.x.sats.length ≤ 1000 by omega)
 have HND := hid (show 1 + y.x.sats.length + y.x.cus.length = y.nd from rfl)
 obtain ⟨ND,hND⟩ : ∃ ND,y.nd = ND := ⟨_,rfl⟩; have hnd : ND ≤ 61 := by rw [← hND]; unfold Vw.nd; omega
 have HNDN := hid hND; clear hi ht ho hz1s hW0 hX hR hND; unfold viewC at HX; go_enter Tryz.func55,Tryz.ntmps55
 go_wp2_with fail
 unfold viewC at HW0; rw [HW0.out]; obtain ⟨c0,c1,c2,c3,c4,c5,c6,c7,c8,c9,c10⟩ := Z0c HX.out.blk; clear HW0; go_wp2_with (go_at_call 57; refine (Z2q V y _ HNS.out).mono ?_; rw [HND.out,HNDN.out]; rintro e w1 ⟨rfl,hb1⟩; have HX1 := hid (HX.out.later hb1); have HR1 := hid ((hb1.block _ (Array.getElem?_eq_some_iff.1 HR.out).1).trans HR.out); clear hb1 c0 c1 c2 c3 c4 c5 c6 c7 c8 c9 c10; have hb2 := Z0g w1 (.cells #[.int .i64 ((ND : Int) + 1),.slice none 0 0] 105); have HXX := hid (HX1.out.later hb2); obtain ⟨c0,c1,c2,c3,c4,c5,c6,c7,c8,c9,c10⟩ := Z0c HXX.out.blk)
 have HN0 : Hid (NetW w (w1.alloc (.cells #[.int .i64 ((ND : Int) + 1),.slice none 0 0] 105)) (w.heap.size + 1) w1.heap.size ((ND : Int) + 1) (.slice none 0 0) (Z1u y k 0) V y) := hid ⟨⟨HXX.out.below,(hb2.block _ (Array.getElem?_eq_some_iff.1 HR1.out).1).trans HR1.out,heap_alloc_new _ _,World.ownsRow_nil _ _ _ 4,by omega,(Array.getElem?_eq_some_iff.1 HR1.out).1⟩,HXX.out.blk,by omega⟩
 obtain ⟨W2,hW2⟩ : ∃ W9,w1.alloc (.cells #[.int .i64 ((ND : Int) + 1),.slice none 0 0] 105) = W9 := ⟨_,rfl⟩; obtain ⟨g,hg⟩ : ∃ g9,w1.heap.size = g9 := ⟨_,rfl⟩; rw [hW2,hg] at HN0; rw [hW2,hg]; clear hW2 hg hb2 HXX HX1 HR1 HX HR c0 c1 c2 c3 c4 c5 c6 c7 c8 c9 c10; have HC0 := HN0.out.blk; obtain ⟨c0,c1,c2,c3,c4,c5,c6,c7,c8,c9,c10⟩ := Z0c HC0; clear HC0; go_wp2_with fail
 clear c0 c1 c2 c3 c4 c5 c6 c7 c8 c9 c10; go_loopw [19] (fun iv wr => ∃ (i : Nat) (lv : Value),iv = .int .i64 (i : Int) ∧ i ≤ y.x.cus.length ∧ Hid (NetW w wr (w.heap.size + 1) g ((ND : Int) + 1) lv (Z1u y k i) V y)) (fun iv _ => y.x.cus.length - (intOf iv).toNat)
 case atStart => exact ⟨0,_,rfl,Nat.zero_le _,HN0⟩
 case round =>
  obtain ⟨i,lv,rfl,hi,HNR⟩ := hrel; clear HN0; obtain ⟨va,vc,rfl⟩ := Z04 HNR.out.nm.row; by_cases hlt : i < y.x.cus.length
  ·have HLT := hid hlt
   have HCN : Hid (wrap64 (1 + (y.x.sats.length : Int) + (i : Int)) = ((y.cn i : Nat) : Int)) := hid (by rw [IntWalk.wrap64_in _ (by omega)]; unfold Vw.cn; omega)
   have HXL : Hid ((Z1u y k i).length ≤ 1000) := hid (by rw [Z71]; omega)
   go_wp2_with fail
   have HNA := hid (HNR.out.later (Below.refl _ wr).drew); obtain ⟨v0,hv0⟩ : ∃ v9,World.drew wr = v9 := ⟨_,rfl⟩; rw [hv0] at HNA; refine wp_region_held_drew (S := fun Wz => Wz.heap[w.heap.size]? = some (.cells (viewC V y) 65 (0,0))) (by kernel_rfl) (by rw [hv0]; exact HNA.out.blk) (fun hHeld => ?_)
   rw [hv0] at hHeld ⊢; clear hv0; refine Z0s 0 hHeld ?_; try go_frame
   refine Z0s 2 hHeld ?_; try go_frame
   refine Z0s 4 hHeld ?_; try go_frame
   refine Z0s 5 hHeld ?_; try go_frame
   refine Z0s 6 hHeld ?_; try go_frame
   refine Z0s 8 hHeld ?_; try go_frame
   refine Z0s 9 hHeld ?_; try go_frame
   refine Z0s 10 hHeld ?_; try go_frame
   have HNZ0 := HNA; clear HNA; apply Zgq (F := fun v => Hid (NetW w (v.alloc (.cells #[.int .i64 (((ND : Int),(y.cn i : Int),needI y.x k i,0)).1,.int .i64 (((ND : Int),(y.cn i : Int),needI y.x k i,0)).2.1,.int .i64 (((ND : Int),(y.cn i : Int),needI y.x k i,0)).2.2.1,.int .i64 (((ND : Int),(y.cn i : Int),needI y.x k i,0)).2.2.2] 127)) (w.heap.size + 1) g ((ND : Int) + 1) (.slice va (Z1u y k i).length vc) (Z1u y k i) V y))
   intro TL; have HNA := HNZ0; refine wpAnyH_ready (rs := [1,3]) (by kernel_rfl) (by simp) ?_
   refine AllReadyH.cons rfl (fun K hK => ?_) (AllReadyH.cons rfl (fun K hK => ?_) AllReadyH.nil)
   ·have q1 := HNA.out.nm.c1
    go_simp; clear q1; refine hK.out _ _ ?_ (fun hHeld => ?_)
    ·exact hHeld
    clear hK K; try go_frame
    refine stpR 3 (fun K hK => ?_); go_simp; refine (Z2q V y _ HNS.out).mono ?_; rw [HND.out,HNDN.out]; rintro e v1 ⟨rfl,hbn⟩; have HNn := hid (HNA.out.later hbn); clear HNA hbn; have HNA := HNn; clear HNn; refine hK.out _ _ ?_ (fun hHeld => ?_)
    ·exact HNA.out.blk
    clear hK K; try go_frame
    refine stpR 7 (fun K hK => ?_); go_simp; refine (Z13 V.A y.x (i : Int) _ HNS2.out).mono ?_; rw [HCN.out]; rintro e v2 ⟨rfl,hbn⟩; have HNn := hid (HNA.out.later hbn); clear HNA hbn; have HNA := HNn; clear HNn; refine hK.out _ _ ?_ (fun hHeld => ?_)
    ·exact HNA.out.blk
    clear hK K; try go_frame
    refine stpR 11 (fun K hK => ?_); go_simp; refine (Z38 V y k i _ (HNA.out.box.view HI.out) HLT.out).mono ?_; rintro e v3 ⟨rfl,hbn⟩; have HNn := hid (HNA.out.later hbn); clear HNA hbn; have HNA := HNn; clear HNn; refine hK.out _ _ ?_ (fun hHeld => ?_)
    ·exact HNA.out.blk
    clear hK K; try go_frame
    refine stpT 12 hHeld ?_ (y := fun Wz hWz => by clear hWz; go_simp; (try with_reducible rfl))
    try go_frame
    refine stpR 13 (fun K hK => ?_); go_simp; have hbn := Z0g v3 (.cells #[.int .i64 (((ND : Int),(y.cn i : Int),needI y.x k i,0)).1,.int .i64 (((ND : Int),(y.cn i : Int),needI y.x k i,0)).2.1,.int .i64 (((ND : Int),(y.cn i : Int),needI y.x k i,0)).2.2.1,.int .i64 (((ND : Int),(y.cn i : Int),needI y.x k i,0)).2.2.2] 127); have HNn := hid (HNA.out.later hbn); clear HNA hbn; have HNA := HNn; clear HNn; refine hK.out _ _ ?_ (fun hHeld => ?_)
    ·exact HNA.out.blk
    clear hK K; try go_frame
    exact TL v3 HNA
   ·go_simp
    refine (Z2q V y _ HNS.out).mono ?_; rw [HND.out,HNDN.out]; rintro e v1 ⟨rfl,hbn⟩; have HNn := hid (HNA.out.later hbn); clear HNA hbn; have HNA := HNn; clear HNn; refine hK.out _ _ ?_ (fun hHeld => ?_)
    ·exact HNA.out.blk
    clear hK K; try go_frame
    refine wpAnyH_ready (rs := [1,7]) (by kernel_rfl) (by simp) ?_
    refine AllReadyH.cons rfl (fun K hK => ?_) (AllReadyH.cons rfl (fun K hK => ?_) AllReadyH.nil)
    ·have q1 := HNA.out.nm.c1
     go_simp; clear q1; refine hK.out _ _ ?_ (fun hHeld => ?_)
     ·exact hHeld
     clear hK K; try go_frame
     refine stpR 7 (fun K hK => ?_); go_simp; refine (Z13 V.A y.x (i : Int) _ HNS2.out).mono ?_; rw [HCN.out]; rintro e v2 ⟨rfl,hbn⟩; have HNn := hid (HNA.out.later hbn); clear HNA hbn; have HNA := HNn; clear HNn; refine hK.out _ _ ?_ (fun hHeld => ?_)
     ·exact HNA.out.blk
     clear hK K; try go_frame
     refine stpR 11 (fun K hK => ?_); go_simp; refine (Z38 V y k i _ (HNA.out.box.view HI.out) HLT.out).mono ?_; rintro e v3 ⟨rfl,hbn⟩; have HNn := hid (HNA.out.later hbn); clear HNA hbn; have HNA := HNn; clear HNn; refine hK.out _ _ ?_ (fun hHeld => ?_)
     ·exact HNA.out.blk
     clear hK K; try go_frame
     refine stpT 12 hHeld ?_ (y := fun Wz hWz => by clear hWz; go_simp; (try with_reducible rfl))
     try go_frame
     refine stpR 13 (fun K hK => ?_); go_simp; have hbn := Z0g v3 (.cells #[.int .i64 (((ND : Int),(y.cn i : Int),needI y.x k i,0)).1,.int .i64 (((ND : Int),(y.cn i : Int),needI y.x k i,0)).2.1,.int .i64 (((ND : Int),(y.cn i : Int),needI y.x k i,0)).2.2.1,.int .i64 (((ND : Int),(y.cn i : Int),needI y.x k i,0)).2.2.2] 127); have HNn := hid (HNA.out.later hbn); clear HNA hbn; have HNA := HNn; clear HNn; refine hK.out _ _ ?_ (fun hHeld => ?_)
     ·exact HNA.out.blk
     clear hK K; try go_frame
     exact TL v3 HNA
    ·go_simp
     refine (Z13 V.A y.x (i : Int) _ HNS2.out).mono ?_; rw [HCN.out]; rintro e v2 ⟨rfl,hbn⟩; have HNn := hid (HNA.out.later hbn); clear HNA hbn; have HNA := HNn; clear HNn; refine hK.out _ _ ?_ (fun hHeld => ?_)
     ·exact HNA.out.blk
     clear hK K; try go_frame
     refine wpAnyH_ready (rs := [1,11]) (by kernel_rfl) (by simp) ?_
     refine AllReadyH.cons rfl (fun K hK => ?_) (AllReadyH.cons rfl (fun K hK => ?_) AllReadyH.nil)
     ·have q1 := HNA.out.nm.c1
      go_simp; clear q1; refine hK.out _ _ ?_ (fun hHeld => ?_)
      ·exact hHeld
      clear hK K; try go_frame
      refine stpR 11 (fun K hK => ?_); go_simp; refine (Z38 V y k i _ (HNA.out.box.view HI.out) HLT.out).mono ?_; rintro e v3 ⟨rfl,hbn⟩; have HNn := hid (HNA.out.later hbn); clear HNA hbn; have HNA := HNn; clear HNn; refine hK.out _ _ ?_ (fun hHeld => ?_)
      ·exact HNA.out.blk
      clear hK K; try go_frame
      refine stpT 12 hHeld ?_ (y := fun Wz hWz => by clear hWz; go_simp; (try with_reducible rfl))
      try go_frame
      refine stpR 13 (fun K hK => ?_); go_simp; have hbn := Z0g v3 (.cells #[.int .i64 (((ND : Int),(y.cn i : Int),needI y.x k i,0)).1,.int .i64 (((ND : Int),(y.cn i : Int),needI y.x k i,0)).2.1,.int .i64 (((ND : Int),(y.cn i : Int),needI y.x k i,0)).2.2.1,.int .i64 (((ND : Int),(y.cn i : Int),needI y.x k i,0)).2.2.2] 127); have HNn := hid (HNA.out.later hbn); clear HNA hbn; have HNA := HNn; clear HNn; refine hK.out _ _ ?_ (fun hHeld => ?_)
      ·exact HNA.out.blk
      clear hK K; try go_frame
      exact TL v3 HNA
     ·go_simp
      refine (Z38 V y k i _ (HNA.out.box.view HI.out) HLT.out).mono ?_; rintro e v3 ⟨rfl,hbn⟩; have HNn := hid (HNA.out.later hbn); clear HNA hbn; have HNA := HNn; clear HNn; refine hK.out _ _ ?_ (fun hHeld => ?_)
      ·exact HNA.out.blk
      clear hK K; try go_frame
      refine stpT 12 hHeld ?_ (y := fun Wz hWz => by clear hWz; go_simp; (try with_reducible rfl))
      try go_frame
      refine wpAnyH_ready (rs := [1,13]) (by kernel_rfl) (by simp) ?_
      refine AllReadyH.cons rfl (fun K hK => ?_) (AllReadyH.cons rfl (fun K hK => ?_) AllReadyH.nil)
      ·have q1 := HNA.out.nm.c1
       go_simp; clear q1; refine hK.out _ _ ?_ (fun hHeld => ?_)
       ·exact hHeld
       clear hK K; try go_frame
       refine stpR 13 (fun K hK => ?_); go_simp; have hbn := Z0g v3 (.cells #[.int .i64 (((ND : Int),(y.cn i : Int),needI y.x k i,0)).1,.int .i64 (((ND : Int),(y.cn i : Int),needI y.x k i,0)).2.1,.int .i64 (((ND : Int),(y.cn i : Int),needI y.x k i,0)).2.2.1,.int .i64 (((ND : Int),(y.cn i : Int),needI y.x k i,0)).2.2.2] 127); have HNn := hid (HNA.out.later hbn); clear HNA hbn; have HNA := HNn; clear HNn; refine hK.out _ _ ?_ (fun hHeld => ?_)
       ·exact HNA.out.blk
       clear hK K; try go_frame
       exact TL v3 HNA
      ·go_simp
       have hbn := Z0g v3 (.cells #[.int .i64 (((ND : Int),(y.cn i : Int),needI y.x k i,0)).1,.int .i64 (((ND : Int),(y.cn i : Int),needI y.x k i,0)).2.1,.int .i64 (((ND : Int),(y.cn i : Int),needI y.x k i,0)).2.2.1,.int .i64 (((ND : Int),(y.cn i : Int),needI y.x k i,0)).2.2.2] 127); have HNn := hid (HNA.out.later hbn); clear HNA hbn; have HNA := HNn; clear HNn; refine hK.out _ _ ?_ (fun hHeld => ?_)
       ·exact HNA.out.blk
       clear hK K; try go_frame
       refine stpR 1 (fun K hK => ?_); have q1 := HNA.out.nm.c1; go_simp; clear q1; refine hK.out _ _ ?_ (fun hHeld => ?_)
       ·exact hHeld
       clear hK K; try go_frame
       exact TL v3 HNA
   ·rintro v HNA
    have hHeld := HNA.out.blk; refine stpR 14 (fun K hK => ?_); refine Z01 rfl (.tmp 23) (.tmp 35) 103 rfl (g + 1) 127 i0 _ 4 32 Tryz.underlying103 hi0 hz0 hz1 hz2 (by decide) (.slice va (Z1u y k i).length vc) (Z1u y k i).length (flatP (Z1u y k i)) rfl HNA.out.nm.row ⟨v.heap.size,0,none⟩ 1 (encP ((ND : Int),(y.cn i : Int),needI y.x k i,0)) rfl rfl (Z5r _ ((ND : Int),(y.cn i : Int),needI y.x k i,0) _ _ rfl) (onePB _) (by have := HXL.out; unfold maxLen; omega) (by have := HXL.out; omega) (Nat.succ_le_of_lt HNA.out.nm.ltg) ?_
    intro g' cp4 w4 hown hgrow hfr; obtain ⟨hp,q1,fz,hbv,hmd⟩ := HNA.out.push (p := ((ND : Int),(y.cn i : Int),needI y.x k i,0)) hown hgrow; have HP := hid hp; have HMD := hid hmd; clear hown hgrow hfr hp hmd; refine hK.out _ _ ?_ (fun hHeld => ?_)
    ·exact hbv
    clear hK K; try go_frame
    refine Z0s 15 hHeld ?_; try go_frame
    refine stpR 16 (fun K hK => ?_); go_simp; refine hK.out _ _ ?_ (fun hHeld => ?_)
    ·exact HP.out.blk
    clear hK K; try go_frame
    refine wpAnyH_done (by kernel_rfl) ?_ _
    clear hHeld hbv q1 fz; go_wp2_with fail
    go_roundw
    case rel => exact ⟨i + 1,_,by go_num,by omega,hid (HP.out.turn (by rw [Zbk,pipeC,HNDN.out]))⟩
    case measure => simp [intOf]; omega
  ·obtain rfl : i = y.x.cus.length := by omega
   have HN1 : Hid (NetW w wr (w.heap.size + 1) g ((ND : Int) + 1) (.slice va (Z1u y k y.x.cus.length).length vc) (netL y k 0) V y) := hid (HNR.out.turn netL_zero.symm); have HC0 := HN1.out.blk; obtain ⟨c0,c1,c2,c3,c4,c5,c6,c7,c8,c9,c10⟩ := Z0c HC0; clear HC0 HNR; go_wp2_with fail
   clear c0 c1 c2 c3 c4 c5 c6 c7 c8 c9 c10; go_loopw [42] (fun iv wr => ∃ (s : Nat) (lv : Value),iv = .int .i64 (s : Int) ∧ s ≤ y.zs.length ∧ Hid (NetW w wr (w.heap.size + 1) g ((ND : Int) + 1) lv (netL y k s) V y)) (fun iv _ => y.zs.length - (intOf iv).toNat)
   case atStart => exact ⟨0,_,rfl,Nat.zero_le _,HN1⟩
   case round =>
    obtain ⟨s,lv,rfl,hs,HNR⟩ := hrel; clear HN1; obtain ⟨va,vc,rfl⟩ := Z04 HNR.out.nm.row; by_cases hlt : s < y.zs.length
    ·obtain ⟨bz,oz,z,hma,hz,hzl,q0⟩ := (HNR.out.box.view HI.out).mays.at_ hlt
     have HZZ := hid (zs_at hz); have HZL := hid hzl; have HMA := hid hma; have HLS := hid (show s < y.x.sats.length by have := HNZ.out; omega)
     obtain ⟨sn,hsn⟩ : ∃ sn,1 + s = sn := ⟨_,rfl⟩; have HSNX : Hid (wrap64 (1 + (s : Int)) = (sn : Int)) := hid (by have := HLS.out; rw [IntWalk.wrap64_in _ (by omega)]; omega)
     have HSN := hid hsn; have HXL : Hid ((netL y k s).length ≤ 1000) := hid (by have := Z5f (y := y) (k := k) s; have := HLS.out; omega)
     rw [hma]; clear hz hzl hma hsn; go_wp2_with fail
     clear q0; go_cut [] from 47 to 60 (fun wx => ∃ lv,NetW w wx (w.heap.size + 1) g ((ND : Int) + 1) lv (midL y k s 0) V y)
     case first =>
      have HNA := hid (HNR.out.later (Below.refl _ wr).drew); obtain ⟨v0,hv0⟩ : ∃ v9,World.drew wr = v9 := ⟨_,rfl⟩; rw [hv0] at HNA; refine wp_region_held_drew (S := fun Wz => Wz.heap[w.heap.size]? = some (.cells (viewC V y) 65 (0,0))) (by kernel_rfl) (by rw [hv0]; exact HNA.out.blk) (fun hHeld => ?_)
      rw [hv0] at hHeld ⊢; clear hv0; refine Z0s 0 hHeld ?_; try go_frame
      refine Z0s 2 hHeld ?_; try go_frame
      refine Z0s 3 hHeld ?_; try go_frame
      refine Z0s 4 hHeld ?_; try go_frame
      refine Z0s 6 hHeld ?_; try go_frame
      refine Z0s 7 hHeld ?_; try go_frame
      refine Z0s 8 hHeld ?_; try go_frame
      have HNZ0 := HNA; clear HNA; apply Zgq (F := fun v => Hid (NetW w (v.alloc (.cells #[.int .i64 (((sn : Int),0,Z0e y k s,0)).1,.int .i64 (((sn : Int),0,Z0e y k s,0)).2.1,.int .i64 (((sn : Int),0,Z0e y k s,0)).2.2.1,.int .i64 (((sn : Int),0,Z0e y k s,0)).2.2.2] 127)) (w.heap.size + 1) g ((ND : Int) + 1) (.slice va (netL y k s).length vc) (netL y k s) V y))
      intro TL; have HNA := HNZ0; refine wpAnyH_ready (rs := [1,5]) (by kernel_rfl) (by simp) ?_
      refine AllReadyH.cons rfl (fun K hK => ?_) (AllReadyH.cons rfl (fun K hK => ?_) AllReadyH.nil)
      ·have q1 := HNA.out.nm.c1
       go_simp; clear q1; refine hK.out _ _ ?_ (fun hHeld => ?_)
       ·exact hHeld
       clear hK K; try go_frame
       refine stpR 5 (fun K hK => ?_); go_simp; refine (Z4v V.A y.x (s : Int) _).mono ?_; rw [HSNX.out]; rintro e v1 ⟨rfl,hbn⟩; have HNn := hid (HNA.out.later hbn); clear HNA hbn; have HNA := HNn; clear HNn; refine hK.out _ _ ?_ (fun hHeld => ?_)
       ·exact HNA.out.blk
       clear hK K; try go_frame
       refine stpR 9 (fun K hK => ?_); go_simp; refine (Z3l V y k s _ (HNA.out.box.view HI.out) HLS.out HNN.out).mono ?_; rintro e v2 ⟨rfl,hbn⟩; have HNn := hid (HNA.out.later hbn); clear HNA hbn; have HNA := HNn; clear HNn; refine hK.out _ _ ?_ (fun hHeld => ?_)
       ·exact HNA.out.blk
       clear hK K; try go_frame
       refine stpT 10 hHeld ?_ (y := fun Wz hWz => by clear hWz; go_simp; (try with_reducible rfl))
       try go_frame
       refine stpR 11 (fun K hK => ?_); go_simp; have hbn := Z0g v2 (.cells #[.int .i64 (((sn : Int),0,Z0e y k s,0)).1,.int .i64 (((sn : Int),0,Z0e y k s,0)).2.1,.int .i64 (((sn : Int),0,Z0e y k s,0)).2.2.1,.int .i64 (((sn : Int),0,Z0e y k s,0)).2.2.2] 127); have HNn := hid (HNA.out.later hbn); clear HNA hbn; have HNA := HNn; clear HNn; refine hK.out _ _ ?_ (fun hHeld => ?_)
       ·exact HNA.out.blk
       clear hK K; try go_frame
       exact TL v2 HNA
      ·go_simp
       refine (Z4v V.A y.x (s : Int) _).mono ?_; rw [HSNX.out]; rintro e v1 ⟨rfl,hbn⟩; have HNn := hid (HNA.out.later hbn); clear HNA hbn; have HNA := HNn; clear HNn; refine hK.out _ _ ?_ (fun hHeld => ?_)
       ·exact HNA.out.blk
       clear hK K; try go_frame
       refine wpAnyH_ready (rs := [1,9]) (by kernel_rfl) (by simp) ?_
       refine AllReadyH.cons rfl (fun K hK => ?_) (AllReadyH.cons rfl (fun K hK => ?_) AllReadyH.nil)
       ·have q1 := HNA.out.nm.c1
        go_simp; clear q1; refine hK.out _ _ ?_ (fun hHeld => ?_)
        ·exact hHeld
        clear hK K; try go_frame
        refine stpR 9 (fun K hK => ?_); go_simp; refine (Z3l V y k s _ (HNA.out.box.view HI.out) HLS.out HNN.out).mono ?_; rintro e v2 ⟨rfl,hbn⟩; have HNn := hid (HNA.out.later hbn); clear HNA hbn; have HNA := HNn; clear HNn; refine hK.out _ _ ?_ (fun hHeld => ?_)
        ·exact HNA.out.blk
        clear hK K; try go_frame
        refine stpT 10 hHeld ?_ (y := fun Wz hWz => by clear hWz; go_simp; (try with_reducible rfl))
        try go_frame
        refine stpR 11 (fun K hK => ?_); go_simp; have hbn := Z0g v2 (.cells #[.int .i64 (((sn : Int),0,Z0e y k s,0)).1,.int .i64 (((sn : Int),0,Z0e y k s,0)).2.1,.int .i64 (((sn : Int),0,Z0e y k s,0)).2.2.1,.int .i64 (((sn : Int),0,Z0e y k s,0)).2.2.2] 127); have HNn := hid (HNA.out.later hbn); clear HNA hbn; have HNA := HNn; clear HNn; refine hK.out _ _ ?_ (fun hHeld => ?_)
        ·exact HNA.out.blk
        clear hK K; try go_frame
        exact TL v2 HNA
       ·go_simp
        refine (Z3l V y k s _ (HNA.out.box.view HI.out) HLS.out HNN.out).mono ?_; rintro e v2 ⟨rfl,hbn⟩; have HNn := hid (HNA.out.later hbn); clear HNA hbn; have HNA := HNn; clear HNn; refine hK.out _ _ ?_ (fun hHeld => ?_)
        ·exact HNA.out.blk
        clear hK K; try go_frame
        refine stpT 10 hHeld ?_ (y := fun Wz hWz => by clear hWz; go_simp; (try with_reducible rfl))
        try go_frame
        refine wpAnyH_ready (rs := [1,11]) (by kernel_rfl) (by simp) ?_
        refine AllReadyH.cons rfl (fun K hK => ?_) (AllReadyH.cons rfl (fun K hK => ?_) AllReadyH.nil)
        ·have q1 := HNA.out.nm.c1
         go_simp; clear q1; refine hK.out _ _ ?_ (fun hHeld => ?_)
         ·exact hHeld
         clear hK K; try go_frame
         refine stpR 11 (fun K hK => ?_); go_simp; have hbn := Z0g v2 (.cells #[.int .i64 (((sn : Int),0,Z0e y k s,0)).1,.int .i64 (((sn : Int),0,Z0e y k s,0)).2.1,.int .i64 (((sn : Int),0,Z0e y k s,0)).2.2.1,.int .i64 (((sn : Int),0,Z0e y k s,0)).2.2.2] 127); have HNn := hid (HNA.out.later hbn); clear HNA hbn; have HNA := HNn; clear HNn; refine hK.out _ _ ?_ (fun hHeld => ?_)
         ·exact HNA.out.blk
         clear hK K; try go_frame
         exact TL v2 HNA
        ·go_simp
         have hbn := Z0g v2 (.cells #[.int .i64 (((sn : Int),0,Z0e y k s,0)).1,.int .i64 (((sn : Int),0,Z0e y k s,0)).2.1,.int .i64 (((sn : Int),0,Z0e y k s,0)).2.2.1,.int .i64 (((sn : Int),0,Z0e y k s,0)).2.2.2] 127); have HNn := hid (HNA.out.later hbn); clear HNA hbn; have HNA := HNn; clear HNn; refine hK.out _ _ ?_ (fun hHeld => ?_)
         ·exact HNA.out.blk
         clear hK K; try go_frame
         refine stpR 1 (fun K hK => ?_); have q1 := HNA.out.nm.c1; go_simp; clear q1; refine hK.out _ _ ?_ (fun hHeld => ?_)
         ·exact hHeld
         clear hK K; try go_frame
         exact TL v2 HNA
      ·rintro v HNA
       have hHeld := HNA.out.blk; refine stpR 12 (fun K hK => ?_); refine Z01 rfl (.tmp 48) (.tmp 58) 103 rfl (g + 1) 127 i0 _ 4 32 Tryz.underlying103 hi0 hz0 hz1 hz2 (by decide) (.slice va (netL y k s).length vc) (netL y k s).length (flatP (netL y k s)) rfl HNA.out.nm.row ⟨v.heap.size,0,none⟩ 1 (encP ((sn : Int),0,Z0e y k s,0)) rfl rfl (Z5r _ ((sn : Int),0,Z0e y k s,0) _ _ rfl) (onePB _) (by have := HXL.out; unfold maxLen; omega) (by have := HXL.out; omega) (Nat.succ_le_of_lt HNA.out.nm.ltg) ?_
       intro g' cp4 w4 hown hgrow hfr; obtain ⟨hp,q1,fz,hbv,hmd⟩ := HNA.out.push (p := ((sn : Int),0,Z0e y k s,0)) hown hgrow; have HP := hid hp; have HMD := hid hmd; clear hown hgrow hfr hp hmd; refine hK.out _ _ ?_ (fun hHeld => ?_)
       ·exact hbv
       clear hK K; try go_frame
       refine Z0s 13 hHeld ?_; try go_frame
       refine stpR 14 (fun K hK => ?_); go_simp; refine hK.out _ _ ?_ (fun hHeld => ?_)
       ·exact HP.out.blk
       clear hK K; try go_frame
       refine wpAnyH_done (by kernel_rfl) ?_ _
       clear hHeld hbv q1 fz; go_wp2_with fail
       go_meet
       exact ⟨_,HP.out.turn (by rw [Zgs,pipeS,HSN.out])⟩
     case rest =>
      obtain ⟨lv2,hnw⟩ := hcut; have HN2 := hid hnw; clear hnw HNR HXL; go_wp2_with fail
      refine (Zgd z HZL.out _ (Z09 HT.out HN2.out.nm.below)).mono ?_; rintro e w5 ⟨ov,rfl,O⟩; have HN3 := hid (HN2.out.later O.below); have HOW : Hid (w5.ownsRow 0 3 1 ov (allN z).length (natsV (allN z))) := hid (Z1y O.own (Nat.zero_le _)); obtain ⟨n,hn1⟩ : ∃ n,(allN z).length = n := ⟨_,rfl⟩; have hlen := Z2k z; rw [hn1] at HOW hlen; have HNL := hid hn1; obtain ⟨oa,oc,rfl⟩ := Z04 HOW.out; clear hn1 O HN2; go_wp2_with fail
      go_loopw [64] (fun iv wr => ∃ (j : Nat) (lv : Value),iv = .int .i64 (j : Int) ∧ j ≤ n ∧ Hid (NetW w wr (w.heap.size + 1) g ((ND : Int) + 1) lv (midL y k s j) V y) ∧ Hid (wr.ownsRow 0 3 1 (.slice oa n oc) n (natsV (allN z)))) (fun iv _ => n - (intOf iv).toNat)
      case atStart => exact ⟨0,_,rfl,Nat.zero_le _,HN3,HOW⟩
      case round =>
       obtain ⟨j,lv,rfl,hj,HNR,HOR⟩ := hrel; clear HN3 HOW; obtain ⟨va,vc,rfl⟩ := Z04 HNR.out.nm.row; by_cases hlt2 : j < n
       ·obtain ⟨ob,oc2,hov,hob⟩ := Zeo HOR.out (by omega)
        injection hov with hoa _ hoc
        subst hoa; obtain ⟨c,hc⟩ : ∃ c,(allN z)[j]? = some c := ⟨_,List.getElem?_eq_getElem (by rw [HNL.out]; exact hlt2)⟩
        have q0 := Zgr HOR.out hc; have hcC := Z88 HO.out (s := s) hlt c (by rw [HZZ.out]; exact List.mem_of_getElem? hc)
        have HCN : Hid (wrap64 (1 + (y.x.sats.length : Int) + (c : Int)) = ((y.cn c : Nat) : Int)) := hid (by rw [IntWalk.wrap64_in _ (by omega)]; unfold Vw.cn; omega)
        have HXL : Hid ((midL y k s j).length ≤ 1000) := hid (by have := Zjx (y := y) (k := k) (s := s) (j := j); have := HLS.out; omega)
        have HCC := hid hc; clear hc hcC hob hoc; go_wp2_with fail
        clear q0; have HOA := hid (Z06 HOR.out (Below.refl _ wr).drew); have HNA := hid (HNR.out.later (Below.refl _ wr).drew); obtain ⟨v0,hv0⟩ : ∃ v9,World.drew wr = v9 := ⟨_,rfl⟩; rw [hv0] at HNA HOA; refine wp_region_held_drew (S := fun Wz => Wz.heap[w.heap.size]? = some (.cells (viewC V y) 65 (0,0))) (by kernel_rfl) (by rw [hv0]; exact HNA.out.blk) (fun hHeld => ?_)
        rw [hv0] at hHeld ⊢; clear hv0; refine Z0s 0 hHeld ?_; try go_frame
        refine Z0s 2 hHeld ?_; try go_frame
        refine Z0s 3 hHeld ?_; try go_frame
        refine Z0s 4 hHeld ?_; try go_frame
        refine Z0s 6 hHeld ?_; try go_frame
        refine Z0s 7 hHeld ?_; try go_frame
        refine Z0s 8 hHeld ?_; try go_frame
        have HNZ0 := HNA; have HOZ0 := HOA; clear HNA HOA; apply Zgq (F := fun v => Hid (NetW w (v.alloc (.cells #[.int .i64 (((y.cn c : Int),(sn : Int),1099511627776,0)).1,.int .i64 (((y.cn c : Int),(sn : Int),1099511627776,0)).2.1,.int .i64 (((y.cn c : Int),(sn : Int),1099511627776,0)).2.2.1,.int .i64 (((y.cn c : Int),(sn : Int),1099511627776,0)).2.2.2] 127)) (w.heap.size + 1) g ((ND : Int) + 1) (.slice va (midL y k s j).length vc) (midL y k s j) V y) ∧ Hid ((v.alloc (.cells #[.int .i64 (((y.cn c : Int),(sn : Int),1099511627776,0)).1,.int .i64 (((y.cn c : Int),(sn : Int),1099511627776,0)).2.1,.int .i64 (((y.cn c : Int),(sn : Int),1099511627776,0)).2.2.1,.int .i64 (((y.cn c : Int),(sn : Int),1099511627776,0)).2.2.2] 127)).ownsRow 0 3 1 (.slice (some ⟨ob,0,none⟩) n oc) n (natsV (allN z))))
        intro TL; have HNA := HNZ0; have HOA := HOZ0; refine wpAnyH_ready (rs := [1,5]) (by kernel_rfl) (by simp) ?_
        refine AllReadyH.cons rfl (fun K hK => ?_) (AllReadyH.cons rfl (fun K hK => ?_) AllReadyH.nil)
        ·have q1 := HNA.out.nm.c1
         go_simp; clear q1; refine hK.out _ _ ?_ (fun hHeld => ?_)
         ·exact hHeld
         clear hK K; try go_frame
         refine stpR 5 (fun K hK => ?_); go_simp; refine (Z13 V.A y.x (c : Int) _ HNS2.out).mono ?_; rw [HCN.out]; rintro e v1 ⟨rfl,hbn⟩; have HNn := hid (HNA.out.later hbn); have HOAn := hid (Z06 HOA.out hbn); clear HOA; have HOA := HOAn; clear HOAn; clear HNA hbn; have HNA := HNn; clear HNn; refine hK.out _ _ ?_ (fun hHeld => ?_)
         ·exact HNA.out.blk
         clear hK K; try go_frame
         refine stpR 9 (fun K hK => ?_); go_simp; refine (Z4v V.A y.x (s : Int) _).mono ?_; rw [HSNX.out]; rintro e v2 ⟨rfl,hbn⟩; have HNn := hid (HNA.out.later hbn); have HOAn := hid (Z06 HOA.out hbn); clear HOA; have HOA := HOAn; clear HOAn; clear HNA hbn; have HNA := HNn; clear HNn; refine hK.out _ _ ?_ (fun hHeld => ?_)
         ·exact HNA.out.blk
         clear hK K; try go_frame
         refine stpT 10 hHeld ?_ (y := fun Wz hWz => by clear hWz; go_simp; (try with_reducible rfl))
         try go_frame
         refine stpR 11 (fun K hK => ?_); go_simp; have hbn := Z0g v2 (.cells #[.int .i64 (((y.cn c : Int),(sn : Int),1099511627776,0)).1,.int .i64 (((y.cn c : Int),(sn : Int),1099511627776,0)).2.1,.int .i64 (((y.cn c : Int),(sn : Int),1099511627776,0)).2.2.1,.int .i64 (((y.cn c : Int),(sn : Int),1099511627776,0)).2.2.2] 127); have HNn := hid (HNA.out.later hbn); have HOAn := hid (Z06 HOA.out hbn); clear HOA; have HOA := HOAn; clear HOAn; clear HNA hbn; have HNA := HNn; clear HNn; refine hK.out _ _ ?_ (fun hHeld => ?_)
         ·exact HNA.out.blk
         clear hK K; try go_frame
         exact TL v2 ⟨HNA,HOA⟩
        ·go_simp
         refine (Z13 V.A y.x (c : Int) _ HNS2.out).mono ?_; rw [HCN.out]; rintro e v1 ⟨rfl,hbn⟩; have HNn := hid (HNA.out.later hbn); have HOAn := hid (Z06 HOA.out hbn); clear HOA; have HOA := HOAn; clear HOAn; clear HNA hbn; have HNA := HNn; clear HNn; refine hK.out _ _ ?_ (fun hHeld => ?_)
         ·exact HNA.out.blk
         clear hK K; try go_frame
         refine wpAnyH_ready (rs := [1,9]) (by kernel_rfl) (by simp) ?_
         refine AllReadyH.cons rfl (fun K hK => ?_) (AllReadyH.cons rfl (fun K hK => ?_) AllReadyH.nil)
         ·have q1 := HNA.out.nm.c1
          go_simp; clear q1; refine hK.out _ _ ?_ (fun hHeld => ?_)
          ·exact hHeld
          clear hK K; try go_frame
          refine stpR 9 (fun K hK => ?_); go_simp; refine (Z4v V.A y.x (s : Int) _).mono ?_; rw [HSNX.out]; rintro e v2 ⟨rfl,hbn⟩; have HNn := hid (HNA.out.later hbn); have HOAn := hid (Z06 HOA.out hbn); clear HOA; have HOA := HOAn; clear HOAn; clear HNA hbn; have HNA := HNn; clear HNn; refine hK.out _ _ ?_ (fun hHeld => ?_)
          ·exact HNA.out.blk
          clear hK K; try go_frame
          refine stpT 10 hHeld ?_ (y := fun Wz hWz => by clear hWz; go_simp; (try with_reducible rfl))
          try go_frame
          refine stpR 11 (fun K hK => ?_); go_simp; have hbn := Z0g v2 (.cells #[.int .i64 (((y.cn c : Int),(sn : Int),1099511627776,0)).1,.int .i64 (((y.cn c : Int),(sn : Int),1099511627776,0)).2.1,.int .i64 (((y.cn c : Int),(sn : Int),1099511627776,0)).2.2.1,.int .i64 (((y.cn c : Int),(sn : Int),1099511627776,0)).2.2.2] 127); have HNn := hid (HNA.out.later hbn); have HOAn := hid (Z06 HOA.out hbn); clear HOA; have HOA := HOAn; clear HOAn; clear HNA hbn; have HNA := HNn; clear HNn; refine hK.out _ _ ?_ (fun hHeld => ?_)
          ·exact HNA.out.blk
          clear hK K; try go_frame
          exact TL v2 ⟨HNA,HOA⟩
         ·go_simp
          refine (Z4v V.A y.x (s : Int) _).mono ?_; rw [HSNX.out]; rintro e v2 ⟨rfl,hbn⟩; have HNn := hid (HNA.out.later hbn); have HOAn := hid (Z06 HOA.out hbn); clear HOA; have HOA := HOAn; clear HOAn; clear HNA hbn; have HNA := HNn; clear HNn; refine hK.out _ _ ?_ (fun hHeld => ?_)
          ·exact HNA.out.blk
          clear hK K; try go_frame
          refine stpT 10 hHeld ?_ (y := fun Wz hWz => by clear hWz; go_simp; (try with_reducible rfl))
          try go_frame
          refine wpAnyH_ready (rs := [1,11]) (by kernel_rfl) (by simp) ?_
          refine AllReadyH.cons rfl (fun K hK => ?_) (AllReadyH.cons rfl (fun K hK => ?_) AllReadyH.nil)
          ·have q1 := HNA.out.nm.c1
           go_simp; clear q1; refine hK.out _ _ ?_ (fun hHeld => ?_)
           ·exact hHeld
           clear hK K; try go_frame
           refine stpR 11 (fun K hK => ?_); go_simp; have hbn := Z0g v2 (.cells #[.int .i64 (((y.cn c : Int),(sn : Int),1099511627776,0)).1,.int .i64 (((y.cn c : Int),(sn : Int),1099511627776,0)).2.1,.int .i64 (((y.cn c : Int),(sn : Int),1099511627776,0)).2.2.1,.int .i64 (((y.cn c : Int),(sn : Int),1099511627776,0)).2.2.2] 127); have HNn := hid (HNA.out.later hbn); have HOAn := hid (Z06 HOA.out hbn); clear HOA; have HOA := HOAn; clear HOAn; clear HNA hbn; have HNA := HNn; clear HNn; refine hK.out _ _ ?_ (fun hHeld => ?_)
           ·exact HNA.out.blk
           clear hK K; try go_frame
           exact TL v2 ⟨HNA,HOA⟩
          ·go_simp
           have hbn := Z0g v2 (.cells #[.int .i64 (((y.cn c : Int),(sn : Int),1099511627776,0)).1,.int .i64 (((y.cn c : Int),(sn : Int),1099511627776,0)).2.1,.int .i64 (((y.cn c : Int),(sn : Int),1099511627776,0)).2.2.1,.int .i64 (((y.cn c : Int),(sn : Int),1099511627776,0)).2.2.2] 127); have HNn := hid (HNA.out.later hbn); have HOAn := hid (Z06 HOA.out hbn); clear HOA; have HOA := HOAn; clear HOAn; clear HNA hbn; have HNA := HNn; clear HNn; refine hK.out _ _ ?_ (fun hHeld => ?_)
           ·exact HNA.out.blk
           clear hK K; try go_frame
           refine stpR 1 (fun K hK => ?_); have q1 := HNA.out.nm.c1; go_simp; clear q1; refine hK.out _ _ ?_ (fun hHeld => ?_)
           ·exact hHeld
           clear hK K; try go_frame
           exact TL v2 ⟨HNA,HOA⟩
        ·rintro v ⟨HNA,HOA⟩
         have hHeld := HNA.out.blk; refine stpR 12 (fun K hK => ?_); refine Z01 rfl (.tmp 69) (.tmp 79) 103 rfl (g + 1) 127 i0 _ 4 32 Tryz.underlying103 hi0 hz0 hz1 hz2 (by decide) (.slice va (midL y k s j).length vc) (midL y k s j).length (flatP (midL y k s j)) rfl HNA.out.nm.row ⟨v.heap.size,0,none⟩ 1 (encP ((y.cn c : Int),(sn : Int),1099511627776,0)) rfl rfl (Z5r _ ((y.cn c : Int),(sn : Int),1099511627776,0) _ _ rfl) (onePB _) (by have := HXL.out; unfold maxLen; omega) (by have := HXL.out; omega) (Nat.succ_le_of_lt HNA.out.nm.ltg) ?_
         intro g' cp4 w4 hown hgrow hfr; obtain ⟨hp,q1,fz,hbv,hmd⟩ := HNA.out.push (p := ((y.cn c : Int),(sn : Int),1099511627776,0)) hown hgrow; have HP := hid hp; have HMD := hid hmd; clear hown hgrow hfr hp hmd; refine hK.out _ _ ?_ (fun hHeld => ?_)
         ·exact hbv
         clear hK K; try go_frame
         refine Z0s 13 hHeld ?_; try go_frame
         refine stpR 14 (fun K hK => ?_); go_simp; refine hK.out _ _ ?_ (fun hHeld => ?_)
         ·exact HP.out.blk
         clear hK K; try go_frame
         refine wpAnyH_done (by kernel_rfl) ?_ _
         clear hHeld hbv q1 fz; go_wp2_with fail
         go_roundw
         case rel => exact ⟨j + 1,_,by go_num,by omega,hid (HP.out.turn (by rw [Zgt (by rw [HZZ.out]; exact HCC.out),pipeL,HSN.out])),hid (HNA.out.list HOA.out HMD.out)⟩
         case measure => simp [intOf]; omega
       ·obtain rfl : j = n := by omega
        have HN4 : Hid (NetW w wr (w.heap.size + 1) g ((ND : Int) + 1) (.slice va (midL y k s j).length vc) (netL y k (s + 1)) V y) := hid (HNR.out.turn (by rw [← Zjw,HZZ.out,HNL.out]))
        clear HNR; go_wp2_with fail
        go_roundw
        case rel => exact ⟨s + 1,_,by go_num,by omega,HN4⟩
        case measure => simp [intOf]; omega
    ·obtain rfl : s = y.zs.length := by omega
     have x0 := HNR.out.nm.c0; have x1 := HNR.out.nm.c1; have r0 := cell_of_row _ _ 0 _ _ _ HNR.out.nm.res; have r1 := cell_of_row _ _ 1 _ _ _ HNR.out.nm.res; have d0 := frozen_of_row _ _ 0 _ _ HNR.out.nm.res; have d1 := frozen_of_row _ _ 1 _ _ HNR.out.nm.res; have hN2 := HNR.out.turn (show netL y k y.zs.length = netL y k y.x.sats.length by rw [HNZ.out])
     obtain ⟨g1,g2,g3⟩ := hN2.done; have hle : (netL y k y.zs.length).length = (netL y k y.x.sats.length).length := by rw [HNZ.out]
     rw [hle] at g1 g2 g3 x1; have HG1 := hid g1; have HG2 := hid g2; have HG3 := hid g3; clear g1 g2 g3 hN2 hle; go_wp2_with fail
     exact bodyPost_ret (v := .agg #[.int .i64 ((ND : Int) + 1),.slice va (netL y k y.x.sats.length).length vc]) (results_cell_row rfl _ _ (w.heap.size + 1) 105 _ (0,0) _ rfl HG1.out Tryz.underlying105 rfl Zjv) rfl ⟨va,vc,by rw [HNDN.out]; rfl,(Zfn HG2.out).2,HG3.out⟩
end Go.Proofs.YtfkommjlmolniaaGreatDoor
end

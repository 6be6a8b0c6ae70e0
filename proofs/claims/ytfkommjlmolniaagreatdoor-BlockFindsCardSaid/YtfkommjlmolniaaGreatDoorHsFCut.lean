/- Joined: FCut. -/
import Derived.Test.YtfkommjlmolniaaGreatDoorHd8
import Derived.Test.YtfkommjlmolniaaGreatDoorHd9
import Derived.BigQuiet
import Derived.Deep.QuietTactic
set_option linter.unusedVariables false
section

namespace Go.Proofs.YtfkommjlmolniaaGreatDoor
set_option maxHeartbeats 16000000
set_option maxRecDepth 100000
open Go.Lib (hid)
open Go.RowKit
variable {w wr w2 : World} {a b : Option Addr} {len cap c gx gn N s k v : Nat} {l : List Pi} {xs : List Int} {fl : Nat → Int} {far : Nat → Int} {L : Nat → List La} {n : Int}
def opC (l : List Pi) (fl : Nat → Int) (a : La) : Bool := if a.2.2 = true then decide (0 < fl a.1) else decide (fl a.1 < room l a.1)
structure CutW (w0 wr : World) (gx gn : Nat) (n : Int) (a : Option Addr) (len cap : Nat) (b : Option Addr) (c : Nat) : Prop where
 below : Below w0.heap.size w0 wr
 ge1 : w0.heap.size ≤ gx
 ge2 : w0.heap.size ≤ gn
 net : wr.heap[gn]? = some (.cells #[.int .i64 n,.slice a len cap] 105 (0,0))
 row : wr.heap[gx]? = some (.cells #[.slice b len c] 56 (0,0))
theorem CutW.later {w0 : World} (h : CutW w0 wr gx gn n a len cap b c) (hb : Below wr.heap.size wr w2) : CutW w0 w2 gx gn n a len cap b c :=
 ⟨h.below.trans (hb.mono h.below.size),h.ge1,h.ge2,(hb.block gn (Array.getElem?_eq_some_iff.1 h.net).1).trans h.net,(hb.block gx (Array.getElem?_eq_some_iff.1 h.row).1).trans h.row⟩
theorem CutW.cells {w0 : World} (h : CutW w0 wr gx gn n a len cap b c) : wr.cell? ⟨gn,0,none⟩ = some (.int .i64 n) ∧ wr.cell? ⟨gn,1,none⟩ = some (.slice a len cap) ∧ wr.cell? ⟨gx,0,none⟩ = some (.slice b len c) := by
 have h1 := h.net; have h2 := h.row; simp [World.cell?,h1,h2]
theorem CutW.pipes {w0 : World} (h : CutW w0 wr gx gn n a len cap b c) (hl : IsPipes w0.heap.size w0 a len l) : IsPipes wr.heap.size wr a len l := (hl.later h.below).mono h.below.size
theorem Zkc {w0 : World} (h : CutW w0 wr gx gn n a len cap b c) (hl : IsPipes w0.heap.size w0 a len l) (hx : IsNums w0.heap.size w0 b len xs) (k v : Nat) (bk : Bool) (hk : k < len) :
  Calls Tryz.prog 80 #[.agg #[.int .i64 (k : Int),.int .i64 (v : Int),.bool bk],.pointer (some ⟨gx,0,none⟩),.pointer (some ⟨gn,0,none⟩)] wr fun e w' => e = .returned (.bool (opC l (flOf xs) (k,v,bk))) ∧ Below wr.heap.size wr w' := by
 have HB := hid ((Below.refl wr.heap.size wr).alloc (Nat.le_refl _) (.cells #[.int .i64 (k : Int),.int .i64 (v : Int),.bool bk] 140)); have H1 := h.later HB.out; have c0 : (wr.alloc (.cells #[.int .i64 (k : Int),.int .i64 (v : Int),.bool bk] 140)).cell? ⟨gx,0,none⟩ = some (.slice b len c) := by have h1 := H1.row; simp [World.cell?,h1]
 have c1 : (wr.alloc (.cells #[.int .i64 (k : Int),.int .i64 (v : Int),.bool bk] 140)).cell? ⟨gn,1,none⟩ = some (.slice a len cap) := by have h1 := H1.net; simp [World.cell?,h1]
 obtain ⟨pb,off,x,ha,_,hxx,e0,e1,e2,e3⟩ := (hl.later H1.below).at_ hk; obtain ⟨nb,noff,z,hb,hz,n0⟩ := (hx.later H1.below).at_ hk; subst ha hb; have HO : Hid (opC l (flOf xs) (k,v,bk) = if bk = true then decide (0 < z) else decide (z < x.2.2.1)) := hid (by
  have : flOf xs k = z := by simp [flOf,List.getD,hz]
  simp [opC,this,Z3f hxx])
 generalize opC l (flOf xs) (k,v,bk) = ov at HO ⊢; have hkl : (k : Int) < (len : Int) := by omega
 clear h H1 hl hx hxx hz; cases bk with
 | true =>
  by_cases h0 : 0 < z
  ·have HV : Hid (ov = true) := hid (by rw [HO.out]; simp [h0])
   clear HO; go_enter Tryz.func80,Tryz.ntmps80
   go_wp2_with fail
   go_ret
   exact ⟨by rw [HV.out]; simp ,HB.out⟩
  ·have HV : Hid (ov = false) := hid (by rw [HO.out]; simp [h0])
   clear HO; go_enter Tryz.func80,Tryz.ntmps80
   go_wp2_with fail
   go_ret
   exact ⟨by rw [HV.out]; simp ,HB.out⟩
 | false =>
  by_cases h0 : z < x.2.2.1
  ·have HV : Hid (ov = true) := hid (by rw [HO.out]; simp [h0])
   clear HO; go_enter Tryz.func80,Tryz.ntmps80
   go_wp2_with fail
   go_quiet (fail)
   go_wp2_with fail
   go_ret
   exact ⟨by rw [HV.out]; simp ,Z03 HB.out _⟩
  ·have HV : Hid (ov = false) := hid (by rw [HO.out]; simp [h0])
   clear HO; go_enter Tryz.func80,Tryz.ntmps80
   go_wp2_with fail
   go_quiet (fail)
   go_wp2_with fail
   go_ret
   exact ⟨by rw [HV.out]; simp [h0],Z03 HB.out _⟩
theorem Zmz {w0 : World} (h : CutW w0 wr gx gn n a len cap b c) (hl : IsPipes w0.heap.size w0 a len l) (hx : IsNums w0.heap.size w0 b len xs) (k v : Nat) (bk : Bool) (hk : k < len) :
  Calls Tryz.prog 80 (#[.agg #[.int .i64 (k : Int),.int .i64 (v : Int),.bool bk]] ++ #[.pointer (some ⟨gx,0,none⟩),.pointer (some ⟨gn,0,none⟩)]) wr fun e w' => e = .returned (.bool (opC l (flOf xs) (k,v,bk))) ∧ Below wr.heap.size wr w' := by
 have e : (#[.agg #[.int .i64 (k : Int),.int .i64 (v : Int),.bool bk]] ++ #[.pointer (some ⟨gx,0,none⟩),.pointer (some ⟨gn,0,none⟩)] : Array Value) = #[.agg #[.int .i64 (k : Int),.int .i64 (v : Int),.bool bk],.pointer (some ⟨gx,0,none⟩),.pointer (some ⟨gn,0,none⟩)] := rfl; rw [e]; exact Zkc h hl hx k v bk hk
theorem Zn0 (h : FarOk L (opC l fl) N s far) (hl : LanesOk l N L) (hok : ∀ x ∈ l,okP (N : Int) x = true) (hs : s < N) {i : Nat} (hi : i < N) : 0 ≤ far i ↔ Res l fl s i := by
 constructor
 ·intro h0
  have hb := h.sound i hi h0; clear h0 hi; have key : Res l fl s i ∧ i < N := by
   induction hb with
   | here => exact ⟨.here,hs⟩
   | go hb ha ho ih =>
    rename_i u a
    obtain ⟨ih1,ih2⟩ := ih; obtain ⟨x,hx,_,hvN,hd⟩ := hl.sound u ih2 a ha; refine ⟨?_,hvN⟩; unfold opC at ho; by_cases b : a.2.2 = true
    ·rw [if_pos b] at ho hd
     exact ih1.back hx hd.2 hd.1 (by simpa using ho)
    ·rw [if_neg b] at ho hd
     exact ih1.fwd hx hd.1 hd.2 (by rw [Z3f hx] at ho; simpa using ho)
  exact key.1
 ·intro hr
  have hlt : ∀ j,Res l fl s j → j < N := fun j hj => hj.lt hok hs; clear hi; induction hr with
  | here => rw [h.start]; omega
  | fwd hr hx h1 h2 hlf ih =>
   rename_i f t k x
   by_cases e : f = t
   ·subst e; exact ih
   ·exact (h.closed f (hlt f hr) ih _ (hl.all k x f t hx h1 h2 e).1 (by simp [opC,Z3f hx,hlf])).1
  | back hr hx h1 h2 hlf ih =>
   rename_i f t k x
   by_cases e : f = t
   ·subst e; exact ih
   ·exact (h.closed t (hlt t hr) ih _ (hl.all k x f t hx h1 h2 e).2 (by simp [opC,hlf])).1
theorem Z8c {base g N : Nat} {d : Nat → Bool} (h : w.rowIs g 4 N (fun i => .bool (d i))) (hb : base ≤ g) (hN : N ≤ maxLen) : Z8d w base (.slice (some ⟨g,0,none⟩) N N) N d := by
 obtain ⟨cs,hg,hs,hc⟩ := h; refine ⟨by simp [boolF],.inr ⟨g,N,cs,rfl,hb,hg,Nat.le_refl _,hN,by omega,?_⟩⟩
 rw [Nat.mul_one,List.take_of_length_le (by simp [hs])]
 apply List.ext_getElem?
 intro j; by_cases hj : j < N
 ·rw [Array.getElem?_toList,hc j hj,Za5 d hj]
 ·rw [List.getElem?_eq_none (by simp; omega),List.getElem?_eq_none (by rw [Za4]; omega)]
theorem Zhh : (Tryz.prog.info? 4).map (fun i => (i.zero,i.size,i.bytes)) = some (some (.bool false),1,1) := by kernel_rfl
theorem Zn1 (N s len cap : Nat) (l : List Pi) (a : Option Addr) (c : Nat) (xs : List Int) (b : Option Addr) (w : World) (hck : Z1s (N : Int) l = 0) (hs : s < N) (hl : IsPipes w.heap.size w a len l) (hx : IsNums w.heap.size w b len xs) :
  Calls Tryz.prog 58 #[.agg #[.int .i64 (N : Int),.slice a len cap],.slice b len c,.int .i64 (s : Int)] w fun e w' => Below w.heap.size w w' ∧
   ∃ v d,e = .returned v ∧ Z8d w' w.heap.size v N d ∧ ∀ i,i < N → (d i = true ↔ Res l (flOf xs) s i) := by
 obtain ⟨⟨_,hN,hll⟩,hok⟩ := checkP_zero.1 hck; have hN2 : N ≤ 1000 := by omega
 have hlen : len ≤ 20000 := by have := hl.1; omega
 have hmk := run_make_row' (P := Tryz.prog) 70 4 (.bool false) 1 Tryz.underlying70 Zhh rfl .i64 .i64 N (by omega) (by omega)
 have hmf : ∀ (fn : Fn) (first cap : Array Value) (w : World),(Instr.makeFunc fn first cap).run Tryz.prog w = .ok (.func fn first cap) w := fun _ _ _ _ => rfl
 have HG0 := NBox.make (Below.refl _ w) (N : Int) a len cap; have HG := hid (HG0.alloc (.cells #[.slice b len c] 56)); have HW : Hid (CutW w ((w.alloc (.cells #[.int .i64 (N : Int),.slice a len cap] 105)).alloc (.cells #[.slice b len c] 56)) (w.heap.size + 1) w.heap.size (N : Int) a len cap b c) := hid (by
  have h1 := heap_alloc_new (w.alloc (.cells #[.int .i64 (N : Int),.slice a len cap] 105)) (.cells #[.slice b len c] 56); have h2 : (w.alloc (.cells #[.int .i64 (N : Int),.slice a len cap] 105)).heap.size = w.heap.size + 1 := by simp
  rw [h2] at h1; exact ⟨HG.out.below,by omega,Nat.le_refl _,HG.out.blk,h1⟩)
 have HCK := hid (Z77 (N : Int) len cap l a _ (HG.out.pipesHere hl)); rw [hck] at HCK; have HI : Hid (isIn (N : Int) (s : Int) = true) := hid (by simp [isIn]; omega)
 have HL := hid hl; have HX := hid hx; have HOK := hid hok; have HLn : Hid (l.length = len) := hid hl.1; have HLO := hid (Z78 hok); clear hck hl hx hok HG0 hll hN; have hHF : ∀ (args : Array Value) (W : World),(callFunc 80 args).run Tryz.prog W = .ok (.enter 80 args) W := enters_of Tryz.func80 (by kernel_rfl) rfl
 have HHF := hid hHF; clear hHF; have HOP : Hid (∀ w5,CutW w w5 (w.heap.size + 1) w.heap.size (N : Int) a len cap b c → ∀ W,Below w5.heap.size w5 W → ∀ u,u < N → ∀ k v bk,(k,v,bk) ∈ Z0t l u l.length → Calls Tryz.prog 80 (#[.agg #[.int .i64 (k : Int),.int .i64 (v : Int),.bool bk]] ++ #[.pointer (some ⟨w.heap.size + 1,0,none⟩),.pointer (some ⟨w.heap.size,0,none⟩)]) W fun e w' => e = .returned (.bool (opC l (flOf xs) (k,v,bk))) ∧ Below W.heap.size W w') :=
  hid (fun w5 h5 W hW u hu k v bk hm => Zmz (h5.later hW) HL.out HX.out k v bk (by
   obtain ⟨x,hx,_⟩ := HLO.out.sound u hu _ hm; have h1 := (List.getElem?_eq_some_iff.1 hx).1; have := HLn.out; simp only at h1
   omega))
 have HLL : Hid (∀ i,(Z0t l i l.length).length ≤ 40000) := hid (fun i => by have := Z23 l i l.length; have := HLn.out; omega)
 have HLT : Hid (∀ u,u < N → ∀ a ∈ Z0t l u l.length,a.2.1 < N) := hid (fun u hu a ha => by obtain ⟨_,_,_,h,_⟩ := HLO.out.sound u hu a ha; exact h)
 go_enter Tryz.func58,Tryz.ntmps58
 go_wp2_with (first
  | (go_at_call 78; refine HCK.out.mono ?_; rintro e w2 ⟨rfl,hb2⟩; have HW2 := hid (HW.out.later hb2); obtain ⟨x0,x1,x2⟩ := HW2.out.cells; clear hb2)
  | (go_at_call 79; refine (Z1h HI.out _ _ _ _).mono ?_; rintro e w3 ⟨rfl,hb3⟩; have HW3 := hid (HW2.out.later hb3); obtain ⟨y0,y1,y2⟩ := HW3.out.cells; have HW4 := hid (HW3.out.later ((Below.refl w3.heap.size w3).alloc (Nat.le_refl _) (.cells (madeCells #[.bool false] N) 4))); obtain ⟨z0,z1,z2⟩ := HW4.out.cells; clear hb3)
  | (go_at_call 82; refine (Z79 N hN2 hlen HOK.out a cap _ (HW4.out.pipes HL.out)).mono ?_; rintro e w5 ⟨Lb,V,rfl,hadj,hb5⟩; have HAD := hid hadj; have HW5 := hid (HW4.out.later hb5); have HCM := hid (Z0a (World.rowIs_made w3 (.bool false) N 4) hb5); clear hadj hb5)
  | (go_at_call 81; refine (Za3 N s (by omega) hN2 hs _ HAD.out.lanes HLL.out HLT.out (opC l (flOf xs)) 80 #[.pointer (some ⟨w.heap.size + 1,0,none⟩),.pointer (some ⟨w.heap.size,0,none⟩)] HHF.out (HOP.out w5 HW5.out)).mono ?_; rintro e w6 ⟨G,far,rfl,hrow,hge,hb6,hfar⟩; have HRW := hid hrow; have HFR := hid hfar; have HW6 := hid (HW5.out.later hb6); have HCM6 := hid (Z0a HCM.out hb6); have HGC : Hid (w3.heap.size < G) := hid (by have := HCM.out.lt; omega); clear hrow hge hb6 hfar))
 obtain ⟨C,hC⟩ : ∃ C,w3.heap.size = C := ⟨_,rfl⟩; have HCB : Hid (w.heap.size ≤ C) := hid (by rw [← hC]; exact HW3.out.below.size)
 rw [hC] at HCM6 HGC; rw [hC]; clear hC x0 x1 x2 y0 y1 y2 z0 z1 z2 hmk HCM; go_loopw [38] (fun i wr => ∃ k : Nat,i = .int .i64 k ∧ k ≤ N ∧ Hid (Below w.heap.size w wr ∧ wr.rowIs G 3 N (fun i => .int .i64 (far i)) ∧ wr.rowIs C 4 N (fun i => .bool (decide (i < k ∧ 0 ≤ far i))))) (fun i _ => N - (intOf i).toNat)
 case atStart => exact ⟨0,rfl,Nat.zero_le _,hid ⟨HW6.out.below,HRW.out,HCM6.out.congr (fun i _ => by simp)⟩⟩
 case round =>
  obtain ⟨k,rfl,hk,HR⟩ := hrel; by_cases hlt : k < N
  ·have r0 := HR.out.2.1.cell hlt
   have f0 := HR.out.2.2.frozen k; have r1 := HR.out.2.2.cell hlt; obtain ⟨fk,hfk⟩ : ∃ z,far k = z := ⟨_,rfl⟩; have HFK := hid hfk; rw [hfk] at r0; clear hfk; by_cases h0 : 0 ≤ fk
   ·have HN : Hid (Below w.heap.size w (wr.setCell ⟨C,k,none⟩ (.bool true)) ∧ (wr.setCell ⟨C,k,none⟩ (.bool true)).rowIs G 3 N (fun i => .int .i64 (far i)) ∧ (wr.setCell ⟨C,k,none⟩ (.bool true)).rowIs C 4 N (fun i => .bool (decide (i < k + 1 ∧ 0 ≤ far i)))) := hid ⟨HR.out.1.setCell HCB.out _,HR.out.2.1.setOther (show G ≠ C by have := HGC.out; omega) _,(HR.out.2.2.set k _).congr (fun i _ => by
     by_cases e : i = k
     ·subst e; rw [if_pos rfl]; have := HFK.out; congr 1; symm; simp; omega
     ·rw [if_neg e]; congr 1; rw [decide_eq_decide]; omega)⟩
    go_wp2_with fail
    go_roundw
    case rel => exact ⟨k + 1,by go_num,by omega,HN⟩
    case measure => simp [intOf]; omega
   ·have HN : Hid (Below w.heap.size w (wr.setCell ⟨C,k,none⟩ (.bool false)) ∧ (wr.setCell ⟨C,k,none⟩ (.bool false)).rowIs G 3 N (fun i => .int .i64 (far i)) ∧ (wr.setCell ⟨C,k,none⟩ (.bool false)).rowIs C 4 N (fun i => .bool (decide (i < k + 1 ∧ 0 ≤ far i)))) := hid ⟨HR.out.1.setCell HCB.out _,HR.out.2.1.setOther (show G ≠ C by have := HGC.out; omega) _,(HR.out.2.2.set k _).congr (fun i _ => by
     by_cases e : i = k
     ·subst e; rw [if_pos rfl]; have := HFK.out; congr 1; symm; simp; omega
     ·rw [if_neg e]; congr 1; rw [decide_eq_decide]; omega)⟩
    go_wp2_with fail
    go_roundw
    case rel => exact ⟨k + 1,by go_num,by omega,HN⟩
    case measure => simp [intOf]; omega
  ·obtain rfl : k = N := by omega
   go_wp2_with fail
   go_ret
   refine ⟨HR.out.1,_,fun i => decide (0 ≤ far i),rfl,Z8c (HR.out.2.2.congr (fun i hi => by congr 1; rw [decide_eq_decide]; omega)) HCB.out (by unfold maxLen; omega),fun i hi => ?_⟩
   rw [decide_eq_true_eq]; exact Zn0 HFR.out HLO.out HOK.out hs hi
end Go.Proofs.YtfkommjlmolniaaGreatDoor
end

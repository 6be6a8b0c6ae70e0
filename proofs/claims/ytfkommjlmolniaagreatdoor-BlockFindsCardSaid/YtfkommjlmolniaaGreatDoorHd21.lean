/- Joined: BAwakeT, Readies, SBox, ISet, FreshT, MayMk, RAwake, UpTo, EqI, BLack. -/
import Derived.Test.YtfkommjlmolniaaGreatDoorHd2
import Derived.Test.YtfkommjlmolniaaGreatDoorHsRApart
import Derived.Test.YtfkommjlmolniaaGreatDoorHsIMake
import Derived.StillTailTactics
import Derived.Maps.RangeWalk
import Derived.Test.YtfkommjlmolniaaGreatDoorHd6
import Derived.Test.YtfkommjlmolniaaGreatDoorHd19
import Derived.Test.YtfkommjlmolniaaGreatDoorHd15
import Derived.Test.YtfkommjlmolniaaGreatDoorRows
import Derived.WalkKit
import Derived.Test.YtfkommjlmolniaaGreatDoorHd1
import Derived.Lib.Hide
import Derived.IntWalk
import Derived.Deep.QuietTactic
import Derived.Deep.LoopGhost
import Derived.LoopTactic
import Derived.Test.YtfkommjlmolniaaGreatDoorHd3
set_option linter.unusedVariables false
section

namespace Go.Proofs.YtfkommjlmolniaaGreatDoor
def lackI : Ins := ⟨1000,1,60,2,10,[(6,2)],[(3,0,100,0),(4,0,100,0)],[[0,0,0,0],[0,0,0,0],[0,0,0,0],[0,0,0,0]],[[0,0,0,0],[0,0,0,0],[0,0,0,0],[0,0,0,0]]⟩
theorem Z82 : May lackI := May.of_err (by decide)
theorem Zge (i k : Nat) (hi : i < 4) (hk : k < 4) : tmI lackI i k = 0 := by
 have : ∀ i,i < 4 → ∀ k,k < 4 → tmI lackI i k = 0 := by decide
 exact this i hi k hk
theorem Zjm (i : Nat) (hi : i < 4) : styI lackI i = 0 := by
 have : ∀ i,i < 4 → styI lackI i = 0 := by decide
 exact this i hi
theorem Z22 {W : Nat → Nat → Option Int} {N s i : Nat} {d : Int} (hW : GoodW_ W N) (h : LeastW W s i d) (ha : W s i = some 0) : d = 0 := by
 have h1 := h.le_arc ha; obtain ⟨m,hw⟩ := h.1; have := hw.pos hW; omega
theorem Z36 (s : Nat) : GoodW_ (arcC lackI s) lackI.nodes ∧ GoodW_ (arcS lackI) lackI.nodes :=
 ⟨Z2f (fun i k hi hk => by rw [Zge i k hi hk]; decide) (fun i hi => by rw [Zjm i hi]; decide),Z2f (fun i k hi hk => by rw [Zge i k hi hk]; decide) (fun i _ => Int.le_refl _)⟩
theorem Z92 {p : Nat → Nat → Bool} (h : MayOf lackI p) : p 0 0 = true ∧ p 0 1 = true := by
 obtain ⟨rd,hr,h⟩ := h; obtain ⟨ou,ba,ho,hb,he⟩ := h 0 (by decide)
 have e1 : rd.getD 0 0 = 2 := by
  obtain ⟨d,h1,h2⟩ := hr.2 0 (by decide)
  have hd := Z22 (Z36 0).2 h1 (arcW_some.2 ⟨by decide,by decide⟩)
  subst hd; rw [List.getD,h2]; rfl
 have e2 : ∀ c,c < 2 → ou.getD c 0 = 0 := fun c hc => by
  obtain ⟨d,h1,h2⟩ := ho.2 c hc; have hcc : c = 0 ∨ c = 1 := by omega
  have hd : d = 0 := by
   rcases hcc with rfl | rfl
   ·exact Z22 (Z36 0).1 h1 (arcW_some.2 ⟨by decide,by decide⟩)
   ·exact Z22 (Z36 0).1 h1 (arcW_some.2 ⟨by decide,by decide⟩)
  subst hd; rw [List.getD,h2]; rfl
 have e3 : ∀ c,c < 2 → ba.getD c 0 = 0 := fun c hc => by
  obtain ⟨d,h1,h2⟩ := hb.2 c hc; have hcc : c = 0 ∨ c = 1 := by omega
  have hd : d = 0 := by
   rcases hcc with rfl | rfl
   ·exact Z22 (Z36 0).1 h1 (arcW_some.2 ⟨by decide,by decide⟩)
   ·exact Z22 (Z36 0).1 h1 (arcW_some.2 ⟨by decide,by decide⟩)
  subst hd; rw [List.getD,h2]; rfl
 constructor
 ·rw [he 0 (by decide)]
  unfold mayI; rw [e1,e2 0 (by decide),e3 0 (by decide)]
  decide
 ·rw [he 1 (by decide)]
  unfold mayI; rw [e1,e2 1 (by decide),e3 1 (by decide)]
  decide
theorem Z83 (f : Nat → Int) (z : Nat) : sumZ 2 f z = (if z.testBit 0 = true then f 0 else 0) + (if z.testBit 1 = true then f 1 else 0) := by
 simp only [sumZ,sumD]
 omega
theorem Z93 (z : Nat) : sizeZ 2 z = (if z.testBit 0 = true then 1 else 0) + (if z.testBit 1 = true then 1 else 0) := by
 simp only [sizeZ,sumD]
 omega
theorem lack_ld : ldI lackI 0 = 3 ∧ ldI lackI 1 = 4 := by decide
theorem Zee {p : Nat → Nat → Bool} (hp : p 0 0 = true ∧ p 0 1 = true) : CountOf 2 (p 0) (ldI lackI) 6 1 := by
 refine ⟨⟨1,fun c hc _ => ?_,?_,?_⟩,fun z _ hl => ?_⟩
 ·have hcc : c = 0 ∨ c = 1 := by omega
  rcases hcc with rfl | rfl
  ·exact hp.1
  ·exact hp.2
 ·rw [Z83,lack_ld.1,lack_ld.2]; decide
 ·rw [Z93]; decide
 ·rw [Z83,lack_ld.1,lack_ld.2] at hl
  rw [Z93]; cases e0 : z.testBit 0 <;> cases e1 : z.testBit 1 <;> simp [e0,e1] at hl ⊢
theorem Zbd {l : List Int} (h : CountsX lackI l) : l = [1] := by
 obtain ⟨p,hp,hl,h⟩ := h; obtain ⟨n,h1,h2⟩ := h 0 (by decide)
 have e := h1.unique (Zee (Z92 hp)); subst e; have hl1 : l.length = 1 := hl; match l,hl1,h2 with
 | [v],_,h2 =>
  simp at h2
  rw [h2]
theorem Zef {p : Nat → Nat → Bool} (hp : p 0 0 = true ∧ p 0 1 = true) : Z17 lackI p 0 = 0 ∧ Z17 lackI p 1 = -3 ∧ Z17 lackI p 2 = -2 ∧ Z17 lackI p 3 = 1 := by
 have ht : ∀ z,Z0k 2 (p 0) z = (z.testBit 0 || z.testBit 1) := fun z => by
  unfold Z0k; simp [List.range,List.range.loop,hp.1,hp.2]
 have e : ∀ z,Z17 lackI p z = sumZ 2 (ldI lackI) z - (if (z.testBit 0 || z.testBit 1) = true then 6 else 0) := fun z => by
  show sumZ 2 (ldI lackI) z - sumD (fun s => if Z0k 2 (p s) z = true then roomI lackI s else 0) 1 = _
  simp only [sumD]
  rw [ht,show roomI lackI 0 = 6 from by decide]
  omega
 simp only [e,Z83,lack_ld.1,lack_ld.2]
 decide
theorem Zeg {k who z : Nat} (h : FoundX lackI k who z) : k = 5 ∧ who = 0 ∧ z = 3 := by
 have h0 := h; obtain ⟨p,l,a1,a2,_⟩ := h; have hp := Z92 a1; obtain ⟨s0,s1,s2,s3⟩ := Zef hp; refine h0.unique Z82 ⟨p,l,a1,a2,.inr ⟨.inr (.inr (.inr (.inr (.inl ⟨rfl,rfl,?_⟩)))),fun _ c hb => ?_,fun _ c hb => ?_,fun _ => by decide,fun _ => by decide,fun h => by omega,fun h => by omega⟩⟩
 ·have four : ∀ y : Nat,y < 2 ^ lackI.cus.length → y = 0 ∨ y = 1 ∨ y = 2 ∨ y = 3 := fun y hy => by
   have : y < 4 := hy; omega
  refine ⟨by decide,by rw [s3]; decide,fun y hy => ?_,fun y hy e => ?_⟩
  ·rcases four y hy with rfl | rfl | rfl | rfl
   ·rw [s0,s3]; decide
   ·rw [s1,s3]; decide
   ·rw [s2,s3]; decide
   ·exact Int.le_refl _
  ·rcases four y hy with rfl | rfl | rfl | rfl
   ·rw [s0,s3] at e; omega
   ·rw [s1,s3] at e; omega
   ·rw [s2,s3] at e; omega
   ·exact Int.le_refl _
 ·have hc : c = 0 ∨ c = 1 := by have : c < 2 := hb.1; omega
  have h2 := hb.2; rcases hc with rfl | rfl
  ·rw [lack_ld.1] at h2; exact absurd h2 (by decide)
  ·rw [lack_ld.2] at h2; exact absurd h2 (by decide)
 ·have hc : c = 0 ∨ c = 1 := by have : c < 2 := hb.1; omega
  have h2 := hb.2 0 (by decide)
  rcases hc with rfl | rfl
  ·rw [hp.1] at h2; cases h2
  ·rw [hp.2] at h2; cases h2
end Go.Proofs.YtfkommjlmolniaaGreatDoor
end
section

namespace Go.Proofs.YtfkommjlmolniaaGreatDoor
set_option maxHeartbeats 16000000
set_option maxRecDepth 100000
open Go.Lib (hid)
open Go.RowKit
variable {w wr w2 : World} {A : InA} {x : Ins} {N : Nat}
theorem Zmf (A : InA) (x : Ins) (N : Nat) (hN : x.nodes = N) (w : World) (h : x.sats.length + x.cus.length ≤ 1000) :
  Calls Tryz.prog 19 #[.agg (insC A x)] w fun e w' => e = .returned (.int .i64 (N : Int)) ∧ Below w.heap.size w w' := by
 have h1 := Zab x.en x.tm x.tr x.bm x.br A.sa x.sats.length A.sc A.ca x.cus.length A.cc A.ka A.ta x.cost.length A.kc x.time.length A.tc w h; rw [← hN]; exact h1
theorem atR (A : InA) (x : Ins) (c : Nat) (w : World) (h : x.sats.length + c ≤ 1000) :
  Calls Tryz.prog 54 #[.agg (insC A x),.int .i64 (c : Int)] w fun e w' => e = .returned (.int .i64 ((1 + x.sats.length + c : Nat) : Int)) ∧ Below w.heap.size w w' := by
 have HG := hid (XBox.make (Below.refl _ w) A x); obtain ⟨_,_,_,_,_,c5,_⟩ := HG.out.cells; unfold insC at *; go_enter Tryz.func54,Tryz.ntmps54
 go_wp2_with fail
 go_ret
 refine ⟨?_,HG.out.below⟩; have e : (1 + (x.sats.length : Int) + (c : Int)) = ((1 + x.sats.length + c : Nat) : Int) := by omega
 rw [← e]; rfl
theorem Ze3 : (Tryz.prog.info? 4).map (fun i => (i.zero,i.size,i.bytes)) = some (some (.bool false),1,1) := by kernel_rfl
theorem Z6k : (Tryz.prog.info? 2).map (fun i => (i.zero,i.size,i.bytes)) = some (some (.int .i64 0),1,8) := by kernel_rfl
theorem Ze4 (n : Nat) (h : n ≤ 1000) (W : World) : (Instr.makeSlice 70 (.int .i64 (n : Int)) (.int .i64 (n : Int))).run Tryz.prog W = .ok (.slice (some ⟨W.heap.size,0,none⟩) n n) (W.alloc (.cells (madeCells #[.bool false] n) 4)) :=
 run_make_row' 70 4 (.bool false) 1 Tryz.underlying70 Ze3 rfl .i64 .i64 n (by omega) (by omega) W
theorem Z8v (n : Nat) (h : n ≤ 1000) (W : World) : (Instr.makeSlice 56 (.int .i64 (n : Int)) (.int .i64 (n : Int))).run Tryz.prog W = .ok (.slice (some ⟨W.heap.size,0,none⟩) n n) (W.alloc (.cells (madeCells #[.int .i64 0] n) 2)) :=
 run_make_row' 56 2 (.int .i64 0) 8 Tryz.underlying56 Z6k rfl .i64 .i64 n (by omega) (by omega) W
theorem Z6l {g : Nat} {f : Nat → Int} (h : w.rowIs g 2 N (fun j => .int .i64 (f j))) : IsNums w.heap.size w (some ⟨g,0,none⟩) N (rowL N f) :=
 ⟨Z43 N f,.inr ⟨g,0,rfl,h.lt,fun j v hj => by
  have hjN : j < N := by have := (List.getElem?_eq_some_iff.1 hj).1; rwa [Z43] at this
  rw [Zdx f hjN] at hj; injection hj with hj
  subst hj; rw [Nat.zero_add]; exact h.cell hjN⟩⟩
theorem Z1e {W : World} {b : Nat} (o : Obj) (h : b < W.heap.size) : (W.alloc o).heap[b]? = W.heap[b]? := by
 exact ((Below.refl W.heap.size W).alloc (Nat.le_refl _) o).block b h
theorem Z8w {B n : Nat} {a : Option Addr} {c : Nat} {l : List Int} (h : w.ownsRow B 2 1 (.slice a n c) n (numsV l)) (hl : l.length = n) (h0 : 0 < n) : IsNums w.heap.size w a n l := by
 obtain ⟨g,cap,e,_,hg,_⟩ := Z0x h h0; injection e with e1 _ e3
 subst e1; refine ⟨hl,.inr ⟨g,0,rfl,hg,fun j v hj => ?_⟩⟩; rw [Nat.zero_add]; exact Z4g h hj
theorem Zcf (A : InA) (x : Ins) (w : World) (hi : IsIns w.heap.size w A x) (hm : May x) :
  Calls Tryz.prog 34 #[.agg (insC A x)] w fun e w' => ∃ (l : List Int) (a : Option Addr) (c : Nat),e = .returned (.slice a l.length c) ∧ IsNums w'.heap.size w' a l.length l ∧ ReadyOf x l ∧ Below w.heap.size w w' := by
 have HIW := hid hi; have HM := hid hm; have HX1 := hid (XBox.make (Below.refl _ w) A x); have hn61 := Z29 hm; have hns := hm.ns; have hnc := hm.nc; have hnodes : x.nodes = 1 + x.sats.length + x.cus.length := rfl; obtain ⟨N,hN⟩ : ∃ N,x.nodes = N := ⟨_,rfl⟩; have HN := hid hN; rw [hN] at hn61 hnodes; have HTL : Hid (x.time.length = N) := hid (by rw [hm.lt,hN])
 have HND := hid (fun W => Zmf A x N hN W (by omega))
 have hmb := fun W => Ze4 N (by omega) W
 have hml := fun W => Z8v N (by omega) W
 obtain ⟨c0,c1,c2,c3,c4,c5,c6,c7,c8⟩ := HX1.out.cells; have hnb : 1 + x.sats.length < N := by omega
 have HNE := hid hnodes; clear hi hm hN hnodes; unfold insC at *; go_enter Tryz.func34,Tryz.ntmps34
 go_wp2_with fail
 refine (HND.out _).mono ?_; rintro e w2 ⟨rfl,hb2⟩; have HX2 := hid (HX1.out.later hb2); have hz := hid ((Nat.lt_irrefl 0)); obtain ⟨gx,hgx⟩ : ∃ g,g = w.heap.size := ⟨_,rfl⟩; rw [← hgx] at HX2 ⊢; clear hgx hb2 HX1 c0 c1 c2 c3 c4 c5 c6 c7 c8 hz; have HX3 := hid (HX2.out.later ((Below.refl w2.heap.size w2).alloc (Nat.le_refl _) (.cells (madeCells #[.bool false] N) 4))); have HR3 := hid (World.rowIs_made w2 (.bool false) N 4); obtain ⟨-,-,-,-,-,c5,-,-,-⟩ := HX3.out.cells; go_wp2_with fail
 obtain ⟨w3,hw3⟩ : ∃ z,z = w2.alloc (.cells (madeCells #[.bool false] N) 4) := ⟨_,rfl⟩; obtain ⟨gb,hgb⟩ : ∃ g,g = w2.heap.size := ⟨_,rfl⟩; rw [← hw3] at HX3 HR3 ⊢; rw [← hgb] at HR3 ⊢; have HG0 : Hid (w.heap.size ≤ gb) := hid (by rw [hgb]; exact HX2.out.below.size)
 have HGX : Hid (gx < gb) := hid (by rw [hgb]; exact HX2.out.lt)
 have HR4 : Hid (w3.rowIs gb 4 N (fun j => .bool (decide (j < 0)))) := hid (HR3.out.congr fun j _ => by simp)
 clear hw3 hgb HX2 HR3 c5 hmb; go_loopw [18] (fun iv wr => ∃ i : Nat,iv = .int .i64 (i : Int) ∧ i ≤ 1 + x.sats.length ∧ Hid (XBox w wr gx A x) ∧ Hid (wr.rowIs gb 4 N (fun j => .bool (decide (j < i))))) (fun iv _ => 1 + x.sats.length - (intOf iv).toNat)
 case atStart => exact ⟨0,rfl,Nat.zero_le _,HX3,HR4⟩
 case round =>
  obtain ⟨i,rfl,hi,HX,HR⟩ := hrel; clear HX3 HR4; by_cases hlt : i < 1 + x.sats.length
  ·have k1 := HR.out.cell (i := i) (by omega)
   have k2 := HR.out.frozen i; have hle : decide ((i : Int) < 1 + (x.sats.length : Int)) = true := by simp; omega
   have HR2 : Hid ((wr.setCell ⟨gb,i,none⟩ (.bool true)).rowIs gb 4 N (fun j => .bool (decide (j < i + 1)))) := hid ((HR.out.set i (.bool true)).congr fun j _ => by
    by_cases e : j = i
    ·subst e; simp
    ·rw [if_neg e]
     congr 1
     exact decide_eq_decide.2 (by omega))
   have HX2 : Hid (XBox w (wr.setCell ⟨gb,i,none⟩ (.bool true)) gx A x) := hid ⟨HX.out.below.setCell (p := ⟨gb,i,none⟩) HG0.out (.bool true),HX.out.ge,(heap_setCell_other _ _ _ _ (by have := HGX.out; show gx ≠ gb; omega)).trans HX.out.blk⟩
   go_wp2_with fail
   go_roundw
   case rel => exact ⟨i + 1,by go_num,by omega,HX2,HR2⟩
   case measure => simp [intOf]; omega
  ·obtain rfl : i = 1 + x.sats.length := by omega
   have hle : decide (((1 + x.sats.length : Nat) : Int) < 1 + (x.sats.length : Int)) = false := by simp
   go_wp2_with fail
   have HX4 := hid (HX.out.later (Below.refl _ _).drew); have HR4 : Hid (wr.drew.rowIs gb 4 N (fun j => .bool (inS x j))) := hid HR.out; refine wp_region_held_drew (S := (fun Wz => Wz.heap[gx]? = some (.cells #[.int .i64 x.en,.int .i64 x.tm,.int .i64 x.tr,.int .i64 x.bm,.int .i64 x.br,.slice A.sa x.sats.length A.sc,.slice A.ca x.cus.length A.cc,.slice A.ka x.cost.length A.kc,.slice A.ta x.time.length A.tc] 34 (0,0)))) (by kernel_rfl) HX4.out.blk (fun hHeld => ?_)
   obtain ⟨v,hv⟩ : ∃ v,v = wr.drew := ⟨_,rfl⟩; rw [← hv] at HX4 HR4 hHeld ⊢; clear hv HX HR; refine stpT 0 hHeld ?_ (y := fun Wz hWz => by clear hWz; go_simp; (try with_reducible rfl))
   try go_frame
   refine stpT 1 hHeld ?_ (y := fun Wz hWz => by obtain ⟨k0,k1,k2,k3,k4,k5,k6,k7,k8,_⟩ := Z1f hWz; go_simp; (try with_reducible rfl))
   try go_frame
   refine stpT 2 hHeld ?_ (y := fun Wz hWz => by clear hWz; go_simp; (try with_reducible rfl))
   try go_frame
   refine stpT 4 hHeld ?_ (y := fun Wz hWz => by clear hWz; go_simp; (try with_reducible rfl))
   try go_frame
   refine stpR 3 (fun K hK => ?_); go_simp; have hb5 := (Below.refl v.heap.size v).alloc (Nat.le_refl _) (.cells (madeCells #[.int .i64 0] N) 2); have HX5 := hid (HX4.out.later hb5); have HR5 := hid (HR4.out.alloc (.cells (madeCells #[.int .i64 0] N) 2)); have HL5 := hid (World.rowIs_made v (.int .i64 0) N 2); obtain ⟨gs,hgs⟩ : ∃ g,g = v.heap.size := ⟨_,rfl⟩; refine hK.out _ _ ?_ (fun hHeld => ?_)
   ·exact HX5.out.blk
   clear hK K hb5 HX4 HR4; try go_frame
   obtain ⟨v5,hv5⟩ : ∃ z,z = v.alloc (.cells (madeCells #[.int .i64 0] N) 2) := ⟨_,rfl⟩; rw [← hv5] at HX5 HR5 HL5 hHeld ⊢; rw [← hgs] at HL5 ⊢; clear hv5 hgs; have HTR : Hid (IsRows v5.heap.size v5 A.ta N ((List.range N).map (fun i => rowL N (tmI x i)))) := hid (by
    have h := (HX5.out.pipesHere HIW.out).time; rw [HM.out.time_rows,HN.out] at h; simpa [rowL] using h)
   have HAP := hid (Zav A.ta (some ⟨gs,0,none⟩) (some ⟨gb,0,none⟩) A.tc N N N (tmI x) (fun _ => 0) (inS x) v5 (by omega) HTR.out (Z6l HL5.out) (IsBools.made HR5.out)
    (fun i k h1 h2 => HM.out.tm_in (by rw [HN.out]; exact h1) (by rw [HN.out]; exact h2)) (fun _ _ => by omega))
   have htl := HTL.out; rw [htl]; clear htl; refine stpR 5 (fun K hK => ?_); go_simp; refine HAP.out.mono ?_; rintro e v6 ⟨go,V,C,D,rfl,hd,hsw,hb⟩; have HX6 := hid (HX5.out.later hb); have HD6 := hid hd; have HSW := hid hsw; refine hK.out _ _ ?_ (fun hHeld => ?_)
   ·have h9 := HX6.out.blk
    unfold insC at h9; rw [HTL.out] at h9; exact h9
   clear hK K hd hsw hb HAP HTR HL5 HR5 HX5; try go_frame
   refine stpT 6 hHeld ?_ (y := fun Wz hWz => by clear hWz; go_simp; (try with_reducible rfl))
   try go_frame
   refine wpAnyH_done (by kernel_rfl) ?_ _
   clear hHeld; have HO6 : Hid (v6.ownsRow v6.heap.size 2 1 (.slice none 0 0) 0 (numsV [])) := hid ⟨by simp [numsV],.inl ⟨rfl,rfl⟩⟩
   have HB6 := hid (Below.refl v6.heap.size v6); obtain ⟨-,-,-,-,-,c5,-,-,-⟩ := HX6.out.cells; go_wp2_with fail
   clear c5; go_loopw [7,34] (fun ov iv wr => ∃ (s : Nat) (l : List Int),iv = .int .i64 (s : Int) ∧ s ≤ x.sats.length ∧ Hid (wr.ownsRow v6.heap.size 2 1 ov s (numsV l)) ∧ Hid (Below v6.heap.size v6 wr) ∧ Hid (l.length = s ∧ ∀ j,j < s → l[j]? = some (D 0 (1 + j) + (x.sats.getD j (0,0)).2))) (fun _ iv _ => x.sats.length - (intOf iv).toNat)
   case atStart => exact ⟨0,[],rfl,Nat.zero_le _,HO6,HB6,hid ⟨rfl,fun j h => absurd h (by omega)⟩⟩
   case round =>
    obtain ⟨s,l,rfl,hs,HO,HB,HL⟩ := hrel; clear HO6 HB6; obtain ⟨oa,oc,rfl⟩ := Z04 HO.out; by_cases hst : s < x.sats.length
    ·have hbw := HX6.out.later HB.out
     obtain ⟨b,off,q,hA,hb,hq,p0,p1⟩ := (HIW.out.sats.later hbw.below).at_ hst; have hqb := HM.out.hold_in hq; have HQ := hid hq; obtain ⟨r0,h0⟩ := q; simp only at p0 p1 hqb
     rw [hA]; have hd := HD6.out.later HB.out; have k1 := hd.at_ (i := 0) (by omega) (Nat.le_refl _)
     have k2 := hd.get (i := 0) (k := 1 + s) (by omega) (by omega)
     have hdb : 0 ≤ D 0 (1 + s) ∧ D 0 (1 + s) ≤ 1000000000 := by
      have m0 : inS x 0 = true := by simp [inS]; omega
      have m1 : inS x (1 + s) = true := by simp [inS]; omega
      have h1 := HSW.out.pos (i := 0) (k := 1 + s) (fun i k h1 h2 => (HM.out.tm_in (by rw [HN.out]; exact h1) (by rw [HN.out]; exact h2)).1) (fun _ _ => Int.le_refl _) (by omega) (by omega) m0 m1
      have h2 := HSW.out.le 0 (1 + s) (by omega) (by omega) m0 m1 (by omega)
      have h3 := HM.out.tm_in (i := 0) (k := 1 + s) (by rw [HN.out]; omega) (by rw [HN.out]; omega)
      omega
     clear hq hbw hA; go_wp2_with fail
     obtain ⟨i0,hi0,hz0,hz1,hz2⟩ := info_parts Z6k; have hN0 : 0 < N := by omega
     have h1s : 1 + s < N := by omega
     obtain ⟨w7,hw7⟩ : ∃ w7,w7 = World.drew (wr.alloc (.cells #[.int .i64 r0,.int .i64 h0] 51)) := ⟨_,rfl⟩; have hb7 : Below wr.heap.size wr w7 := by rw [hw7]; exact ((Below.refl wr.heap.size wr).alloc (Nat.le_refl _) (.cells #[.int .i64 r0,.int .i64 h0] 51)).drew
     have d1 : w7.cell? ⟨wr.heap.size,1,none⟩ = some (.int .i64 h0) := by rw [hw7]; simp
     have d2 := (hd.later hb7).at_ (i := 0) (by omega) (Nat.le_refl _)
     have d3 := (hd.later hb7).get (i := 0) (k := 1 + s) (by omega) (by omega)
     have l1 : go < v6.heap.size := HD6.out.outer.lt; have l2 : V 0 < v6.heap.size := ((HD6.out.row 0 (by omega)).base_).2
     have l4 : wr.heap.size < w7.heap.size := by rw [hw7]; simp
     have l5 := World.ownsRow.lt HO.out; have HO7 : Hid (w7.ownsRow v6.heap.size 2 1 (.slice oa s oc) s (numsV l)) := hid (Z06 HO.out hb7); have HB7 : Hid (Below v6.heap.size v6 w7) := hid (HB.out.trans (hb7.mono HB.out.size)); clear hd k1 k2 p0 p1 hb7; obtain ⟨dv,hdv⟩ : ∃ dv,D 0 (1 + s) = dv := ⟨_,rfl⟩; rw [hdv] at d3 hdb; have hw1 : IntKind.i64.wrap (dv + h0) = dv + h0 := by rw [IntKind.wrap_i64]; omega
     have HL2 : Hid ((l ++ [dv + h0]).length = s + 1 ∧ ∀ j,j < s + 1 → (l ++ [dv + h0])[j]? = some (D 0 (1 + j) + (x.sats.getD j (0,0)).2)) := hid ⟨by simp [HL.out.1],fun j hj => by
      by_cases e : j = s
      ·subst e
       rw [hdv,List.getElem?_append_right (by have := HL.out.1; omega)]
       simp [HL.out.1,HQ.out]
      ·rw [List.getElem?_append_left (by have := HL.out.1; omega)]
       exact HL.out.2 j (by omega)⟩
     have hsl := HL.out.1; have HLS := hid hsl; clear hdv hsl; have hw0 : IntKind.i64.wrap (1 + (s : Int)) = ((1 + s : Nat) : Int) := by rw [IntKind.wrap_i64]; omega
     obtain ⟨m,hm⟩ : ∃ m,1 + s = m := ⟨_,rfl⟩; rw [hm] at d3 h1s hw0; clear hm; have hsz : v6.heap.size ≤ w7.heap.size := HB7.out.size; have HO8 : Hid ((w7.alloc (.cells #[.int .i64 (dv + h0)] 2)).ownsRow v6.heap.size 2 1 (.slice oa s oc) s (numsV l)) := hid (HO7.out.alloc _); refine wp_region_held_drew (S := (fun Wz => Wz.heap[go]? = w7.heap[go]? ∧ Wz.heap[V 0]? = w7.heap[V 0]? ∧ Wz.heap[wr.heap.size]? = w7.heap[wr.heap.size]?)) (by kernel_rfl) (by rw [hw7]; exact ⟨rfl,rfl,rfl⟩) (fun hHeld => ?_)
     rw [← hw7] at hHeld ⊢; clear hw7; refine stpT 0 hHeld ?_ (y := fun Wz hWz => by clear hWz; go_simp; (try with_reducible rfl))
     try go_frame
     refine stpT 1 hHeld ?_ (y := fun Wz hWz => by clear hWz; go_simp; (try with_reducible rfl))
     try go_frame
     refine stpT 2 hHeld ?_ (y := fun Wz hWz => by clear hWz; go_simp; (try with_reducible rfl))
     try go_frame
     refine stpT 3 hHeld ?_ (y := fun Wz hWz => by obtain ⟨e1,e2,e3⟩ := hWz; have r1 := (Z02 e1 0).trans d2; have r2 := (Z02 e2 m).trans d3; have r3 := (Z02 e3 1).trans d1; clear e1 e2 e3; go_simp; (try with_reducible rfl))
     try go_frame
     refine stpT 4 hHeld ?_ (y := fun Wz hWz => by clear hWz; go_simp; (try with_reducible rfl))
     try go_frame
     refine stpT 5 hHeld ?_ (y := fun Wz hWz => by clear hWz; go_simp; (try with_reducible rfl))
     try go_frame
     refine stpT 6 hHeld ?_ (y := fun Wz hWz => by clear hWz; go_simp; (try with_reducible rfl))
     try go_frame
     refine stpT 7 hHeld ?_ (y := fun Wz hWz => by obtain ⟨e1,e2,e3⟩ := hWz; have r1 := (Z02 e1 0).trans d2; have r2 := (Z02 e2 m).trans d3; have r3 := (Z02 e3 1).trans d1; clear e1 e2 e3; go_simp; (try with_reducible rfl))
     try go_frame
     refine stpT 8 hHeld ?_ (y := fun Wz hWz => by clear hWz; go_simp; (try with_reducible rfl))
     try go_frame
     refine stpT 9 hHeld ?_ (y := fun Wz hWz => by obtain ⟨e1,e2,e3⟩ := hWz; have r1 := (Z02 e1 0).trans d2; have r2 := (Z02 e2 m).trans d3; have r3 := (Z02 e3 1).trans d1; clear e1 e2 e3; go_simp; (try with_reducible rfl))
     try go_frame
     refine stpT 10 hHeld ?_ (y := fun Wz hWz => by clear hWz; go_simp; (try with_reducible rfl))
     try go_frame
     refine stpR 11 (fun K hK => ?_); go_simp; refine hK.out _ _ ?_ (fun hHeld => ?_)
     ·exact ⟨Z1e _ (by omega),Z1e _ (by omega),Z1e _ (by omega)⟩
     clear hK K; try go_frame
     refine stpR 12 (fun K hK => ?_); refine Z01 rfl (.tmp 39) (.tmp 50) 56 rfl v6.heap.size 2 i0 _ 1 8 Tryz.underlying56 hi0 hz0 hz1 hz2 (by decide) (.slice oa s oc) s (numsV l) rfl HO8.out ⟨w7.heap.size,0,none⟩ 1 [.int .i64 (dv + h0)] rfl rfl (Z1b _ _ _ _ rfl) (Z2y _) (by unfold maxLen; omega) (by omega) (by simp; omega) ?_
     intro g9 c9 w9 hown hgrow _; have hnb : ∀ b,b < v6.heap.size ∨ b = wr.heap.size → ¬ (Value.slice oa s oc).ownBlock = some b := fun b hb e => by have := l5 b e; omega
     have HOW : Hid (w9.ownsRow v6.heap.size 2 1 (.slice (some ⟨g9,0,none⟩) (s + 1) c9) (s + 1) (numsV (l ++ [dv + h0]))) := hid (by rw [Z2r]; exact hown)
     have HBW : Hid (Below v6.heap.size v6 w9) := hid ((HB7.out.alloc HB7.out.size _).grown hgrow (by simp; omega) (fun k hk => (l5 k hk).1))
     refine hK.out _ _ ?_ (fun hHeld => ?_)
     ·exact ⟨(hgrow.block _ (by simp; omega) (fun e => hnb go (.inl l1) e.symm)).trans (Z1e _ (by omega)),(hgrow.block _ (by simp; omega) (fun e => hnb (V 0) (.inl l2) e.symm)).trans (Z1e _ (by omega)),(hgrow.block _ (by simp; omega) (fun e => hnb wr.heap.size (.inr rfl) e.symm)).trans (Z1e _ (by omega))⟩
     clear hK K hown hgrow hnb HO8 HO7 HB7 l1 l2 l4 l5; try go_frame
     refine stpT 13 hHeld ?_ (y := fun Wz hWz => by clear hWz; go_simp; (try with_reducible rfl))
     try go_frame
     refine wpAnyH_done (by kernel_rfl) ?_ _
     clear hHeld; go_wp2_with fail
     go_roundw
     case rel => exact ⟨s + 1,_,by go_num,by omega,HOW,HBW,HL2⟩
     case measure => simp [intOf]; omega
    ·obtain rfl : s = x.sats.length := by omega
     have HRD : Hid (ReadyOf x l) := hid ⟨HL.out.1,fun j hj => ⟨D 0 (1 + j) + 0,by
      have h := HSW.out.least (i := 0) (k := 1 + j) (fun i k h1 h2 => (HM.out.tm_in (by rw [HN.out]; exact h1) (by rw [HN.out]; exact h2)).1) (fun _ _ => Int.le_refl _) (by omega) (by omega) (by omega) (by simp [inS]; omega) (by simp [inS]; omega) (by omega)
      unfold arcS; rw [HN.out]; exact h,by rw [HL.out.2 j hj]; simp⟩⟩
     have HLS := hid HL.out.1; go_wp2_with fail
     go_ret
     have hll := HLS.out; refine ⟨l,oa,oc,by rw [hll]; rfl,?_,HRD.out,HX6.out.below.trans (HB.out.mono HX6.out.below.size)⟩
     rw [hll]; exact Z8w HO.out HLS.out (by omega)
end Go.Proofs.YtfkommjlmolniaaGreatDoor
end
section

namespace Go.Proofs.YtfkommjlmolniaaGreatDoor
open Go.RowKit
variable {w wr w2 : World} {B : Nat} {A : SmA} {s : Sm}
structure SBox (w wr : World) (A : SmA) (s : Sm) : Prop where
 below : Below w.heap.size w wr
 blk : wr.heap[w.heap.size]? = some (.cells (smC A s) 26 (0,0))
theorem SBox.make (w : World) (A : SmA) (s : Sm) : SBox w (w.alloc (.cells (smC A s) 26)) A s := ⟨Z0q _ _,heap_alloc_new _ _⟩
theorem SBox.later (h : SBox w wr A s) (hb : Below wr.heap.size wr w2) : SBox w w2 A s := ⟨h.below.trans (hb.mono h.below.size),(hb.block _ (Array.getElem?_eq_some_iff.1 h.blk).1).trans h.blk⟩
theorem SBox.cells (h : SBox w wr A s) : wr.cell? ⟨w.heap.size,0,none⟩ = some (.int .u8 s.e) ∧ wr.cell? ⟨w.heap.size,1,none⟩ = some (.int .u8 s.t) ∧ wr.cell? ⟨w.heap.size,2,none⟩ = some (.int .u8 s.tr) ∧ wr.cell? ⟨w.heap.size,3,none⟩ = some (.int .u8 s.b) ∧ wr.cell? ⟨w.heap.size,4,none⟩ = some (.int .u8 s.br) ∧ wr.cell? ⟨w.heap.size,5,none⟩ = some (.slice A.sa s.sats.length A.sc) ∧ wr.cell? ⟨w.heap.size,6,none⟩ = some (.slice A.wa s.whos.length A.wc) ∧ wr.cell? ⟨w.heap.size,7,none⟩ = some (.slice A.ca A.cn A.cc) ∧ wr.cell? ⟨w.heap.size,8,none⟩ = some (.slice A.ta A.tn A.tc) ∧ wr.cell? ⟨w.heap.size,9,none⟩ = some (.bool s.tight) ∧ wr.cell? ⟨w.heap.size,10,none⟩ = some (.bool s.loose) := by
 simp [World.cell?,h.blk]
theorem IsSm.mono {B2 : Nat} (h : IsSm B w A s) (hb : B ≤ B2) : IsSm B2 w A s := by
 refine ⟨⟨h.sats.1,h.sats.2.1,?_⟩,⟨h.whos.1,h.whos.2.1,?_⟩,h.cost.mono hb,h.time.mono hb,h.ok,h.sl,h.wl⟩
 ·rcases h.sats.2.2 with h0 | ⟨b,off,e,h1,h2⟩
  ·exact .inl h0
  ·exact .inr ⟨b,off,e,by omega,h2⟩
 ·rcases h.whos.2.2 with h0 | ⟨b,off,e,h1,h2⟩
  ·exact .inl h0
  ·exact .inr ⟨b,off,e,by omega,h2⟩
theorem SBox.here (h : SBox w wr A s) (hs : IsSm w.heap.size w A s) : IsSm wr.heap.size wr A s := (hs.later h.below).mono h.below.size
end Go.Proofs.YtfkommjlmolniaaGreatDoor
end
section

namespace Go.Proofs.YtfkommjlmolniaaGreatDoor
open Go.RowKit
variable {w wr : World} {A : InA} {x : Ins} {B N C D b i k j g sz n : Nat} {VK VT V : Nat → Nat} {LK LT L : Nat → Nat → Int} {T Tb : TypeId} {u v : Value} {cb : Array Value} {xs : List Value} {z : Int} {p : Int × Int} {c : Pi}
theorem Z24 (h : w.ownsRow B T sz v n xs) (hg : v.ownBlock = some g) : ∃ cur,w.heap[g]? = some (.cells cur T (0,0)) := by
 rcases h.2 with ⟨rfl,_⟩ | ⟨g1,c1,cur,rfl,_,e1,_⟩
 ·cases hg
 ·injection hg with hg
  change g1 = g at hg
  subst hg; exact ⟨cur,e1⟩
theorem Z14 {c1 c2 : Array Value} {T1 T2 : TypeId} {g1 g2 : Nat} (h1 : w.heap[g1]? = some (.cells c1 T1 (0,0))) (h2 : w.heap[g2]? = some (.cells c2 T2 (0,0))) (hT : ¬ T1 = T2) : g1 ≠ g2 := by
 intro e; subst e; rw [h1] at h2; injection h2 with h2
 injection h2 with _ h2
 exact hT h2
theorem Z2w (h : w.ownsRow B T sz v n xs) (hb : w.heap[b]? = some (.cells cb Tb (0,0))) (hT : ¬ T = Tb) (i : Nat) (u : Value) : (w.setCell ⟨b,i,none⟩ u).ownsRow B T sz v n xs :=
 ownsRow_setCell_other (a := ⟨b,i,none⟩) h (fun e => by
  obtain ⟨cur,hc⟩ := Z24 h e; exact Z14 hc hb hT rfl) u
theorem Z19 {f : Nat → Value} (h : w.rowIs g T n f) : ∃ cur,w.heap[g]? = some (.cells cur T (0,0)) := by
 obtain ⟨cur,h1,_⟩ := h; exact ⟨cur,h1⟩
theorem OwnSq.keep (h : OwnSq B w v n N V L) (hb : w.heap[b]? = some (.cells cb Tb (0,0))) (h1 : ¬ Tb = 56) (h2 : ¬ Tb = 2) (i : Nat) (u : Value) : OwnSq B (w.setCell ⟨b,i,none⟩ u) v n N V L :=
 ⟨Z2w h.outer hb (fun e => h1 e.symm) i u,fun k hk => ⟨(h.row k hk).1.setOther (a := ⟨b,i,none⟩) (by
  obtain ⟨cur,hc⟩ := Z19 (h.row k hk).1; exact Z14 hc hb (fun e => h2 e.symm)) u,(h.row k hk).2⟩,h.inj,h.out⟩
theorem OwnIns.keep (h : OwnIns B w A x N C D VK VT LK LT) (hb : w.heap[b]? = some (.cells cb Tb (0,0))) (h1 : ¬ Tb = 56) (h2 : ¬ Tb = 2) (h3 : ¬ Tb = 51) (h4 : ¬ Tb = 53) (i : Nat) (u : Value) : OwnIns B (w.setCell ⟨b,i,none⟩ u) A x N C D VK VT LK LT :=
 ⟨Z2w h.sats hb (fun e => h3 e.symm) i u,Z2w h.cus hb (fun e => h4 e.symm) i u,h.cost.keep hb h1 h2 i u,h.time.keep hb h1 h2 i u,h.ck,h.tk,h.nl,h.ap,h.sb,h.kb,h.bc,h.cd⟩
theorem OwnIns.later {w2 : World} (h : OwnIns B w A x N C D VK VT LK LT) (hb : Below w.heap.size w w2) : OwnIns B w2 A x N C D VK VT LK LT :=
 ⟨Z06 h.sats hb,Z06 h.cus hb,h.cost.later hb,h.time.later hb,h.ck,h.tk,h.nl,h.ap,h.sb,h.kb,h.bc,h.cd⟩
def putL (L : Nat → Nat → Int) (i k : Nat) (z : Int) : Nat → Nat → Int := fun i2 k2 => if i2 = i ∧ k2 = k then z else L i2 k2
def sqL (N : Nat) (L : Nat → Nat → Int) : List (List Int) := (List.range N).map (fun i => (List.range N).map (L i))
theorem Z7i (N : Nat) (L : Nat → Nat → Int) : (sqL N L).length = N := by simp [sqL]
theorem Zi5 {r : List Int} (h : r ∈ sqL N L) : r.length = N := by
 simp only [sqL,List.mem_map] at h
 obtain ⟨i,_,rfl⟩ := h; simp
theorem OwnSq.put (h : OwnSq B w v n N V L) (hi : i < n) (_hk : k < N) (z : Int) : OwnSq B (w.setCell ⟨V i,k,none⟩ (.int .i64 z)) v n N V (putL L i k z) := by
 refine ⟨ownsRow_setCell_other (a := ⟨V i,k,none⟩) h.outer (h.out i hi) _,fun j hj => ⟨?_,(h.row j hj).2⟩,h.inj,h.out⟩; by_cases e : j = i
 ·subst e
  refine ((h.row j hj).1.set k (.int .i64 z)).congr (fun t ht => ?_); unfold putL; by_cases e2 : t = k
  ·simp [e2]
  ·simp [e2]
 ·refine ((h.row j hj).1.setOther (a := ⟨V i,k,none⟩) (fun e2 => e (h.inj j i hj hi e2)) _).congr (fun t ht => ?_)
  simp [putL,e]
theorem OwnSq.ne_ (h : OwnSq B w v n N V L) (h1 : ¬ v.ownBlock = some b) (h2 : ∀ j,j < n → V j ≠ b) (i : Nat) (u : Value) : OwnSq B (w.setCell ⟨b,i,none⟩ u) v n N V L :=
 ⟨ownsRow_setCell_other (a := ⟨b,i,none⟩) h.outer h1 u,fun k hk => ⟨(h.row k hk).1.setOther (a := ⟨b,i,none⟩) (h2 k hk) u,(h.row k hk).2⟩,h.inj,h.out⟩
theorem OwnSq.is_ {a : Option Addr} {cap : Nat} (h : OwnSq B w (.slice a N cap) N N V L) (hN : N ≤ 1000) : IsRows w.heap.size w a (sqL N L).length (sqL N L) := by
 obtain ⟨a2,c2,e,hr⟩ := h.rows hN; injection e with e1 _ _
 subst e1; rw [Z7i]; exact hr
theorem Z7j : ∀ (l : List (Int × Int)) (k : Nat) (p : Int × Int) (z : Int),l[k]? = some p → (flatS l).set (k * 2) (.int .i64 z) = flatS (l.set k (z,p.2))
 | [],k,p,z,h => by simp at h
 | y :: r,0,p,z,h => by
  simp at h
  subst h; rfl
 | y :: r,k + 1,p,z,h => by
  have ih := Z7j r k p z (by simpa using h)
  rw [List.set_cons_succ,flatS,flatS,List.flatMap_cons,List.flatMap_cons,← flatS,← flatS,← ih]; show ([Value.int .i64 y.1,.int .i64 y.2] ++ flatS r).set ((k + 1) * 2) _ = _
  rw [show (k + 1) * 2 = k * 2 + 1 + 1 by omega]
  rfl
theorem Z7k : ∀ (l : List (Int × Int)) (k : Nat) (p : Int × Int) (z : Int),l[k]? = some p → (flatS l).set (k * 2 + 1) (.int .i64 z) = flatS (l.set k (p.1,z))
 | [],k,p,z,h => by simp at h
 | y :: r,0,p,z,h => by
  simp at h
  subst h; rfl
 | y :: r,k + 1,p,z,h => by
  have ih := Z7k r k p z (by simpa using h)
  rw [List.set_cons_succ,flatS,flatS,List.flatMap_cons,List.flatMap_cons,← flatS,← flatS,← ih]; show ([Value.int .i64 y.1,.int .i64 y.2] ++ flatS r).set ((k + 1) * 2 + 1) _ = _
  rw [show (k + 1) * 2 + 1 = k * 2 + 1 + 1 + 1 by omega]
  rfl
structure Fin (wr : World) (gx : Nat) (A : InA) (m : Ins) : Prop where
 box : wr.heap[gx]? = some (.cells (insC A m) 34 (0,0))
 is_ : IsIns wr.heap.size wr A m
 light : m.light = true
theorem Fin.later {w2 : World} {gx : Nat} {m : Ins} (h : Fin wr gx A m) (hb : Below wr.heap.size wr w2) : Fin w2 gx A m := ⟨(hb.block _ (Array.getElem?_eq_some_iff.1 h.box).1).trans h.box,(h.is_.later hb).mono hb.size,h.light⟩
theorem Fin.cells {gx : Nat} {m : Ins} (h : Fin wr gx A m) : wr.cell? ⟨gx,0,none⟩ = some (.int .i64 m.en) ∧ wr.cell? ⟨gx,1,none⟩ = some (.int .i64 m.tm) ∧ wr.cell? ⟨gx,2,none⟩ = some (.int .i64 m.tr) ∧ wr.cell? ⟨gx,3,none⟩ = some (.int .i64 m.bm) ∧ wr.cell? ⟨gx,4,none⟩ = some (.int .i64 m.br) ∧
  wr.cell? ⟨gx,5,none⟩ = some (.slice A.sa m.sats.length A.sc) ∧ wr.cell? ⟨gx,6,none⟩ = some (.slice A.ca m.cus.length A.cc) ∧ wr.cell? ⟨gx,7,none⟩ = some (.slice A.ka m.cost.length A.kc) ∧ wr.cell? ⟨gx,8,none⟩ = some (.slice A.ta m.time.length A.tc) := by
 simp [World.cell?,h.box]
structure Fresh (wr : World) (gx B : Nat) (A : InA) (x : Ins) (N C D : Nat) (VK VT : Nat → Nat) (LK LT : Nat → Nat → Int) : Prop where
 box : wr.heap[gx]? = some (.cells (insC A x) 34 (0,0))
 own : OwnIns B wr A x N C D VK VT LK LT
 ns : x.sats.length ≤ 3
 nc : x.cus.length ≤ 6
 nn : N ≤ 10
variable {gx : Nat}
theorem Fresh.klen (h : Fresh wr gx B A x N C D VK VT LK LT) : x.cost.length = N ∧ x.time.length = N := by
 rw [h.own.ck,h.own.tk]; simp
theorem Fresh.later {w2 : World} (h : Fresh wr gx B A x N C D VK VT LK LT) (hb : Below wr.heap.size wr w2) : Fresh w2 gx B A x N C D VK VT LK LT := ⟨(hb.block _ (Array.getElem?_eq_some_iff.1 h.box).1).trans h.box,h.own.later hb,h.ns,h.nc,h.nn⟩
theorem Fresh.light_ (_h : Fresh wr gx B A x N C D VK VT LK LT) {m : Ins} (h1 : m.sats.length ≤ 4) (h2 : m.cus.length ≤ 6) (h3 : m.cost.length ≤ 10) (h4 : m.time.length ≤ 10) (h5 : ∀ r ∈ m.cost,r.length ≤ 11) (h6 : ∀ r ∈ m.time,r.length ≤ 11) : m.light = true :=
 Zdf (by omega) (by omega) (by omega) (by omega) (fun r hr => Nat.le_trans (h5 r hr) (by omega)) (fun r hr => Nat.le_trans (h6 r hr) (by omega))
theorem Fresh.rowsK (h : Fresh wr gx B A x N C D VK VT LK LT) : ∀ r ∈ x.cost,r.length ≤ 11 := fun r hr => by
 rw [h.own.ck] at hr; have := Zi5 (N := N) (L := LK) hr; have := h.nn; omega
theorem Fresh.rowsT (h : Fresh wr gx B A x N C D VK VT LK LT) : ∀ r ∈ x.time,r.length ≤ 11 := fun r hr => by
 rw [h.own.tk] at hr; have := Zi5 (N := N) (L := LT) hr; have := h.nn; omega
theorem Fresh.fin (h : Fresh wr gx B A x N C D VK VT LK LT) : Fin wr gx A x :=
 ⟨h.box,h.own.is_,h.light_ (by have := h.ns; omega) h.nc (by rw [h.klen.1]; exact h.nn) (by rw [h.klen.2]; exact h.nn) h.rowsK h.rowsT⟩
theorem Fresh.frozen (h : Fresh wr gx B A x N C D VK VT LK LT) (k : Nat) : wr.frozen? ⟨gx,k,none⟩ = false := by simp [World.frozen?,h.box]
theorem OwnSq.cell_ {a : Option Addr} {cap : Nat} (h : OwnSq B w (.slice a N cap) N N V L) (hi : i < N) (hk : k < N) : ∃ g,a = some ⟨g,0,none⟩ ∧ w.cell? ⟨g,i,none⟩ = some (.slice (some ⟨V i,0,none⟩) N N) ∧ w.cell? ⟨V i,k,none⟩ = some (.int .i64 (L i k)) ∧ w.frozen? ⟨V i,k,none⟩ = false := by
 obtain ⟨g,cap2,e,hB,_⟩ := Z0x h.outer (by omega)
 injection e with e1 _ e3
 have ho := h.outer; rw [e1] at ho; refine ⟨g,e1,?_,(h.row i hi).1.cell hk,(h.row i hi).1.frozen k⟩; rw [World.ownsRow.cellAt ho i (by omega)]
 simp [hi]
end Go.Proofs.YtfkommjlmolniaaGreatDoor
end
section

namespace Go.Proofs.YtfkommjlmolniaaGreatDoor
open Go.RowKit
variable {w wr w2 : World} {A : InA} {x m : Ins} {gx B N C D i k : Nat} {VK VT : Nat → Nat} {LK LT L : Nat → Nat → Int} {z : Int} {p : Int × Int}
theorem Fresh.time_ (h : Fresh wr gx B A x N C D VK VT LK LT) (hi : i < N) (hk : k < N) (z : Int) : Fresh (wr.setCell ⟨VT i,k,none⟩ (.int .i64 z)) gx B A { x with time := sqL N (putL LT i k z) } N C D VK VT LK (putL LT i k z) := by
 obtain ⟨cur,hg⟩ := Z19 (h.own.time.row i hi).1; have hD : D ≤ VT i := (h.own.time.row i hi).2; refine ⟨(heap_setCell_other _ _ _ _ (fun q => Z14 h.box hg (by decide) (show gx = VT i from q))).trans ?_,⟨Z2w h.own.sats hg (by decide) _ _,Z2w h.own.cus hg (by decide) _ _,h.own.cost.ne_ (b := VT i) (fun e => by have := h.own.kb _ (.inl e); omega) (fun j hj e => by have := h.own.kb _ (.inr ⟨j,hj,e⟩); omega) k (.int .i64 z),h.own.time.put hi hk z,h.own.ck,rfl,h.own.nl,h.own.ap,h.own.sb,h.own.kb,h.own.bc,h.own.cd⟩,h.ns,h.nc,h.nn⟩
 rw [h.box]; simp [insC,Z7i,h.klen.2]
theorem Fresh.sat_ (h : Fresh wr gx B A x N C D VK VT LK LT) (hk : x.sats[k]? = some p) (z : Int) : ∃ g,A.sa = some ⟨g,0,none⟩ ∧ wr.cell? ⟨g,k * 2,none⟩ = some (.int .i64 p.1) ∧ wr.frozen? ⟨g,k * 2,none⟩ = false ∧ Fresh (wr.setCell ⟨g,k * 2,none⟩ (.int .i64 z)) gx B A { x with sats := x.sats.set k (z,p.2) } N C D VK VT LK LT := by
 have hkl := (List.getElem?_eq_some_iff.1 hk).1; have hs := h.own.sats; obtain ⟨g,cap,e,hB,_⟩ := Z0x hs (by omega)
 injection e with e1 _ e3
 have hs2 := hs; rw [e1] at hs2; obtain ⟨cur,hg⟩ := Z24 hs2 (g := g) rfl; have hn := World.ownsRow.stored hs2 (k * 2) (.int .i64 z); have hn1 := hn.1; rw [Z7j x.sats k p z hk] at hn1; refine ⟨g,e1,?_,World.ownsRow.frozenAt hs2 _,(heap_setCell_other _ _ _ _ (fun q => Z14 h.box hg (by decide) (show gx = g from q))).trans ?_,⟨?_,Z2w h.own.cus hg (by decide) _ _,h.own.cost.keep hg (by decide) (by decide) (k * 2) (.int .i64 z),h.own.time.keep hg (by decide) (by decide) (k * 2) (.int .i64 z),h.own.ck,h.own.tk,h.own.nl,by simpa using h.own.ap,by simpa using h.own.sb,h.own.kb,h.own.bc,h.own.cd⟩,by simpa using h.ns,h.nc,h.nn⟩
 ·have := World.ownsRow.cells hs2 (g := g) rfl (k * 2) (.int .i64 p.1) (Z4f x.sats k p hk).1
  simpa [Addr.add_lit] using this
 ·rw [h.box]
  simp [insC]
 ·simpa [e1] using hn1
theorem Fresh.hold_ (h : Fresh wr gx B A x N C D VK VT LK LT) (hk : x.sats[k]? = some p) (z : Int) : ∃ g,A.sa = some ⟨g,0,none⟩ ∧ wr.cell? ⟨g,k * 2 + 1,none⟩ = some (.int .i64 p.2) ∧ wr.frozen? ⟨g,k * 2 + 1,none⟩ = false ∧ Fresh (wr.setCell ⟨g,k * 2 + 1,none⟩ (.int .i64 z)) gx B A { x with sats := x.sats.set k (p.1,z) } N C D VK VT LK LT := by
 have hkl := (List.getElem?_eq_some_iff.1 hk).1; have hs := h.own.sats; obtain ⟨g,cap,e,hB,_⟩ := Z0x hs (by omega)
 injection e with e1 _ e3
 have hs2 := hs; rw [e1] at hs2; obtain ⟨cur,hg⟩ := Z24 hs2 (g := g) rfl; have hn := World.ownsRow.stored hs2 (k * 2 + 1) (.int .i64 z); have hn1 := hn.1; rw [Z7k x.sats k p z hk] at hn1; refine ⟨g,e1,?_,World.ownsRow.frozenAt hs2 _,(heap_setCell_other _ _ _ _ (fun q => Z14 h.box hg (by decide) (show gx = g from q))).trans ?_,⟨?_,Z2w h.own.cus hg (by decide) _ _,h.own.cost.keep hg (by decide) (by decide) (k * 2 + 1) (.int .i64 z),h.own.time.keep hg (by decide) (by decide) (k * 2 + 1) (.int .i64 z),h.own.ck,h.own.tk,h.own.nl,by simpa using h.own.ap,by simpa using h.own.sb,h.own.kb,h.own.bc,h.own.cd⟩,by simpa using h.ns,h.nc,h.nn⟩
 ·have := World.ownsRow.cells hs2 (g := g) rfl (k * 2 + 1) (.int .i64 p.2) (Z4f x.sats k p hk).2
  simpa [Addr.add_lit] using this
 ·rw [h.box]
  simp [insC]
 ·simpa [e1] using hn1
theorem Fresh.en_ (h : Fresh wr gx B A x N C D VK VT LK LT) (z : Int) : Fresh (wr.setCell ⟨gx,0,none⟩ (.int .i64 z)) gx B A { x with en := z } N C D VK VT LK LT :=
 ⟨heap_setCell_same _ _ _ _ _ _ h.box,(h.own.keep h.box (by decide) (by decide) (by decide) (by decide) 0 (.int .i64 z)) |> fun q => ⟨q.sats,q.cus,q.cost,q.time,q.ck,q.tk,q.nl,q.ap,q.sb,q.kb,q.bc,q.cd⟩,h.ns,h.nc,h.nn⟩
theorem Fresh.br_ (h : Fresh wr gx B A x N C D VK VT LK LT) (z : Int) : Fresh (wr.setCell ⟨gx,4,none⟩ (.int .i64 z)) gx B A { x with br := z } N C D VK VT LK LT :=
 ⟨heap_setCell_same _ _ _ _ _ _ h.box,(h.own.keep h.box (by decide) (by decide) (by decide) (by decide) 4 (.int .i64 z)) |> fun q => ⟨q.sats,q.cus,q.cost,q.time,q.ck,q.tk,q.nl,q.ap,q.sb,q.kb,q.bc,q.cd⟩,h.ns,h.nc,h.nn⟩
end Go.Proofs.YtfkommjlmolniaaGreatDoor
end
section

namespace Go.Proofs.YtfkommjlmolniaaGreatDoor
theorem Zdl {s : Sm} (h : SmOk s) : May (makeI s) := May.of_err (Zde h)
end Go.Proofs.YtfkommjlmolniaaGreatDoor
end
section

namespace Go.Proofs.YtfkommjlmolniaaGreatDoor
set_option maxHeartbeats 16000000
set_option maxRecDepth 100000
open Go.Lib (hid)
open Go.RowKit
theorem WayF.pot {W : Nat → Nat → Option Int} {s i m : Nat} {d : Int} (φ : Nat → Int) (hφ : ∀ i k c,W i k = some c → φ k ≤ φ i + c) (h : WayF W s i m d) : φ i ≤ φ s + d := by
 induction h with
 | nil => omega
 | snoc _ hx ih => have := hφ _ _ _ hx; omega
def waitI : Ins := ⟨40,1,5,1,3,[(60,3)],[(2,5,90,1)],[[0,0,0],[0,0,0],[0,0,0]],[[0,4,0],[0,0,0],[0,0,0]]⟩
theorem Zll : May waitI := May.of_err (by decide)
theorem Zfx {l : List Int} (h : ReadyOf waitI l) : l = [7] := by
 obtain ⟨hl,h⟩ := h; obtain ⟨d,hd,h2⟩ := h 0 (by decide)
 have h4 : LeastW (arcS waitI) 0 1 4 := by
  refine ⟨⟨1,WayF.one (by decide)⟩,fun k c hw => ?_⟩
  have := hw.pot (fun i => if i = 1 then 4 else 0) (fun i k c hc => by
   obtain ⟨⟨a1,a2,a3,a4,a5⟩,rfl⟩ := arcW_some.1 hc; have hi : i < 2 := by simpa [inS,waitI] using a4
   have hk : k < 2 := by simpa [inS,waitI] using a5
   have : (i = 0 ∧ k = 1) ∨ (i = 1 ∧ k = 0) := by omega
   rcases this with ⟨rfl,rfl⟩ | ⟨rfl,rfl⟩
   ·decide
   ·decide)
  simpa using this
 have e : d = 4 := hd.unique h4; subst e; have hl1 : l.length = 1 := hl; match l,hl1,h2 with
 | [v],_,h2 =>
  simp [waitI] at h2
  rw [h2]
theorem Zce (H : ReachSpec) (w : World) : Calls Tryz.prog 17 #[] w fun e w' => e = .returned (.bool true) ∧ Below w.heap.size w w' := by
 have HH := hid H; have HON := hid (Zby w); clear H; go_enter Tryz.func17,Tryz.ntmps17
 go_wp2_with fail
 refine HON.out.mono ?_; rintro e w2 ⟨⟨A2,rfl,C,D,VK,VT,hown⟩,hb⟩; have hF : Fresh (w2.alloc (.cells (insC A2 (makeI smallZ)) 34)) w2.heap.size (w.heap.size + 1 + 3) A2 (makeI smallZ) 3 C D VK VT (sqE smallZ.cost (Z08 smallZ)) (sqE smallZ.time (Z08 smallZ)) := ⟨heap_alloc_new w2 _,hown.later (Z0q _ _),by decide,by decide,by decide⟩
 have hB := (hb.alloc hb.size (.cells (insC A2 (makeI smallZ)) 34)); obtain ⟨X,hX⟩ : ∃ X,makeI smallZ = X := ⟨_,rfl⟩; obtain ⟨LT,hLT⟩ : ∃ L,sqE smallZ.time (Z08 smallZ) = L := ⟨_,rfl⟩; obtain ⟨LK,hLK⟩ : ∃ L,sqE smallZ.cost (Z08 smallZ) = L := ⟨_,rfl⟩; have hsl : X.sats = [(60,2)] := by rw [← hX]; rfl
 have HW : Hid ({ X with time := sqL 3 (putL LT 0 1 4),sats := X.sats.set 0 ((60 : Int),(3 : Int)) } = waitI) := hid (by rw [← hX,← hLT]; rfl)
 rw [hX,hLT,hLK] at hF; rw [hX] at hB ⊢; clear hX hLT hLK hown hb HON; obtain ⟨gx,hgx⟩ : ∃ g,g = w2.heap.size := ⟨_,rfl⟩
 rw [← hgx] at hF; have HF := hid hF; have HB := hid hB; have hsz := hid (show X.sats[0]? = some ((60 : Int),(2 : Int)) by rw [hsl]; rfl)
 clear hsl; unfold insC at *; go_wp2_with fail
 obtain ⟨w3,hw3⟩ : ∃ z,z = w2.alloc (.cells #[.int .i64 X.en,.int .i64 X.tm,.int .i64 X.tr,.int .i64 X.bm,.int .i64 X.br,.slice A2.sa X.sats.length A2.sc,.slice A2.ca X.cus.length A2.cc,.slice A2.ka X.cost.length A2.kc,.slice A2.ta X.time.length A2.tc] 34) := ⟨_,rfl⟩; rw [← hw3] at HF HB ⊢; rw [← hgx]; clear hw3 hgx hF hB; obtain ⟨v0,hv0⟩ : ∃ v,v = w3.drew := ⟨_,rfl⟩; have HF0 : Hid (Fresh v0 gx (w.heap.size + 1 + 3) A2 X 3 C D VK VT LK LT) := hid (by rw [hv0]; exact HF.out.later (Below.refl _ w3).drew)
 have HB0 : Hid (Below w.heap.size w v0) := hid (by rw [hv0]; exact HB.out.drew)
 obtain ⟨gt,hta,ht1,ht2,ht3⟩ := HF0.out.own.time.cell_ (i := 0) (k := 1) (by omega) (by omega)
 obtain ⟨gs,hsa,hs1,hs2,hs3⟩ := HF0.out.hold_ (k := 0) hsz.out 3; have htl : 0 < X.time.length := by rw [HF0.out.klen.2]; omega
 have hsl : 0 < X.sats.length := by have := (List.getElem?_eq_some_iff.1 hsz.out).1; omega
 obtain ⟨-,-,-,-,-,k5,-,-,k8⟩ := HF0.out.fin.cells; rw [hta] at k8; rw [hsa] at k5; have HTA := hid hta; have HSA := hid hsa; clear hta hsa hs1 hs2 hs3; refine wp_region_held_drew (S := (fun Wz => Wz.heap[gx]? = v0.heap[gx]? ∧ Wz.heap[gt]? = v0.heap[gt]?)) (by kernel_rfl) (by rw [hv0]; exact ⟨rfl,rfl⟩) (fun hHeld => ?_)
 rw [← hv0] at hHeld ⊢; clear hv0; refine stpT 0 hHeld ?_ (y := fun Wz hWz => by clear hWz; go_simp; (try with_reducible rfl))
 try go_frame
 refine stpT 1 hHeld ?_ (y := fun Wz hWz => by obtain ⟨e1,e2⟩ := hWz; have q8 := (Z02 e1 8).trans k8; have q5 := (Z02 e1 5).trans k5; have q9 := (Z02 e2 0).trans ht1; clear e1 e2; go_simp; (try with_reducible rfl))
 try go_frame
 refine stpT 2 hHeld ?_ (y := fun Wz hWz => by clear hWz; go_simp; (try with_reducible rfl))
 try go_frame
 refine stpT 3 hHeld ?_ (y := fun Wz hWz => by obtain ⟨e1,e2⟩ := hWz; have q8 := (Z02 e1 8).trans k8; have q5 := (Z02 e1 5).trans k5; have q9 := (Z02 e2 0).trans ht1; clear e1 e2; go_simp; (try with_reducible rfl))
 try go_frame
 refine stpT 4 hHeld ?_ (y := fun Wz hWz => by clear hWz; go_simp; (try with_reducible rfl))
 try go_frame
 refine stpT 5 hHeld ?_ (y := fun Wz hWz => by obtain ⟨e1,e2⟩ := hWz; have q8 := (Z02 e1 8).trans k8; have q5 := (Z02 e1 5).trans k5; have q9 := (Z02 e2 0).trans ht1; clear e1 e2; go_simp; (try with_reducible rfl))
 try go_frame
 refine stpT 6 hHeld ?_ (y := fun Wz hWz => by clear hWz; go_simp; (try with_reducible rfl))
 try go_frame
 have hn1 : gx ≠ VT 0 ∧ gt ≠ VT 0 := by
  obtain ⟨cur,hcur⟩ := Z19 (HF0.out.own.time.row 0 (by omega)).1
  have h2 := HF0.out.own.time.outer; rw [HTA.out] at h2; obtain ⟨c2,h2⟩ := Z24 h2 (g := gt) rfl; exact ⟨Z14 HF0.out.box hcur (by decide),Z14 h2 hcur (by decide)⟩
 have HF1 := hid (HF0.out.time_ (i := 0) (k := 1) (by omega) (by omega) 4)
 have HB1 := hid (HB0.out.setCell (p := ⟨VT 0,1,none⟩) (by have h1 := HF0.out.own.bc; have h2 := HF0.out.own.cd; have h3 := (HF0.out.own.time.row 0 (by omega)).2; show w.heap.size ≤ VT 0; omega) (.int .i64 4))
 refine stpR 7 (fun K hK => ?_); go_simp; refine hK.out _ _ ?_ (fun hHeld => ?_)
 ·exact ⟨(heap_setCell_other _ _ _ _ hn1.1).trans hHeld.1,(heap_setCell_other _ _ _ _ hn1.2).trans hHeld.2⟩
 clear hK K ht2 ht3 hn1; try go_frame
 obtain ⟨v1,hv⟩ : ∃ z,z = v0.setCell ⟨VT 0,1,none⟩ (.int .i64 4) := ⟨_,rfl⟩; rw [← hv] at HF1 HB1 hHeld ⊢; clear hv; refine stpT 8 hHeld ?_ (y := fun Wz hWz => by clear hWz; go_simp; (try with_reducible rfl))
 try go_frame
 refine stpT 9 hHeld ?_ (y := fun Wz hWz => by clear hWz; go_simp; (try with_reducible rfl))
 try go_frame
 obtain ⟨g9,hg9,k1,k2,hf2⟩ := HF1.out.hold_ (k := 0) hsz.out 3; have hgg : gs = g9 := by
  have h := HSA.out.symm.trans hg9; injection h with h
  injection h
 subst hgg; have hge : w.heap.size ≤ gs := by
  have hs := HF1.out.own.sats; rw [show ({ X with time := sqL 3 (putL LT 0 1 4) } : Ins).sats = X.sats from rfl,hg9] at hs
  have := (World.ownsRow.lt hs gs rfl).1; omega
 have hn2 : gx ≠ gs ∧ gt ≠ gs := by
  have hs := HF1.out.own.sats; rw [show ({ X with time := sqL 3 (putL LT 0 1 4) } : Ins).sats = X.sats from rfl,hg9] at hs
  obtain ⟨c1,h1⟩ := Z24 hs (g := gs) rfl; have h2 := HF1.out.own.time.outer; rw [HTA.out] at h2; obtain ⟨c2,h2⟩ := Z24 h2 (g := gt) rfl; exact ⟨Z14 HF1.out.box h1 (by decide),Z14 h2 h1 (by decide)⟩
 have HF2 := hid hf2; have HB2 := hid (HB1.out.setCell (p := ⟨gs,1,none⟩) hge (.int .i64 3)); clear hg9 hf2 hge; refine stpR 10 (fun K hK => ?_); go_simp; refine hK.out _ _ ?_ (fun hHeld => ?_)
 ·exact ⟨(heap_setCell_other _ _ _ _ hn2.1).trans hHeld.1,(heap_setCell_other _ _ _ _ hn2.2).trans hHeld.2⟩
 clear hK K k1 k2 hn2; try go_frame
 refine wpAnyH_done (by kernel_rfl) ?_ _
 clear hHeld; obtain ⟨v2,hv⟩ : ∃ z,z = v1.setCell ⟨gs,1,none⟩ (.int .i64 3) := ⟨_,rfl⟩; rw [← hv] at HF2 HB2 ⊢; clear hv; have HF3 : Hid (Fin v2 gx A2 waitI) := hid (by
  have h := HF2.out.fin; rw [show ({ ({ X with time := sqL 3 (putL LT 0 1 4) } : Ins) with sats := ({ X with time := sqL 3 (putL LT 0 1 4) } : Ins).sats.set 0 (((60 : Int),(2 : Int)).1,3) } : Ins) = waitI from HW.out] at h
  exact h)
 obtain ⟨Y,hY⟩ : ∃ Y,waitI = Y := ⟨_,rfl⟩; have HMY : Hid (May Y) := hid (by rw [← hY]; exact Zll)
 have HRY : Hid (∀ l,ReadyOf Y l → l = [7]) := hid (by rw [← hY]; exact fun l h => Zfx h)
 rw [hY] at HF3; clear hY HF0 HF1 HF2 HB0 HB1 HW htl hsl; obtain ⟨c0,c1,c2,c3,c4,c5,c6,c7,c8⟩ := HF3.out.cells; unfold insC at *; go_wp2_with fail
 refine (HH.out.ready A2 Y _ HF3.out.is_ HMY.out).mono ?_; rintro e w5 ⟨l,a,c,rfl,hn,hr,hb⟩; have hl := HRY.out l hr; subst hl; obtain ⟨b,off,v,rfl,hv,q0⟩ := hn.at_ (k := 0) (by decide)
 have hv7 : v = 7 := by simpa using hv.symm
 subst hv7; have HB5 := hid (HB2.out.trans (hb.mono HB2.out.size)); have HIA := hid (Zf7 w5); rw [Nat.add_zero] at q0; clear c0 c1 c2 c3 c4 c5 c6 c7 c8 hn hr hb hv HB2 HF3; go_wp2_with (go_at_call 31; refine HIA.out.mono ?_; rintro e w6 ⟨rfl,hb6⟩; have HB6 := hid (HB5.out.trans (hb6.mono HB5.out.size)); clear hb6)
 go_ret
 exact ⟨rfl,HB6.out⟩
end Go.Proofs.YtfkommjlmolniaaGreatDoor
end
section

namespace Go.Proofs.YtfkommjlmolniaaGreatDoor
open Go.RowKit
def upTo {α : Type} (l1 l2 : List α) (k : Nat) : Prop := ∀ j,j < k → l1[j]? = l2[j]?
theorem Zlw {α : Type} {l1 l2 : List α} (h : upTo l1 l2 l1.length) (e : l1.length = l2.length) : l1 = l2 := List.ext_getElem? (fun j => by
 by_cases hj : j < l1.length
 ·exact h j hj
 ·rw [List.getElem?_eq_none (by omega),List.getElem?_eq_none (by omega)])
theorem Zjf {α : Type} {l1 l2 : List α} {k : Nat} (h : upTo l1 l2 k) (e : l1[k]? = l2[k]?) : upTo l1 l2 (k + 1) := fun j hj => by
 by_cases e2 : j = k
 ·subst e2; exact e
 ·exact h j (by omega)
theorem Z6n {p q : Bool} (h : p = q) : Ending.returned (.bool p) = .returned (.bool q) := by rw [h]
end Go.Proofs.YtfkommjlmolniaaGreatDoor
end
section

namespace Go.Proofs.YtfkommjlmolniaaGreatDoor
open Go.Lib (hid)
open Go.RowKit
variable {w : World} {a1 a2 : Option Addr} {n1 n2 c1 c2 B1 B2 : Nat}
set_option maxHeartbeats 1000000 in
theorem Zhd {l1 l2 : List Int} (w : World) (h1 : IsNums B1 w a1 n1 l1) (h2 : IsNums B2 w a2 n2 l2) (hn : n1 ≤ 1000000) :
  Calls Tryz.prog 9 #[.slice a1 n1 c1,.slice a2 n2 c2] w fun e w' => e = .returned (.bool (decide (l1 = l2))) ∧ ∃ m,w' = w.drewN m := by
 have H1 := hid h1; have H2 := hid h2; have e1 := h1.1; have e2 := h2.1; clear h1 h2; by_cases hl : n1 = n2
 ·subst hl
  have HS0 : Hid (upTo l1 l2 0) := hid (fun j hj => by omega)
  go_enter Tryz.func9,Tryz.ntmps9
  go_wp2_with fail
  go_loopw [13] (fun i wr => ∃ k m : Nat,i = .int .i64 k ∧ k ≤ n1 ∧ wr = w.drewN m ∧ Hid (upTo l1 l2 k)) (fun i _ => n1 - (intOf i).toNat)
  case atStart => exact ⟨0,0,rfl,Nat.zero_le _,rfl,HS0⟩
  case round =>
   obtain ⟨k,m,rfl,hk,rfl,HS⟩ := hrel; clear HS0; by_cases hlt : k < n1
   ·obtain ⟨b1,o1,x1,rfl,g1,q1⟩ := H1.out.at_ hlt
    obtain ⟨b2,o2,x2,rfl,g2,q2⟩ := H2.out.at_ hlt; by_cases he : x1 = x2
    ·subst he
     have HT : Hid (upTo l1 l2 (k + 1)) := hid (Zjf HS.out (g1.trans g2.symm)); clear g1 g2; go_wp2_with fail
     go_quiet (fail)
     go_wp2_with fail
     go_roundw
     case rel => exact ⟨k + 1,_,by go_num,by omega,rfl,HT⟩
     case measure => simp [intOf]; omega
    ·have HT : Hid (decide (l1 = l2) = false) := hid (decide_eq_false (fun e => he (by rw [e,g2] at g1; injection g1 with g1; exact g1.symm)))
     clear g1 g2; have he2 : (x1 != x2) = true := by simpa using he
     clear he; go_wp2_with fail
     go_quiet (fail)
     go_wp2_with fail
     go_ret
     exact ⟨Z6n HT.out.symm,_,by first | rfl | exact World.drewN_drewN ..⟩
   ·obtain rfl : k = n1 := by omega
    have HT : Hid (decide (l1 = l2) = true) := hid (decide_eq_true (Zlw (by rw [e1]; exact HS.out) (by omega)))
    go_wp2_with fail
    go_ret
    exact ⟨Z6n HT.out.symm,_,by first | rfl | exact World.drewN_drewN ..⟩
 ·have HT : Hid (decide (l1 = l2) = false) := hid (decide_eq_false (fun e => hl (by rw [← e1,← e2,e])))
  have hd : ((n1 : Int) != (n2 : Int)) = true := by simp; omega
  clear hl; go_enter Tryz.func9,Tryz.ntmps9
  go_wp2_with fail
  go_ret
  exact ⟨Z6n HT.out.symm,0,rfl⟩
theorem Zkb {l1 l2 : List Int} (w : World) (h1 : IsNums B1 w a1 n1 l1) (h2 : IsNums B2 w a2 n2 l2) (hn : n1 ≤ 1000000) (e : l1 = l2) :
  Calls Tryz.prog 9 #[.slice a1 n1 c1,.slice a2 n2 c2] w fun e w' => e = .returned (.bool true) ∧ Below w.heap.size w w' := by
 refine (Zhd w h1 h2 hn).mono ?_; rintro e w' ⟨rfl,m,rfl⟩; subst e; exact ⟨by simp,⟨rfl,rfl,rfl,Nat.le_refl _,fun _ _ => rfl⟩⟩
end Go.Proofs.YtfkommjlmolniaaGreatDoor
end
section

namespace Go.Proofs.YtfkommjlmolniaaGreatDoor
open Go.RowKit
variable {w wr w2 : World} {A : InA} {x : Ins} {gx gs gc g b B N C D n sc : Nat} {VK VT V : Nat → Nat} {LK LT : Nat → Nat → Int} {os oc : Obj} {v6 v7 v8 u : Value} {T : TypeId} {cb : Array Value}
theorem Fresh.tr2_ (h : Fresh wr gx B A x N C D VK VT LK LT) (z : Int) : Fresh (wr.setCell ⟨gx,2,none⟩ (.int .i64 z)) gx B A { x with tr := z } N C D VK VT LK LT :=
 ⟨heap_setCell_same _ _ _ _ _ _ h.box,(h.own.keep h.box (by decide) (by decide) (by decide) (by decide) 2 (.int .i64 z)) |> fun q => ⟨q.sats,q.cus,q.cost,q.time,q.ck,q.tk,q.nl,q.ap,q.sb,q.kb,q.bc,q.cd⟩,h.ns,h.nc,h.nn⟩
theorem Fresh.bm_ (h : Fresh wr gx B A x N C D VK VT LK LT) (z : Int) : Fresh (wr.setCell ⟨gx,3,none⟩ (.int .i64 z)) gx B A { x with bm := z } N C D VK VT LK LT :=
 ⟨heap_setCell_same _ _ _ _ _ _ h.box,(h.own.keep h.box (by decide) (by decide) (by decide) (by decide) 3 (.int .i64 z)) |> fun q => ⟨q.sats,q.cus,q.cost,q.time,q.ck,q.tk,q.nl,q.ap,q.sb,q.kb,q.bc,q.cd⟩,h.ns,h.nc,h.nn⟩
structure Lk (w wr : World) (gx gs gc sc : Nat) (os oc : Obj) (v6 v7 v8 : Value) : Prop where
 below : Below w.heap.size w wr
 ge : w.heap.size ≤ gx
 box : wr.heap[gx]? = some (.cells #[.int .i64 1000,.int .i64 1,.int .i64 60,.int .i64 2,.int .i64 10,.slice (some ⟨gs,0,none⟩) 1 sc,v6,v7,v8] 34 (0,0))
 sb : wr.heap[gs]? = some os
 cb : wr.heap[gc]? = some oc
 ns : gs ≠ gx
 nc : gc ≠ gx
theorem Z37 {o : Obj} (h : wr.heap[g]? = some o) (hb : Below wr.heap.size wr w2) : w2.heap[g]? = some o := (hb.block g (Array.getElem?_eq_some_iff.1 h).1).trans h
theorem Lk.later (h : Lk w wr gx gs gc sc os oc v6 v7 v8) (hb : Below wr.heap.size wr w2) : Lk w w2 gx gs gc sc os oc v6 v7 v8 :=
 ⟨h.below.trans (hb.mono h.below.size),h.ge,Z37 h.box hb,Z37 h.sb hb,Z37 h.cb hb,h.ns,h.nc⟩
theorem Lk.set7 (h : Lk w wr gx gs gc sc os oc v6 v7 v8) (u : Value) : Lk w (wr.setCell ⟨gx,7,none⟩ u) gx gs gc sc os oc v6 u v8 :=
 ⟨h.below.setCell (p := ⟨gx,7,none⟩) h.ge u,h.ge,heap_setCell_same _ _ _ _ _ _ h.box,(heap_setCell_other _ _ _ _ h.ns).trans h.sb,(heap_setCell_other _ _ _ _ h.nc).trans h.cb,h.ns,h.nc⟩
theorem Lk.set8 (h : Lk w wr gx gs gc sc os oc v6 v7 v8) (u : Value) : Lk w (wr.setCell ⟨gx,8,none⟩ u) gx gs gc sc os oc v6 v7 u :=
 ⟨h.below.setCell (p := ⟨gx,8,none⟩) h.ge u,h.ge,heap_setCell_same _ _ _ _ _ _ h.box,(heap_setCell_other _ _ _ _ h.ns).trans h.sb,(heap_setCell_other _ _ _ _ h.nc).trans h.cb,h.ns,h.nc⟩
theorem Lk.other (h : Lk w wr gx gs gc sc os oc v6 v7 v8) (hb : w.heap.size ≤ b) (hx : gx ≠ b) (hs : gs ≠ b) (hc : gc ≠ b) (i : Nat) (u : Value) : Lk w (wr.setCell ⟨b,i,none⟩ u) gx gs gc sc os oc v6 v7 v8 :=
 ⟨h.below.setCell (p := ⟨b,i,none⟩) hb u,h.ge,(heap_setCell_other _ _ _ _ hx).trans h.box,(heap_setCell_other _ _ _ _ hs).trans h.sb,(heap_setCell_other _ _ _ _ hc).trans h.cb,h.ns,h.nc⟩
theorem Lk.frozen (h : Lk w wr gx gs gc sc os oc v6 v7 v8) (k : Nat) : wr.frozen? ⟨gx,k,none⟩ = false := by simp [World.frozen?,h.box]
structure ZR (wr : World) (g : Nat) (V : Nat → Nat) (n : Nat) : Prop where
 outer : wr.rowIs g 56 4 (fun j => if j < n then .slice (some ⟨V j,0,none⟩) 4 4 else .slice none 0 0)
 row : ∀ j,j < n → wr.rowIs (V j) 2 4 (fun _ => .int .i64 0)
theorem ZR.make (wr : World) : ZR (wr.alloc (.cells (madeCells #[.slice none 0 0] 4) 56)) wr.heap.size (fun _ => 0) 0 :=
 ⟨(World.rowIs_made wr (.slice none 0 0) 4 56).congr (fun i _ => by simp),fun j hj => absurd hj (by omega)⟩
theorem ZR.later (h : ZR wr g V n) (hb : Below wr.heap.size wr w2) : ZR w2 g V n :=
 ⟨h.outer.of_block (hb.block _ h.outer.lt),fun j hj => (h.row j hj).of_block (hb.block _ (h.row j hj).lt)⟩
theorem ZR.blk (h : ZR wr g V n) : ∃ cur,wr.heap[g]? = some (.cells cur 56 (0,0)) := Z19 h.outer
theorem ZR.other (h : ZR wr g V n) (hb : wr.heap[b]? = some (.cells cb T (0,0))) (hne : g ≠ b) (hT : ¬ 2 = T) (i : Nat) (u : Value) : ZR (wr.setCell ⟨b,i,none⟩ u) g V n :=
 ⟨h.outer.setOther (a := ⟨b,i,none⟩) hne u,fun j hj => (h.row j hj).setOther (a := ⟨b,i,none⟩) (by
  obtain ⟨cur,hc⟩ := Z19 (h.row j hj); exact Z14 hc hb hT) u⟩
theorem ZR.more {v : Nat} (h : ZR wr g V n) (hv : wr.rowIs v 2 4 (fun _ => .int .i64 0)) : ZR (wr.setCell ⟨g,n,none⟩ (.slice (some ⟨v,0,none⟩) 4 4)) g (fun j => if j = n then v else V j) (n + 1) := by
 obtain ⟨cg,hg⟩ := h.blk; refine ⟨(h.outer.set n (.slice (some ⟨v,0,none⟩) 4 4)).congr (fun j _ => ?_),fun j hj => ?_⟩
 ·by_cases e : j = n
  ·subst e; simp
  ·by_cases e2 : j < n
   ·simp [e,e2,show j < n + 1 by omega]
   ·simp [e,e2,show ¬ j < n + 1 by omega]
 ·by_cases e : j = n
  ·subst e
   simp only [if_true]
   obtain ⟨cur,hc⟩ := Z19 hv; exact hv.setOther (a := ⟨g,j,none⟩) (Z14 hc hg (by decide)) _
  ·simp only [e,if_false]
   have hjn : j < n := by omega
   obtain ⟨cur,hc⟩ := Z19 (h.row j hjn); exact (h.row j hjn).setOther (a := ⟨g,n,none⟩) (Z14 hc hg (by decide)) _
theorem ZR.is_ (h : ZR wr g V 4) : IsRows wr.heap.size wr (some ⟨g,0,none⟩) 4 [[0,0,0,0],[0,0,0,0],[0,0,0,0],[0,0,0,0]] := by
 refine ⟨rfl,.inr ⟨g,0,rfl,h.outer.lt,fun k r hk => ?_⟩⟩; have hk4 : k < 4 := (List.getElem?_eq_some_iff.1 hk).1; have hr : r = [0,0,0,0] := by
  have : k = 0 ∨ k = 1 ∨ k = 2 ∨ k = 3 := by omega
  rcases this with rfl | rfl | rfl | rfl <;> exact (Option.some.inj hk).symm
 subst hr; refine ⟨by decide,some ⟨V k,0,none⟩,4,?_,rfl,.inr ⟨V k,0,rfl,(h.row k hk4).lt,fun j x hj => ?_⟩⟩
 ·rw [Nat.zero_add,h.outer.cell hk4,if_pos hk4]
  rfl
 ·have hj4 : j < 4 := (List.getElem?_eq_some_iff.1 hj).1
  have hx : x = 0 := by
   have : j = 0 ∨ j = 1 ∨ j = 2 ∨ j = 3 := by omega
   rcases this with rfl | rfl | rfl | rfl <;> exact (Option.some.inj hj).symm
  subst hx; rw [Nat.zero_add,(h.row k hk4).cell hj4]
theorem ZR.ne_ (h : ZR wr g V n) (hb : wr.heap[b]? = some (.cells cb T (0,0))) (hT : ¬ T = 56) : b ≠ g := by
 obtain ⟨cur,hc⟩ := h.blk; exact Z14 hb hc hT
abbrev cuB : Obj := .cells #[.int .i64 3,.int .i64 0,.int .i64 100,.int .i64 0,.int .i64 4,.int .i64 0,.int .i64 100,.int .i64 0] 53
theorem Lk.rows (h : Lk w wr gx gs gc sc os cuB v6 v7 v8) (hos : ∃ cs,os = .cells cs 51 (0,0)) (hz : ZR wr g V n) (hg : w.heap.size ≤ g) (i : Nat) (u : Value) : Lk w (wr.setCell ⟨g,i,none⟩ u) gx gs gc sc os cuB v6 v7 v8 := by
 obtain ⟨cs,e⟩ := hos; exact h.other hg (hz.ne_ h.box (by decide)) (hz.ne_ (h.sb.trans (by rw [e])) (by decide)) (hz.ne_ h.cb (by decide)) i u
theorem Z6z {v : Nat} (h : wr.rowIs v 2 4 (fun _ => .int .i64 0)) (hz : ZR wr g V n) (i : Nat) (u : Value) : (wr.setCell ⟨g,i,none⟩ u).rowIs v 2 4 (fun _ => .int .i64 0) := by
 obtain ⟨cur,hc⟩ := Z19 h; exact h.setOther (a := ⟨g,i,none⟩) (hz.ne_ hc (by decide)) u
theorem Z5q {v : Nat} (h : wr.rowIs v 2 4 (fun _ => .int .i64 0)) (hb : Below wr.heap.size wr w2) : w2.rowIs v 2 4 (fun _ => .int .i64 0) := h.of_block (hb.block _ h.lt)
theorem ZR.free (h : ZR wr g V n) (hn : n < 4) : wr.frozen? ⟨g,n,none⟩ = false ∧ wr.cell? ⟨g,n,none⟩ = some (.slice none 0 0) := ⟨h.outer.frozen n,by rw [h.outer.cell hn,if_neg (by omega)]⟩
def lackA (gs sc gc gp gq : Nat) : InA := ⟨some ⟨gs,0,none⟩,sc,some ⟨gc,0,none⟩,2,some ⟨gp,0,none⟩,4,some ⟨gq,0,none⟩,4⟩
theorem Lk.ins {gp gq : Nat} {Vp Vq : Nat → Nat} (h : Lk w wr gx gs gc sc os cuB v6 v7 v8) (hs : ∀ W : World,W.heap[gs]? = some os → PairRow W gs 0 [(6,2)]) (hp : ZR wr gp Vp 4) (hq : ZR wr gq Vq 4) : IsIns wr.heap.size wr (lackA gs sc gc gp gq) lackI := by
 refine ⟨⟨rfl,.inr ⟨gs,0,rfl,(Array.getElem?_eq_some_iff.1 h.sb).1,hs wr h.sb⟩⟩,⟨rfl,.inr ⟨gc,0,rfl,(Array.getElem?_eq_some_iff.1 h.cb).1,fun k x hk => ?_⟩⟩,hp.is_,hq.is_⟩; have hk2 : k < 2 := (List.getElem?_eq_some_iff.1 hk).1; have hkk : k = 0 ∨ k = 1 := by omega
 have hc := h.cb; unfold cuB at hc; rcases hkk with rfl | rfl
 ·obtain rfl : x = (3,0,100,0) := (Option.some.inj hk).symm
  simp [World.cell?,hc]
 ·obtain rfl : x = (4,0,100,0) := (Option.some.inj hk).symm
  simp [World.cell?,hc]
theorem Zgo (H : BlockSpec) (A : InA) (w : World) (h : IsIns w.heap.size w A lackI) (ht : TabD w) : Calls Tryz.prog 12 #[.agg (insC A lackI)] w fun e w' => e = .returned (.tuple #[blkC 5 0 3,.bool true]) ∧ Below w.heap.size w w' :=
 (H.find A lackI w h ht Z82).mono fun e w' ⟨k,who,z,he,hf,hb⟩ => by
  obtain ⟨rfl,rfl,rfl⟩ := Zeg hf; exact ⟨he,hb⟩
theorem Zbj (H : BlockSpec) (A : InA) (w : World) (h : IsIns w.heap.size w A lackI) (ht : TabD w) : Calls Tryz.prog 10 #[.agg (insC A lackI)] w fun e w' => ∃ (a : Option Addr) (c : Nat),e = .returned (.slice a 1 c) ∧ IsNums w'.heap.size w' a 1 [1] ∧ Below w.heap.size w w' :=
 (H.counts A lackI w h ht Z82).mono fun e w' ⟨l,a,c,he,hn,hx,hb⟩ => by
  have := Zbd hx; subst this; exact ⟨a,c,he,hn,hb⟩
theorem Zju (w : World) : IsNums (w.alloc (.cells #[.int .i64 1] 3)).heap.size (w.alloc (.cells #[.int .i64 1] 3)) (some ⟨w.heap.size,0,none⟩) 1 [1] := by
 refine ⟨rfl,.inr ⟨w.heap.size,0,rfl,by simp,fun j x hj => ?_⟩⟩
 have hj1 : j < 1 := (List.getElem?_eq_some_iff.1 hj).1; obtain rfl : j = 0 := by omega
 obtain rfl : x = 1 := (Option.some.inj hj).symm; simp
end Go.Proofs.YtfkommjlmolniaaGreatDoor
end

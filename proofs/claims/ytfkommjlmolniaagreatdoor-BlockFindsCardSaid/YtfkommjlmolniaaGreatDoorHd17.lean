/- Joined: RHas, ROut, RReady, SetW, RServe. -/
import Derived.Test.YtfkommjlmolniaaGreatDoorHd16
import Derived.Laws.EntriesVeiled
import Derived.StillTailTactics
import Derived.Test.YtfkommjlmolniaaGreatDoorRows
import Derived.Test.YtfkommjlmolniaaGreatDoorHd2
import Derived.WalkKit
import Derived.Laws.BitsAllLaws
import Derived.Laws.Shifts
import Derived.Lib.Hide
import Derived.Deep.QuietTactic
import Derived.BigQuiet
import Derived.Test.YtfkommjlmolniaaGreatDoorHd6
set_option linter.unusedVariables false
section

namespace Go.Proofs.YtfkommjlmolniaaGreatDoor
set_option maxHeartbeats 16000000
set_option maxRecDepth 100000
open Go.Lib (hid)
open Go.RowKit
variable {w wr w2 : World} {A : InA} {x : Ins} {B g sb nb s i k p q : Nat}
theorem Ziu (A : InA) (x : Ins) (w : World) (hi : IsIns w.heap.size w A x) (hm : May x) (hs : s < x.sats.length) :
  Calls Tryz.prog 94 #[.agg (insC A x),.int .i64 (s : Int)] w fun e w' => e = .returned (.bool true) ∧ Below w.heap.size w w' := by
 have HX := hid (XBox.make (Below.refl _ w) A x); have HE := hid hm.err; have HC := hid (fun (W : World) (h : IsIns W.heap.size W A x) => Z1x A x W h (by have := hm.lc; have := Z29 hm; omega) (by have := hm.lt; have := Z29 hm; omega))
 have HI := hid hi; have HS := hid hs; clear hi hm hs; unfold insC at HC HX ⊢; go_enter Tryz.func94,Tryz.ntmps94
 go_wp2_with (go_at_call 14; refine (HC.out _ (HX.out.pipesHere HI.out)).mono ?_; rw [HE.out]; rintro e w2 ⟨rfl,hb2⟩; have HX2 := hid (HX.out.later hb2); obtain ⟨-,-,-,-,-,c5,-,-,-⟩ := HX2.out.cells; clear hb2)
 go_ret
 exact ⟨by show Ending.returned (.bool (decide (s < x.sats.length))) = _; rw [decide_eq_true HS.out],HX2.out.below⟩
theorem Zdz (A : InA) (x : Ins) (t : Int) (w : World) (hi : IsIns w.heap.size w A x) (hl3 : x.cost.length ≤ 9223372036854775807) (hl4 : x.time.length ≤ 9223372036854775807) (hno : Z0m x ≠ 0 ∨ t < 0 ∨ (x.sats.length : Int) ≤ t) :
  Calls Tryz.prog 94 #[.agg (insC A x),.int .i64 t] w fun e w' => e = .returned (.bool false) ∧ Below w.heap.size w w' := by
 have HX := hid (XBox.make (Below.refl _ w) A x); have HC := hid (fun (W : World) (h : IsIns W.heap.size W A x) => Z1x A x W h hl3 hl4); have HI := hid hi; have HNO := hid hno; clear hi hl3 hl4 hno; by_cases he : Z0m x = 0
 ·have HE := hid he
  clear he; by_cases h0 : t < 0
  ·have h0b : decide (t ≥ 0) = false := by simp; omega
   have h0n : ¬ 0 ≤ t := by omega
   clear h0 HNO; unfold insC at HC HX ⊢; go_enter Tryz.func94,Tryz.ntmps94
   go_wp2_with (go_at_call 14; refine (HC.out _ (HX.out.pipesHere HI.out)).mono ?_; rw [HE.out]; rintro e w2 ⟨rfl,hb2⟩; have HX2 := hid (HX.out.later hb2); obtain ⟨-,-,-,-,-,c5,-,-,-⟩ := HX2.out.cells; clear hb2)
   go_ret
   exact ⟨rfl,HX2.out.below⟩
  ·have h1 : (x.sats.length : Int) ≤ t := by
    rcases HNO.out with h | h | h
    ·exact absurd HE.out h
    ·omega
    ·exact h
   have h0b : decide (t ≥ 0) = true := by simp; omega
   have h0n : 0 ≤ t := by omega
   have h1b : decide (t < (x.sats.length : Int)) = false := by simp; omega
   have h1n : ¬ t < (x.sats.length : Int) := by omega
   clear h0 h1 HNO; unfold insC at HC HX ⊢; go_enter Tryz.func94,Tryz.ntmps94
   go_wp2_with (go_at_call 14; refine (HC.out _ (HX.out.pipesHere HI.out)).mono ?_; rw [HE.out]; rintro e w2 ⟨rfl,hb2⟩; have HX2 := hid (HX.out.later hb2); obtain ⟨-,-,-,-,-,c5,-,-,-⟩ := HX2.out.cells; clear hb2)
   go_ret
   exact ⟨rfl,HX2.out.below⟩
 ·generalize Z0m x = v at *
  have heb : (v == 0) = false := by simpa using he
  clear HNO; unfold insC at HC HX ⊢; go_enter Tryz.func94,Tryz.ntmps94
  go_wp2_with (go_at_call 14; refine (HC.out _ (HX.out.pipesHere HI.out)).mono ?_; rintro e w2 ⟨rfl,hb2⟩; have HX2 := hid (HX.out.later hb2); obtain ⟨-,-,-,-,-,c5,-,-,-⟩ := HX2.out.cells; clear hb2)
  go_ret
  exact ⟨rfl,HX2.out.below⟩
theorem Ziv (A : InA) (x : Ins) (t : Int) (w : World) (hi : IsIns w.heap.size w A x) (hl3 : x.cost.length ≤ 9223372036854775807) (hl4 : x.time.length ≤ 9223372036854775807) (hno : Z0m x ≠ 0 ∨ t < 0 ∨ (x.sats.length : Int) ≤ t) :
  Calls Tryz.prog 66 #[.agg (insC A x),.int .i64 t] w (Empty w) := by
 have HX := hid (XBox.make (Below.refl _ w) A x); have HH := hid (fun (W : World) (h : IsIns W.heap.size W A x) => Zdz A x t W h hl3 hl4 hno); have HI := hid hi; clear hi hl3 hl4 hno; unfold insC at HH HX ⊢; go_enter Tryz.func66,Tryz.ntmps66
 go_wp2_with (go_at_call 94; refine (HH.out _ (HX.out.pipesHere HI.out)).mono ?_; rintro e w2 ⟨rfl,hb2⟩; have HX2 := hid (HX.out.later hb2); clear hb2)
 go_ret
 exact ⟨none,0,rfl,HX2.out.below⟩
theorem Zfz (A : InA) (x : Ins) (t : Int) (w : World) (hi : IsIns w.heap.size w A x) (hl3 : x.cost.length ≤ 9223372036854775807) (hl4 : x.time.length ≤ 9223372036854775807) (hno : Z0m x ≠ 0 ∨ t < 0 ∨ (x.sats.length : Int) ≤ t) :
  Calls Tryz.prog 67 #[.agg (insC A x),.int .i64 t] w (Empty w) := by
 have HX := hid (XBox.make (Below.refl _ w) A x); have HH := hid (fun (W : World) (h : IsIns W.heap.size W A x) => Zdz A x t W h hl3 hl4 hno); have HI := hid hi; clear hi hl3 hl4 hno; unfold insC at HH HX ⊢; go_enter Tryz.func67,Tryz.ntmps67
 go_wp2_with (go_at_call 94; refine (HH.out _ (HX.out.pipesHere HI.out)).mono ?_; rintro e w2 ⟨rfl,hb2⟩; have HX2 := hid (HX.out.later hb2); clear hb2)
 go_ret
 exact ⟨none,0,rfl,HX2.out.below⟩
end Go.Proofs.YtfkommjlmolniaaGreatDoor
end
section

namespace Go.Proofs.YtfkommjlmolniaaGreatDoor
set_option maxHeartbeats 16000000
set_option maxRecDepth 100000
open Go.Lib (hid)
open Go.RowKit
variable {w wr w2 : World} {A : InA} {x : Ins} {B g sb nb s i k p q : Nat}
def Z35 (x : Ins) (s : Nat) : List Ar := Z1g (takeP x s) (1 + x.cus.length) (1 + x.cus.length)
theorem Zln {W : World} {o : Obj} (hX : XBox w W g A x) (hi : IsIns w.heap.size w A x) :
  RoH w.heap.size (((W.alloc (.cells #[.int .i64 (s : Int)] 3)).alloc o).alloc (.cells #[.func (.func 122) #[] #[.pointer (some ⟨g,0,none⟩),.pointer (some ⟨W.heap.size,0,none⟩)]] 79)) g W.heap.size (W.heap.size + 2) A x s := by
 have hb : Below W.heap.size W (((W.alloc (.cells #[.int .i64 (s : Int)] 3)).alloc o).alloc (.cells #[.func (.func 122) #[] #[.pointer (some ⟨g,0,none⟩),.pointer (some ⟨W.heap.size,0,none⟩)]] 79)) := (((Below.refl _ _).alloc (Nat.le_refl _) _).alloc (by simp) _).alloc (by simp; omega) _
 have hz : ((W.alloc (.cells #[.int .i64 (s : Int)] 3)).alloc o).heap.size = W.heap.size + 2 := by simp
 refine ⟨⟨(hX.later hb).blk,(hi.later hX.below).later (hb.mono hX.below.size),?_⟩,?_,?_⟩
 ·exact Nat.le_trans hX.below.size hb.size
 ·have h1 : (W.alloc (.cells #[.int .i64 (s : Int)] 3)).heap[W.heap.size]? = some (.cells #[.int .i64 (s : Int)] 3 (0,0)) := heap_alloc_new _ _
  rw [Below.heap_alloc _ _ _ (by simp; omega),Below.heap_alloc _ _ _ (by simp)]
  exact h1
 ·have h1 := heap_alloc_new ((W.alloc (.cells #[.int .i64 (s : Int)] 3)).alloc o) (.cells #[.func (.func 122) #[] #[.pointer (some ⟨g,0,none⟩),.pointer (some ⟨W.heap.size,0,none⟩)]] 79)
  rw [hz] at h1; exact h1
theorem Znl {W : World} {v : Value} : (((W.alloc (.cells #[.int .i64 (s : Int)] 3)).alloc (.cells #[.int .i64 0,.slice none 0 0] 95)).alloc (.cells #[v] 79)).heap[W.heap.size + 1]? = some (.cells #[.int .i64 0,.slice none 0 0] 95 (0,0)) := by
 have h1 := heap_alloc_new (W.alloc (.cells #[.int .i64 (s : Int)] 3)) (.cells #[.int .i64 0,.slice none 0 0] 95); have hz : (W.alloc (.cells #[.int .i64 (s : Int)] 3)).heap.size = W.heap.size + 1 := by simp
 rw [hz] at h1; rw [Below.heap_alloc _ _ _ (by simp)]
 exact h1
theorem Z7s (A : InA) (x : Ins) (w : World) (hi : IsIns w.heap.size w A x) (hm : May x) (hs : s < x.sats.length) :
  Calls Tryz.prog 95 #[.agg (insC A x),.int .i64 (s : Int)] w fun e w' => ∃ lv,e = .returned (.agg #[.int .i64 ((1 + x.cus.length : Nat) : Int),lv]) ∧ w'.ownsRow w.heap.size 121 3 lv (Z35 x s).length (flatA (Z35 x s)) ∧ Below w.heap.size w w' := by
 have hmf : ∀ (fn : Fn) (first cap : Array Value) (w : World),(Instr.makeFunc fn first cap).run Tryz.prog w = .ok (.func fn first cap) w := fun _ _ _ _ => rfl
 have hX1 := XBox.make (Below.refl _ w) A x; have HR := hid (Zln (s := s) (o := .cells #[.int .i64 0,.slice none 0 0] 95) hX1 hi); have HRS := hid (Znl (s := s) (W := w.alloc (.cells (insC A x) 34)) (v := .func (.func 122) #[] #[.pointer (some ⟨w.heap.size,0,none⟩),.pointer (some ⟨(w.alloc (.cells (insC A x) 34)).heap.size,0,none⟩)])); have hz : (w.alloc (.cells (insC A x) 34)).heap.size = w.heap.size + 1 := by simp
 rw [hz] at HR HRS; have HXB := hid hX1.below; have hnc := hm.nc; have hcw : ((1 + x.cus.length : Nat) : Int) = 1 + (x.cus.length : Int) := by omega
 have HW : Hid (∀ (W0 : World),RoH w.heap.size W0 w.heap.size (w.heap.size + 1) (w.heap.size + 1 + 2) A x s → Calls Tryz.prog 47 #[.int .i64 (1 + (x.cus.length : Int)),.func (.func 123) #[] #[.pointer (some ⟨w.heap.size,0,none⟩),.pointer (some ⟨w.heap.size + 1 + 1 + 1,0,none⟩)]] W0 fun e w' => ∃ lv,e = .returned (.agg #[.int .i64 (1 + (x.cus.length : Int)),lv]) ∧ w'.ownsRow W0.heap.size 121 3 lv (Z35 x s).length (flatA (Z35 x s)) ∧ Below W0.heap.size W0 w') := hid (fun W0 hR => by
  have h := Z58 (N := 1 + x.cus.length) 123 #[.pointer (some ⟨w.heap.size,0,none⟩),.pointer (some ⟨w.heap.size + 1 + 2,0,none⟩)] (fun _ _ => by kernel_rfl) (by omega) (takeP x s) W0 (fun W hb i k hi hk _ => Zit hm W (hR.later hb) hs i k hi hk)
  rw [hcw] at h; exact h)
 have HCW := hid hcw; have hnc1 := hnc.1; have hnc2 := hnc.2; obtain ⟨c0,c1,c2,c3,c4,c5,c6,c7,c8⟩ := HR.out.inh.cells; clear hi hm hs hX1 hz hnc hcw c0 c1 c2 c3 c4 c5 c7 c8; unfold insC at HR HW HRS HXB c6 ⊢; go_enter Tryz.func95,Tryz.ntmps95
 go_wp2_with fail
 refine (HW.out _ HR.out).mono ?_; rintro e w5 ⟨lv,rfl,ho,hb5⟩; obtain ⟨va,vc,hv⟩ := Z04 ho; subst hv; have HRS5 := hid ((hb5.block _ (Array.getElem?_eq_some_iff.1 HRS.out).1).trans HRS.out); have r0 := cell_of_row _ _ 0 _ _ _ HRS5.out; have r1 := cell_of_row _ _ 1 _ _ _ HRS5.out; have d0 := frozen_of_row _ _ 0 _ _ HRS5.out; have d1 := frozen_of_row _ _ 1 _ _ HRS5.out; have HB5 := hid hb5; have HO5 := hid ho; clear hb5 ho; go_wp2_with fail
 have hm : Mod (fun k => k = w.heap.size + 1 + 1) w5 ((w5.setCell ⟨w.heap.size + 1 + 1,0,none⟩ (.int .i64 (1 + (x.cus.length : Int)))).setCell ⟨w.heap.size + 1 + 1,1,none⟩ (.slice va (Z35 x s).length vc)) := ((Mod.refl (fun k => k = w.heap.size + 1 + 1) w5).setCell (p := ⟨w.heap.size + 1 + 1,0,none⟩) (.inr rfl) _).setCell (p := ⟨w.heap.size + 1 + 1,1,none⟩) (.inr rfl) _; have hR := HR.out; have hlt := (Array.getElem?_eq_some_iff.1 hR.fn).1; have g1 : ((w5.setCell ⟨w.heap.size + 1 + 1,0,none⟩ (.int .i64 (1 + (x.cus.length : Int)))).setCell ⟨w.heap.size + 1 + 1,1,none⟩ (.slice va (Z35 x s).length vc)).heap[w.heap.size + 1 + 1]? = some (.cells #[.int .i64 (1 + (x.cus.length : Int)),.slice va (Z35 x s).length vc] 95 (0,0)) := by
  have h1 := heap_setCell_same w5 (w.heap.size + 1 + 1) 0 _ _ (.int .i64 (1 + (x.cus.length : Int))) HRS5.out; exact heap_setCell_same _ (w.heap.size + 1 + 1) 1 _ _ (.slice va (Z35 x s).length vc) h1
 refine bodyPost_ret (v := .agg #[.int .i64 (1 + (x.cus.length : Int)),.slice va (Z35 x s).length vc]) (results_cell_row rfl _ _ (w.heap.size + 1 + 1) 95 _ (0,0) _ rfl g1 Tryz.underlying95 rfl Z7m) rfl ⟨_,by rw [HCW.out],Z1y (Z1a HO5.out hm (fun k hk (e : k = w.heap.size + 1 + 1) => ?_)) ?_,?_⟩
 ·have := (World.ownsRow.lt HO5.out k hk).1
  omega
 ·exact hR.inh.le
 ·exact ((Mod.of_below (fun k => k = w.heap.size + 1 + 1) ((((HXB.out.alloc HXB.out.size _).alloc (by simp; omega) _).alloc (by simp; omega) _).trans (HB5.out.mono (by simp; omega)))).trans hm).below (Nat.le_refl _) (fun k (e : k = w.heap.size + 1 + 1) => by omega)
theorem Zay (hm : May x) (hs : s < x.sats.length) : Z15 ((1 + x.cus.length : Nat) : Int) (Z35 x s) = 0 ∧ ∀ y ∈ Z35 x s,0 ≤ y.2.2 := Zbb (by have := hm.nc; omega) (Zlp hm hs)
theorem Ziw (A : InA) (x : Ins) (w : World) (hi : IsIns w.heap.size w A x) (hm : May x) (hs : s < x.sats.length) :
  Calls Tryz.prog 66 #[.agg (insC A x),.int .i64 (s : Int)] w (Nums w (OutOf x s)) := by
 have HX := hid (XBox.make (Below.refl _ w) A x); have HH := hid (fun (W : World) (h : IsIns W.heap.size W A x) => Ziu A x W h hm hs); have HR := hid (fun (W : World) (h : IsIns W.heap.size W A x) => Z7s A x W h hm hs); have HI := hid hi; have HO := hid (Zay hm hs); have HN := hid (show 2 ≤ 1 + x.cus.length by have := hm.nc; omega)
 have HS := hid hs; clear hi hm hs; unfold insC at HH HR HX ⊢; go_enter Tryz.func66,Tryz.ntmps66
 go_wp2_with (first
  | (go_at_call 94; refine (HH.out _ (HX.out.pipesHere HI.out)).mono ?_; rintro e w2 ⟨rfl,hb2⟩; have HX2 := hid (HX.out.later hb2); obtain ⟨c0,c1,c2,c3,c4,c5,c6,c7,c8⟩ := HX2.out.cells; clear hb2)
  | (go_at_call 95; refine (HR.out _ (HX2.out.pipesHere HI.out)).mono ?_; rintro e w3 ⟨lv,rfl,ho,hb3⟩; obtain ⟨va,vc,hv⟩ := Z04 ho; subst hv; have HA3 := hid (Z67 ho).2; have HB3 := hid (HX2.out.below.trans (hb3.mono HX2.out.below.size)); clear ho hb3 c0 c1 c2 c3 c4 c5 c6 c7 c8)
  | (go_at_call 46; refine (Z3i HN.out va vc _ HO.out.1 HO.out.2 HA3.out).mono ?_; rintro e w4 ⟨hb4,gf,cf,c,far,dn,rfl,hf,hS⟩; have HB4 := hid (HB3.out.trans (hb4.mono HB3.out.size)); have HF4 := hid hf; have HS4 := hid hS; clear hb4 hf hS))
 go_ret
 refine ⟨(List.range (1 + x.cus.length - 1)).map (fun j => valI far (1 + j)),some ⟨gf,1,none⟩,c,by simp,?_,⟨by simp,fun c hc => ?_⟩,HB4.out⟩
 ·have h := Z4x HF4.out HN.out
  simpa using h
 ·obtain ⟨d,h1,h2,h3⟩ := HS4.out.told (i := 1 + c) Z33 (checkV_zero.1 HO.out.1).2 (by omega) (fullW_some.2 ⟨⟨by omega,by omega,by omega⟩,rfl⟩)
  refine ⟨d,Zj3 HS.out hc h3,?_⟩; rw [List.getElem?_map,List.getElem?_range (by omega)]
  simp only [Option.map_some,h2]
theorem Ze0 (A : InA) (x : Ins) (w : World) (hi : IsIns w.heap.size w A x) (hm : May x) (hs : s < x.sats.length) :
  Calls Tryz.prog 67 #[.agg (insC A x),.int .i64 (s : Int)] w (Nums w (BackOf x s)) := by
 have HX := hid (XBox.make (Below.refl _ w) A x); have HH := hid (fun (W : World) (h : IsIns W.heap.size W A x) => Ziu A x W h hm hs); have HR := hid (fun (W : World) (h : IsIns W.heap.size W A x) => Z7s A x W h hm hs); have HI := hid hi; have HO0 := hid (Zay hm hs); have HO := hid (Zj1 HO0.out.1 HO0.out.2); have HN := hid (show 2 ≤ 1 + x.cus.length by have := hm.nc; omega)
 have HLN := hid (show (Z35 x s).length ≤ 1000000 from by have := (checkV_zero.1 HO0.out.1).1; omega)
 have HS := hid hs; clear hi hm hs; unfold insC at HH HR HX ⊢; go_enter Tryz.func67,Tryz.ntmps67
 go_wp2_with (first
  | (go_at_call 94; refine (HH.out _ (HX.out.pipesHere HI.out)).mono ?_; rintro e w2 ⟨rfl,hb2⟩; have HX2 := hid (HX.out.later hb2); obtain ⟨c0,c1,c2,c3,c4,c5,c6,c7,c8⟩ := HX2.out.cells; clear hb2)
  | (go_at_call 95; refine (HR.out _ (HX2.out.pipesHere HI.out)).mono ?_; rintro e w3 ⟨lv,rfl,ho,hb3⟩; obtain ⟨va,vc,hv⟩ := Z04 ho; subst hv; have HA3 := hid (Z67 ho).2; have HB3 := hid (HX2.out.below.trans (hb3.mono HX2.out.below.size)); clear ho hb3 c0 c1 c2 c3 c4 c5 c6 c7 c8)
  | (go_at_call 96; refine (Zg9 _ HLN.out va vc _ HA3.out).mono ?_; rintro e w4 ⟨T,rfl,hA,_,hb4⟩; have HA4 := hid hA; have HB4 := hid (HB3.out.trans (hb4.mono HB3.out.size)); clear hA hb4)
  | (go_at_call 46; refine (Z3i HN.out _ _ _ HO.out.1 HO.out.2 HA4.out).mono ?_; rintro e w5 ⟨hb5,gf,cf,c,far,dn,rfl,hf,hS⟩; have HB5 := hid (HB4.out.trans (hb5.mono HB4.out.size)); have HF5 := hid hf; have HS5 := hid hS; clear hb5 hf hS))
 go_ret
 refine ⟨(List.range (1 + x.cus.length - 1)).map (fun j => valI far (1 + j)),some ⟨gf,1,none⟩,c,by simp,?_,⟨by simp,fun c hc => ?_⟩,HB5.out⟩
 ·have h := Z4x HF5.out HN.out
  simpa using h
 ·obtain ⟨d,h1,h2,h3⟩ := HS5.out.told (i := 1 + c) (Zj0 Z33) (checkV_zero.1 HO.out.1).2 (by omega) (fullW_some.2 ⟨⟨by omega,by omega,by omega⟩,rfl⟩)
  refine ⟨d,Zg3 HS.out hc h3,?_⟩; rw [List.getElem?_map,List.getElem?_range (by omega)]
  simp only [Option.map_some,h2]
end Go.Proofs.YtfkommjlmolniaaGreatDoor
end
section

namespace Go.Proofs.YtfkommjlmolniaaGreatDoor
set_option maxHeartbeats 16000000
set_option maxRecDepth 100000
open Go.Lib (hid)
open Go.RowKit
variable {w wr w2 : World} {A : InA} {x : Ins} {B g sb nb s i k p q : Nat} {far : Nat → Option Int} {dn : Nat → Bool}
def Z3h (x : Ins) : List Ar := Z1g (tmI x) (1 + x.sats.length) (1 + x.sats.length)
theorem Zg0 (hm : May x) : Z15 ((1 + x.sats.length : Nat) : Int) (Z3h x) = 0 ∧ ∀ y ∈ Z3h x,0 ≤ y.2.2 := Zbb (by have := hm.ns; omega) (Zj2 hm)
theorem Z6i (A : InA) (x : Ins) (w : World) (hi : IsIns w.heap.size w A x) (hl3 : x.cost.length ≤ 9223372036854775807) (hl4 : x.time.length ≤ 9223372036854775807) (hno : Z0m x ≠ 0) :
  Calls Tryz.prog 30 #[.agg (insC A x)] w (Empty w) := by
 have HX := hid (XBox.make (Below.refl _ w) A x); have HC := hid (fun (W : World) (h : IsIns W.heap.size W A x) => Z1x A x W h hl3 hl4); have HI := hid hi; clear hi hl3 hl4; generalize Z0m x = v at *; have heb : (v != 0) = true := by simpa using hno
 unfold insC at HC HX ⊢; go_enter Tryz.func30,Tryz.ntmps30
 go_wp2_with (go_at_call 14; refine (HC.out _ (HX.out.pipesHere HI.out)).mono ?_; rintro e w2 ⟨rfl,hb2⟩; have HX2 := hid (HX.out.later hb2); clear hb2)
 go_ret
 exact ⟨none,0,rfl,HX2.out.below⟩
def heldF (x : Ins) (f : Nat → Int) (k j : Nat) : Int := if 1 ≤ j ∧ j ≤ k then f j + (x.sats.getD (j - 1) (0,0)).2 else f j
theorem Zg1 (f : Nat → Int) (j : Nat) : heldF x f 0 j = f j := by unfold heldF; rw [if_neg (by omega)]
theorem Zix {f : Nat → Int} : heldF x f k (1 + k) = f (1 + k) := by unfold heldF; rw [if_neg (by omega)]
theorem Zg2 {f : Nat → Int} {h : Int} {j : Nat} (hh : (x.sats.getD k (0,0)).2 = h) : (if j = 1 + k then f (1 + k) + h else heldF x f k j) = heldF x f (k + 1) j := by
 unfold heldF; by_cases e : j = 1 + k
 ·subst e
  rw [if_pos rfl,if_pos (by omega),show 1 + k - 1 = k by omega,hh]
 ·rw [if_neg e]
  by_cases h2 : 1 ≤ j ∧ j ≤ k
  ·rw [if_pos h2,if_pos (by omega)]
  ·rw [if_neg h2,if_neg (by omega)]
theorem Ziy {f : Nat → Int} (h : s < k) : heldF x f k (1 + s) = f (1 + s) + (x.sats.getD s (0,0)).2 := by unfold heldF; rw [if_pos (by omega),show 1 + s - 1 = s by omega]
theorem Zaz (A : InA) (x : Ins) (w : World) (hi : IsIns w.heap.size w A x) (hm : May x) :
  Calls Tryz.prog 30 #[.agg (insC A x)] w (Nums w (ReadyOf x)) := by
 have HX := hid (XBox.make (Below.refl _ w) A x); have HE := hid hm.err; have HC := hid (fun (W : World) (h : IsIns W.heap.size W A x) => Z1x A x W h (by have := hm.lc; have := Z29 hm; omega) (by have := hm.lt; have := Z29 hm; omega))
 have HI := hid hi; have hns1 := hm.ns.1; have hns2 := hm.ns.2; have hmf : ∀ (fn : Fn) (first cap : Array Value) (w : World),(Instr.makeFunc fn first cap).run Tryz.prog w = .ok (.func fn first cap) w := fun _ _ _ _ => rfl
 have hcw : ((1 + x.sats.length : Nat) : Int) = 1 + (x.sats.length : Int) := by omega
 have hnn : x.nodes = 1 + x.sats.length + x.cus.length := rfl; have HW : Hid (∀ (W0 : World),InH w.heap.size W0 w.heap.size A x → Calls Tryz.prog 47 #[.int .i64 (1 + (x.sats.length : Int)),.func (.func 48) #[] #[.pointer (some ⟨w.heap.size,0,none⟩)]] W0 fun e w' => ∃ lv,e = .returned (.agg #[.int .i64 (1 + (x.sats.length : Int)),lv]) ∧ w'.ownsRow W0.heap.size 121 3 lv (Z3h x).length (flatA (Z3h x)) ∧ Below W0.heap.size W0 w') := hid (fun W0 hR => by
  have h := Z58 (N := 1 + x.sats.length) 48 #[.pointer (some ⟨w.heap.size,0,none⟩)] (fun _ _ => by kernel_rfl) (by omega) (tmI x) W0 (fun W hb i k hi hk _ => Zis hm W (hR.later hb) i k (by omega) (by omega))
  rw [hcw] at h; exact h)
 have HO := hid (Zg0 hm); have HN := hid (show 2 ≤ 1 + x.sats.length by omega)
 have HSH : Hid (∀ (W : World) (a : Option Addr) (cap : Nat),IsArcs W.heap.size W a (Z3h x).length (Z3h x) → Calls Tryz.prog 46 #[.agg #[.int .i64 (1 + (x.sats.length : Int)),.slice a (Z3h x).length cap]] W (Zme (Z3h x) (1 + x.sats.length) W)) := hid (fun W a cap h => by
  have h2 := Z3i HN.out a cap W HO.out.1 HO.out.2 h; rw [hcw] at h2; exact h2)
 have HM := hid hm; clear hi hm hcw hnn; unfold insC at HC HX ⊢; go_enter Tryz.func30,Tryz.ntmps30
 go_wp2_with (first
  | (go_at_call 14; refine (HC.out _ (HX.out.pipesHere HI.out)).mono ?_; rw [HE.out]; rintro e w2 ⟨rfl,hb2⟩; have HX2 := hid (HX.out.later hb2); have c5 := HX2.out.cells.2.2.2.2.2.1; clear hb2)
  | (go_at_call 47; refine (HW.out _ ⟨HX2.out.blk,HI.out.later HX2.out.below,HX2.out.below.size⟩).mono ?_; rintro e w3 ⟨lv,rfl,ho,hb3⟩; obtain ⟨va,vc,hv⟩ := Z04 ho; subst hv; have HA3 := hid (Z67 ho).2; have HX3 := hid (HX2.out.later hb3); clear ho hb3 c5)
  | (go_at_call 46; refine (HSH.out _ va vc HA3.out).mono ?_; rintro e w4 ⟨hb4,gf,cf,c,far,dn,rfl,hf,hS⟩; have HX4 := hid (HX3.out.later hb4); have HGF : Hid (w.heap.size < gf) := hid (by have := hf.base_.1; have := HX3.out.lt; omega); have HF4 := hid (hf.rebase HX3.out.below.size); have HS4 := hid hS; have c5 := HX4.out.cells.2.2.2.2.2.1; clear hb4 hf hS))
 have HL : Hid (∀ i,i < x.sats.length → 0 ≤ valI far (1 + i) ∧ valI far (1 + i) ≤ 1099511627776000) := hid (fun i hi => by
  obtain ⟨d,h1,h2,h3⟩ := HS4.out.told (i := 1 + i) Z33 (checkV_zero.1 HO.out.1).2 (by omega) (fullW_some.2 ⟨⟨by omega,by omega,by omega⟩,rfl⟩)
  have h4 := HS4.out.bnd (1 + i) d h1; have h5 := (Zdn (N := 1 + x.sats.length) (dn := dn)).2; rw [h2]; omega)
 have HF0 : Hid (LongRow w4 w.heap.size (.slice (some ⟨gf,0,none⟩) (1 + x.sats.length) cf) (1 + x.sats.length) (heldF x (valI far) 0)) := hid (HF4.out.congr (fun j _ => (Zg1 _ j).symm)); clear HF4 HA3 HX3 HX2 c5; have HXX : Hid (XBox w w4 w.heap.size A x) := HX4; clear HX4; go_loopw [19] (fun iv wr => ∃ k : Nat,iv = .int .i64 (k : Int) ∧ k ≤ x.sats.length ∧ Hid (XBox w wr w.heap.size A x) ∧ Hid (LongRow wr w.heap.size (.slice (some ⟨gf,0,none⟩) (1 + x.sats.length) cf) (1 + x.sats.length) (heldF x (valI far) k))) (fun iv _ => x.sats.length - (intOf iv).toNat)
 case atStart => exact ⟨0,rfl,Nat.zero_le _,HXX,HF0⟩
 case round =>
  obtain ⟨k,rfl,hk,HXR,HF⟩ := hrel; clear HXX HF0; by_cases hlt : k < x.sats.length
  ·have hk2 : k < x.sats.length := hlt
   obtain ⟨b,off,y,hsa,hb,hy,q0,q1⟩ := (HI.out.sats.later HXR.out.below).at_ hk2; obtain ⟨room,hold⟩ := y; simp only at q0 q1
   have hho := HM.out.hold_in hy; simp only at hho
   have hyd : (x.sats.getD k (0,0)).2 = hold := by rw [List.getD,hy]; rfl
   have HNX := hid (fun (j : Nat) (_ : j < 1 + x.sats.length) => Zg2 (x := x) (f := valI far) (j := j) hyd); obtain ⟨w5,hw5⟩ : ∃ w5,w5 = World.drew (wr.alloc (.cells #[.int .i64 room,.int .i64 hold] 51)) := ⟨_,rfl⟩; have hb5 : Below wr.heap.size wr w5 := by rw [hw5]; exact ((Below.refl _ _).alloc (Nat.le_refl _) _).drew
   have HX5 := hid (HXR.out.later hb5); have HF5 := hid (HF.out.below hb5); have s0 : w5.cell? ⟨wr.heap.size,0,none⟩ = some (.int .i64 room) := by rw [hw5]; simp
   have s1 : w5.cell? ⟨wr.heap.size,1,none⟩ = some (.int .i64 hold) := by rw [hw5]; simp
   have f0 := HF5.out.cell (i := 1 + k) (by omega)
   have f1 := HF5.out.frozen (1 + k); rw [Zix] at f0; have hin := HL.out k hk2; obtain ⟨z,hz⟩ : ∃ z,valI far (1 + k) = z := ⟨_,rfl⟩; have HZ := hid hz; rw [hz] at f0 hin; have zw : IntKind.i64.wrap (z + hold) = z + hold := by rw [IntKind.wrap_i64]; omega
   have HX6 : Hid (XBox w (w5.setCell ⟨gf,1 + k,none⟩ (.int .i64 (z + hold))) w.heap.size A x) := hid ⟨HX5.out.below.setCell (p := ⟨gf,1 + k,none⟩) (by have := HGF.out; show w.heap.size ≤ gf; omega) _,HX5.out.ge,(heap_setCell_other _ _ _ _ (by have := HGF.out; show w.heap.size ≠ gf; omega)).trans HX5.out.blk⟩
   have HF6 : Hid (LongRow (w5.setCell ⟨gf,1 + k,none⟩ (.int .i64 (z + hold))) w.heap.size (.slice (some ⟨gf,0,none⟩) (1 + x.sats.length) cf) (1 + x.sats.length) (heldF x (valI far) (k + 1))) := hid ((HF5.out.set_ (k := 1 + k) (by omega) (z + hold)).congr (fun j hj => by rw [← hz]; exact HNX.out j hj))
   rw [hsa]; have HSA := hid hsa; clear hb hy hyd hz hsa hb5 hk2; go_wp2_with fail
   refine wp_region_still_tail 8 (by kernel_rfl) (by kernel_rfl) ?_
   simp only [List.take_succ_cons,List.take_zero,List.drop_succ_cons,List.drop_zero]
   change wpStill _ _ (World.drew (wr.alloc (.cells #[.int .i64 room,.int .i64 hold] 51))) (fun a' => wpList _ _ _ _ a' (World.drew (wr.alloc (.cells #[.int .i64 room,.int .i64 hold] 51)))) _ _
   rw [← hw5]; clear hw5; repeat still_step
   refine wpStill_nil ?_; go_wp2_with fail
   go_roundw
   case rel => exact ⟨k + 1,by go_num,by omega,HX6,HF6⟩
   case measure => simp [intOf]; omega
  ·obtain rfl : k = x.sats.length := by omega
   go_wp2_with fail
   go_ret
   refine ⟨(List.range (1 + x.sats.length - 1)).map (fun j => heldF x (valI far) x.sats.length (1 + j)),some ⟨gf,1,none⟩,c,by simp,?_,⟨by simp,fun s hs => ?_⟩,HXR.out.below⟩
   ·have h := Z4x HF.out HN.out
    simpa using h
   ·obtain ⟨d,h1,h2,h3⟩ := HS4.out.told (i := 1 + s) Z33 (checkV_zero.1 HO.out.1).2 (by omega) (fullW_some.2 ⟨⟨by omega,by omega,by omega⟩,rfl⟩)
    refine ⟨d,Zb0 (by omega) h3,?_⟩
    rw [List.getElem?_map,List.getElem?_range (by omega)]
    simp only [Option.map_some,Ziy hs,h2]
end Go.Proofs.YtfkommjlmolniaaGreatDoor
end
section

namespace Go.Proofs.YtfkommjlmolniaaGreatDoor
open Go.Lib (hid)
open Go.RowKit
theorem Znq (n : Int) (h0 : 0 ≤ n) (h1 : n < 64) : IntKind.u64.wrap (2 ^ n.toNat) = ((onlyN n : Nat) : Int) := by
 have e : onlyN n = 2 ^ n.toNat := if_pos ⟨h0,h1⟩; have hl := Z2u n; rw [e] at hl ⊢; rw [IntKind.wrap_u64]; have e2 : ((2 ^ n.toNat : Nat) : Int) = (2 : Int) ^ n.toNat := by simp
 rw [← e2]; omega
theorem Ze6 (n : Int) (w : World) : Calls Tryz.prog 83 #[.int .i64 n] w fun e w' => e = .returned (.int .u64 (onlyN n : Nat)) ∧ w = w' := by
 by_cases h0 : n < 0
 ·have hv : Hid (onlyN n = 0) := hid (if_neg (by omega))
  go_enter Tryz.func83,Tryz.ntmps83
  go_wp2
  go_ret
  exact ⟨by rw [hv.out]; rfl,rfl⟩
 ·by_cases h1 : n < 64
  ·have p0 : 0 ≤ n := by omega
   have hv := hid (Znq n p0 h1); go_enter Tryz.func83,Tryz.ntmps83
   go_wp2
   go_ret
   exact ⟨by rw [← hv.out]; rfl,rfl⟩
  ·have hv : Hid (onlyN n = 0) := hid (if_neg (by omega))
   have p1 : 64 ≤ n := by omega
   go_enter Tryz.func83,Tryz.ntmps83
   go_wp2
   go_ret
   exact ⟨by rw [hv.out]; rfl,rfl⟩
theorem Z5l (s : Nat) (hs : s < 18446744073709551616) (n : Int) (w : World) : Calls Tryz.prog 59 #[.int .u64 (s : Nat),.int .i64 n] w fun e w' => e = .returned (.int .u64 (withN s n : Nat)) ∧ w = w' := by
 have hv := hid (u64_or_nat s (onlyN n) hs (Z2u n)); have hl := Z2u n; go_enter Tryz.func59,Tryz.ntmps59
 go_wp2_with (go_at_call 83; refine (Ze6 _ _).mono ?_; rintro e w' ⟨rfl,rfl⟩)
 go_ret
 exact ⟨Z8s hv.out,rfl⟩
end Go.Proofs.YtfkommjlmolniaaGreatDoor
end
section

namespace Go.Proofs.YtfkommjlmolniaaGreatDoor
set_option maxHeartbeats 16000000
set_option maxRecDepth 100000
open Go.Lib (hid)
open Go.RowKit
variable {w wr w2 : World} {A : InA} {x : Ins} {B g s i k p q c z : Nat} {rd ou ba : List Int}
theorem Zlo {ld op cl st sr ho r o b : Int} (hc : x.cus[c]? = some (ld,op,cl,st)) (hs : x.sats[s]? = some (sr,ho)) (hr : rd[s]? = some r) (h1 : ou[c]? = some o) (h2 : ba[c]? = some b) :
  mayI x rd ou ba s c = (decide (ld ≤ min sr x.br) && decide (max op (r + o) ≤ cl) && decide (max op (r + o) + b ≤ x.en)) := by
 have e1 : x.cus.getD c (0,0,0,0) = (ld,op,cl,st) := by rw [List.getD,hc]; rfl
 have e2 : x.sats.getD s (0,0) = (sr,ho) := by rw [List.getD,hs]; rfl
 have e3 : rd.getD s 0 = r := by rw [List.getD,hr]; rfl
 have e4 : ou.getD c 0 = o := by rw [List.getD,h1]; rfl
 have e5 : ba.getD c 0 = b := by rw [List.getD,h2]; rfl
 unfold mayI; rw [e1,e2,e3,e4,e5,Int.max_comm (r + o) op]; simp only
 congr 2
 apply Bool.eq_iff_iff.2
 simp only [Bool.and_eq_true,decide_eq_true_eq]
 omega
def ServeTo (z k : Nat) (f : Nat → Bool) : Prop := z < 18446744073709551616 ∧ ∀ c,c < 64 → z.testBit c = (decide (c < k) && f c)
theorem ServeTo.zero (f : Nat → Bool) : ServeTo 0 0 f := ⟨by decide,fun c _ => by simp⟩
theorem ServeTo.no {f : Nat → Bool} (h : ServeTo z k f) (hf : f k = false) : ServeTo z (k + 1) f := ⟨h.1,fun c hc => by
 rw [h.2 c hc]; by_cases e : c = k
 ·subst e; simp [hf]
 ·have : (c < k + 1) = (c < k) := by apply propext; omega
  simp only [this]⟩
theorem ServeTo.yes {f : Nat → Bool} (h : ServeTo z k f) (hf : f k = true) (hk : k < 64) : ServeTo (withN z (k : Int)) (k + 1) f := ⟨Zd0 h.1 _,fun c hc => by
 rw [Zd2,h.2 c hc]; by_cases e : c = k
 ·subst e
  have : decide ((0 : Int) ≤ (c : Int) ∧ (c : Int) < 64 ∧ (c : Int).toNat = c) = true := by simp; omega
  rw [this]; simp [hf]
 ·have h1 : decide ((0 : Int) ≤ (k : Int) ∧ (k : Int) < 64 ∧ (k : Int).toNat = c) = false := by simp; omega
  have h2 : (c < k + 1) = (c < k) := by apply propext; omega
  rw [h1,Bool.or_false]; simp only [h2]⟩
def Zob (x : Ins) (rd : List Int) (s : Nat) (w : World) (e : Ending) (w' : World) : Prop := ∃ (z : Nat) (ou ba : List Int),e = .returned (.int .u64 (z : Int)) ∧ OutOf x s ou ∧ BackOf x s ba ∧ ServeTo z x.cus.length (fun c => mayI x rd ou ba s c) ∧ Below w.heap.size w w'
theorem Ziz (A : InA) (x : Ins) (w : World) (hi : IsIns w.heap.size w A x) (hm : May x) (hrd : ReadyOf x rd) {r : Int} (hs : s < x.sats.length) (hr : rd[s]? = some r) :
  Calls Tryz.prog 50 #[.agg (insC A x),.int .i64 (s : Int),.int .i64 r] w (Zob x rd s w) := by
 have HX := hid (XBox.make (Below.refl _ w) A x); have HI := hid hi; have HM := hid hm; have HS := hid hs; have HR := hid hr; have HO := hid (fun (W : World) (h : XBox w W w.heap.size A x) => Ziw A x W (h.pipesHere hi) hm hs); have HB := hid (fun (W : World) (h : XBox w W w.heap.size A x) => Ze0 A x W (h.pipesHere hi) hm hs); have hrin := hrd.in_ hm hr; have hnc1 := hm.nc.1; have hnc2 := hm.nc.2; have hns2 := hm.ns.2; have HX1 : Hid (XBox w (w.alloc (.cells (insC A x) 34)).drew w.heap.size A x) := hid (HX.out.later (Below.refl _ _).drew); clear hi hm hrd hr; unfold insC at HX HX1 HO HB ⊢; go_enter Tryz.func50,Tryz.ntmps50
 go_wp2_with fail
 refine wp_region_held_drew (S := fun Wz => XBox w Wz w.heap.size A x) (by kernel_rfl) HX1.out (fun hHeld => ?_)
 refine stpT 0 hHeld ?_ (y := fun Wz hWz => by obtain ⟨c0,c1,c2,c3,c4,c5,c6,c7,c8⟩ := XBox.cells hWz; go_simp; (try with_reducible rfl))
 try simp only [Act.put,List.setIfInBounds_toArray,List.set_cons_zero,List.set_cons_succ,List.getElem_toArray,List.getElem_cons_zero]
 refine stpT 1 hHeld ?_ (y := fun Wz hWz => by obtain ⟨c0,c1,c2,c3,c4,c5,c6,c7,c8⟩ := XBox.cells hWz; go_simp; (try with_reducible rfl))
 try simp only [Act.put,List.setIfInBounds_toArray,List.set_cons_zero,List.set_cons_succ,List.getElem_toArray,List.getElem_cons_zero,List.getElem_cons_succ]
 refine stpT 3 hHeld ?_ (y := fun Wz hWz => by obtain ⟨c0,c1,c2,c3,c4,c5,c6,c7,c8⟩ := XBox.cells hWz; go_simp; (try with_reducible rfl))
 try simp only [Act.put,List.setIfInBounds_toArray,List.set_cons_zero,List.set_cons_succ,List.getElem_toArray,List.getElem_cons_zero,List.getElem_cons_succ]
 refine stpT 4 hHeld ?_ (y := fun Wz hWz => by obtain ⟨c0,c1,c2,c3,c4,c5,c6,c7,c8⟩ := XBox.cells hWz; go_simp; (try with_reducible rfl))
 try simp only [Act.put,List.setIfInBounds_toArray,List.set_cons_zero,List.set_cons_succ,List.getElem_toArray,List.getElem_cons_zero,List.getElem_cons_succ]
 refine stpR 2 (fun K hK => ?_); go_simp; refine (HO.out _ hHeld).mono ?_; rintro e w3 ⟨ou,oa,oc,rfl,hn3,hou,hb3⟩; have hd3 := XBox.later hHeld hb3; have HN3 := hid hn3; have HOU := hid hou; clear hb3 hn3 hou; refine hK.out _ _ ?_ (fun hHeld => ?_)
 ·exact hd3
 clear hK K; try simp only [Act.put,List.setIfInBounds_toArray,List.set_cons_zero,List.set_cons_succ,List.getElem_toArray,List.getElem_cons_zero,List.getElem_cons_succ]
 refine stpR 5 (fun K hK => ?_); go_simp; refine (HB.out _ hHeld).mono ?_; rintro e w4 ⟨ba,ba_,bc,rfl,hn4,hba,hb4⟩; have hd4 := XBox.later hHeld hb4; have HN4 := hid hn4; have HBA := hid hba; have HO4 := hid ((HN3.out.later hb4).mono hb4.size); clear hb4 hn4 hba; refine hK.out _ _ ?_ (fun hHeld => ?_)
 ·exact hd4
 clear hK K; try simp only [Act.put,List.setIfInBounds_toArray,List.set_cons_zero,List.set_cons_succ,List.getElem_toArray,List.getElem_cons_zero,List.getElem_cons_succ]
 refine stpT 6 hHeld ?_ (y := fun Wz hWz => by obtain ⟨c0,c1,c2,c3,c4,c5,c6,c7,c8⟩ := XBox.cells hWz; go_simp; (try with_reducible rfl))
 try simp only [Act.put,List.setIfInBounds_toArray,List.set_cons_zero,List.set_cons_succ,List.getElem_toArray,List.getElem_cons_zero,List.getElem_cons_succ]
 refine stpT 7 hHeld ?_ (y := fun Wz hWz => by obtain ⟨c0,c1,c2,c3,c4,c5,c6,c7,c8⟩ := XBox.cells hWz; go_simp; (try with_reducible rfl))
 try simp only [Act.put,List.setIfInBounds_toArray,List.set_cons_zero,List.set_cons_succ,List.getElem_toArray,List.getElem_cons_zero,List.getElem_cons_succ]
 refine wpAnyH_done (by kernel_rfl) ?_ _
 have HX4 := hid hd4; clear hHeld hd4 hd3 HX1 HX HN3 HO HB; obtain ⟨b1,o1,y,hsa,hb1,hy,q0,q1⟩ := (HI.out.sats.later HX4.out.below).at_ hs; obtain ⟨sr,ho⟩ := y; simp only at q0 q1
 obtain ⟨c0,c1,c2,c3,c4,c5,c6,c7,c8⟩ := HX4.out.cells; rw [hsa] at c5; have HSA := hid hsa; have HY := hid hy; have s1 : (0 : Int) ≤ (s : Int) := by omega
 have s2 : (s : Int) < (x.sats.length : Int) := by omega
 clear hsa hy; obtain ⟨w5,hw5⟩ : ∃ w5,w5 = World.drew w4 := ⟨_,rfl⟩; have hb5 : Below w4.heap.size w4 w5 := by rw [hw5]; exact (Below.refl _ _).drew
 have HX5 := hid (HX4.out.later hb5); have HO5 := hid ((HO4.out.later hb5).mono hb5.size); have HB5 := hid ((HN4.out.later hb5).mono hb5.size); obtain ⟨e0,e1,e2,e3,e4,e5,e6,e7,e8⟩ := HX5.out.cells; rw [HSA.out] at e5; obtain ⟨b2,o2,hca,hb2,hpr⟩ : ∃ b off,A.ca = some ⟨b,off,none⟩ ∧ b < w.heap.size ∧ PiRow w b off x.cus := by
  rcases HI.out.cus.2 with h | h
  ·omega
  ·exact h
 rw [hca] at e6; have HPR := hid hpr; have HB2 := hid hb2; obtain ⟨bo,oo,hoa,hbo,hoc⟩ : ∃ b off,oa = some ⟨b,off,none⟩ ∧ b < w5.heap.size ∧ ∀ (j : Nat) (v : Int),ou[j]? = some v → w5.cell? ⟨b,off + j,none⟩ = some (.int .i64 v) := by
  rcases HO5.out.2 with h | h
  ·have := HOU.out.1; omega
  ·exact h
 subst hoa; have HBO := hid hbo; have HOC := hid hoc; obtain ⟨bb,ob,hba,hbb,hbc⟩ : ∃ b off,ba_ = some ⟨b,off,none⟩ ∧ b < w5.heap.size ∧ ∀ (j : Nat) (v : Int),ba[j]? = some v → w5.cell? ⟨b,off + j,none⟩ = some (.int .i64 v) := by
  rcases HB5.out.2 with h | h
  ·have := HBA.out.1; omega
  ·exact h
 subst hba; have HBB := hid hbb; have HBC := hid hbc; have HOL := hid HOU.out.1; have HBL := hid HBA.out.1; clear hpr hb2 hbo hoc hbb hbc hca HO5 HB5; have q5 : w5.cell? ⟨b1,o1 + s * 2,none⟩ = some (.int .i64 sr) := by rw [hw5]; exact q0
 obtain ⟨room,hroom⟩ : ∃ m,min sr x.br = m := ⟨_,rfl⟩; have hrm : (if x.br < sr then x.br else sr) = room := by rw [← hroom]; split <;> omega
 clear c0 c1 c2 c3 c4 c5 c6 c7 c8 HO4 HN4 HX4 hb5 q0 q1; go_wp2_with fail
 refine wp_region_still_lit (by kernel_rfl) (by kernel_rfl) ?_
 change wpStill _ _ (World.drew w4) (fun a' => Exit.then _ _ _ a' (World.drew w4)) _ _
 rw [← hw5]; clear hw5; repeat still_step
 refine wpStill_nil ?_; have HROOM := hid hroom; clear hroom hrm e0 e1 e2 e3 e4 e5 e7 e8 q5 s1 s2; have HZ0 := hid (ServeTo.zero (fun c => mayI x rd ou ba s c)); have HBW0 : Hid (Below w5.heap.size w5 w5) := hid (Below.refl _ _); go_wp2_with fail
 clear e6; go_loopw [10,33] (fun lv iv wr => ∃ (k z : Nat),lv = .int .u64 (z : Int) ∧ iv = .int .i64 (k : Int) ∧ k ≤ x.cus.length ∧ Hid (ServeTo z k (fun c => mayI x rd ou ba s c)) ∧ Hid (Below w5.heap.size w5 wr)) (fun _ iv _ => x.cus.length - (intOf iv).toNat)
 case atStart => exact ⟨0,0,rfl,rfl,Nat.zero_le _,HZ0,HBW0⟩
 case round =>
  obtain ⟨k,z,rfl,rfl,hk,HZ,HBW⟩ := hrel; clear HZ0 HBW0; by_cases hlt : k < x.cus.length
  ·obtain ⟨cu,hy⟩ : ∃ cu,x.cus[k]? = some cu := ⟨_,List.getElem?_eq_getElem hlt⟩
   obtain ⟨p0,p1,p2,p3⟩ := HPR.out.of_block ((HX5.out.later HBW.out).below.block b2 HB2.out) k _ hy; obtain ⟨o,hov⟩ : ∃ o,ou[k]? = some o := ⟨_,List.getElem?_eq_getElem (by have := HOL.out; omega)⟩
   obtain ⟨bk,hbv⟩ : ∃ o,ba[k]? = some o := ⟨_,List.getElem?_eq_getElem (by have := HBL.out; omega)⟩
   have hoin := HOU.out.in_ HM.out HS.out hov; have hbin := HBA.out.in_ HM.out HS.out hbv; have hcb := HM.out.cus _ (List.mem_of_getElem? hy); obtain ⟨ld,op,cl,st⟩ := cu; simp only at p0 p1 p2 p3
   simp [cusB,inB_] at hcb
   have HMV := hid (Zlo hy HY.out HR.out hov hbv); rw [HROOM.out] at HMV; obtain ⟨tt,htt⟩ : ∃ m,max op (r + o) = m := ⟨_,rfl⟩; have hmx : (if op < r + o then r + o else op) = tt := by rw [← htt]; split <;> omega
   have htin : 0 ≤ tt ∧ tt ≤ 5000000000 := by omega
   rw [htt] at HMV; have row : IntKind.i64.wrap (r + o) = r + o := by rw [IntKind.wrap_i64]; omega
   have tbw : IntKind.i64.wrap (tt + bk) = tt + bk := by rw [IntKind.wrap_i64]; omega
   obtain ⟨w6,hw6⟩ : ∃ w6,w6 = World.drew (wr.alloc (.cells #[.int .i64 ld,.int .i64 op,.int .i64 cl,.int .i64 st] 53)) := ⟨_,rfl⟩; have hb6 : Below wr.heap.size wr w6 := by rw [hw6]; exact ((Below.refl _ _).alloc (Nat.le_refl _) _).drew
   have HBW6 := hid (HBW.out.trans (hb6.mono HBW.out.size)); have v0 : w6.cell? ⟨wr.heap.size,0,none⟩ = some (.int .i64 ld) := by rw [hw6]; simp
   have v1 : w6.cell? ⟨wr.heap.size,1,none⟩ = some (.int .i64 op) := by rw [hw6]; simp
   have v2 : w6.cell? ⟨wr.heap.size,2,none⟩ = some (.int .i64 cl) := by rw [hw6]; simp
   have v3 := (HBW6.out.cell (p := ⟨bo,oo + k,none⟩) HBO.out).trans (HOC.out k o hov); have v4 := (HBW6.out.cell (p := ⟨bb,ob + k,none⟩) HBB.out).trans (HBC.out k bk hbv); have v5 := (HX5.out.later HBW6.out).cells.1; have hkl : (k : Int) < (ou.length : Int) := by have := HOL.out; omega
   have hkb : (k : Int) < (ba.length : Int) := by have := HBL.out; omega
   have hk0 : (0 : Int) ≤ (k : Int) := by omega
   have HTT := hid htt; have HK48 := hid (show k < 64 by omega)
   clear hy hov hbv htt hcb hb6 hmx; go_wp2_with fail
   refine wp_region_still_lit (by kernel_rfl) (by kernel_rfl) ?_
   change wpStill _ _ (World.drew (wr.alloc (.cells #[.int .i64 ld,.int .i64 op,.int .i64 cl,.int .i64 st] 53))) (fun a' => Exit.then _ _ _ a' (World.drew (wr.alloc (.cells #[.int .i64 ld,.int .i64 op,.int .i64 cl,.int .i64 st] 53)))) _ _
   rw [← hw6]; clear hw6; repeat still_step
   refine wpStill_nil ?_; rw [HTT.out]; by_cases h1 : ld ≤ room
   ·have d1 : decide (ld ≤ room) = true := decide_eq_true h1
    by_cases h2 : tt ≤ cl
    ·have d2 : decide (tt ≤ cl) = true := decide_eq_true h2
     by_cases h3 : tt + bk ≤ x.en
     ·have d3 : decide (tt + bk ≤ x.en) = true := decide_eq_true h3
      have HNX := hid (HZ.out.yes (by rw [HMV.out,d1,d2,d3]; rfl) HK48.out)
      have HWI := hid (Z5l z HZ.out.1 (k : Int)); clear HMV; go_wp2_with fail
      go_quiet (fail)
      have HBQ := hid (HBW6.out.trans ((Z03 (Below.refl _ _) nq).mono HBW6.out.size)); go_wp2_with (go_at_call 59; refine (HWI.out _).mono ?_; rintro e w8 ⟨rfl,rfl⟩)
      go_roundw
      case rel => exact ⟨k + 1,_,rfl,by go_num,by omega,HNX,HBQ⟩
      case measure => simp [intOf]; omega
     ·have d3 : decide (tt + bk ≤ x.en) = false := decide_eq_false h3
      have HNX := hid (HZ.out.no (by rw [HMV.out,d1,d2,d3]; rfl))
      clear HMV; go_wp2_with fail
      go_quiet (fail)
      have HBQ := hid (HBW6.out.trans ((Z03 (Below.refl _ _) nq).mono HBW6.out.size)); go_wp2_with fail
      go_roundw
      case rel => exact ⟨k + 1,_,rfl,by go_num,by omega,HNX,HBQ⟩
      case measure => simp [intOf]; omega
    ·have d2 : decide (tt ≤ cl) = false := decide_eq_false h2
     have HNX := hid (HZ.out.no (by rw [HMV.out,d1,d2]; rfl))
     clear HMV; go_wp2_with fail
     go_quiet (fail)
     have HBQ := hid (HBW6.out.trans ((Z03 (Below.refl _ _) nq).mono HBW6.out.size)); go_wp2_with fail
     go_roundw
     case rel => exact ⟨k + 1,_,rfl,by go_num,by omega,HNX,HBQ⟩
     case measure => simp [intOf]; omega
   ·have d1 : decide (ld ≤ room) = false := decide_eq_false h1
    have HNX := hid (HZ.out.no (by rw [HMV.out,d1]; rfl))
    clear HMV; go_wp2_with fail
    go_quiet (fail)
    have HBQ := hid (HBW6.out.trans ((Z03 (Below.refl _ _) nq).mono HBW6.out.size)); go_wp2_with fail
    go_roundw
    case rel => exact ⟨k + 1,_,rfl,by go_num,by omega,HNX,HBQ⟩
    case measure => simp [intOf]; omega
  ·obtain rfl : k = x.cus.length := by omega
   go_wp2_with fail
   go_ret
   exact ⟨z,ou,ba,rfl,HOU.out,HBA.out,HZ.out,(HX5.out.later HBW.out).below⟩
end Go.Proofs.YtfkommjlmolniaaGreatDoor
end

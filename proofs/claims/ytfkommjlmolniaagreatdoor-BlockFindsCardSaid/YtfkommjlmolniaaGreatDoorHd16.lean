/- Joined: RShort, IPick, IChk, IRange. -/
import Derived.Test.YtfkommjlmolniaaGreatDoorHd15
import Derived.Test.YtfkommjlmolniaaGreatDoorHsWaysR
import Derived.Test.YtfkommjlmolniaaGreatDoorHd1
import Derived.Deep.LoopGhost
import Derived.LoopTactic
set_option linter.unusedVariables false
section

namespace Go.Proofs.YtfkommjlmolniaaGreatDoor
open Go.Lib (hid)
open Go.RowKit
variable {w w2 : World} {T : Nat → Nat → Int} {N i k s c len cap : Nat} {l : List Ar} {W : Nat → Nat → Option Int} {far : Nat → Option Int} {dn : Nat → Bool} {a : Option Addr} {x : Ins} {d : Int}
def Zme (l : List Ar) (N : Nat) (w : World) (e : Ending) (w' : World) : Prop := Below w.heap.size w w' ∧ ∃ (gf cf c : Nat) (far : Nat → Option Int) (dn : Nat → Bool),e = .returned (.slice (some ⟨gf,1,none⟩) (N - 1) c) ∧
 LongRow w' w.heap.size (.slice (some ⟨gf,0,none⟩) N cf) N (valI far) ∧ SrchH l 0 N far dn []
set_option maxHeartbeats 1000000 in
theorem Z3i (hN : 2 ≤ N) (a : Option Addr) (cap : Nat) (w : World) (hc : Z15 (N : Int) l = 0) (hw0 : ∀ x ∈ l,0 ≤ x.2.2) (hl : IsArcs w.heap.size w a len l) :
  Calls Tryz.prog 46 #[.agg #[.int .i64 (N : Int),.slice a len cap]] w (Zme l N w) := by
 have HG := hid (Box.make (Below.refl _ w) (N : Int) a len cap); have HNR := hid (fun (W' : World) (h : IsArcs W'.heap.size W' a len l) => Znc N 0 len cap l a W' (by omega) hc hw0 h)
 have HL := hid hl; clear hc hw0 hl; go_enter Tryz.func46,Tryz.ntmps46
 go_wp2_with fail
 refine (HNR.out _ (HG.out.arcsHere HL.out)).mono ?_; rintro e w2 ⟨hb2,gf,cf,vb,far,dn,by_,rfl,hf,hI,hS⟩; obtain ⟨va,vc,hv⟩ := Z04 hI; subst hv; obtain ⟨g2,c2,e2,_,_,hc1,hc2⟩ := Z0x hf (by omega)
 obtain rfl : cf = c2 := by injection e2
 have hca : ¬ cf = 1 := by omega
 have hcl : ¬ N < 1 := by omega
 have hcn : N ≤ cf := by omega
 have HB2 := hid (HG.out.below.trans (hb2.mono HG.out.below.size)); have HF2 := hid ((hf.below ((Below.refl _ _).alloc (Nat.le_refl _) (.cells #[.slice (some ⟨gf,0,none⟩) N cf,.slice va N vc] 117))).rebase HG.out.below.size); have HS2 := hid hS; clear hf hS hb2 e2 hc1 hc2 hI; go_wp2_with fail
 go_ret
 exact ⟨HB2.out.alloc HB2.out.size _,gf,cf,_,far,dn,rfl,HF2.out,HS2.out⟩
/-! ### What is told -/
theorem SrchH.told (h : SrchH l 0 N far dn []) (ha : ArcsOf l W) (hok : ∀ x ∈ l,okA (N : Int) x = true) (hN : 0 < N) {e : Int} (hw : W 0 i = some e) : ∃ d,far i = some d ∧ valI far i = d ∧ LeastW W 0 i d := by
 obtain ⟨d,h1,h2⟩ := ha.found h.base h.led hok hN hw; exact ⟨d,h1,Z49 h1,h2⟩
theorem Zj0 (ha : ArcsOf l W) : ArcsOf (turned l) (fun i k => W k i) := ⟨fun x hx => by
 unfold turned at hx; rw [List.mem_map] at hx; obtain ⟨y,hy,rfl⟩ := hx; obtain ⟨i,k,h1,h2,h3⟩ := ha.arc y hy; exact ⟨k,i,h2,h1,h3⟩,fun i k c h => by
 obtain ⟨y,hy,h1,h2,h3⟩ := ha.all k i c h; exact ⟨_,List.mem_map.2 ⟨y,hy,rfl⟩,h2,h1,h3⟩⟩
theorem Zj1 (hc : Z15 (N : Int) l = 0) (hw0 : ∀ x ∈ l,0 ≤ x.2.2) : Z15 (N : Int) (turned l) = 0 ∧ ∀ x ∈ turned l,0 ≤ x.2.2 := by
 obtain ⟨h1,h2⟩ := checkV_zero.1 hc; refine ⟨checkV_zero.2 ⟨by unfold turned; rw [List.length_map]; exact h1,fun x hx => ?_⟩,fun x hx => ?_⟩
 ·unfold turned at hx
  rw [List.mem_map] at hx; obtain ⟨y,hy,rfl⟩ := hx; have := okA_true.1 (h2 y hy); exact okA_true.2 ⟨this.2.1,this.1,this.2.2⟩
 ·unfold turned at hx
  rw [List.mem_map] at hx; obtain ⟨y,hy,rfl⟩ := hx; exact hw0 y hy
/-! ### By trucks -/
theorem Zj2 (hm : May x) : ∀ i k,i < 1 + x.sats.length → k < 1 + x.sats.length → 0 ≤ tmI x i k ∧ tmI x i k ≤ 1099511627776 := fun i k hi hk => by
 have hn : x.nodes = 1 + x.sats.length + x.cus.length := rfl; have := hm.tm_in (i := i) (k := k) (by omega) (by omega)
 omega
theorem Zb0 (hi : i < 1 + x.sats.length) (h : LeastW (fullW (tmI x) (1 + x.sats.length)) 0 i d) : LeastW (arcS x) 0 i d := by
 have hn : x.nodes = 1 + x.sats.length + x.cus.length := rfl; refine LeastW.named (f := fun i => i) (N := 1 + x.sats.length) (fun i k c hc => ?_) (fun i k c hc => ?_) (fun a b _ _ e => e) (by omega) hi h
 ·obtain ⟨⟨h1,h2,h3⟩,rfl⟩ := fullW_some.1 hc
  exact arcW_some.2 ⟨⟨by omega,by omega,h3,by simp [inS]; omega,by simp [inS]; omega⟩,by omega⟩
 ·obtain ⟨⟨h1,h2,h3,h4,h5⟩,rfl⟩ := arcW_some.1 hc
  simp only [inS,decide_eq_true_eq] at h4 h5
  exact ⟨i,k,rfl,rfl,h4,h5,fullW_some.2 ⟨⟨h4,h5,h3⟩,by omega⟩⟩
/-! ### By bikes -/
theorem Zlp (hm : May x) (hs : s < x.sats.length) : ∀ i k,i < 1 + x.cus.length → k < 1 + x.cus.length → 0 ≤ takeP x s i k ∧ takeP x s i k ≤ 1099511627776 := fun i k hi hk => by
 have h1 := Z30 hs hi; have h2 := Z30 hs hk; have := hm.tm_in h1 h2; have := hm.sty_in h1; unfold takeP; omega
theorem Z6j (hs : s < x.sats.length) {a b : Nat} (e : nodeP x s a = nodeP x s b) : a = b := by
 unfold nodeP at e; split at e <;> split at e <;> omega
theorem Ze1 : inC x s (nodeP x s i) = true := by
 unfold nodeP inC; split
 ·simp
 ·simp; omega
theorem Z32 (hs : s < x.sats.length) : (∀ i k c,fullW (takeP x s) (1 + x.cus.length) i k = some c → arcC x s (nodeP x s i) (nodeP x s k) = some c) ∧
  ∀ i k c,arcC x s i k = some c → ∃ a b,i = nodeP x s a ∧ k = nodeP x s b ∧ a < 1 + x.cus.length ∧ b < 1 + x.cus.length ∧ fullW (takeP x s) (1 + x.cus.length) a b = some c := by
 have hn : x.nodes = 1 + x.sats.length + x.cus.length := rfl; refine ⟨fun i k c hc => ?_,fun i k c hc => ?_⟩
 ·obtain ⟨⟨h1,h2,h3⟩,rfl⟩ := fullW_some.1 hc
  exact arcW_some.2 ⟨⟨Z30 hs h1,Z30 hs h2,fun e => h3 (Z6j hs e),Ze1,Ze1⟩,rfl⟩
 ·obtain ⟨⟨h1,h2,h3,h4,h5⟩,rfl⟩ := arcW_some.1 hc
  have place : ∀ j,j < x.nodes → inC x s j = true → ∃ p,j = nodeP x s p ∧ p < 1 + x.cus.length := fun j hj hin => by
   simp only [inC,Bool.or_eq_true,decide_eq_true_eq] at hin
   rcases hin with e | e
   ·exact ⟨0,e,by omega⟩
   ·exact ⟨j - x.sats.length,by rw [Z3g (by omega)]; omega,by omega⟩
  obtain ⟨a,rfl,ha⟩ := place i h1 h4; obtain ⟨b,rfl,hb⟩ := place k h2 h5; exact ⟨a,b,rfl,rfl,ha,hb,fullW_some.2 ⟨⟨ha,hb,fun e => h3 (by rw [e])⟩,rfl⟩⟩
theorem Zj3 (hs : s < x.sats.length) (hc : c < x.cus.length) (h : LeastW (fullW (takeP x s) (1 + x.cus.length)) 0 (1 + c) d) : LeastW (arcC x s) (1 + s) (1 + x.sats.length + c) d := by
 have h2 := LeastW.named (f := nodeP x s) (Z32 hs).1 (Z32 hs).2 (fun a b _ _ e => Z6j hs e) (by omega) (by omega) h
 rw [Z3v,Z3g (by omega),show x.sats.length + (1 + c) = 1 + x.sats.length + c by omega] at h2
 exact h2
theorem Zg3 (hs : s < x.sats.length) (hc : c < x.cus.length) (h : LeastW (fun i k => fullW (takeP x s) (1 + x.cus.length) k i) 0 (1 + c) d) : LeastW (arcC x s) (1 + x.sats.length + c) (1 + s) d := by
 have h1 := h.back (W2 := fullW (takeP x s) (1 + x.cus.length)) (fun i j c => Iff.rfl); have h2 := LeastW.named (f := nodeP x s) (Z32 hs).1 (Z32 hs).2 (fun a b _ _ e => Z6j hs e) (by omega) (by omega) h1
 rw [Z3v,Z3g (by omega),show x.sats.length + (1 + c) = 1 + x.sats.length + c by omega] at h2
 exact h2
theorem Z4x {gf cf : Nat} {f : Nat → Int} {B : Nat} (h : LongRow w B (.slice (some ⟨gf,0,none⟩) N cf) N f) (hN : 2 ≤ N) : IsNums w.heap.size w (some ⟨gf,1,none⟩) (N - 1) ((List.range (N - 1)).map (fun j => f (1 + j))) :=
 ⟨by simp,.inr ⟨gf,1,rfl,h.base_.2,fun j v hj => by
  rw [List.getElem?_map] at hj; by_cases hjn : j < N - 1
  ·rw [List.getElem?_range hjn] at hj
   simp only [Option.map_some,Option.some.injEq] at hj
   subst hj; exact h.cell (by omega)
  ·rw [List.getElem?_eq_none (by simp; omega)] at hj
   cases hj⟩⟩
end Go.Proofs.YtfkommjlmolniaaGreatDoor
end
section

namespace Go.Proofs.YtfkommjlmolniaaGreatDoor
open Go.RowKit
variable {w wr w2 : World} {A : InA} {x : Ins} {i k g B : Nat}
def Ins.pick (x : Ins) (i : Nat) : List (List Int) := if i = 0 then x.cost else x.time
def InA.pick (A : InA) (i : Nat) : Option Addr := if i = 0 then A.ka else A.ta
def InA.cap (A : InA) (i : Nat) : Nat := if i = 0 then A.kc else A.tc
theorem IsIns.rows (h : IsIns B w A x) (i : Nat) : IsRows B w (A.pick i) (x.pick i).length (x.pick i) := by
 unfold InA.pick Ins.pick; split
 ·exact h.cost
 ·exact h.time
end Go.Proofs.YtfkommjlmolniaaGreatDoor
end
section

namespace Go.Proofs.YtfkommjlmolniaaGreatDoor
set_option maxHeartbeats 16000000
set_option maxRecDepth 100000
open Go.Lib (hid)
open Go.RowKit
variable {w wr : World} {A : InA} {x : Ins} {B n : Nat} {a : Option Addr} {l : List Int}
def someB (n most : Int) : Bool := decide (1 ≤ n ∧ n ≤ most)
theorem Z12 {p q : Bool} (h : p = q) : Ending.returned (.bool p) = .returned (.bool q) := by rw [h]
theorem Z4a (n most : Int) (b : Bool) (w : World) (hb : someB n most = b) :
  Calls Tryz.prog 38 #[.int .i64 n,.int .i64 most] w fun e w' => e = .returned (.bool b) ∧ w' = w := by
 by_cases h1 : 1 ≤ n
 ·by_cases h2 : n ≤ most
  ·have e : b = true := by rw [← hb]; simp [someB,h1,h2]
   have d1 : decide (n ≥ 1) = true := decide_eq_true h1; have d2 : decide (n ≤ most) = true := decide_eq_true h2; subst e; go_enter Tryz.func38,Tryz.ntmps38
   go_wp2_with fail
   go_ret
   exact ⟨rfl,rfl⟩
  ·have e : b = false := by rw [← hb]; simp [someB,h2]
   have d1 : decide (n ≥ 1) = true := decide_eq_true h1; have d2 : decide (n ≤ most) = false := decide_eq_false h2; subst e; go_enter Tryz.func38,Tryz.ntmps38
   go_wp2_with fail
   go_ret
   exact ⟨rfl,rfl⟩
 ·have e : b = false := by rw [← hb]; simp [someB,h1]
  have d1 : decide (n ≥ 1) = false := decide_eq_false h1; subst e; go_enter Tryz.func38,Tryz.ntmps38
  go_wp2_with fail
  go_ret
  exact ⟨rfl,rfl⟩
def Zd9 (l : List Int) (low : Int) (k : Nat) : Prop := ∀ (j : Nat) (v : Int),j < k → l[j]? = some v → inB_ v low = true
theorem Zkm {low : Int} (h : Zd9 l low l.length) : l.all (fun v => inB_ v low) = true := by
 rw [List.all_eq_true]; intro v hv; obtain ⟨j,hj⟩ := List.getElem?_of_mem hv; exact h j v (List.getElem?_eq_some_iff.1 hj).1 hj
theorem Zda {low v : Int} {k : Nat} (h : l[k]? = some v) (hv : inB_ v low = false) : l.all (fun v => inB_ v low) = false := by
 apply Bool.eq_false_iff.2
 intro e; rw [List.all_eq_true] at e; have := e v (List.mem_of_getElem? h); rw [hv] at this; cases this
theorem Z0u (low : Int) (l : List Int) (a : Option Addr) (n c : Nat) (b : Bool) (w : World) (h : IsNums B w a n l) (hn : n ≤ 1000000) (hb : l.all (fun v => inB_ v low) = b) :
  Calls Tryz.prog 41 #[.int .i64 low,.slice a n c] w fun e w' => e = .returned (.bool b) ∧ w' = w := by
 have H := hid h; have HB := hid hb; have hl := h.1; clear h hb; have HS0 : Hid (Zd9 l low 0) := hid (fun j v hj => by omega)
 go_enter Tryz.func41,Tryz.ntmps41
 go_wp2_with fail
 go_loop [9] (fun iv => ∃ i : Nat,iv = .int .i64 (i : Int) ∧ i ≤ n ∧ Hid (Zd9 l low i)) (fun iv => n - (intOf iv).toNat)
 case atStart => exact ⟨0,rfl,Nat.zero_le _,HS0⟩
 case round =>
  obtain ⟨i,rfl,hi,HS⟩ := hrel; clear HS0; by_cases hlt : i < n
  ·obtain ⟨b1,o1,v,rfl,g1,q1⟩ := H.out.at_ hlt
   by_cases h1 : v < low
   ·have d1 : decide (v < low) = true := decide_eq_true h1
    have HE := hid (HB.out.symm.trans (Zda g1 (low := low) (by unfold inB_; rw [decide_eq_false (by omega)]; rfl)))
    clear g1; go_wp2_with fail
    go_ret
    exact ⟨Z12 HE.out.symm,rfl⟩
   ·have d1 : decide (v < low) = false := decide_eq_false h1
    by_cases h2 : v > 1000000000
    ·have d2 : decide (v > 1000000000) = true := decide_eq_true h2
     have HE := hid (HB.out.symm.trans (Zda g1 (low := low) (by unfold inB_; rw [Bool.and_comm,decide_eq_false (by omega)]; rfl)))
     clear g1; go_wp2_with fail
     go_ret
     exact ⟨Z12 HE.out.symm,rfl⟩
    ·have d2 : decide (v > 1000000000) = false := decide_eq_false h2
     have HT : Hid (Zd9 l low (i + 1)) := hid (fun j u hj hu => by
      by_cases e : j = i
      ·subst e; rw [g1] at hu; injection hu with hu; subst hu; unfold inB_; rw [decide_eq_true (by omega),decide_eq_true (by omega)]; rfl
      ·exact HS.out j u (by omega) hu)
     clear g1; go_wp2_with fail
     go_round
     case rel => exact ⟨i + 1,by go_num,by omega,HT⟩
     case measure => simp [intOf]; omega
  ·obtain rfl : i = n := by omega
   have HE := hid (HB.out.symm.trans (Zkm (by rw [hl]; exact HS.out)))
   go_wp2_with fail
   go_ret
   exact ⟨Z12 HE.out.symm,rfl⟩
theorem Z52 (A : InA) (x : Ins) (w : World) :
  Calls Tryz.prog 40 #[.agg (insC A x)] w fun e w' => e = .returned (.agg #[.slice A.ka x.cost.length A.kc,.slice A.ta x.time.length A.tc]) ∧ Below w.heap.size w w' := by
 have HG := hid (XBox.make (Below.refl _ w) A x); have HB := hid ((((Below.refl w.heap.size w).alloc (Nat.le_refl _) (.cells (insC A x) 34)).alloc (by simp) (.cells #[.slice none 0 0,.slice none 0 0] 32)))
 have c7 := HG.out.cells.2.2.2.2.2.2.2.1; have c8 := HG.out.cells.2.2.2.2.2.2.2.2; unfold insC at *; go_enter Tryz.func40,Tryz.ntmps40
 go_wp2_with fail
 have hsz : (w.alloc (.cells (insC A x) 34)).heap.size = w.heap.size + 1 := by simp
 unfold insC at hsz; refine bodyPost_ret (v := .agg #[.slice A.ka x.cost.length A.kc,.slice A.ta x.time.length A.tc]) ?_ rfl ⟨rfl,?_⟩
 ·simp only [results,Tryz.results40]
  simp [go_sem]
 ·exact ((Below.refl w.heap.size w).alloc (Nat.le_refl _) _).alloc (by simp) _
theorem Z62 (x : Ins) : x.count = (someB x.tm 60 && someB x.bm 60 && someB (x.sats.length : Int) 12 && someB (x.cus.length : Int) 48) := by
 unfold Ins.count someB; rw [show (decide ((1 : Int) ≤ (x.sats.length : Int) ∧ (x.sats.length : Int) ≤ 12)) = decide (1 ≤ x.sats.length ∧ x.sats.length ≤ 12) from decide_eq_decide.2 (by omega),show (decide ((1 : Int) ≤ (x.cus.length : Int) ∧ (x.cus.length : Int) ≤ 48)) = decide (1 ≤ x.cus.length ∧ x.cus.length ≤ 48) from decide_eq_decide.2 (by omega)]
theorem Z2v (A : InA) (x : Ins) (w : World) (b : Bool) (hb : x.count = b) :
  Calls Tryz.prog 26 #[.agg (insC A x)] w fun e w' => e = .returned (.bool b) ∧ Below w.heap.size w w' := by
 have HG := hid (XBox.make (Below.refl _ w) A x); obtain ⟨_,c1,_,c3,_,c5,c6,_⟩ := HG.out.cells; rw [Z62] at hb; subst hb; have HBE := hid HG.out.below; clear HG; unfold insC at *; cases b0 : someB x.tm 60 with
 | false =>
  go_enter Tryz.func26,Tryz.ntmps26
  go_wp2_with (go_at_call 38; refine (Z4a _ _ _ _ rfl).mono ?_; rintro e w2 ⟨rfl,rfl⟩; first | rw [b0])
  go_ret
  exact ⟨rfl,HBE.out⟩
 | true =>
  cases b1 : someB x.bm 60 with
  | false =>
   go_enter Tryz.func26,Tryz.ntmps26
   go_wp2_with (go_at_call 38; refine (Z4a _ _ _ _ rfl).mono ?_; rintro e w2 ⟨rfl,rfl⟩; first | rw [b0] | rw [b1])
   go_ret
   exact ⟨rfl,HBE.out⟩
  | true =>
   cases b2 : someB (x.sats.length : Int) 12 with
   | false =>
    go_enter Tryz.func26,Tryz.ntmps26
    go_wp2_with (go_at_call 38; refine (Z4a _ _ _ _ rfl).mono ?_; rintro e w2 ⟨rfl,rfl⟩; first | rw [b0] | rw [b1] | rw [b2])
    go_ret
    exact ⟨rfl,HBE.out⟩
   | true =>
    cases b3 : someB (x.cus.length : Int) 48 with
    | false =>
     go_enter Tryz.func26,Tryz.ntmps26
     go_wp2_with (go_at_call 38; refine (Z4a _ _ _ _ rfl).mono ?_; rintro e w2 ⟨rfl,rfl⟩; first | rw [b0] | rw [b1] | rw [b2] | rw [b3])
     go_ret
     exact ⟨rfl,HBE.out⟩
    | true =>
     go_enter Tryz.func26,Tryz.ntmps26
     go_wp2_with (go_at_call 38; refine (Z4a _ _ _ _ rfl).mono ?_; rintro e w2 ⟨rfl,rfl⟩; first | rw [b0] | rw [b1] | rw [b2] | rw [b3])
     go_ret
     exact ⟨rfl,HBE.out⟩
theorem Zaa (A : InA) (x : Ins) {i : Nat} (h : i < 2) : ∀ W,(Instr.index 85 (.agg #[.slice A.ka x.cost.length A.kc,.slice A.ta x.time.length A.tc]) (.int .i64 (i : Int))).run Tryz.prog W = .ok (.slice (A.pick i) (x.pick i).length (A.cap i)) W := by
 intro W; obtain rfl | rfl : i = 0 ∨ i = 1 := by omega
 ·kernel_rfl
 ·kernel_rfl
def Zdb (N : Nat) (L : List (List Int)) (k : Nat) : Prop := ∀ (j : Nat) (r : List Int),j < k → L[j]? = some r → r.length = N
theorem Zkn {N : Nat} {L : List (List Int)} (h : Zdb N L L.length) (e : L.length = N) : sqB N L = true := by
 unfold sqB; rw [decide_eq_true e,Bool.true_and,Z0w]; intro i hi; unfold lenB; have : L[i]? = some (L[i]'hi) := List.getElem?_eq_getElem hi; rw [Z11 this,h i _ hi this]; simp
theorem Zko {N k : Nat} {L : List (List Int)} {r : List Int} (h : L[k]? = some r) (hr : ¬ r.length = N) : sqB N L = false := by
 apply Bool.eq_false_iff.2
 intro e; unfold sqB at e; rw [Bool.and_eq_true,Z0w] at e; have := e.2 k (List.getElem?_eq_some_iff.1 h).1; rw [Z11 h] at this; simp [lenB,hr] at this
theorem Z4b (x : Ins) : x.size = (sqB x.nodes (x.pick 0) && sqB x.nodes (x.pick 1)) := rfl
theorem Zdc {i : Nat} (hi : i < 2) (h : sqB x.nodes (x.pick i) = false) : x.size = false := by
 rw [Z4b]; obtain rfl | rfl : i = 0 ∨ i = 1 := by omega
 ·rw [h]; rfl
 ·rw [h,Bool.and_false]
theorem Z63 (A : InA) (x : Ins) (w : World) (hi : IsIns w.heap.size w A x) (hs : x.sats.length + x.cus.length ≤ 1000) (hlc : x.cost.length ≤ 9223372036854775807) (hlt : x.time.length ≤ 9223372036854775807) (b : Bool) (hb : x.size = b) :
  Calls Tryz.prog 27 #[.agg (insC A x)] w fun e w' => e = .returned (.bool b) ∧ Below w.heap.size w w' := by
 have HG := hid (XBox.make (Below.refl _ w) A x); have HI := hid hi; have HB := hid hb; have HL : Hid (∀ i,i < 2 → (x.pick i).length ≤ 9223372036854775807) := hid (fun i _ => by unfold Ins.pick; split <;> assumption)
 clear hi hb hlc hlt; go_enter Tryz.func27,Tryz.ntmps27
 obtain ⟨N,hN⟩ : ∃ N,x.nodes = N := ⟨_,rfl⟩; have HN := hid hN; go_wp2_with (first
  | (go_at_call 39; refine (Znz A x N hN _ hs).mono ?_; rintro e w2 ⟨rfl,hb2⟩; have HG2 := hid (HG.out.later hb2); obtain ⟨k0,k1,k2,k3,k4,k5,k6,k7,k8⟩ := HG2.out.cells; clear hb2)
  | (go_at_call 40; refine (Z52 A x _).mono ?_; rintro e w3 ⟨rfl,hb3⟩; have HG3 := hid (HG2.out.below.trans (hb3.mono HG2.out.below.size)); clear hb3))
 clear k0 k1 k2 k3 k4 k5 k6 k7 k8; obtain ⟨wq,hwq⟩ : ∃ wq,wq = w3 := ⟨_,rfl⟩; have HS0 : Hid (∀ j,j < 0 → sqB N (x.pick j) = true) := hid (fun j hj => by omega)
 have HIP : Hid (∀ i,IsRows w.heap.size w3 (A.pick i) (x.pick i).length (x.pick i)) := hid (fun i => (HI.out.later HG3.out).rows i); clear HI HG HG2 hN hwq; go_loop [12] (fun iv => ∃ i : Nat,iv = .int .i64 (i : Int) ∧ i ≤ 2 ∧ Hid (∀ j,j < i → sqB N (x.pick j) = true)) (fun iv => 2 - (intOf iv).toNat)
 case atStart => exact ⟨0,rfl,Nat.zero_le _,HS0⟩
 case round =>
  obtain ⟨i,rfl,hi,HS⟩ := hrel; clear HS0; by_cases hlt : i < 2
  ·have hx := Zaa A x hlt
   have HRI := hid (HIP.out i); have hpl := HL.out i hlt; obtain ⟨L,hL⟩ : ∃ L,x.pick i = L := ⟨_,rfl⟩; have HLE := hid hL; rw [hL] at hx HRI hpl; clear hL; generalize A.pick i = pa at hx HRI; generalize A.cap i = pc at hx; by_cases hLN : L.length = N
   ·have d1 : ((L.length : Int) != (N : Int)) = false := by simp [hLN]
    have HLN := hid hLN; clear hLN; go_wp2_with fail
    have HT0 : Hid (Zdb N L 0) := hid (fun j r hj => by omega)
    go_loop [21] (fun kv => ∃ k : Nat,kv = .int .i64 (k : Int) ∧ k ≤ L.length ∧ Hid (Zdb N L k)) (fun kv => L.length - (intOf kv).toNat)
    case atStart => exact ⟨0,rfl,Nat.zero_le _,HT0⟩
    case round =>
     obtain ⟨k,rfl,hk,HT⟩ := hrel; clear HT0; by_cases hlk : k < L.length
     ·obtain ⟨b0,off,r,ra,rc,rfl,hb0,hr,hrl,h1,_⟩ := HRI.out.at_ hlk
      have HRR := hid hr; clear hr; by_cases hrN : r.length = N
      ·have d2 : ((r.length : Int) != (N : Int)) = false := by simp [hrN]
       have HT2 : Hid (Zdb N L (k + 1)) := hid (fun j r2 hj hr2 => by
        by_cases e : j = k
        ·subst e; rw [HRR.out] at hr2; cases hr2; exact hrN
        ·exact HT.out j r2 (by omega) hr2)
       clear hrN; go_wp2_with fail
       go_round
       case rel => exact ⟨k + 1,by go_num,by omega,HT2⟩
       case measure => simp [intOf]; omega
      ·have d2 : ((r.length : Int) != (N : Int)) = true := by simp; omega
       have HE := hid (HB.out.symm.trans (Zdc hlt (by rw [HN.out,HLE.out]; exact Zko HRR.out hrN)))
       clear hrN; go_wp2_with fail
       go_ret
       exact ⟨Z12 HE.out.symm,HG3.out⟩
     ·obtain rfl : k = L.length := by omega
      have HS2 : Hid (∀ j,j < i + 1 → sqB N (x.pick j) = true) := hid (fun j hj => by
       by_cases e : j = i
       ·subst e; rw [HLE.out]; exact Zkn HT.out HLN.out
       ·exact HS.out j (by omega))
      go_wp2_with fail
      go_round
      case rel => exact ⟨i + 1,by go_num,by omega,HS2⟩
      case measure => simp [intOf]; omega
   ·have d1 : ((L.length : Int) != (N : Int)) = true := by simp; omega
    have HE := hid (HB.out.symm.trans (Zdc hlt (by rw [HN.out,HLE.out]; unfold sqB; rw [decide_eq_false hLN]; rfl)))
    go_wp2_with fail
    go_ret
    exact ⟨Z12 HE.out.symm,HG3.out⟩
  ·obtain rfl : i = 2 := by omega
   have HE := hid (HB.out.symm.trans (by rw [Z4b,HN.out,HS.out 0 (by omega),HS.out 1 (by omega)]; rfl : x.size = true))
   go_wp2_with fail
   go_ret
   exact ⟨Z12 HE.out.symm,HG3.out⟩
end Go.Proofs.YtfkommjlmolniaaGreatDoor
end
section

namespace Go.Proofs.YtfkommjlmolniaaGreatDoor
set_option maxHeartbeats 16000000
set_option maxRecDepth 100000
open Go.Lib (hid)
open Go.RowKit
variable {w wr : World} {A : InA} {x : Ins} {B n : Nat} {a : Option Addr} {l : List Int}
theorem nums1 {W : World} {g : Nat} (hg : W.heap.size = g) (a : Int) : IsNums (g + 1) (W.alloc (.cells #[.int .i64 a] 2)) (some ⟨g,0,none⟩) 1 [a] := by
 subst hg; refine ⟨rfl,.inr ⟨_,0,rfl,by omega,fun j v hj => ?_⟩⟩
 match j,hj with
 | 0,hj => simp at hj; subst hj; simp
theorem nums2 {W : World} {g : Nat} (hg : W.heap.size = g) (a b : Int) : IsNums (g + 1) (W.alloc (.cells #[.int .i64 a,.int .i64 b] 2)) (some ⟨g,0,none⟩) 2 [a,b] := by
 subst hg; refine ⟨rfl,.inr ⟨_,0,rfl,by omega,fun j v hj => ?_⟩⟩
 match j,hj with
 | 0,hj => simp at hj; subst hj; simp
 | 1,hj => simp at hj; subst hj; simp
theorem nums3 {W : World} {g : Nat} (hg : W.heap.size = g) (a b c : Int) : IsNums (g + 1) (W.alloc (.cells #[.int .i64 a,.int .i64 b,.int .i64 c] 2)) (some ⟨g,0,none⟩) 3 [a,b,c] := by
 subst hg; refine ⟨rfl,.inr ⟨_,0,rfl,by omega,fun j v hj => ?_⟩⟩
 match j,hj with
 | 0,hj => simp at hj; subst hj; simp
 | 1,hj => simp at hj; subst hj; simp
 | 2,hj => simp at hj; subst hj; simp
theorem Z2o {gb : Nat} {y1 y2 y3 y4 : Value} {T : TypeId} (h : w.heap[gb]? = some (.cells #[y1,y2,y3,y4] T (0,0))) : w.cell? ⟨gb,0,none⟩ = some y1 ∧ w.cell? ⟨gb,1,none⟩ = some y2 ∧ w.cell? ⟨gb,2,none⟩ = some y3 ∧ w.cell? ⟨gb,3,none⟩ = some y4 := by simp [World.cell?,h]
theorem Zdh (s : Int × Int) : satB s = [s.1,s.2].all (fun v => inB_ v 0) := by simp [satB]
theorem Z5j (c : Pi) : cusB c = ([c.1].all (fun v => inB_ v 1) && [c.2.1,c.2.2.2].all (fun v => inB_ v 0) && [c.2.2.1].all (fun v => inB_ v c.2.1)) := by
 simp only [cusB,List.all_cons,List.all_nil,Bool.and_true]
 cases inB_ c.1 1 <;> cases inB_ c.2.1 0 <;> cases inB_ c.2.2.1 c.2.1 <;> cases inB_ c.2.2.2 0 <;> rfl
theorem Z8l {i : Nat} {r : List Int} {v : Int} (h : r[i]? = some v) : rowB i r = (r.all (fun v => inB_ v 0) && decide (v = 0)) := by
 rw [Bool.eq_iff_iff,rowB,Z0w,Bool.and_eq_true,List.all_eq_true,decide_eq_true_eq]; constructor
 ·intro e
  refine ⟨fun u hu => ?_,?_⟩
  ·obtain ⟨j,hj⟩ := List.getElem?_of_mem hu
   have := e j (List.getElem?_eq_some_iff.1 hj).1; rw [Z11 hj,elB,Bool.and_eq_true] at this; exact this.1
  ·have := e i (List.getElem?_eq_some_iff.1 h).1
   rw [Z11 h,elB,Bool.and_eq_true,Bool.or_eq_true,decide_eq_true_eq,decide_eq_true_eq] at this; rcases this.2 with h9 | h9
   ·exact absurd rfl h9
   ·exact h9
 ·rintro ⟨e,rfl⟩ j hj
  have hu : r[j]? = some (r[j]'hj) := List.getElem?_eq_getElem hj; rw [Z11 hu,elB,e _ (List.mem_of_getElem? hu),Bool.true_and]; by_cases h9 : i = j
  ·subst h9
   rw [hu] at h; injection h with h
   simp [h]
  ·simp [h9]
def Ins.three (x : Ins) : List Int := [x.en,x.tr,x.br]
theorem Z2b (x : Ins) : x.good = true ↔ x.three.all (fun v => inB_ v 0) = true ∧ (∀ i,i < x.sats.length → satB (x.sats.getD i (0,0)) = true) ∧ (∀ i,i < x.cus.length → cusB (x.cus.getD i (0,0,0,0)) = true) ∧ ∀ i,i < 2 → rowsB (x.pick i) = true := by
 have e : (∀ i,i < 2 → rowsB (x.pick i) = true) ↔ rowsB x.cost = true ∧ rowsB x.time = true := by
  constructor
  ·intro h
   exact ⟨h 0 (by omega),h 1 (by omega)⟩
  ·rintro ⟨h0,h1⟩ i hi
   obtain rfl | rfl : i = 0 ∨ i = 1 := by omega
   ·exact h0
   ·exact h1
 rw [e]; simp only [Ins.good,Ins.three,Bool.and_eq_true,List.all_cons,List.all_nil,Z0w,and_true]
 constructor
 ·rintro ⟨⟨⟨⟨⟨⟨a,b⟩,c⟩,d⟩,e⟩,f⟩,g⟩
  exact ⟨⟨c,d,e⟩,f,g,a,b⟩
 ·rintro ⟨⟨c,d,e⟩,f,g,a,b⟩
  exact ⟨⟨⟨⟨⟨⟨a,b⟩,c⟩,d⟩,e⟩,f⟩,g⟩
theorem Zfh (h : x.three.all (fun v => inB_ v 0) = false) : x.good = false := by
 apply Bool.eq_false_iff.2
 intro e; rw [((Z2b x).1 e).1] at h; cases h
theorem Zkz {k : Nat} {s : Int × Int} (hs : x.sats[k]? = some s) (h : satB s = false) : x.good = false := by
 apply Bool.eq_false_iff.2
 intro e; have := ((Z2b x).1 e).2.1 k (List.getElem?_eq_some_iff.1 hs).1; rw [Z11 hs,h] at this; cases this
theorem Z8m {k : Nat} {s : Pi} (hs : x.cus[k]? = some s) (h : cusB s = false) : x.good = false := by
 apply Bool.eq_false_iff.2
 intro e; have := ((Z2b x).1 e).2.2.1 k (List.getElem?_eq_some_iff.1 hs).1; rw [Z11 hs,h] at this; cases this
theorem Zdi {i k : Nat} {L : List (List Int)} {r : List Int} (hi : i < 2) (hL : x.pick i = L) (hr : L[k]? = some r) (h : rowB k r = false) : x.good = false := by
 apply Bool.eq_false_iff.2
 intro e; have := ((Z2b x).1 e).2.2.2 i hi; rw [hL,rowsB,Z0w] at this; have := this k (List.getElem?_eq_some_iff.1 hr).1; rw [Z11 hr,h] at this; cases this
def satTo (x : Ins) (k : Nat) : Prop := ∀ i,i < k → satB (x.sats.getD i (0,0)) = true
def Zdj (x : Ins) (k : Nat) : Prop := ∀ i,i < k → cusB (x.cus.getD i (0,0,0,0)) = true
def rowTo (L : List (List Int)) (k : Nat) : Prop := ∀ i,i < k → rowB i (L.getD i []) = true
theorem Zfi {k : Nat} {s : Int × Int} (h : satTo x k) (hs : x.sats[k]? = some s) (e : satB s = true) : satTo x (k + 1) := fun i hi => by
 by_cases e2 : i = k
 ·subst e2; rw [Z11 hs]; exact e
 ·exact h i (by omega)
theorem Zfj {k : Nat} {s : Pi} (h : Zdj x k) (hs : x.cus[k]? = some s) (e : cusB s = true) : Zdj x (k + 1) := fun i hi => by
 by_cases e2 : i = k
 ·subst e2; rw [Z11 hs]; exact e
 ·exact h i (by omega)
theorem Zfk {k : Nat} {L : List (List Int)} {r : List Int} (h : rowTo L k) (hs : L[k]? = some r) (e : rowB k r = true) : rowTo L (k + 1) := fun i hi => by
 by_cases e2 : i = k
 ·subst e2; rw [Z11 hs]; exact e
 ·exact h i (by omega)
theorem Zi3 {L : List (List Int)} (h : rowTo L L.length) : rowsB L = true := by
 unfold rowsB; rw [Z0w]; exact h
theorem Zi4 {N : Nat} (h : x.size = true) (hN : x.nodes = N) {i : Nat} (hi : i < 2) : (x.pick i).length = N ∧ ∀ (k : Nat) (r : List Int),(x.pick i)[k]? = some r → r.length = N := by
 rw [Z4b,hN,Bool.and_eq_true] at h; have : sqB N (x.pick i) = true := by
  obtain rfl | rfl : i = 0 ∨ i = 1 := by omega
  ·exact h.1
  ·exact h.2
 unfold sqB at this; rw [Bool.and_eq_true,decide_eq_true_eq,Z0w] at this; refine ⟨this.1,fun k r hr => ?_⟩; have := this.2 k (List.getElem?_eq_some_iff.1 hr).1; rw [Z11 hr] at this; simpa [lenB] using this
theorem Z0q (W : World) (o1 : Obj) : Below W.heap.size W (W.alloc o1) := (Below.refl _ W).alloc (Nat.le_refl _) _
theorem Z7h (A : InA) (x : Ins) (w : World) (hi : IsIns w.heap.size w A x) (hz : x.size = true) (hs : x.sats.length + x.cus.length ≤ 1000) (b : Bool) (hb : x.good = b) :
  Calls Tryz.prog 28 #[.agg (insC A x)] w fun e w' => e = .returned (.bool b) ∧ Below w.heap.size w w' := by
 have HG := hid (XBox.make (Below.refl _ w) A x); have HI := hid hi; have HB := hid hb; obtain ⟨N,hN⟩ : ∃ N,x.nodes = N := ⟨_,rfl⟩; have HSR : Hid (∀ i,i < 2 → (x.pick i).length = N ∧ ∀ (k : Nat) (r : List Int),(x.pick i)[k]? = some r → r.length = N) := hid (fun i hi => Zi4 hz hN hi); have hNL : N ≤ 1001 := by rw [← hN]; unfold Ins.nodes; omega
 clear hi hb hz hN; have hsz : (w.alloc (.cells (insC A x) 34)).heap.size = w.heap.size + 1 := by simp
 go_enter Tryz.func28,Tryz.ntmps28
 cases hq : x.three.all (fun v => inB_ v 0) with
 | false =>
  have HE := hid (HB.out.symm.trans (Zfh hq)); unfold Ins.three at hq; go_wp2_with fail
  go_at_call 41
  refine (Z0u 0 [x.en,x.tr,x.br] _ _ _ false _ (nums3 (by simp) _ _ _) (by omega) hq).mono ?_
  rintro e w2 ⟨rfl,hw2⟩; have HW2 := hid (HG.out.below.trans ((Z0q _ (.cells #[.int .i64 x.en,.int .i64 x.tr,.int .i64 x.br] 2)).mono HG.out.below.size)); rw [← hw2] at HW2; clear hw2; go_wp2_with fail
  go_ret
  exact ⟨Z12 HE.out.symm,HW2.out⟩
 | true =>
  have HQ := hid hq; unfold Ins.three at hq; go_wp2_with fail
  go_at_call 41
  refine (Z0u 0 [x.en,x.tr,x.br] _ _ _ true _ (nums3 (by simp) _ _ _) (by omega) hq).mono ?_
  rintro e w2 ⟨rfl,hw2⟩; have HX2 := hid (HG.out.later (Z0q _ (.cells #[.int .i64 x.en,.int .i64 x.tr,.int .i64 x.br] 2))); rw [← hw2] at HX2; clear hw2 hq hsz; obtain ⟨_,_,_,_,_,k5,k6,_,_⟩ := HX2.out.cells; go_wp2_with fail
  clear k5 k6; have HS0 : Hid (satTo x 0) := hid (fun j hj => by omega)
  have HXS := HX2; go_loopw [25] (fun iv wr => ∃ i : Nat,iv = .int .i64 (i : Int) ∧ i ≤ x.sats.length ∧ Hid (XBox w wr w.heap.size A x) ∧ Hid (satTo x i)) (fun iv _ => x.sats.length - (intOf iv).toNat)
  case atStart => exact ⟨0,rfl,Nat.zero_le _,HXS,HS0⟩
  case round =>
   obtain ⟨i,rfl,hi,HX,HS⟩ := hrel; clear HS0 HXS HX2 HG; by_cases hlt : i < x.sats.length
   ·obtain ⟨b0,off,⟨y1,y2⟩,hca,hb0,hy,p0,p1⟩ := (HI.out.sats.later HX.out.below).at_ hlt
    simp only at p0 p1
    have HY := hid hy; rw [hca]; clear hy hca; have HX0 : Hid (XBox w (wr.alloc (.cells #[.int .i64 y1,.int .i64 y2] 51)) w.heap.size A x) := hid (HX.out.later (Z0q _ _)); have hz0 : (wr.alloc (.cells #[.int .i64 y1,.int .i64 y2] 51)).heap.size = wr.heap.size + 1 := by simp
    cases hq : [y1,y2].all (fun v => inB_ v 0) with
    | false =>
     have HE := hid (HB.out.symm.trans (Zkz HY.out (by rw [Zdh]; exact hq)))
     go_wp2_with fail
     go_at_call 41
     refine (Z0u 0 [y1,y2] _ _ _ false _ (nums2 (by simp) _ _) (by omega) hq).mono ?_
     rintro e w3 ⟨rfl,hw3⟩; have HX3 := hid (HX0.out.later (Z0q _ (.cells #[.int .i64 y1,.int .i64 y2] 2))); rw [← hw3] at HX3; clear hw3; go_wp2_with fail
     go_ret
     exact ⟨Z12 HE.out.symm,HX3.out.below⟩
    | true =>
     have HT := hid (Zfi HS.out HY.out (by rw [Zdh]; exact hq))
     go_wp2_with fail
     go_at_call 41
     refine (Z0u 0 [y1,y2] _ _ _ true _ (nums2 (by simp) _ _) (by omega) hq).mono ?_
     rintro e w3 ⟨rfl,hw3⟩; have HX3 := hid (HX0.out.later (Z0q _ (.cells #[.int .i64 y1,.int .i64 y2] 2))); rw [← hw3] at HX3; clear hw3 hq; go_wp2_with fail
     go_roundw
     case rel => exact ⟨i + 1,by go_num,by omega,HX3,HT⟩
     case measure => simp [intOf]; omega
   ·obtain rfl : i = x.sats.length := by omega
    have HSS := HS; clear HS; obtain ⟨_,_,_,_,_,k5,k6,_,_⟩ := HX.out.cells; go_wp2_with fail
    clear k5 k6; have HC0 : Hid (Zdj x 0) := hid (fun j hj => by omega)
    have HXS := HX; go_loopw [40] (fun iv wr => ∃ i : Nat,iv = .int .i64 (i : Int) ∧ i ≤ x.cus.length ∧ Hid (XBox w wr w.heap.size A x) ∧ Hid (Zdj x i)) (fun iv _ => x.cus.length - (intOf iv).toNat)
    case atStart => exact ⟨0,rfl,Nat.zero_le _,HXS,HC0⟩
    case round =>
     obtain ⟨i,rfl,hi,HX,HC⟩ := hrel; clear HC0 HXS; by_cases hlt2 : i < x.cus.length
     ·obtain ⟨b0,off,⟨y1,y2,y3,y4⟩,hca,hb0,hy,p0,p1,p2,p3⟩ := (HI.out.cus.later HX.out.below).at_ hlt2
      simp only at p0 p1 p2 p3
      have HY := hid hy; rw [hca]; clear hy hca; have HX0 : Hid (XBox w (wr.alloc (.cells #[.int .i64 y1,.int .i64 y2,.int .i64 y3,.int .i64 y4] 53)) w.heap.size A x) := hid (HX.out.later (Z0q _ _)); have HP0 : Hid ((wr.alloc (.cells #[.int .i64 y1,.int .i64 y2,.int .i64 y3,.int .i64 y4] 53)).heap[wr.heap.size]? = some (.cells #[.int .i64 y1,.int .i64 y2,.int .i64 y3,.int .i64 y4] 53 (0,0))) := hid (heap_alloc_new _ _); obtain ⟨gb,hgb⟩ : ∃ b,wr.heap.size = b := ⟨_,rfl⟩; have hz0 : (wr.alloc (.cells #[.int .i64 y1,.int .i64 y2,.int .i64 y3,.int .i64 y4] 53)).heap.size = gb + 1 := by simp [hgb]
      rw [hgb] at HP0; obtain ⟨v0,hv0⟩ : ∃ v0,wr.alloc (.cells #[.int .i64 y1,.int .i64 y2,.int .i64 y3,.int .i64 y4] 53) = v0 := ⟨_,rfl⟩; rw [hv0] at HX0 HP0 hz0; obtain ⟨q0,q1,q2,q3⟩ := Z2o HP0.out; cases hq1 : [y1].all (fun v => inB_ v 1) with
      | false =>
       have HE := hid (HB.out.symm.trans (Z8m HY.out (by rw [Z5j]; simp only [hq1,Bool.false_and])))
       go_wp2_with fail
       go_at_call 41
       refine (Z0u 1 [y1] _ _ _ false _ (nums1 (by first | rfl | exact hz0 | simp) _) (by omega) hq1).mono ?_
       rintro e v1 ⟨rfl,hv1⟩; have HX1 : Hid (XBox w v1 w.heap.size A x) := hid (by rw [hv1]; exact HX0.out.later (Z0q _ _))
       have HP1 : Hid (v1.heap[gb]? = some (.cells #[.int .i64 y1,.int .i64 y2,.int .i64 y3,.int .i64 y4] 53 (0,0))) := hid (by rw [hv1]; exact ((Z0q _ _).block gb (Array.getElem?_eq_some_iff.1 HP0.out).1).trans HP0.out)
       clear hv1 hz0 hv0; try clear q0 q1 q2 q3
       obtain ⟨q0,q1,q2,q3⟩ := Z2o HP1.out; go_wp2_with fail
       go_ret
       exact ⟨Z12 HE.out.symm,HX1.out.below⟩
      | true =>
       cases hq2 : [y2,y4].all (fun v => inB_ v 0) with
       | false =>
        have HE := hid (HB.out.symm.trans (Z8m HY.out (by rw [Z5j]; simp only [hq1,hq2,Bool.and_false,Bool.false_and])))
        go_wp2_with fail
        go_at_call 41
        refine (Z0u 1 [y1] _ _ _ true _ (nums1 (by first | rfl | exact hz0 | simp) _) (by omega) hq1).mono ?_
        rintro e v1 ⟨rfl,hv1⟩; have HX1 : Hid (XBox w v1 w.heap.size A x) := hid (by rw [hv1]; exact HX0.out.later (Z0q _ _))
        have HP1 : Hid (v1.heap[gb]? = some (.cells #[.int .i64 y1,.int .i64 y2,.int .i64 y3,.int .i64 y4] 53 (0,0))) := hid (by rw [hv1]; exact ((Z0q _ _).block gb (Array.getElem?_eq_some_iff.1 HP0.out).1).trans HP0.out)
        clear hv1 hz0 hv0; try clear q0 q1 q2 q3
        obtain ⟨q0,q1,q2,q3⟩ := Z2o HP1.out; go_wp2_with fail
        go_at_call 41
        refine (Z0u 0 [y2,y4] _ _ _ false _ (nums2 (by first | rfl | exact hz0 | simp) _ _) (by omega) hq2).mono ?_
        rintro e v2 ⟨rfl,hv2⟩; have HX2 : Hid (XBox w v2 w.heap.size A x) := hid (by rw [hv2]; exact HX1.out.later (Z0q _ _))
        have HP2 : Hid (v2.heap[gb]? = some (.cells #[.int .i64 y1,.int .i64 y2,.int .i64 y3,.int .i64 y4] 53 (0,0))) := hid (by rw [hv2]; exact ((Z0q _ _).block gb (Array.getElem?_eq_some_iff.1 HP1.out).1).trans HP1.out)
        clear hv2; try clear q0 q1 q2 q3
        obtain ⟨q0,q1,q2,q3⟩ := Z2o HP2.out; go_wp2_with fail
        go_ret
        exact ⟨Z12 HE.out.symm,HX2.out.below⟩
       | true =>
        cases hq3 : [y3].all (fun v => inB_ v y2) with
        | false =>
         have HE := hid (HB.out.symm.trans (Z8m HY.out (by rw [Z5j]; simp only [hq1,hq2,hq3,Bool.and_false])))
         go_wp2_with fail
         go_at_call 41
         refine (Z0u 1 [y1] _ _ _ true _ (nums1 (by first | rfl | exact hz0 | simp) _) (by omega) hq1).mono ?_
         rintro e v1 ⟨rfl,hv1⟩; have HX1 : Hid (XBox w v1 w.heap.size A x) := hid (by rw [hv1]; exact HX0.out.later (Z0q _ _))
         have HP1 : Hid (v1.heap[gb]? = some (.cells #[.int .i64 y1,.int .i64 y2,.int .i64 y3,.int .i64 y4] 53 (0,0))) := hid (by rw [hv1]; exact ((Z0q _ _).block gb (Array.getElem?_eq_some_iff.1 HP0.out).1).trans HP0.out)
         clear hv1 hz0 hv0; try clear q0 q1 q2 q3
         obtain ⟨q0,q1,q2,q3⟩ := Z2o HP1.out; go_wp2_with fail
         go_at_call 41
         refine (Z0u 0 [y2,y4] _ _ _ true _ (nums2 (by first | rfl | exact hz0 | simp) _ _) (by omega) hq2).mono ?_
         rintro e v2 ⟨rfl,hv2⟩; have HX2 : Hid (XBox w v2 w.heap.size A x) := hid (by rw [hv2]; exact HX1.out.later (Z0q _ _))
         have HP2 : Hid (v2.heap[gb]? = some (.cells #[.int .i64 y1,.int .i64 y2,.int .i64 y3,.int .i64 y4] 53 (0,0))) := hid (by rw [hv2]; exact ((Z0q _ _).block gb (Array.getElem?_eq_some_iff.1 HP1.out).1).trans HP1.out)
         clear hv2; try clear q0 q1 q2 q3
         obtain ⟨q0,q1,q2,q3⟩ := Z2o HP2.out; go_wp2_with fail
         go_at_call 41
         refine (Z0u y2 [y3] _ _ _ false _ (nums1 (by first | rfl | exact hz0 | simp) _) (by omega) hq3).mono ?_
         rintro e v3 ⟨rfl,hv3⟩; have HX3 : Hid (XBox w v3 w.heap.size A x) := hid (by rw [hv3]; exact HX2.out.later (Z0q _ _))
         have HP3 : Hid (v3.heap[gb]? = some (.cells #[.int .i64 y1,.int .i64 y2,.int .i64 y3,.int .i64 y4] 53 (0,0))) := hid (by rw [hv3]; exact ((Z0q _ _).block gb (Array.getElem?_eq_some_iff.1 HP2.out).1).trans HP2.out)
         clear hv3; try clear q0 q1 q2 q3
         obtain ⟨q0,q1,q2,q3⟩ := Z2o HP3.out; go_wp2_with fail
         go_ret
         exact ⟨Z12 HE.out.symm,HX3.out.below⟩
        | true =>
         have HT := hid (Zfj HC.out HY.out (by rw [Z5j]; simp only [hq1,hq2,hq3,Bool.and_true]))
         go_wp2_with fail
         go_at_call 41
         refine (Z0u 1 [y1] _ _ _ true _ (nums1 (by first | rfl | exact hz0 | simp) _) (by omega) hq1).mono ?_
         rintro e v1 ⟨rfl,hv1⟩; have HX1 : Hid (XBox w v1 w.heap.size A x) := hid (by rw [hv1]; exact HX0.out.later (Z0q _ _))
         have HP1 : Hid (v1.heap[gb]? = some (.cells #[.int .i64 y1,.int .i64 y2,.int .i64 y3,.int .i64 y4] 53 (0,0))) := hid (by rw [hv1]; exact ((Z0q _ _).block gb (Array.getElem?_eq_some_iff.1 HP0.out).1).trans HP0.out)
         clear hv1 hz0 hv0; try clear q0 q1 q2 q3
         obtain ⟨q0,q1,q2,q3⟩ := Z2o HP1.out; go_wp2_with fail
         go_at_call 41
         refine (Z0u 0 [y2,y4] _ _ _ true _ (nums2 (by first | rfl | exact hz0 | simp) _ _) (by omega) hq2).mono ?_
         rintro e v2 ⟨rfl,hv2⟩; have HX2 : Hid (XBox w v2 w.heap.size A x) := hid (by rw [hv2]; exact HX1.out.later (Z0q _ _))
         have HP2 : Hid (v2.heap[gb]? = some (.cells #[.int .i64 y1,.int .i64 y2,.int .i64 y3,.int .i64 y4] 53 (0,0))) := hid (by rw [hv2]; exact ((Z0q _ _).block gb (Array.getElem?_eq_some_iff.1 HP1.out).1).trans HP1.out)
         clear hv2; try clear q0 q1 q2 q3
         obtain ⟨q0,q1,q2,q3⟩ := Z2o HP2.out; go_wp2_with fail
         go_at_call 41
         refine (Z0u y2 [y3] _ _ _ true _ (nums1 (by first | rfl | exact hz0 | simp) _) (by omega) hq3).mono ?_
         rintro e v3 ⟨rfl,hv3⟩; have HX3 : Hid (XBox w v3 w.heap.size A x) := hid (by rw [hv3]; exact HX2.out.later (Z0q _ _))
         have HP3 : Hid (v3.heap[gb]? = some (.cells #[.int .i64 y1,.int .i64 y2,.int .i64 y3,.int .i64 y4] 53 (0,0))) := hid (by rw [hv3]; exact ((Z0q _ _).block gb (Array.getElem?_eq_some_iff.1 HP2.out).1).trans HP2.out)
         clear hv3; try clear q0 q1 q2 q3
         obtain ⟨q0,q1,q2,q3⟩ := Z2o HP3.out; clear hq1 hq2 hq3; go_wp2_with fail
         go_roundw
         case rel => exact ⟨i + 1,by go_num,by omega,HX3,HT⟩
         case measure => simp [intOf]; omega
     ·obtain rfl : i = x.cus.length := by omega
      have HCC := HC; clear HC; obtain ⟨k0,k1,k2,k3,k4,k5,k6,k7,k8⟩ := HX.out.cells; go_wp2_with (go_at_call 40; refine (Z52 A x _).mono ?_; rintro e w5 ⟨rfl,hb5⟩; have HG5 := hid (HX.out.below.trans (hb5.mono HX.out.below.size)); clear hb5)
      clear k0 k1 k2 k3 k4 k5 k6 k7 k8; have HM0 : Hid (∀ j,j < 0 → rowsB (x.pick j) = true) := hid (fun j hj => by omega)
      have HIP : Hid (∀ i,IsRows w.heap.size w5 (A.pick i) (x.pick i).length (x.pick i)) := hid (fun i => (HI.out.later HG5.out).rows i); clear HI HX; go_loop [70] (fun iv => ∃ i : Nat,iv = .int .i64 (i : Int) ∧ i ≤ 2 ∧ Hid (∀ j,j < i → rowsB (x.pick j) = true)) (fun iv => 2 - (intOf iv).toNat)
      case atStart => exact ⟨0,rfl,Nat.zero_le _,HM0⟩
      case round =>
       obtain ⟨i,rfl,hi2,HM⟩ := hrel; clear HM0; by_cases hl2 : i < 2
       ·have hx := Zaa A x hl2
        have HRI := hid (HIP.out i); have hsr := HSR.out i hl2; obtain ⟨L,hL⟩ : ∃ L,x.pick i = L := ⟨_,rfl⟩; have HLE := hid hL; rw [hL] at hx HRI hsr; have HLN := hid hsr.1; have hpl : L.length ≤ 1001 := by have := hsr.1; omega
        have HRL := hid hsr.2; clear hL hsr; generalize A.pick i = pa at hx HRI; generalize A.cap i = pc at hx; go_wp2_with fail
        have HT0 : Hid (rowTo L 0) := hid (fun j hj => by omega)
        go_loop [75] (fun kv => ∃ k : Nat,kv = .int .i64 (k : Int) ∧ k ≤ L.length ∧ Hid (rowTo L k)) (fun kv => L.length - (intOf kv).toNat)
        case atStart => exact ⟨0,rfl,Nat.zero_le _,HT0⟩
        case round =>
         obtain ⟨k,rfl,hk,HT⟩ := hrel; clear HT0; by_cases hlk : k < L.length
         ·obtain ⟨b0,off,r,ra,rc,rfl,hb0,hr,hrl,h1,hnr⟩ := HRI.out.at_ hlk
          have HRR := hid hr; have hkr : k < r.length := by have := HRL.out k r hr; have := HLN.out; omega
          have hr1 : r.length ≤ 1001 := by have := HRL.out k r hr; omega
          have HNR := hid hnr; obtain ⟨b1,o1,v,hra,hv,q1⟩ := hnr.at_ (k := k) hkr; have HVV := hid hv; clear hr hnr hv; subst hra; cases hq : r.all (fun v => inB_ v 0) with
          | false =>
           have HE := hid (HB.out.symm.trans (Zdi hl2 HLE.out HRR.out (by rw [Z8l HVV.out,hq]; rfl)))
           go_wp2_with fail
           go_at_call 41
           refine (Z0u 0 r _ _ _ false _ HNR.out (by omega) hq).mono ?_
           rintro e w6 ⟨rfl,rfl⟩; go_wp2_with fail
           go_ret
           exact ⟨Z12 HE.out.symm,HG5.out⟩
          | true =>
           by_cases hv0 : v = 0
           ·subst hv0
            have HT2 := hid (Zfk HT.out HRR.out (by rw [Z8l HVV.out,hq]; rfl))
            go_wp2_with fail
            go_at_call 41
            refine (Z0u 0 r _ _ _ true _ HNR.out (by omega) hq).mono ?_
            rintro e w6 ⟨rfl,rfl⟩; clear hq; go_wp2_with fail
            go_round
            case rel => exact ⟨k + 1,by go_num,by omega,HT2⟩
            case measure => simp [intOf]; omega
           ·have HE := hid (HB.out.symm.trans (Zdi hl2 HLE.out HRR.out (by rw [Z8l HVV.out,hq,decide_eq_false hv0]; rfl)))
            have d0 : (v != 0) = true := by simpa using hv0
            go_wp2_with fail
            go_at_call 41
            refine (Z0u 0 r _ _ _ true _ HNR.out (by omega) hq).mono ?_
            rintro e w6 ⟨rfl,rfl⟩; clear hq; go_wp2_with fail
            go_ret
            exact ⟨Z12 HE.out.symm,HG5.out⟩
         ·obtain rfl : k = L.length := by omega
          have HM2 : Hid (∀ j,j < i + 1 → rowsB (x.pick j) = true) := hid (fun j hj => by
           by_cases e : j = i
           ·subst e; rw [HLE.out]; exact Zi3 HT.out
           ·exact HM.out j (by omega))
          go_wp2_with fail
          go_round
          case rel => exact ⟨i + 1,by go_num,by omega,HM2⟩
          case measure => simp [intOf]; omega
       ·obtain rfl : i = 2 := by omega
        have HE := hid (HB.out.symm.trans ((Z2b x).2 ⟨HQ.out,HSS.out,HCC.out,HM.out⟩)); go_wp2_with fail
        go_ret
        exact ⟨Z12 HE.out.symm,HG5.out⟩
theorem Z1x (A : InA) (x : Ins) (w : World) (hi : IsIns w.heap.size w A x) (hl3 : x.cost.length ≤ 9223372036854775807) (hl4 : x.time.length ≤ 9223372036854775807) :
  Calls Tryz.prog 14 #[.agg (insC A x)] w fun e w' => e = .returned (.int .i64 (Z0m x)) ∧ Below w.heap.size w w' := by
 have HG := hid (XBox.make (Below.refl _ w) A x); have HI := hid hi; clear hi; cases hc : x.count with
 | false =>
  have HE : Hid (Z0m x = 9) := hid (by simp [Z0m,hc])
  go_enter Tryz.func14,Tryz.ntmps14
  go_wp2_with (first | (go_at_call 26; refine (Z2v A x _ _ hc).mono ?_; rintro e w2 ⟨rfl,hb2⟩; have HG2 := hid (HG.out.later hb2); obtain ⟨k0,k1,k2,k3,k4,k5,k6,k7,k8⟩ := HG2.out.cells; have HI2 := hid (HG2.out.pipesHere HI.out); clear hb2))
  go_ret
  exact ⟨by rw [HE.out]; rfl,HG2.out.below⟩
 | true =>
  have hll : x.sats.length ≤ 12 ∧ x.cus.length ≤ 48 := by
   simp only [Ins.count,Bool.and_eq_true,decide_eq_true_eq] at hc
   omega
  obtain ⟨hl1,hl2⟩ := hll; cases hz : x.size with
  | false =>
   have HE : Hid (Z0m x = 4) := hid (by simp [Z0m,hc,hz])
   go_enter Tryz.func14,Tryz.ntmps14
   go_wp2_with (first | (go_at_call 26; refine (Z2v A x _ _ hc).mono ?_; rintro e w2 ⟨rfl,hb2⟩; have HG2 := hid (HG.out.later hb2); obtain ⟨k0,k1,k2,k3,k4,k5,k6,k7,k8⟩ := HG2.out.cells; have HI2 := hid (HG2.out.pipesHere HI.out); clear hb2) | (go_at_call 27; refine (Z63 A x _ HI2.out (by omega) (by omega) (by omega) _ hz).mono ?_; rintro e w3 ⟨rfl,hb3⟩; clear k0 k1 k2 k3 k4 k5 k6 k7 k8; have HG3 := hid (HG2.out.later hb3); obtain ⟨k0,k1,k2,k3,k4,k5,k6,k7,k8⟩ := HG3.out.cells; have HI3 := hid (HG3.out.pipesHere HI.out); clear hb3))
   go_ret
   exact ⟨by rw [HE.out]; rfl,HG3.out.below⟩
  | true =>
   cases hg : x.good with
   | false =>
    have HE : Hid (Z0m x = 2) := hid (by simp [Z0m,hc,hz,hg])
    go_enter Tryz.func14,Tryz.ntmps14
    go_wp2_with (first | (go_at_call 26; refine (Z2v A x _ _ hc).mono ?_; rintro e w2 ⟨rfl,hb2⟩; have HG2 := hid (HG.out.later hb2); obtain ⟨k0,k1,k2,k3,k4,k5,k6,k7,k8⟩ := HG2.out.cells; have HI2 := hid (HG2.out.pipesHere HI.out); clear hb2) | (go_at_call 27; refine (Z63 A x _ HI2.out (by omega) (by omega) (by omega) _ hz).mono ?_; rintro e w3 ⟨rfl,hb3⟩; clear k0 k1 k2 k3 k4 k5 k6 k7 k8; have HG3 := hid (HG2.out.later hb3); obtain ⟨k0,k1,k2,k3,k4,k5,k6,k7,k8⟩ := HG3.out.cells; have HI3 := hid (HG3.out.pipesHere HI.out); clear hb3) | (go_at_call 28; refine (Z7h A x _ HI3.out hz (by omega) _ hg).mono ?_; rintro e w4 ⟨rfl,hb4⟩; have HG4 := hid (HG3.out.later hb4); clear hb4))
    go_ret
    exact ⟨by rw [HE.out]; rfl,HG4.out.below⟩
   | true =>
    have HE : Hid (Z0m x = 0) := hid (by simp [Z0m,hc,hz,hg])
    go_enter Tryz.func14,Tryz.ntmps14
    go_wp2_with (first | (go_at_call 26; refine (Z2v A x _ _ hc).mono ?_; rintro e w2 ⟨rfl,hb2⟩; have HG2 := hid (HG.out.later hb2); obtain ⟨k0,k1,k2,k3,k4,k5,k6,k7,k8⟩ := HG2.out.cells; have HI2 := hid (HG2.out.pipesHere HI.out); clear hb2) | (go_at_call 27; refine (Z63 A x _ HI2.out (by omega) (by omega) (by omega) _ hz).mono ?_; rintro e w3 ⟨rfl,hb3⟩; clear k0 k1 k2 k3 k4 k5 k6 k7 k8; have HG3 := hid (HG2.out.later hb3); obtain ⟨k0,k1,k2,k3,k4,k5,k6,k7,k8⟩ := HG3.out.cells; have HI3 := hid (HG3.out.pipesHere HI.out); clear hb3) | (go_at_call 28; refine (Z7h A x _ HI3.out hz (by omega) _ hg).mono ?_; rintro e w4 ⟨rfl,hb4⟩; have HG4 := hid (HG3.out.later hb4); clear hb4))
    go_ret
    exact ⟨by rw [HE.out]; rfl,HG4.out.below⟩
theorem Zaj (A : InA) (x : Ins) (w : World) (hi : IsIns w.heap.size w A x) (hl : x.light = true) :
  Calls Tryz.prog 14 #[.agg (insC A x)] w fun e w' => e = .returned (.int .i64 (Z0m x)) ∧ Below w.heap.size w w' := by
 have hll : x.sats.length ≤ 40 ∧ x.cus.length ≤ 60 ∧ x.cost.length ≤ 70 ∧ x.time.length ≤ 70 := by
  simp only [Ins.light,Bool.and_eq_true,decide_eq_true_eq] at hl
  omega
 exact Z1x A x w hi (by omega) (by omega)
end Go.Proofs.YtfkommjlmolniaaGreatDoor
end

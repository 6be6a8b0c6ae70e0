/- Joined: FCheck. -/
import Derived.Test.YtfkommjlmolniaaGreatDoorHd5
set_option linter.unusedVariables false
section

namespace Go.Proofs.YtfkommjlmolniaaGreatDoor
set_option maxHeartbeats 16000000
set_option maxRecDepth 100000
open Go.Lib (hid)
open Go.RowKit
variable {w wr w2 : World} {a : Option Addr} {len cap B g : Nat} {l : List Pi} {n s t : Int} {k : Nat} {x : Pi}
theorem Zhe (n i : Int) (a : Option Addr) (len cap : Nat) (w : World) :
  Calls Tryz.prog 79 #[.agg #[.int .i64 n,.slice a len cap],.int .i64 i] w fun e w' => e = .returned (.bool (isIn n i)) ∧ Below w.heap.size w w' := by
 by_cases h1 : 0 ≤ i
 ·by_cases h2 : i < n
  ·have h3 : isIn n i = true := by simp [isIn]; omega
   rw [h3]; clear h3; go_enter Tryz.func79,Tryz.ntmps79
   go_wp2_with fail
   go_ret
   exact ⟨rfl,(Below.refl _ _).alloc (Nat.le_refl _) _⟩
  ·have h3 : isIn n i = false := by simp [isIn]; omega
   rw [h3]; clear h3; go_enter Tryz.func79,Tryz.ntmps79
   go_wp2_with fail
   go_ret
   exact ⟨rfl,(Below.refl _ _).alloc (Nat.le_refl _) _⟩
 ·have h3 : isIn n i = false := by simp [isIn]; omega
  rw [h3]; clear h3; go_enter Tryz.func79,Tryz.ntmps79
  go_wp2_with fail
  go_ret
  exact ⟨rfl,(Below.refl _ _).alloc (Nat.le_refl _) _⟩
theorem Z1h {i : Int} (h : isIn n i = true) (a : Option Addr) (len cap : Nat) (w : World) :
  Calls Tryz.prog 79 #[.agg #[.int .i64 n,.slice a len cap],.int .i64 i] w fun e w' => e = .returned (.bool true) ∧ Below w.heap.size w w' := by
 have := Zhe n i a len cap w; rw [h] at this; exact this
theorem Zd5 {i : Int} (h : isIn n i = false) (a : Option Addr) (len cap : Nat) (w : World) :
  Calls Tryz.prog 79 #[.agg #[.int .i64 n,.slice a len cap],.int .i64 i] w fun e w' => e = .returned (.bool false) ∧ Below w.heap.size w w' := by
 have := Zhe n i a len cap w; rw [h] at this; exact this
theorem Zbu (h : n < 0 ∨ 1000 < n ∨ 20000 < l.length) : Z1s n l = 4 := by rw [Z1s,if_pos h]
theorem Z2a (h : ¬ (n < 0 ∨ 1000 < n ∨ 20000 < l.length)) (hx : l[k]? = some x) (hb : okP n x = false) : Z1s n l = 2 := by
 rw [Z1s,if_neg h,if_neg]; intro h2; have := List.all_eq_true.1 h2 x (List.mem_of_getElem? hx); rw [hb] at this; cases this
theorem Zbv (h : ¬ (n < 0 ∨ 1000 < n ∨ 20000 < l.length)) (hx : (l.take k).all (okP n) = true) (hk : l.length ≤ k) : Z1s n l = 0 := by
 rw [Z1s,if_neg h,if_pos]; rwa [List.take_of_length_le hk] at hx
theorem Zhf (hx : l[k]? = some x) (h : (l.take k).all (okP n) = true) (hb : okP n x = true) : (l.take (k + 1)).all (okP n) = true := by
 rw [List.take_add_one,hx,List.all_append,h]; simp [hb]
theorem Z1k {p q : Int} (h : p = q) : Ending.returned (.int .i64 p) = .returned (.int .i64 q) := by rw [h]
theorem Zbw (hs : n < 0 ∨ 1000 < n ∨ (20000 : Int) < (len : Int)) (cap : Nat) (a : Option Addr) (w : World) :
  Calls Tryz.prog 78 #[.agg #[.int .i64 n,.slice a len cap]] w fun e w' => e = .returned (.int .i64 4) ∧ Below w.heap.size w w' := by
 by_cases h1 : n < 0
 ·clear hs
  go_enter Tryz.func78,Tryz.ntmps78
  go_wp2_with fail
  go_ret
  exact ⟨rfl,(Below.refl _ _).alloc (Nat.le_refl _) _⟩
 ·by_cases h2 : 1000 < n
  ·clear hs
   go_enter Tryz.func78,Tryz.ntmps78
   go_wp2_with fail
   go_ret
   exact ⟨rfl,(Below.refl _ _).alloc (Nat.le_refl _) _⟩
  ·have h3 : (20000 : Int) < (len : Int) := by omega
   clear hs; go_enter Tryz.func78,Tryz.ntmps78
   go_wp2_with fail
   go_ret
   exact ⟨rfl,(Below.refl _ _).alloc (Nat.le_refl _) _⟩
structure Pipe1 (w wr : World) (g ab : Nat) (n : Int) (a : Option Addr) (len cap : Nat) (x : Pi) : Prop where
 box : NBox w wr g n a len cap
 ge : w.heap.size ≤ ab
 blk : wr.heap[ab]? = some (.cells #[.int .i64 x.1,.int .i64 x.2.1,.int .i64 x.2.2.1,.int .i64 x.2.2.2] 127 (0,0))
theorem Pipe1.make (h : NBox w wr g n a len cap) (x : Pi) : Pipe1 w (wr.alloc (.cells #[.int .i64 x.1,.int .i64 x.2.1,.int .i64 x.2.2.1,.int .i64 x.2.2.2] 127)) g wr.heap.size n a len cap x :=
 ⟨h.alloc _,h.below.size,heap_alloc_new _ _⟩
theorem Pipe1.later {ab : Nat} (h : Pipe1 w wr g ab n a len cap x) (hb : Below wr.heap.size wr w2) : Pipe1 w w2 g ab n a len cap x :=
 ⟨h.box.later hb,h.ge,(hb.block ab (Array.getElem?_eq_some_iff.1 h.blk).1).trans h.blk⟩
theorem Pipe1.d0 {ab : Nat} (h : Pipe1 w wr g ab n a len cap x) : wr.cell? ⟨ab,0,none⟩ = some (.int .i64 x.1) := by simp [World.cell?,h.blk]
theorem Pipe1.d1 {ab : Nat} (h : Pipe1 w wr g ab n a len cap x) : wr.cell? ⟨ab,1,none⟩ = some (.int .i64 x.2.1) := by simp [World.cell?,h.blk]
theorem Pipe1.d2 {ab : Nat} (h : Pipe1 w wr g ab n a len cap x) : wr.cell? ⟨ab,2,none⟩ = some (.int .i64 x.2.2.1) := by simp [World.cell?,h.blk]
theorem Pipe1.d3 {ab : Nat} (h : Pipe1 w wr g ab n a len cap x) : wr.cell? ⟨ab,3,none⟩ = some (.int .i64 x.2.2.2) := by simp [World.cell?,h.blk]
theorem Za0 (hs : ¬ (n < 0 ∨ 1000 < n ∨ (20000 : Int) < (len : Int))) (cap : Nat) (a : Option Addr) (w : World) (hl : IsPipes w.heap.size w a len l) :
  Calls Tryz.prog 78 #[.agg #[.int .i64 n,.slice a len cap]] w fun e w' => e = .returned (.int .i64 (Z1s n l)) ∧ Below w.heap.size w w' := by
 have HS : Hid (¬ (n < 0 ∨ 1000 < n ∨ 20000 < l.length)) := hid (by have := hl.1; omega)
 have h1 : ¬ n < 0 := by omega
 have h2 : ¬ 1000 < n := by omega
 have h3 : ¬ (20000 : Int) < (len : Int) := by omega
 clear hs; have HL := hid hl; clear hl; have HG0 := hid (NBox.make (Below.refl _ w) n a len cap); go_enter Tryz.func78,Tryz.ntmps78
 go_wp2_with fail
 go_loopw [22] (fun i wr => ∃ k : Nat,i = .int .i64 k ∧ k ≤ len ∧ Hid (NBox w wr w.heap.size n a len cap) ∧ Hid ((l.take k).all (okP n) = true)) (fun i _ => len - (intOf i).toNat)
 case atStart => exact ⟨0,rfl,Nat.zero_le _,HG0,hid rfl⟩
 case round =>
  obtain ⟨k,rfl,hk,HG,HK⟩ := hrel; clear HG0; by_cases hlt : k < len
  ·obtain ⟨b,off,x,rfl,hb,hx,e0,e1,e2,e3⟩ := (HG.out.pipes HL.out).at_ hlt
   have HX := hid hx; clear hx hb; have HA0 := hid (Pipe1.make HG.out x); obtain ⟨f,t,c,d⟩ := x; simp only at e0 e1 e2 e3
   have b0 := (HG.out.alloc (.cells #[.int .i64 f,.int .i64 t,.int .i64 c,.int .i64 d] 127)).c0; have b1 := (HG.out.alloc (.cells #[.int .i64 f,.int .i64 t,.int .i64 c,.int .i64 d] 127)).c1; cases hf : isIn n f with
   | false =>
    have HV := hid (Z2a HS.out HX.out (by simp [okP,hf]))
    have HF := hid hf; clear hf; go_wp2_with (go_at_call_of 79 (Value.int .i64 f); refine (Zd5 HF.out _ _ _ _).mono ?_; rintro e w2 ⟨rfl,hb2⟩; have HA2 := hid (HA0.out.later hb2); have x0 := HA2.out.box.c0; have x1 := HA2.out.box.c1; have x2 := HA2.out.d1; clear hb2)
    go_ret
    exact ⟨Z1k HV.out.symm,HA2.out.box.below⟩
   | true =>
    cases ht : isIn n t with
    | false =>
     have HV := hid (Z2a HS.out HX.out (by simp [okP,ht]))
     have HF := hid hf; have HT := hid ht; clear hf ht; go_wp2_with (first
      | (go_at_call_of 79 (Value.int .i64 f); refine (Z1h HF.out _ _ _ _).mono ?_; rintro e w2 ⟨rfl,hb2⟩; have HA2 := hid (HA0.out.later hb2); have x0 := HA2.out.box.c0; have x1 := HA2.out.box.c1; have x2 := HA2.out.d1; clear hb2)
      | (go_at_call 79; refine (Zd5 HT.out _ _ _ _).mono ?_; rintro e w3 ⟨rfl,hb3⟩; have HA3 := hid (HA2.out.later hb3); have y2 := HA3.out.d2; have y3 := HA3.out.d3; clear hb3))
     go_ret
     exact ⟨Z1k HV.out.symm,HA3.out.box.below⟩
    | true =>
     have HF := hid hf; have HT := hid ht; by_cases g1 : c < 0
     ·have HV := hid (Z2a HS.out HX.out (show okP n (f,t,c,d) = false by simp [okP,hf,ht]; omega))
      clear hf ht; go_wp2_with (first
       | (go_at_call_of 79 (Value.int .i64 f); refine (Z1h HF.out _ _ _ _).mono ?_; rintro e w2 ⟨rfl,hb2⟩; have HA2 := hid (HA0.out.later hb2); have x0 := HA2.out.box.c0; have x1 := HA2.out.box.c1; have x2 := HA2.out.d1; clear hb2)
       | (go_at_call 79; refine (Z1h HT.out _ _ _ _).mono ?_; rintro e w3 ⟨rfl,hb3⟩; have HA3 := hid (HA2.out.later hb3); have y2 := HA3.out.d2; have y3 := HA3.out.d3; clear hb3))
      go_ret
      exact ⟨Z1k HV.out.symm,HA3.out.box.below⟩
     ·by_cases g2 : 1099511627776 < c
      ·have HV := hid (Z2a HS.out HX.out (show okP n (f,t,c,d) = false by simp [okP,hf,ht]; omega))
       clear hf ht; go_wp2_with (first
        | (go_at_call_of 79 (Value.int .i64 f); refine (Z1h HF.out _ _ _ _).mono ?_; rintro e w2 ⟨rfl,hb2⟩; have HA2 := hid (HA0.out.later hb2); have x0 := HA2.out.box.c0; have x1 := HA2.out.box.c1; have x2 := HA2.out.d1; clear hb2)
        | (go_at_call 79; refine (Z1h HT.out _ _ _ _).mono ?_; rintro e w3 ⟨rfl,hb3⟩; have HA3 := hid (HA2.out.later hb3); have y2 := HA3.out.d2; have y3 := HA3.out.d3; clear hb3))
       go_ret
       exact ⟨Z1k HV.out.symm,HA3.out.box.below⟩
      ·by_cases g3 : d < -1099511627776
       ·have HV := hid (Z2a HS.out HX.out (show okP n (f,t,c,d) = false by simp [okP,hf,ht]; omega))
        clear hf ht; go_wp2_with (first
         | (go_at_call_of 79 (Value.int .i64 f); refine (Z1h HF.out _ _ _ _).mono ?_; rintro e w2 ⟨rfl,hb2⟩; have HA2 := hid (HA0.out.later hb2); have x0 := HA2.out.box.c0; have x1 := HA2.out.box.c1; have x2 := HA2.out.d1; clear hb2)
         | (go_at_call 79; refine (Z1h HT.out _ _ _ _).mono ?_; rintro e w3 ⟨rfl,hb3⟩; have HA3 := hid (HA2.out.later hb3); have y2 := HA3.out.d2; have y3 := HA3.out.d3; clear hb3))
        go_ret
        exact ⟨Z1k HV.out.symm,HA3.out.box.below⟩
       ·by_cases g4 : 1099511627776 < d
        ·have HV := hid (Z2a HS.out HX.out (show okP n (f,t,c,d) = false by simp [okP,hf,ht]; omega))
         clear hf ht; go_wp2_with (first
          | (go_at_call_of 79 (Value.int .i64 f); refine (Z1h HF.out _ _ _ _).mono ?_; rintro e w2 ⟨rfl,hb2⟩; have HA2 := hid (HA0.out.later hb2); have x0 := HA2.out.box.c0; have x1 := HA2.out.box.c1; have x2 := HA2.out.d1; clear hb2)
          | (go_at_call 79; refine (Z1h HT.out _ _ _ _).mono ?_; rintro e w3 ⟨rfl,hb3⟩; have HA3 := hid (HA2.out.later hb3); have y2 := HA3.out.d2; have y3 := HA3.out.d3; clear hb3))
         go_ret
         exact ⟨Z1k HV.out.symm,HA3.out.box.below⟩
        ·have HN := hid (Zhf HX.out HK.out (show okP n (f,t,c,d) = true by simp [okP,hf,ht]; omega))
         clear hf ht; go_wp2_with (first
          | (go_at_call_of 79 (Value.int .i64 f); refine (Z1h HF.out _ _ _ _).mono ?_; rintro e w2 ⟨rfl,hb2⟩; have HA2 := hid (HA0.out.later hb2); have x0 := HA2.out.box.c0; have x1 := HA2.out.box.c1; have x2 := HA2.out.d1; clear hb2)
          | (go_at_call 79; refine (Z1h HT.out _ _ _ _).mono ?_; rintro e w3 ⟨rfl,hb3⟩; have HA3 := hid (HA2.out.later hb3); have y2 := HA3.out.d2; have y3 := HA3.out.d3; clear hb3))
         go_roundw
         case rel => exact ⟨k + 1,by go_num,by omega,hid HA3.out.box,HN⟩
         case measure => simp [intOf]; omega
  ·have HV := hid (Zbv HS.out HK.out (by have := HL.out.1; omega))
   go_wp2_with fail
   go_ret
   exact ⟨Z1k HV.out.symm,HG.out.below⟩
theorem Z77 (n : Int) (len cap : Nat) (l : List Pi) (a : Option Addr) (w : World) (hl : IsPipes w.heap.size w a len l) :
  Calls Tryz.prog 78 #[.agg #[.int .i64 n,.slice a len cap]] w fun e w' => e = .returned (.int .i64 (Z1s n l)) ∧ Below w.heap.size w w' := by
 by_cases hs : n < 0 ∨ 1000 < n ∨ (20000 : Int) < (len : Int)
 ·rw [Zbu (by have := hl.1; omega)]
  exact Zbw hs cap a w
 ·exact Za0 hs cap a w hl
theorem Zhg (n s t : Int) (len cap : Nat) (l : List Pi) (a : Option Addr) (w : World) (hl : IsPipes w.heap.size w a len l) :
  Calls Tryz.prog 74 #[.agg #[.int .i64 n,.slice a len cap],.int .i64 s,.int .i64 t] w fun e w' => e = .returned (.int .i64 (endsP n l s t)) ∧ Below w.heap.size w w' := by
 have HG := hid (NBox.make (Below.refl _ w) n a len cap); have HCK := hid (Z77 n len cap l a _ (HG.out.pipesHere hl)); have HE : Hid (endsP n l s t = if Z1s n l ≠ 0 then Z1s n l else if isIn n s = true ∧ isIn n t = true ∧ s ≠ t then 0 else 2) := hid rfl
 generalize endsP n l s t = ev at HE ⊢; generalize Z1s n l = cv at HE HCK; clear hl; by_cases hc : cv = 0
 ·subst hc
  have HE2 : Hid (ev = if isIn n s = true ∧ isIn n t = true ∧ s ≠ t then 0 else 2) := hid HE.out
  clear HE; cases h1 : isIn n s with
  | false =>
   have HV : Hid (ev = 2) := hid (by rw [HE2.out,h1]; simp)
   have HS := hid h1; clear h1 HE2; go_enter Tryz.func74,Tryz.ntmps74
   go_wp2_with (first
    | (go_at_call 78; refine HCK.out.mono ?_; rintro e w2 ⟨rfl,hb2⟩; have HG2 := hid (HG.out.later hb2); have x0 := HG2.out.c0; have x1 := HG2.out.c1; clear hb2)
    | (go_at_call_of 79 (Value.int .i64 s); refine (Zd5 HS.out _ _ _ _).mono ?_; rintro e w3 ⟨rfl,hb3⟩; have HG3 := hid (HG2.out.later hb3); have y0 := HG3.out.c0; have y1 := HG3.out.c1; clear hb3))
   go_ret
   exact ⟨Z1k HV.out.symm,HG3.out.below⟩
  | true =>
   by_cases h3 : s = t
   ·subst h3
    have HV : Hid (ev = 2) := hid (by rw [HE2.out]; simp)
    have HS := hid h1; clear h1 HE2; go_enter Tryz.func74,Tryz.ntmps74
    go_wp2_with (first
     | (go_at_call 78; refine HCK.out.mono ?_; rintro e w2 ⟨rfl,hb2⟩; have HG2 := hid (HG.out.later hb2); have x0 := HG2.out.c0; have x1 := HG2.out.c1; clear hb2)
     | (go_at_call 79; refine (Z1h HS.out _ _ _ _).mono ?_; rintro e w3 ⟨rfl,hb3⟩; replace HG2 := hid (HG2.out.later hb3); have y0 := HG2.out.c0; have y1 := HG2.out.c1; clear hb3))
    go_ret
    exact ⟨Z1k HV.out.symm,HG2.out.below⟩
   ·have h3b : (s == t) = false := by simpa using h3
    cases h2 : isIn n t with
    | false =>
     have HV : Hid (ev = 2) := hid (by rw [HE2.out,h2]; simp)
     have HS := hid h1; have HT := hid h2; clear h1 h2 HE2; go_enter Tryz.func74,Tryz.ntmps74
     go_wp2_with (first
      | (go_at_call 78; refine HCK.out.mono ?_; rintro e w2 ⟨rfl,hb2⟩; have HG2 := hid (HG.out.later hb2); have x0 := HG2.out.c0; have x1 := HG2.out.c1; clear hb2)
      | (go_at_call_of 79 (Value.int .i64 s); refine (Z1h HS.out _ _ _ _).mono ?_; rintro e w3 ⟨rfl,hb3⟩; have HG3 := hid (HG2.out.later hb3); have y0 := HG3.out.c0; have y1 := HG3.out.c1; clear hb3)
      | (go_at_call_of 79 (Value.int .i64 t); refine (Zd5 HT.out _ _ _ _).mono ?_; rintro e w4 ⟨rfl,hb4⟩; have HG4 := hid (HG3.out.later hb4); clear hb4))
     go_ret
     exact ⟨Z1k HV.out.symm,HG4.out.below⟩
    | true =>
     have HV : Hid (ev = 0) := hid (by rw [HE2.out,h1,h2]; simp [h3])
     have HS := hid h1; have HT := hid h2; clear h1 h2 HE2 h3; go_enter Tryz.func74,Tryz.ntmps74
     go_wp2_with (first
      | (go_at_call 78; refine HCK.out.mono ?_; rintro e w2 ⟨rfl,hb2⟩; have HG2 := hid (HG.out.later hb2); have x0 := HG2.out.c0; have x1 := HG2.out.c1; clear hb2)
      | (go_at_call_of 79 (Value.int .i64 s); refine (Z1h HS.out _ _ _ _).mono ?_; rintro e w3 ⟨rfl,hb3⟩; have HG3 := hid (HG2.out.later hb3); have y0 := HG3.out.c0; have y1 := HG3.out.c1; clear hb3)
      | (go_at_call_of 79 (Value.int .i64 t); refine (Z1h HT.out _ _ _ _).mono ?_; rintro e w4 ⟨rfl,hb4⟩; have HG4 := hid (HG3.out.later hb4); clear hb4))
     go_ret
     exact ⟨Z1k HV.out.symm,HG4.out.below⟩
 ·have hcb : (cv != 0) = true := by simpa using hc
  have HV : Hid (ev = cv) := hid (by rw [HE.out,if_pos hc])
  clear hc HE; go_enter Tryz.func74,Tryz.ntmps74
  go_wp2_with (first
   | (go_at_call 78; refine HCK.out.mono ?_; rintro e w2 ⟨rfl,hb2⟩; have HG2 := hid (HG.out.later hb2); have x0 := HG2.out.c0; have x1 := HG2.out.c1; clear hb2))
  go_ret
  exact ⟨Z1k HV.out.symm,HG2.out.below⟩
end Go.Proofs.YtfkommjlmolniaaGreatDoor
end

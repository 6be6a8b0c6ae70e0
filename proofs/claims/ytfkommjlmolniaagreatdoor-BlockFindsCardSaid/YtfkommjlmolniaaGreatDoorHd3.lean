/- Joined: Count, Ones, BitsCalls, BlockSpec. -/
import Derived.Test.YtfkommjlmolniaaGreatDoorHd2
import Derived.Test.YtfkommjlmolniaaGreatDoorRows
import Derived.WalkKit
import Derived.Laws.BitsAllLaws
import Derived.Laws.Shifts
import Derived.Lib.Hide
import Derived.Shelf.Spec.TrailingZeros
import Derived.Test.YtfkommjlmolniaaGreatDoorHd1
set_option linter.unusedVariables false
section

namespace Go.Proofs.YtfkommjlmolniaaGreatDoor
theorem Z39 (a b c d : Nat) (hc : c < 256) (hd : d < 256) : (256 * a + c) &&& (256 * b + d) = 256 * (a &&& b) + (c &&& d) := by
 have e : (256 : Nat) = 2 ^ 8 := by decide
 have hcd : c &&& d < 2 ^ 8 := Nat.and_lt_two_pow _ (by rw [← e]; exact hd)
 apply Nat.eq_of_testBit_eq
 intro i; rw [e] at hc hd ⊢; rw [Nat.testBit_and,Nat.testBit_two_pow_mul_add _ hc,Nat.testBit_two_pow_mul_add _ hd,Nat.testBit_two_pow_mul_add _ hcd]; split <;> rw [Nat.testBit_and]
def rep (c : Nat) : Nat → Nat
 | 0 => 0
 | j + 1 => 256 * rep c j + c
theorem rep55 : rep 85 8 = 6148914691236517205 := by decide +kernel
theorem rep33 : rep 51 8 = 3689348814741910323 := by decide +kernel
theorem rep0f : rep 15 8 = 1085102592571150095 := by decide +kernel
def s1 (j x : Nat) : Nat := (x / 2 &&& rep 85 j) + (x &&& rep 85 j)
def s2 (j x : Nat) : Nat := (x / 4 &&& rep 51 j) + (x &&& rep 51 j)
def s3 (j x : Nat) : Nat := (x / 16 + x) &&& rep 15 j
def b1 (b : Nat) : Nat := (b / 2 &&& 85) + (b &&& 85)
def b2 (b : Nat) : Nat := (b / 4 &&& 51) + (b &&& 51)
def pop8 (b : Nat) : Nat := (List.range 8).countP b.testBit
theorem f1 : ∀ t,t < 2 → ∀ b,b < 256 → (t * 128 + b / 2) &&& 85 = b / 2 &&& 85 := by decide +kernel
theorem f2 : ∀ t,t < 4 → ∀ b,b < 256 → (t * 64 + b / 4) &&& 51 = b / 4 &&& 51 := by decide +kernel
theorem g1 : ∀ b,b < 256 → b1 b < 256 ∧ b2 (b1 b) < 256 ∧ b2 (b1 b) % 16 ≤ 4 ∧ b2 (b1 b) / 16 ≤ 4 ∧ pop8 b ≤ 8 := by decide +kernel
theorem f3 : ∀ t,t < 5 → ∀ b,b < 256 → (16 * t + b2 (b1 b) / 16 + b2 (b1 b)) &&& 15 = pop8 b := by decide +kernel
theorem Zmw (j a b : Nat) (hb : b < 256) : s1 (j + 1) (256 * a + b) = 256 * s1 j a + b1 b := by
 unfold s1 b1; have e : (256 * a + b) / 2 = 256 * (a / 2) + (a % 2 * 128 + b / 2) := by omega
 rw [e,rep,Z39 _ _ _ _ (by omega) (by omega),Z39 _ _ _ _ hb (by omega),f1 (a % 2) (by omega) b hb]
 omega
theorem Zmx (j a b : Nat) (hb : b < 256) : s2 (j + 1) (256 * a + b) = 256 * s2 j a + b2 b := by
 unfold s2 b2; have e : (256 * a + b) / 4 = 256 * (a / 4) + (a % 4 * 64 + b / 4) := by omega
 rw [e,rep,Z39 _ _ _ _ (by omega) (by omega),Z39 _ _ _ _ hb (by omega),f2 (a % 4) (by omega) b hb]
 omega
def s12 (j x : Nat) : Nat := s2 j (s1 j x)
theorem Zd4 (j a b : Nat) (hb : b < 256) : s12 (j + 1) (256 * a + b) = 256 * s12 j a + b2 (b1 b) := by
 unfold s12; rw [Zmw j a b hb,Zmx j _ _ (g1 b hb).1]
theorem Zmy (j x : Nat) : s12 j x % 16 ≤ 4 := by
 cases j with
 | zero => simp [s12,s1,s2,rep]
 | succ j =>
  have e : x = 256 * (x / 256) + x % 256 := by omega
  have hb : x % 256 < 256 := Nat.mod_lt _ (by omega)
  rw [e,Zd4 _ _ _ hb]; have := (g1 _ hb).2.2.1; omega
def s123 (j x : Nat) : Nat := s3 j (s12 j x)
theorem Zhb (j a b : Nat) (hb : b < 256) : s123 (j + 1) (256 * a + b) = 256 * s123 j a + pop8 b := by
 have hl := Zmy j a; have h1 := (g1 b hb).2.1; have h2 := (g1 b hb).2.2.1; have h3 := (g1 b hb).2.2.2.1; have h4 := f3 (s12 j a % 16) (by omega) b hb
 unfold s123 s3; rw [Zd4 j a b hb]; generalize b2 (b1 b) = v at h1 h2 h3 h4; generalize s12 j a = u at hl h4; have e : (256 * u + v) / 16 + (256 * u + v) = 256 * (u / 16 + u) + (16 * (u % 16) + v / 16 + v) := by omega
 rw [e,rep,Z39 _ _ _ _ (by omega) (by omega),h4]
theorem Zhc (x : Nat) : s123 0 x = 0 := by simp [s123,s3,rep]
theorem Zew (j a b : Nat) (hb : b < 256) : (List.range (8 * (j + 1))).countP (256 * a + b).testBit = pop8 b + (List.range (8 * j)).countP a.testBit := by
 have e : 8 * (j + 1) = 8 + 8 * j := by omega
 have e2 : (256 : Nat) = 2 ^ 8 := by decide
 rw [e,List.range_add,List.countP_append,List.countP_map]; unfold pop8; rw [e2] at hb ⊢; congr 1
 ·apply List.countP_congr
  intro i hi; have : i < 8 := by simpa using hi
  rw [Nat.testBit_two_pow_mul_add _ hb,if_pos this]
 ·apply List.countP_congr
  intro i _; simp only [Function.comp]
  rw [Nat.testBit_two_pow_mul_add _ hb,if_neg (by omega)]
  simp
theorem Znx (x : Nat) : ∃ p0 p1 p2 p3 p4 p5 p6 p7 : Nat,p0 ≤ 8 ∧ p1 ≤ 8 ∧ p2 ≤ 8 ∧ p3 ≤ 8 ∧ p4 ≤ 8 ∧ p5 ≤ 8 ∧ p6 ≤ 8 ∧ p7 ≤ 8 ∧
  s123 8 x = p0 + 256 * (p1 + 256 * (p2 + 256 * (p3 + 256 * (p4 + 256 * (p5 + 256 * (p6 + 256 * p7)))))) ∧ (allN x).length = p0 + (p1 + (p2 + (p3 + (p4 + (p5 + (p6 + p7)))))) := by
 have one : ∀ j y,s123 (j + 1) y = 256 * s123 j (y / 256) + pop8 (y % 256) := fun j y => by
  have e : y = 256 * (y / 256) + y % 256 := by omega
  conv => lhs; rw [e]
  exact Zhb j _ _ (Nat.mod_lt _ (by omega))
 have two : ∀ j y,(List.range (8 * (j + 1))).countP y.testBit = pop8 (y % 256) + (List.range (8 * j)).countP (y / 256).testBit := fun j y => by
  have e : y = 256 * (y / 256) + y % 256 := by omega
  conv => lhs; rw [e]
  exact Zew j _ _ (Nat.mod_lt _ (by omega))
 have le : ∀ y,pop8 (y % 256) ≤ 8 := fun y => (g1 _ (Nat.mod_lt _ (by omega))).2.2.2.2
 refine ⟨_,_,_,_,_,_,_,_,le x,le (x / 256),le (x / 256 / 256),le (x / 256 / 256 / 256),le (x / 256 / 256 / 256 / 256),le (x / 256 / 256 / 256 / 256 / 256),le (x / 256 / 256 / 256 / 256 / 256 / 256),le (x / 256 / 256 / 256 / 256 / 256 / 256 / 256),?_,?_⟩
 ·rw [one 7,one 6,one 5,one 4,one 3,one 2,one 1,one 0,Zhc]
  omega
 ·unfold allN
  rw [← List.countP_eq_length_filter,show (64 : Nat) = 8 * (7 + 1) from rfl,two 7,two 6,two 5,two 4,two 3,two 2,two 1,two 0]
  simp
theorem dv1 (p q : Nat) (h : p < 256) : (p + 256 * q) / 256 = q := by omega
theorem dv2 (a b z : Nat) (h : a < 256) (k : b < 256) : (a + 256 * (b + 256 * z)) / 65536 = z := by omega
theorem dv4 (a b c d z : Nat) (h : a < 256) (k : b < 256) (i : c < 256) (j : d < 256) : (a + 256 * (b + 256 * (c + 256 * (d + 256 * z)))) / 4294967296 = z := by omega
theorem md1 (a r : Nat) (h : a < 128) : (a + 256 * r) % 128 = a := by omega
theorem sum2 (a b x y : Nat) : (a + 256 * x) + (b + 256 * y) = (a + b) + 256 * (x + y) := by omega
theorem lt2 (a x B : Nat) (h : a < 256) (k : x < B) : a + 256 * x < 256 * B := by omega
theorem n60 : (1152921504606846976 : Nat) = 256 * (256 * (256 * (256 * (256 * (256 * (256 * 16)))))) := by decide +kernel
theorem lt8 (p0 p1 p2 p3 p4 p5 p6 p7 : Nat) (h0 : p0 ≤ 64) (h1 : p1 ≤ 64) (h2 : p2 ≤ 64) (h3 : p3 ≤ 64) (h4 : p4 ≤ 64) (h5 : p5 ≤ 64) (h6 : p6 ≤ 64) (h7 : p7 ≤ 8) : p0 + 256 * (p1 + 256 * (p2 + 256 * (p3 + 256 * (p4 + 256 * (p5 + 256 * (p6 + 256 * p7)))))) < 1152921504606846976 :=
 Nat.lt_of_lt_of_eq (lt2 _ _ _ (by omega) (lt2 _ _ _ (by omega) (lt2 _ _ _ (by omega) (lt2 _ _ _ (by omega) (lt2 _ _ _ (by omega) (lt2 _ _ _ (by omega) (lt2 _ _ _ (by omega) (by omega)))))))) n60.symm
theorem stepY (p0 p1 p2 p3 p4 p5 p6 p7 : Nat) (h0 : p0 ≤ 8) (h1 : p1 ≤ 8) (h2 : p2 ≤ 8) (h3 : p3 ≤ 8) (h4 : p4 ≤ 8) (h5 : p5 ≤ 8) (h6 : p6 ≤ 8) (h7 : p7 ≤ 8) : (p0 + 256 * (p1 + 256 * (p2 + 256 * (p3 + 256 * (p4 + 256 * (p5 + 256 * (p6 + 256 * p7))))))) + (p0 + 256 * (p1 + 256 * (p2 + 256 * (p3 + 256 * (p4 + 256 * (p5 + 256 * (p6 + 256 * p7))))))) / 256 = (p0 + p1) + 256 * ((p1 + p2) + 256 * ((p2 + p3) + 256 * ((p3 + p4) + 256 * ((p4 + p5) + 256 * ((p5 + p6) + 256 * ((p6 + p7) + 256 * p7)))))) := by
 rw [dv1 _ _ (by omega),sum2,sum2,sum2,sum2,sum2,sum2]
 have : p6 + 256 * p7 + p7 = p6 + p7 + 256 * p7 := by omega
 rw [this]
theorem stepZ (p0 p1 p2 p3 p4 p5 p6 p7 : Nat) (h0 : p0 ≤ 8) (h1 : p1 ≤ 8) (h2 : p2 ≤ 8) (h3 : p3 ≤ 8) (h4 : p4 ≤ 8) (h5 : p5 ≤ 8) (h6 : p6 ≤ 8) (h7 : p7 ≤ 8) : ((p0 + p1) + 256 * ((p1 + p2) + 256 * ((p2 + p3) + 256 * ((p3 + p4) + 256 * ((p4 + p5) + 256 * ((p5 + p6) + 256 * ((p6 + p7) + 256 * p7))))))) + ((p0 + p1) + 256 * ((p1 + p2) + 256 * ((p2 + p3) + 256 * ((p3 + p4) + 256 * ((p4 + p5) + 256 * ((p5 + p6) + 256 * ((p6 + p7) + 256 * p7))))))) / 65536 = (p0 + p1 + (p2 + p3)) + 256 * ((p1 + p2 + (p3 + p4)) + 256 * ((p2 + p3 + (p4 + p5)) + 256 * ((p3 + p4 + (p5 + p6)) + 256 * ((p4 + p5 + (p6 + p7)) + 256 * ((p5 + p6 + p7) + 256 * ((p6 + p7) + 256 * p7)))))) := by
 rw [dv2 _ _ _ (by omega) (by omega),sum2,sum2,sum2,sum2,sum2]
 have : p5 + p6 + 256 * (p6 + p7 + 256 * p7) + p7 = p5 + p6 + p7 + 256 * (p6 + p7 + 256 * p7) := by omega
 rw [this]
theorem stepT (p0 p1 p2 p3 p4 p5 p6 p7 : Nat) (h0 : p0 ≤ 8) (h1 : p1 ≤ 8) (h2 : p2 ≤ 8) (h3 : p3 ≤ 8) (h4 : p4 ≤ 8) (h5 : p5 ≤ 8) (h6 : p6 ≤ 8) (h7 : p7 ≤ 8) : ((p0 + p1 + (p2 + p3)) + 256 * ((p1 + p2 + (p3 + p4)) + 256 * ((p2 + p3 + (p4 + p5)) + 256 * ((p3 + p4 + (p5 + p6)) + 256 * ((p4 + p5 + (p6 + p7)) + 256 * ((p5 + p6 + p7) + 256 * ((p6 + p7) + 256 * p7))))))) + ((p0 + p1 + (p2 + p3)) + 256 * ((p1 + p2 + (p3 + p4)) + 256 * ((p2 + p3 + (p4 + p5)) + 256 * ((p3 + p4 + (p5 + p6)) + 256 * ((p4 + p5 + (p6 + p7)) + 256 * ((p5 + p6 + p7) + 256 * ((p6 + p7) + 256 * p7))))))) / 4294967296 = (p0 + p1 + (p2 + p3) + (p4 + p5 + (p6 + p7))) + 256 * ((p1 + p2 + (p3 + p4) + (p5 + p6 + p7)) + 256 * ((p2 + p3 + (p4 + p5) + (p6 + p7)) + 256 * ((p3 + p4 + (p5 + p6) + p7) + 256 * ((p4 + p5 + (p6 + p7)) + 256 * ((p5 + p6 + p7) + 256 * ((p6 + p7) + 256 * p7)))))) := by
 rw [dv4 _ _ _ _ _ (by omega) (by omega) (by omega) (by omega),sum2,sum2,sum2]
 generalize p4 + p5 + (p6 + p7) + 256 * (p5 + p6 + p7 + 256 * (p6 + p7 + 256 * p7)) = q; have : p3 + p4 + (p5 + p6) + 256 * q + p7 = p3 + p4 + (p5 + p6) + p7 + 256 * q := by omega
 rw [this]
theorem ltV (p0 p1 p2 p3 p4 p5 p6 p7 : Nat) (h0 : p0 ≤ 8) (h1 : p1 ≤ 8) (h2 : p2 ≤ 8) (h3 : p3 ≤ 8) (h4 : p4 ≤ 8) (h5 : p5 ≤ 8) (h6 : p6 ≤ 8) (h7 : p7 ≤ 8) : p0 + 256 * (p1 + 256 * (p2 + 256 * (p3 + 256 * (p4 + 256 * (p5 + 256 * (p6 + 256 * p7)))))) < 1152921504606846976 := lt8 _ _ _ _ _ _ _ _ (by omega) (by omega) (by omega) (by omega) (by omega) (by omega) (by omega) (by omega)
theorem ltY (p0 p1 p2 p3 p4 p5 p6 p7 : Nat) (h0 : p0 ≤ 8) (h1 : p1 ≤ 8) (h2 : p2 ≤ 8) (h3 : p3 ≤ 8) (h4 : p4 ≤ 8) (h5 : p5 ≤ 8) (h6 : p6 ≤ 8) (h7 : p7 ≤ 8) : (p0 + p1) + 256 * ((p1 + p2) + 256 * ((p2 + p3) + 256 * ((p3 + p4) + 256 * ((p4 + p5) + 256 * ((p5 + p6) + 256 * ((p6 + p7) + 256 * p7)))))) < 1152921504606846976 := lt8 _ _ _ _ _ _ _ _ (by omega) (by omega) (by omega) (by omega) (by omega) (by omega) (by omega) (by omega)
theorem ltZ (p0 p1 p2 p3 p4 p5 p6 p7 : Nat) (h0 : p0 ≤ 8) (h1 : p1 ≤ 8) (h2 : p2 ≤ 8) (h3 : p3 ≤ 8) (h4 : p4 ≤ 8) (h5 : p5 ≤ 8) (h6 : p6 ≤ 8) (h7 : p7 ≤ 8) : (p0 + p1 + (p2 + p3)) + 256 * ((p1 + p2 + (p3 + p4)) + 256 * ((p2 + p3 + (p4 + p5)) + 256 * ((p3 + p4 + (p5 + p6)) + 256 * ((p4 + p5 + (p6 + p7)) + 256 * ((p5 + p6 + p7) + 256 * ((p6 + p7) + 256 * p7)))))) < 1152921504606846976 := lt8 _ _ _ _ _ _ _ _ (by omega) (by omega) (by omega) (by omega) (by omega) (by omega) (by omega) (by omega)
theorem ltT (p0 p1 p2 p3 p4 p5 p6 p7 : Nat) (h0 : p0 ≤ 8) (h1 : p1 ≤ 8) (h2 : p2 ≤ 8) (h3 : p3 ≤ 8) (h4 : p4 ≤ 8) (h5 : p5 ≤ 8) (h6 : p6 ≤ 8) (h7 : p7 ≤ 8) : (p0 + p1 + (p2 + p3) + (p4 + p5 + (p6 + p7))) + 256 * ((p1 + p2 + (p3 + p4) + (p5 + p6 + p7)) + 256 * ((p2 + p3 + (p4 + p5) + (p6 + p7)) + 256 * ((p3 + p4 + (p5 + p6) + p7) + 256 * ((p4 + p5 + (p6 + p7)) + 256 * ((p5 + p6 + p7) + 256 * ((p6 + p7) + 256 * p7)))))) < 1152921504606846976 := lt8 _ _ _ _ _ _ _ _ (by omega) (by omega) (by omega) (by omega) (by omega) (by omega) (by omega) (by omega)
theorem modT (p0 p1 p2 p3 p4 p5 p6 p7 : Nat) (h0 : p0 ≤ 8) (h1 : p1 ≤ 8) (h2 : p2 ≤ 8) (h3 : p3 ≤ 8) (h4 : p4 ≤ 8) (h5 : p5 ≤ 8) (h6 : p6 ≤ 8) (h7 : p7 ≤ 8) : ((p0 + p1 + (p2 + p3) + (p4 + p5 + (p6 + p7))) + 256 * ((p1 + p2 + (p3 + p4) + (p5 + p6 + p7)) + 256 * ((p2 + p3 + (p4 + p5) + (p6 + p7)) + 256 * ((p3 + p4 + (p5 + p6) + p7) + 256 * ((p4 + p5 + (p6 + p7)) + 256 * ((p5 + p6 + p7) + 256 * ((p6 + p7) + 256 * p7))))))) % 128 = p0 + (p1 + (p2 + (p3 + (p4 + (p5 + (p6 + p7)))))) := by
 rw [md1 _ _ (by omega)]
 omega
theorem Zex (x : Nat) : s123 8 x < 1152921504606846976 ∧ ∃ y z t : Nat,y = s123 8 x + s123 8 x / 256 ∧ z = y + y / 65536 ∧ t = z + z / 4294967296 ∧ y < 1152921504606846976 ∧ z < 1152921504606846976 ∧ t < 1152921504606846976 ∧ t % 128 = (allN x).length := by
 obtain ⟨p0,p1,p2,p3,p4,p5,p6,p7,h0,h1,h2,h3,h4,h5,h6,h7,e,l⟩ := Znx x; rw [l,e]; exact ⟨ltV p0 p1 p2 p3 p4 p5 p6 p7 h0 h1 h2 h3 h4 h5 h6 h7,_,_,_,(stepY p0 p1 p2 p3 p4 p5 p6 p7 h0 h1 h2 h3 h4 h5 h6 h7).symm,(stepZ p0 p1 p2 p3 p4 p5 p6 p7 h0 h1 h2 h3 h4 h5 h6 h7).symm,(stepT p0 p1 p2 p3 p4 p5 p6 p7 h0 h1 h2 h3 h4 h5 h6 h7).symm,
  ltY p0 p1 p2 p3 p4 p5 p6 p7 h0 h1 h2 h3 h4 h5 h6 h7,ltZ p0 p1 p2 p3 p4 p5 p6 p7 h0 h1 h2 h3 h4 h5 h6 h7,ltT p0 p1 p2 p3 p4 p5 p6 p7 h0 h1 h2 h3 h4 h5 h6 h7,modT p0 p1 p2 p3 p4 p5 p6 p7 h0 h1 h2 h3 h4 h5 h6 h7⟩
end Go.Proofs.YtfkommjlmolniaaGreatDoor
end
section

namespace Go.Proofs.YtfkommjlmolniaaGreatDoor
open Go.Lib (hid)
open Go.RowKit
theorem Z1p (n : Nat) (h : n < 18446744073709551616) : IntKind.u64.wrap (n : Int) = (n : Int) := by rw [IntKind.wrap_u64]; omega
theorem Zft (a : Nat) (ha : a < 9223372036854775808) : bits .and .i64 (a : Int) 127 = ((a % 128 : Nat) : Int) := by
 have h1 : (BitVec.ofInt 64 (a : Int)).toNat = a := by
  rw [BitVec.ofInt_natCast,BitVec.toNat_ofNat]; exact Nat.mod_eq_of_lt (by omega)
 have h2 : (BitVec.ofInt 64 127).toNat = 2 ^ 7 - 1 := by decide
 show IntKind.i64.wrap ((BitVec.ofInt 64 (a : Int) &&& BitVec.ofInt 64 127).toNat : Int) = _
 rw [BitVec.toNat_and,h1,h2,Nat.and_two_pow_sub_one_eq_mod,IntKind.wrap_i64]; omega
theorem Zo3 (x : Nat) : (x / 2 &&& 6148914691236517205) + (x &&& 6148914691236517205) = s1 8 x := by unfold s1; rw [rep55]
theorem Zo4 (x : Nat) : (x / 4 &&& 3689348814741910323) + (x &&& 3689348814741910323) = s2 8 x := by unfold s2; rw [rep33]
theorem Zo5 (x : Nat) : (x / 16 + x) &&& 1085102592571150095 = s3 8 x := by unfold s3; rw [rep0f]
theorem Zdo (a m B : Nat) (h : m < B) : a &&& m < B := Nat.lt_of_le_of_lt Nat.and_le_right h
theorem Zl9 (x : Nat) (hx : x < 18446744073709551616) (w : World) : Calls Tryz.prog 37 #[.int .u64 x] w fun e w' => e = .returned (.int .i64 ((allN x).length : Nat)) ∧ w = w' := by
 obtain ⟨hv,y,z,t,hy,hz,ht,ly,lz,lt,hl⟩ := Zex x; have hs1 := Zo3 x; have e1 := u64_and_nat (x / 2) 6148914691236517205 (by omega) (by omega)
 have e2 := u64_and_nat x 6148914691236517205 hx (by omega)
 have l1 := Zdo (x / 2) 6148914691236517205 6148914691236517206 (by omega)
 have l2 := Zdo x 6148914691236517205 6148914691236517206 (by omega)
 generalize (x / 2 &&& 6148914691236517205) = a1 at hs1 e1 l1; generalize (x &&& 6148914691236517205) = a2 at hs1 e2 l2; have e3 := Z1p (a1 + a2) (by omega)
 have hs12 : s123 8 x = s3 8 (s2 8 (s1 8 x)) := rfl; rw [hs12] at hv hy; rw [hs1] at e3; have lA : s1 8 x < 18446744073709551616 := by omega
 have c3 : ((a1 + a2 : Nat) : Int) = (a1 : Int) + (a2 : Int) := by simp
 generalize s1 8 x = A at hv hy e3 lA hs1; have hs2 := Zo4 A; have e4 := u64_and_nat (A / 4) 3689348814741910323 (by omega) (by omega)
 have e5 := u64_and_nat A 3689348814741910323 lA (by omega)
 have l4 := Zdo (A / 4) 3689348814741910323 3689348814741910324 (by omega)
 have l5 := Zdo A 3689348814741910323 3689348814741910324 (by omega)
 generalize (A / 4 &&& 3689348814741910323) = b1 at hs2 e4 l4; generalize (A &&& 3689348814741910323) = b2 at hs2 e5 l5; have e6 := Z1p (b1 + b2) (by omega)
 rw [hs2] at e6; have lB : s2 8 A < 8000000000000000000 := by omega
 generalize s2 8 A = B at hv hy e6 lB hs2; have hs3 := Zo5 B; have e7 := Z1p (B / 16 + B) (by omega)
 have e8 := u64_and_nat (B / 16 + B) 1085102592571150095 (by omega) (by omega)
 rw [hs3] at e8; generalize s3 8 B = D at hv hy e8 hs3; have e9 := Z1p (D + D / 256) (by omega)
 rw [← hy] at e9; have e10 := Z1p (y + y / 65536) (by omega)
 rw [← hz] at e10; have e11 := Z1p (z + z / 4294967296) (by omega)
 rw [← ht] at e11; have e12 := Zft t (by omega)
 rw [hl] at e12; have E1 : bits .and .u64 ((x : Int) / 2) 6148914691236517205 = (a1 : Int) := by simpa using e1
 have E2 : bits .and .u64 (x : Int) 6148914691236517205 = (a2 : Int) := by simpa using e2
 have E3 : IntKind.u64.wrap ((a1 : Int) + (a2 : Int)) = (A : Int) := by rw [show (a1 : Int) + (a2 : Int) = (A : Int) by omega]; exact e3
 have E4 : bits .and .u64 ((A : Int) / 4) 3689348814741910323 = (b1 : Int) := by simpa using e4
 have E5 : bits .and .u64 (A : Int) 3689348814741910323 = (b2 : Int) := by simpa using e5
 have E6 : IntKind.u64.wrap ((b1 : Int) + (b2 : Int)) = (B : Int) := by rw [show (b1 : Int) + (b2 : Int) = (B : Int) by omega]; exact e6
 obtain ⟨C,hC⟩ : ∃ C,C = B / 16 + B := ⟨_,rfl⟩; rw [← hC] at e7 e8; have E7 : IntKind.u64.wrap ((B : Int) / 16 + (B : Int)) = (C : Int) := by rw [show (B : Int) / 16 + (B : Int) = (C : Int) by omega]; exact e7
 have E8 : bits .and .u64 (C : Int) 1085102592571150095 = (D : Int) := by simpa using e8
 have E9 : IntKind.u64.wrap ((D : Int) + (D : Int) / 256) = (y : Int) := by rw [show (D : Int) + (D : Int) / 256 = (y : Int) by omega]; exact e9
 have E10 : IntKind.u64.wrap ((y : Int) + (y : Int) / 65536) = (z : Int) := by rw [show (y : Int) + (y : Int) / 65536 = (z : Int) by omega]; exact e10
 have E11 : IntKind.u64.wrap ((z : Int) + (z : Int) / 4294967296) = (t : Int) := by rw [show (z : Int) + (z : Int) / 4294967296 = (t : Int) by omega]; exact e11
 have E12 := hid e12; have lt2 : (t : Int) ≤ 9223372036854775807 := by omega
 clear hx e1 e2 e3 e4 e5 e6 e7 e8 e9 e10 e11 e12 l1 l2 l4 l5 lA lB hs1 hs2 hs3 hC hy hz ht hl hv ly lz lt hs12 c3; go_enter Tryz.func37,Tryz.ntmps37
 go_wp2
 go_ret
 exact ⟨Z8s E12.out,rfl⟩
end Go.Proofs.YtfkommjlmolniaaGreatDoor
end
section

namespace Go.Proofs.YtfkommjlmolniaaGreatDoor
open Go.RowKit
def TabD (w : World) : Prop := ∀ j,j < 64 → w.cell? ⟨0,j,none⟩ = some (.int .u8 ((Lib.deBruijn64tab.getD j 0 : Nat) : Int))
theorem Z09 {w w' : World} (h : TabD w) (hb : Below w.heap.size w w') : TabD w' := fun j hj => by
 have hl : 0 < w.heap.size := World.block_lt_of_cell? w _ (h j hj); rw [hb.cell (p := ⟨0,j,none⟩) hl]; exact h j hj
theorem Zmt (x k idx : Nat) (w : World) (hx0 : ((x : Int) == 0) = false)
  (key : IntKind.u64.wrap (bits BinOp.and IntKind.u64 (x : Int) (IntKind.u64.wrap (-(x : Int))) * 285870213051353865) / 288230376151711744 = (idx : Int))
  (hi : idx < 64) (hk : k < 64) (hcell : w.cell? ⟨0,idx,none⟩ = some (.int .u8 k)) :
  Calls Tryz.prog 97 #[.int .u64 x] w fun e w' => e = .returned (.int .i64 k) ∧ w = w' := by
 go_enter Tryz.func97,Tryz.ntmps97
 go_wp2_with (simp only [key])
 go_ret
 exact ⟨rfl,rfl⟩
theorem Znw (x : Nat) (hx : x < 18446744073709551616) (hx0 : x ≠ 0) (w : World) (hT : TabD w) : Calls Tryz.prog 97 #[.int .u64 x] w fun e w' => e = .returned (.int .i64 (Lib.ctz 64 x)) ∧ w = w' := by
 obtain ⟨hlow,hk⟩ := Lib.lowest_bit 64 x hx0 hx; obtain ⟨hi,htab⟩ := Lib.deBruijn64_at _ hk; have hcell := hT _ hi; rw [htab] at hcell; exact Zmt x _ _ w (by simp; omega) (tz64_key x _ hx hx0 hlow) hi hk hcell
end Go.Proofs.YtfkommjlmolniaaGreatDoor
end
section

namespace Go.Proofs.YtfkommjlmolniaaGreatDoor
open Go.RowKit
abbrev blkC (k who z : Int) : Value := .agg #[.int .i64 k,.int .i64 who,.int .u64 z]
structure BlockSpec : Prop where
 counts : ∀ (A : InA) (x : Ins) (w : World),IsIns w.heap.size w A x → TabD w → May x → Calls Tryz.prog 10 #[.agg (insC A x)] w fun e w' => ∃ (l : List Int) (a : Option Addr) (c : Nat),e = .returned (.slice a l.length c) ∧ IsNums w'.heap.size w' a l.length l ∧ CountsX x l ∧ Below w.heap.size w w'
 find : ∀ (A : InA) (x : Ins) (w : World),IsIns w.heap.size w A x → TabD w → May x → Calls Tryz.prog 12 #[.agg (insC A x)] w fun e w' => ∃ k who z : Nat,e = .returned (.tuple #[blkC (k : Int) (who : Int) (z : Int),.bool (decide (k ≠ 0))]) ∧ FoundX x k who z ∧ Below w.heap.size w w'
 countsNo : ∀ (A : InA) (x : Ins) (w : World),IsIns w.heap.size w A x → x.cost.length ≤ 9223372036854775807 → x.time.length ≤ 9223372036854775807 → Z0m x ≠ 0 → Calls Tryz.prog 10 #[.agg (insC A x)] w fun e w' => ∃ (a : Option Addr) (c : Nat),e = .returned (.slice a 0 c) ∧ Below w.heap.size w w'
 findNo : ∀ (A : InA) (x : Ins) (w : World),IsIns w.heap.size w A x → x.cost.length ≤ 9223372036854775807 → x.time.length ≤ 9223372036854775807 → Z0m x ≠ 0 → Calls Tryz.prog 12 #[.agg (insC A x)] w fun e w' => e = .returned (.tuple #[blkC 0 0 0,.bool false]) ∧ Below w.heap.size w w'
 rightNo : ∀ (A : InA) (x : Ins) (k who z : Int) (w : World),IsIns w.heap.size w A x → x.cost.length ≤ 9223372036854775807 → x.time.length ≤ 9223372036854775807 → Fits k → Fits who → 0 ≤ z ∧ z < 18446744073709551616 → Z0m x ≠ 0 → Calls Tryz.prog 15 #[.agg (insC A x),blkC k who z] w fun e w' => e = .returned (.bool false) ∧ Below w.heap.size w w'
end Go.Proofs.YtfkommjlmolniaaGreatDoor
end

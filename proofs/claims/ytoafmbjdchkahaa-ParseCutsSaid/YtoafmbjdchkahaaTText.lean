/- The law's own text of an instance. -/
import Derived.Test.YtoafmbjdchkahaaQWords
import Derived.Test.YtoafmbjdchkahaaRText
import Derived.Test.YtoafmbjdchkahaaIPick
import Derived.Deep.QuietTactic
import Derived.Deep.LoopGhost
import Derived.LoopTactic
import Derived.Laws.DeepStrings4
namespace Go.Proofs.Ytoafmbjdchkahaa
open Go.RowKit
open Go.Lib (itoa)

variable {w wr w2 : World} {A : InA} {x : Ins} {i k g B : Nat}
/-- The text so far: words, each behind a blank, behind the first one. -/
def SoFar (y : ByteArray) (l : List (List UInt8)) : Prop := y = ⟨(tWharfage ++ spW l).toArray⟩
theorem SoFar.add {y z : ByteArray} {l m : List (List UInt8)} (h : SoFar y l) (hz : z = ⟨(spW m).toArray⟩) : SoFar (y ++ z) (l ++ m) := by
  unfold SoFar at *
  subst h hz
  apply ByteArray.ext
  apply Array.ext'
  simp [spW_append]
/-- What is told of the costs and the times, i of them. -/
def preW (x : Ins) (i : Nat) : List (List UInt8) := headW x ++ (x.sats.flatMap satW ++ ([tCustomers, itoa x.cus.length] ++ (x.cus.flatMap cusW ++ ((if 0 < i then tCost :: x.cost.flatMap rowW else []) ++ (if 1 < i then tTime :: x.time.flatMap rowW else [])))))
theorem preW_two (x : Ins) : preW x 2 = midW x := by simp [preW, midW]
def labW (i : Nat) : List UInt8 := if i = 0 then tCost else tTime
theorem preW_next (x : Ins) (h : i < 2) : preW x (i + 1) = preW x i ++ (labW i :: (x.pick i).flatMap rowW) := by
  obtain rfl | rfl : i = 0 ∨ i = 1 := by omega
  · simp [preW, labW, Ins.pick]
  · simp [preW, labW, Ins.pick]
theorem take_flat {α : Type} {l : List α} {f : α → List (List UInt8)} {k : Nat} {y : α} (h : l[k]? = some y) : (l.take (k + 1)).flatMap f = (l.take k).flatMap f ++ f y := by
  rw [List.take_add_one, h]
  simp
/-- Two strings, one behind the other. -/
theorem cat_of (a b : ByteArray) (na nb : Nat) (ha : a.size ≤ na) (hb : b.size ≤ nb) (h : na + nb ≤ 1000000) : ∃ z, (∀ W0 : World, (Op.stringOp .add a b).run Try.prog W0 = .ok (.string z) W0) ∧ z.size ≤ na + nb ∧ Hid (z = a ++ b) :=
  ⟨a ++ b, fun W0 => run_string_add_sum W0 a b (by omega), by simp; omega, Lib.hid rfl⟩
theorem lookTwo (W0 : World) (u0 u1 : Value) (T : TypeId) (z : Nat) (hz : W0.heap.size = z) (i : Nat) (h : i < 2) : (W0.alloc (.cells #[u0, u1] T)).cell? ⟨z, i, none⟩ = some (if i = 0 then u0 else u1) := by
  subst hz
  obtain rfl | rfl : i = 0 ∨ i = 1 := by omega
  · simp
  · simp
def labS (i : Nat) : ByteArray := if i = 0 then ⟨#[32, 99, 111, 115, 116]⟩ else ⟨#[32, 116, 105, 109, 101]⟩
theorem labS_size (i : Nat) : (labS i).size ≤ 5 := by unfold labS; split <;> decide
theorem labS_eq (i : Nat) : labS i = ⟨(spW [labW i]).toArray⟩ := by
  unfold labS labW
  split <;> rfl
set_option maxHeartbeats 8000000 in
set_option maxRecDepth 100000 in
theorem text_any (A : InA) (x : Ins) (w : World) (hi : IsIns w.heap.size w A x) (hm : May x) :
    Calls Try.prog 13 #[.agg (insC A x)] w fun e w' => e = .returned (.string ⟨(textB x).toArray⟩) ∧ Below w.heap.size w w' := by
  have HG := Lib.hid (XBox.make (Below.refl _ w) A x)
  have HI := Lib.hid (HG.out.pipesHere hi)
  obtain ⟨c0, c1, c2, c3, c4, c5, c6, c7, c8⟩ := HG.out.cells
  obtain ⟨T, hT⟩ : ∃ T : Int → ByteArray, ∀ n, T n = ⟨(itoa n).toArray⟩ := ⟨_, fun _ => rfl⟩
  have HT : Hid (∀ (n : Int) (W0 : World), 0 ≤ n → n ≤ 1000000000 → Calls Try.prog 35 #[.int .i64 n] W0 fun e w' => e = .returned (.string (T n)) ∧ w' = W0) := Lib.hid fun n W0 h1 h2 => by
    rw [hT]
    exact (rtext_any n (by unfold Fits; omega) W0).mono fun e w' ⟨q1, q2⟩ => ⟨q1, q2.symm⟩
  have HTS : Hid (∀ n, 0 ≤ n → n ≤ 1000000000 → (T n).size ≤ 10) := Lib.hid fun n h1 h2 => by
    rw [hT]
    have := itoa_short h1 h2
    simpa [ByteArray.size] using this
  have HTD := Lib.hid hT
  have HM := Lib.hid hm
  clear hi hT
  obtain ⟨e1a, e1b⟩ := hm.en
  obtain ⟨e2a, e2b⟩ := hm.tm
  obtain ⟨e3a, e3b⟩ := hm.tr
  obtain ⟨e4a, e4b⟩ := hm.bm
  obtain ⟨e5a, e5b⟩ := hm.br
  obtain ⟨e6a, e6b⟩ := hm.ns
  obtain ⟨e7a, e7b⟩ := hm.nc
  have HPL : Hid (∀ i, i < 2 → (x.pick i).length ≤ 61 ∧ ∀ (k : Nat) (r : List Int), (x.pick i)[k]? = some r → r.length ≤ 61 ∧ ∀ (j : Nat) (v : Int), r[j]? = some v → 0 ≤ v ∧ v ≤ 1000000000) := Lib.hid (fun i _ => by
    have hn : x.nodes ≤ 61 := by unfold Ins.nodes; omega
    have el : ∀ {k j : Nat} {v : Int}, elB k j v = true → 0 ≤ v ∧ v ≤ 1000000000 := fun h => by
      simp [elB, inB_] at h
      omega
    unfold Ins.pick
    split
    · exact ⟨by rw [hm.lc]; exact hn, fun k r hk => ⟨by rw [(hm.cost k r hk).1]; exact hn, fun j v hj => el ((hm.cost k r hk).2 j v hj)⟩⟩
    · exact ⟨by rw [hm.lt]; exact hn, fun k r hk => ⟨by rw [(hm.time k r hk).1]; exact hn, fun j v hj => el ((hm.time k r hk).2 j v hj)⟩⟩)
  have HSB : Hid (∀ s ∈ x.sats, (0 ≤ s.1 ∧ s.1 ≤ 1000000000) ∧ 0 ≤ s.2 ∧ s.2 ≤ 1000000000) := Lib.hid (fun s hs => by
    have := hm.sats s hs
    simp [satB, inB_] at this
    omega)
  have HCB : Hid (∀ s ∈ x.cus, (0 ≤ s.1 ∧ s.1 ≤ 1000000000) ∧ (0 ≤ s.2.1 ∧ s.2.1 ≤ 1000000000) ∧ (0 ≤ s.2.2.1 ∧ s.2.2.1 ≤ 1000000000) ∧ 0 ≤ s.2.2.2 ∧ s.2.2.2 ≤ 1000000000) := Lib.hid (fun s hs => by
    have := hm.cus s hs
    simp [cusB, inB_] at this
    omega)
  have s1 := HTS.out x.en e1a e1b
  have s2 := HTS.out x.tm (by omega) (by omega)
  have s3 := HTS.out x.tr e3a e3b
  have s4 := HTS.out x.bm (by omega) (by omega)
  have s5 := HTS.out x.br e5a e5b
  have s6 := HTS.out (x.sats.length : Int) (by omega) (by omega)
  have s7 := HTS.out (x.cus.length : Int) (by omega) (by omega)
  clear hm
  unfold insC at *
  obtain ⟨z1, az1, lz1, Ez1⟩ := cat_of ⟨#[119, 104, 97, 114, 102, 97, 103, 101, 32]⟩ (T x.en) 9 10 (Nat.le_refl _) s1 (by omega)
  obtain ⟨z2, az2, lz2, Ez2⟩ := cat_of z1 ⟨#[32, 116, 114, 117, 99, 107, 115, 32]⟩ 19 8 lz1 (Nat.le_refl _) (by omega)
  obtain ⟨z3, az3, lz3, Ez3⟩ := cat_of z2 (T x.tm) 27 10 lz2 s2 (by omega)
  obtain ⟨z4, az4, lz4, Ez4⟩ := cat_of z3 ⟨#[32]⟩ 37 1 lz3 (Nat.le_refl _) (by omega)
  obtain ⟨z5, az5, lz5, Ez5⟩ := cat_of z4 (T x.tr) 38 10 lz4 s3 (by omega)
  obtain ⟨z6, az6, lz6, Ez6⟩ := cat_of z5 ⟨#[32, 98, 105, 107, 101, 115, 32]⟩ 48 7 lz5 (Nat.le_refl _) (by omega)
  obtain ⟨z7, az7, lz7, Ez7⟩ := cat_of z6 (T x.bm) 55 10 lz6 s4 (by omega)
  obtain ⟨z8, az8, lz8, Ez8⟩ := cat_of z7 ⟨#[32]⟩ 65 1 lz7 (Nat.le_refl _) (by omega)
  obtain ⟨z9, az9, lz9, Ez9⟩ := cat_of z8 (T x.br) 66 10 lz8 s5 (by omega)
  obtain ⟨z10, az10, lz10, Ez10⟩ := cat_of z9 ⟨#[32, 115, 97, 116, 101, 108, 108, 105, 116, 101, 115, 32]⟩ 76 12 lz9 (Nat.le_refl _) (by omega)
  obtain ⟨z11, az11, lz11, Ez11⟩ := cat_of z10 (T (x.sats.length : Int)) 88 10 lz10 s6 (by omega)
  have HS0 : Hid (SoFar z11 (headW x ++ (x.sats.take 0).flatMap satW)) := Lib.hid (by
    rw [Ez11.out, Ez10.out, Ez9.out, Ez8.out, Ez7.out, Ez6.out, Ez5.out, Ez4.out, Ez3.out, Ez2.out, Ez1.out]
    simp only [HTD.out]
    unfold SoFar headW
    apply ByteArray.ext
    apply Array.ext'
    simp [spW, tWharfage, tTrucks, tBikes, tSatellites])
  go_enter Try.func13, Try.ntmps13
  go_wp2_with fail
  go_quiet ((go_at_call 35; exact Calls.quiet_of_same (HT.out _ _ (by omega) (by omega))))
  have HX0 : Hid (XBox w ((w.alloc (.cells #[.int .i64 x.en, .int .i64 x.tm, .int .i64 x.tr, .int .i64 x.bm, .int .i64 x.br, .slice A.sa x.sats.length A.sc, .slice A.ca x.cus.length A.cc, .slice A.ka x.cost.length A.kc, .slice A.ta x.time.length A.tc] 29)).drewN nq) w.heap.size A x) := Lib.hid (HG.out.later (below_drewN (Below.refl _ _) nq))
  have HI0 : Hid (IsIns (w.heap.size + 1) ((w.alloc (.cells #[.int .i64 x.en, .int .i64 x.tm, .int .i64 x.tr, .int .i64 x.bm, .int .i64 x.br, .slice A.sa x.sats.length A.sc, .slice A.ca x.cus.length A.cc, .slice A.ka x.cost.length A.kc, .slice A.ta x.time.length A.tc] 29)).drewN nq) A x) := Lib.hid (by
    have h := HI.out.later (below_drewN (Below.refl _ _) nq)
    simpa using h)
  clear HG HI c0 c1 c2 c3 c4
  clear az1 Ez1 lz1
  clear az2 Ez2 lz2
  clear az3 Ez3 lz3
  clear az4 Ez4 lz4
  clear az5 Ez5 lz5
  clear az6 Ez6 lz6
  clear az7 Ez7 lz7
  clear az8 Ez8 lz8
  clear az9 Ez9 lz9
  clear az10 Ez10 lz10
  clear az11 Ez11
  have hy0 : z11.size ≤ 200 := by omega
  clear lz11 s1 s2 s3 s4 s5 s6
  go_wp2_with fail
  obtain ⟨wS, hwS⟩ : ∃ z, z = ((w.alloc (.cells #[.int .i64 x.en, .int .i64 x.tm, .int .i64 x.tr, .int .i64 x.bm, .int .i64 x.br, .slice A.sa x.sats.length A.sc, .slice A.ca x.cus.length A.cc, .slice A.ka x.cost.length A.kc, .slice A.ta x.time.length A.tc] 29)).drewN nq) := ⟨_, rfl⟩
  rw [← hwS] at HX0 HI0 ⊢
  clear hwS c5 c6 c7 c8
  obtain ⟨bx, hbx⟩ : ∃ b, w.heap.size = b := ⟨_, rfl⟩
  rw [hbx] at HX0 HI0 ⊢
  have HBX := Lib.hid hbx
  clear hbx
  have HLS : bx + 1 ≤ wS.heap.size := HX0.out.lt
  go_loopw [3, 51] (fun yv iv wr => ∃ (k : Nat) (y : ByteArray), iv = .int .i64 (k : Int) ∧ yv = .string y ∧ k ≤ x.sats.length ∧ y.size ≤ 200 + k * 22 ∧ Hid (XBox w wr bx A x) ∧ Hid (Below wS.heap.size wS wr) ∧ Hid (SoFar y (headW x ++ (x.sats.take k).flatMap satW))) (fun _ iv _ => x.sats.length - (intOf iv).toNat)
  case atStart => exact ⟨0, _, rfl, rfl, Nat.zero_le _, by omega, HX0, Lib.hid (Below.refl _ _), HS0⟩
  case round =>
    obtain ⟨k, y, rfl, rfl, hk, hys, HX, HBW, HS⟩ := hrel
    clear HX0 HS0
    by_cases hlt : k < x.sats.length
    · obtain ⟨b, off, q, hA, hb, hq, p0, p1⟩ := (HI0.out.sats.later (HBW.out.mono HLS)).at_ hlt
      have HQ := Lib.hid hq
      have hqb := HSB.out q (List.mem_of_getElem? hq)
      obtain ⟨a, b⟩ := q
      simp only at p0 p1 hqb
      obtain ⟨⟨a1, a2⟩, b1, b2⟩ := hqb
      rw [hA]
      clear hq hA hy0
      have sa := HTS.out a a1 a2
      have sb := HTS.out b b1 b2
      obtain ⟨q1, aq1, lq1, Eq1⟩ := cat_of ⟨#[32]⟩ (T a) 1 10 (Nat.le_refl _) sa (by omega)
      obtain ⟨q2, aq2, lq2, Eq2⟩ := cat_of q1 ⟨#[32]⟩ 11 1 lq1 (Nat.le_refl _) (by omega)
      obtain ⟨q3, aq3, lq3, Eq3⟩ := cat_of q2 (T b) 12 10 lq2 sb (by omega)
      obtain ⟨r1, ar1, lr1, Er1⟩ := cat_of y q3 (200 + k * 22) 22 hys lq3 (by omega)
      have HS2 : Hid (SoFar r1 (headW x ++ (x.sats.take (k + 1)).flatMap satW)) := Lib.hid (by
        rw [Er1.out, take_flat HQ.out, ← List.append_assoc]
        refine HS.out.add ?_
        rw [Eq3.out, Eq2.out, Eq1.out]
        simp only [HTD.out]
        unfold satW
        apply ByteArray.ext
        apply Array.ext'
        simp [spW])
      have HXN := Lib.hid (HX.out.later ((Below.refl wr.heap.size wr).alloc (Nat.le_refl _) (.cells #[.int .i64 a, .int .i64 b] 61)))
      have HBN := Lib.hid (HBW.out.trans (((Below.refl wr.heap.size wr).alloc (Nat.le_refl _) (.cells #[.int .i64 a, .int .i64 b] 61)).mono HBW.out.size))
      go_wp2_with fail
      go_quiet ((go_at_call 35; exact Calls.quiet_of_same (HT.out _ _ (by omega) (by omega))))
      have HX3 := Lib.hid (HXN.out.later (below_drewN (Below.refl _ _) nq))
      have HB3 := Lib.hid (below_drewN HBN.out nq)
      go_wp2_with fail
      go_roundw
      case rel => exact ⟨k + 1, _, by go_num, rfl, by omega, by omega, HX3, HB3, HS2⟩
      case measure => simp [intOf]; omega
    · obtain rfl : k = x.sats.length := by omega
      have HF := HS.out
      rw [List.take_length] at HF
      have HFS := Lib.hid HF
      clear HF HS hlt hk hy0
      obtain ⟨u1, au1, lu1, Eu1⟩ := cat_of ⟨#[32, 99, 117, 115, 116, 111, 109, 101, 114, 115, 32]⟩ (T (x.cus.length : Int)) 11 10 (Nat.le_refl _) s7 (by omega)
      obtain ⟨u2, au2, lu2, Eu2⟩ := cat_of y u1 (200 + x.sats.length * 22) 21 hys lu1 (by omega)
      have HS0 : Hid (SoFar u2 ((headW x ++ x.sats.flatMap satW ++ [tCustomers, itoa x.cus.length]) ++ (x.cus.take 0).flatMap cusW)) := Lib.hid (by
        rw [Eu2.out, List.take_zero, List.flatMap_nil, List.append_nil]
        refine HFS.out.add ?_
        rw [Eu1.out]
        simp only [HTD.out]
        apply ByteArray.ext
        apply Array.ext'
        simp [spW, tCustomers])
      obtain ⟨_, _, _, _, _, c5, c6, c7, c8⟩ := HX.out.cells
      have HX0 := HX
      obtain ⟨wT, hwT⟩ : ∃ z, z = wr := ⟨_, rfl⟩
      subst hwT
      have hlS := HBW.out.size
      have hy0 : u2.size ≤ 500 := by omega
      clear lu2 lu1 hys
      go_wp2_with ((go_at_call 35; refine (HT.out _ _ (by omega) (by omega)).mono ?_; rintro e w3 ⟨rfl, rfl⟩))
      clear au1 au2 Eu1 Eu2 s7 HX c5 c6 c7 c8
      have HBW0 := HBW
      clear HBW
      go_loopw [3, 77] (fun yv iv wr => ∃ (k : Nat) (y : ByteArray), iv = .int .i64 (k : Int) ∧ yv = .string y ∧ k ≤ x.cus.length ∧ y.size ≤ 500 + k * 44 ∧ Hid (XBox w wr bx A x) ∧ Hid (Below w3.heap.size w3 wr) ∧ Hid (SoFar y ((headW x ++ x.sats.flatMap satW ++ [tCustomers, itoa x.cus.length]) ++ (x.cus.take k).flatMap cusW))) (fun _ iv _ => x.cus.length - (intOf iv).toNat)
      case atStart => exact ⟨0, _, rfl, rfl, Nat.zero_le _, by omega, HX0, Lib.hid (Below.refl _ _), HS0⟩
      case round =>
        obtain ⟨k, y, rfl, rfl, hk, hys, HX, HBW, HS⟩ := hrel
        clear HX0 HS0
        by_cases hlt : k < x.cus.length
        · obtain ⟨b, off, q, hA, hb, hq, p0, p1, p2, p3⟩ := ((HI0.out.cus.later (HBW0.out.mono HLS)).later (HBW.out.mono (by omega))).at_ hlt
          have HQ := Lib.hid hq
          have hqb := HCB.out q (List.mem_of_getElem? hq)
          obtain ⟨a, b, c, d⟩ := q
          simp only at p0 p1 p2 p3 hqb
          obtain ⟨⟨a1, a2⟩, ⟨b1, b2⟩, ⟨c1, c2⟩, d1, d2⟩ := hqb
          rw [hA]
          clear hq hA hy0
          have sa := HTS.out a a1 a2
          have sb := HTS.out b b1 b2
          have sc := HTS.out c c1 c2
          have sd := HTS.out d d1 d2
          obtain ⟨q1, aq1, lq1, Eq1⟩ := cat_of ⟨#[32]⟩ (T a) 1 10 (Nat.le_refl _) sa (by omega)
          obtain ⟨q2, aq2, lq2, Eq2⟩ := cat_of q1 ⟨#[32]⟩ 11 1 lq1 (Nat.le_refl _) (by omega)
          obtain ⟨q3, aq3, lq3, Eq3⟩ := cat_of q2 (T b) 12 10 lq2 sb (by omega)
          obtain ⟨q4, aq4, lq4, Eq4⟩ := cat_of q3 ⟨#[32]⟩ 22 1 lq3 (Nat.le_refl _) (by omega)
          obtain ⟨q5, aq5, lq5, Eq5⟩ := cat_of q4 (T c) 23 10 lq4 sc (by omega)
          obtain ⟨q6, aq6, lq6, Eq6⟩ := cat_of q5 ⟨#[32]⟩ 33 1 lq5 (Nat.le_refl _) (by omega)
          obtain ⟨q7, aq7, lq7, Eq7⟩ := cat_of q6 (T d) 34 10 lq6 sd (by omega)
          obtain ⟨r1, ar1, lr1, Er1⟩ := cat_of y q7 (500 + k * 44) 44 hys lq7 (by omega)
          have HS2 : Hid (SoFar r1 ((headW x ++ x.sats.flatMap satW ++ [tCustomers, itoa x.cus.length]) ++ (x.cus.take (k + 1)).flatMap cusW)) := Lib.hid (by
            rw [Er1.out, take_flat HQ.out, ← List.append_assoc]
            refine HS.out.add ?_
            rw [Eq7.out, Eq6.out, Eq5.out, Eq4.out, Eq3.out, Eq2.out, Eq1.out]
            simp only [HTD.out]
            unfold cusW
            apply ByteArray.ext
            apply Array.ext'
            simp [spW])
          have HXN := Lib.hid (HX.out.later ((Below.refl wr.heap.size wr).alloc (Nat.le_refl _) (.cells #[.int .i64 a, .int .i64 b, .int .i64 c, .int .i64 d] 64)))
          have HBN := Lib.hid (HBW.out.trans (((Below.refl wr.heap.size wr).alloc (Nat.le_refl _) (.cells #[.int .i64 a, .int .i64 b, .int .i64 c, .int .i64 d] 64)).mono HBW.out.size))
          go_wp2_with fail
          go_quiet ((go_at_call 35; exact Calls.quiet_of_same (HT.out _ _ (by omega) (by omega))))
          have HX3 := Lib.hid (HXN.out.later (below_drewN (Below.refl _ _) nq))
          have HB3 := Lib.hid (below_drewN HBN.out nq)
          go_wp2_with fail
          go_roundw
          case rel => exact ⟨k + 1, _, by go_num, rfl, by omega, by omega, HX3, HB3, HS2⟩
          case measure => simp [intOf]; omega
        · obtain rfl : k = x.cus.length := by omega
          have HF := HS.out
          rw [List.take_length] at HF
          have HP0 : Hid (SoFar y (preW x 0)) := Lib.hid (by
            have e : preW x 0 = (headW x ++ x.sats.flatMap satW ++ [tCustomers, itoa x.cus.length]) ++ x.cus.flatMap cusW := by simp [preW]
            rw [e]
            exact HF)
          obtain ⟨_, _, _, _, _, c5, c6, c7, c8⟩ := HX.out.cells
          have HB5 : Hid (Below wS.heap.size wS wr) := Lib.hid (HBW0.out.trans (HBW.out.mono HBW0.out.size))
          obtain ⟨w5, hren⟩ : ∃ z, z = wr := ⟨_, rfl⟩
          subst hren
          have hyt : y.size ≤ 3000 := by omega
          have HTL : Hid (TwoL w5 (w5.alloc (.cells #[.slice A.ka x.cost.length A.kc, .slice A.ta x.time.length A.tc] 27)) w5.heap.size A x) := Lib.hid ⟨(Below.refl _ _).alloc (Nat.le_refl _) _, heap_alloc_new _ _⟩
          have hl5 : bx + 1 ≤ w5.heap.size := Nat.le_trans HLS HB5.out.size
          have HR6 : Hid (∀ i, IsRows (bx + 1) (w5.alloc (.cells #[.slice A.ka x.cost.length A.kc, .slice A.ta x.time.length A.tc] 27)) (A.pick i) (x.pick i).length (x.pick i)) := Lib.hid (fun i => ((HI0.out.rows i).later (HB5.out.mono HLS)).later ((Below.refl (bx + 1) w5).alloc hl5 _))
          have HB6 : Hid (Below w.heap.size w (w5.alloc (.cells #[.slice A.ka x.cost.length A.kc, .slice A.ta x.time.length A.tc] 27))) := Lib.hid (HX.out.below.alloc HX.out.below.size _)
          have hs6 : (w5.alloc (.cells #[.slice A.ka x.cost.length A.kc, .slice A.ta x.time.length A.tc] 27)).heap.size = w5.heap.size + 1 := by simp
          clear HF HS hlt hk hys HX HBW HBW0 HB5
          go_wp2_with fail
          clear c5 c6 c7 c8
          obtain ⟨W6, hW6⟩ : ∃ z, z = w5.alloc (.cells #[.slice A.ka x.cost.length A.kc, .slice A.ta x.time.length A.tc] 27) := ⟨_, rfl⟩
          rw [← hW6] at HTL HR6 HB6 hs6 ⊢
          clear hW6
          obtain ⟨g, hg⟩ : ∃ g, w5.heap.size = g := ⟨_, rfl⟩
          rw [hg] at HTL hs6 hl5 ⊢
          clear hg
          go_loopw [3, 109] (fun yv iv wr => ∃ (i : Nat) (y : ByteArray), iv = .int .i64 (i : Int) ∧ yv = .string y ∧ i ≤ 2 ∧ y.size ≤ 3000 + i * 41000 ∧ Hid (Below W6.heap.size W6 wr) ∧ Hid (SoFar y (preW x i))) (fun _ iv _ => 2 - (intOf iv).toNat)
          case atStart => exact ⟨0, _, rfl, rfl, Nat.zero_le _, by omega, Lib.hid (Below.refl _ _), HP0⟩
          case round =>
            obtain ⟨i, y, rfl, rfl, hi, hys, HBW, HS⟩ := hrel
            clear HP0 hyt
            by_cases hlt : i < 2
            · have hdi : decide ((i : Int) < 2) = true := by simp; omega
              have e0 := (HBW.out.cell (p := ⟨g, i, none⟩) (by simp; omega)).trans (HTL.out.at_ hlt)
              obtain ⟨hpl, hpr⟩ := HPL.out i hlt
              have HPR := Lib.hid hpr
              have HRI := Lib.hid (HR6.out i)
              have HNX := Lib.hid (preW_next x hlt)
              have HLS2 := Lib.hid (labS_size i)
              have HLE := Lib.hid (labS_eq i)
              obtain ⟨L, hL⟩ : ∃ L, x.pick i = L := ⟨_, rfl⟩
              rw [hL] at e0 HRI hpl HPR HNX
              clear hpr hL
              generalize A.pick i = pa at e0 HRI
              generalize A.cap i = pc at e0
              have e1 := lookTwo wr (.string ⟨#[32, 99, 111, 115, 116]⟩) (.string ⟨#[32, 116, 105, 109, 101]⟩) 9 wr.heap.size rfl i hlt
              rw [show (if i = 0 then Value.string ⟨#[32, 99, 111, 115, 116]⟩ else .string ⟨#[32, 116, 105, 109, 101]⟩) = .string (labS i) by unfold labS; split <;> rfl] at e1
              obtain ⟨lab, hlab⟩ : ∃ l, labS i = l := ⟨_, rfl⟩
              rw [hlab] at e1 HLS2 HLE
              clear hlab
              obtain ⟨r1, ar1, lr1, Er1⟩ := cat_of y lab (3000 + i * 41000) 5 hys HLS2.out (by omega)
              have HB7 := Lib.hid (HBW.out.trans (((Below.refl wr.heap.size wr).alloc (Nat.le_refl _) (.cells #[.string ⟨#[32, 99, 111, 115, 116]⟩, .string ⟨#[32, 116, 105, 109, 101]⟩] 9)).mono HBW.out.size))
              have HS0 : Hid (SoFar r1 ((preW x i ++ [labW i]) ++ (L.take 0).flatMap rowW)) := Lib.hid (by
                rw [Er1.out, List.take_zero, List.flatMap_nil, List.append_nil]
                exact HS.out.add HLE.out)
              clear HS HLE HLS2 hys
              go_wp2_with fail
              clear e0 e1 ar1 Er1
              go_loopw [3, 122] (fun yv kv wr => ∃ (k : Nat) (y : ByteArray), kv = .int .i64 (k : Int) ∧ yv = .string y ∧ k ≤ L.length ∧ y.size ≤ 3000 + i * 41000 + 5 + k * 671 ∧ Hid (Below W6.heap.size W6 wr) ∧ Hid (SoFar y ((preW x i ++ [labW i]) ++ (L.take k).flatMap rowW))) (fun _ kv _ => L.length - (intOf kv).toNat)
              case atStart => exact ⟨0, _, rfl, rfl, Nat.zero_le _, by omega, HB7, HS0⟩
              case round =>
                obtain ⟨k, y, rfl, rfl, hk, hys, HBW, HS⟩ := hrel
                clear HS0 HB7 lr1
                by_cases hlk : k < L.length
                · obtain ⟨b, off, r, ra, rc, rfl, hb, hr, hrl, h1, hrn⟩ := (HRI.out.later (HBW.out.mono (by omega))).at_ hlk
                  have HRN : Hid (IsNums (bx + 1) wr ra r.length r) := Lib.hid hrn
                  have HRR := Lib.hid hr
                  obtain ⟨hr61, hrv⟩ := HPR.out k r hr
                  have HRV := Lib.hid hrv
                  have HS0 : Hid (SoFar y (((preW x i ++ [labW i]) ++ (L.take k).flatMap rowW) ++ rowW (r.take 0))) := Lib.hid (by
                    have h := HS.out
                    simpa [rowW] using h)
                  obtain ⟨wk, hren⟩ : ∃ z, z = wr := ⟨_, rfl⟩
                  subst hren
                  have hlk6 : bx + 1 ≤ wk.heap.size := by have := HBW.out.size; omega
                  clear hr hrn hrv
                  go_wp2_with fail
                  clear h1
                  go_loopw [3, 128] (fun yv jv wr => ∃ (j : Nat) (y : ByteArray), jv = .int .i64 (j : Int) ∧ yv = .string y ∧ j ≤ r.length ∧ y.size ≤ 3000 + i * 41000 + 5 + k * 671 + j * 11 ∧ Hid (Below wk.heap.size wk wr) ∧ Hid (SoFar y (((preW x i ++ [labW i]) ++ (L.take k).flatMap rowW) ++ rowW (r.take j)))) (fun _ jv _ => r.length - (intOf jv).toNat)
                  case atStart => exact ⟨0, _, rfl, rfl, Nat.zero_le _, by omega, Lib.hid (Below.refl _ _), HS0⟩
                  case round =>
                    obtain ⟨j, y2, rfl, rfl, hj, hys2, HBK, HS2⟩ := hrel
                    clear HS0
                    by_cases hlj : j < r.length
                    · obtain ⟨b2, off2, v, rfl, hv, q0⟩ := (HRN.out.later (HBK.out.mono hlk6)).at_ hlj
                      obtain ⟨v1, v2⟩ := HRV.out j v hv
                      have sv := HTS.out v v1 v2
                      have HV := Lib.hid hv
                      obtain ⟨q1, aq1, lq1, Eq1⟩ := cat_of ⟨#[32]⟩ (T v) 1 10 (Nat.le_refl _) sv (by omega)
                      obtain ⟨r1, ar1, lr1, Er1⟩ := cat_of y2 q1 (3000 + i * 41000 + 5 + k * 671 + j * 11) 11 hys2 lq1 (by omega)
                      have HS3 : Hid (SoFar r1 (((preW x i ++ [labW i]) ++ (L.take k).flatMap rowW) ++ rowW (r.take (j + 1)))) := Lib.hid (by
                        rw [Er1.out, show rowW (r.take (j + 1)) = rowW (r.take j) ++ [itoa v] by unfold rowW; rw [List.take_add_one, HV.out]; simp, ← List.append_assoc]
                        refine HS2.out.add ?_
                        rw [Eq1.out, HTD.out]
                        apply ByteArray.ext
                        apply Array.ext'
                        simp [spW])
                      clear hv
                      go_wp2_with ((go_at_call 35; refine (HT.out _ _ (by omega) (by omega)).mono ?_; rintro e w8 ⟨rfl, rfl⟩))
                      go_roundw
                      case rel => exact ⟨j + 1, _, by go_num, rfl, by omega, by omega, HBK, HS3⟩
                      case measure => simp [intOf]; omega
                    · obtain rfl : j = r.length := by omega
                      have HS3 : Hid (SoFar y2 ((preW x i ++ [labW i]) ++ (L.take (k + 1)).flatMap rowW)) := Lib.hid (by
                        have h := HS2.out
                        rw [List.take_length, List.append_assoc] at h
                        rw [take_flat HRR.out]
                        exact h)
                      have HB9 := Lib.hid (HBW.out.trans (HBK.out.mono HBW.out.size))
                      go_wp2_with fail
                      go_roundw
                      case rel => exact ⟨k + 1, _, by go_num, rfl, by omega, by omega, HB9, HS3⟩
                      case measure => simp [intOf]; omega
                · obtain rfl : k = L.length := by omega
                  have HS3 : Hid (SoFar y (preW x (i + 1))) := Lib.hid (by
                    have h := HS.out
                    rw [List.take_length, List.append_assoc] at h
                    rw [HNX.out]
                    exact h)
                  go_wp2_with fail
                  go_roundw
                  case rel => exact ⟨i + 1, _, by go_num, rfl, by omega, by omega, HBW, HS3⟩
                  case measure => simp [intOf]; omega
            · obtain rfl : i = 2 := by omega
              obtain ⟨r1, ar1, lr1, Er1⟩ := cat_of y ⟨#[32, 101, 110, 100]⟩ (3000 + 2 * 41000) 4 hys (Nat.le_refl _) (by omega)
              have HF : Hid (r1 = ⟨(textB x).toArray⟩) := Lib.hid (by
                have h := HS.out
                rw [preW_two] at h
                rw [Er1.out]
                have h2 := h.add (z := ⟨#[32, 101, 110, 100]⟩) (m := [tEnd]) rfl
                exact h2)
              have HBF := Lib.hid (HB6.out.trans (HBW.out.mono HB6.out.size))
              go_wp2_with fail
              go_ret
              exact ⟨by rw [← HF.out]; rfl, HBF.out⟩
          
end Go.Proofs.Ytoafmbjdchkahaa

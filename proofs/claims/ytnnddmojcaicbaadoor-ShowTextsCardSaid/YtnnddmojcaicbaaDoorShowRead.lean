/- The walk of the law on what is read, told, and read again. -/
import Derived.Test.YtnnddmojcaicbaaDoorShowAwake
import Derived.Test.YtnnddmojcaicbaaDoorQAns
import Derived.Test.YtnnddmojcaicbaaDoorISame
namespace Go.Proofs.YtnnddmojcaicbaaDoor
open Go.RowKit

/-- What is told, as a string. -/
theorem show_str {x : Ins} {tx : ByteArray} (h : tx = ⟨(showB x).toArray⟩) : tx.data.toList = showB x ∧ tx.size = (showB x).length := by
  subst h
  constructor
  · simp
  · simp [ByteArray.size]
set_option maxHeartbeats 8000000 in
set_option maxRecDepth 100000 in
theorem showRead_walk (H : ShowSpec) (t : ByteArray) (hs : t.size ≤ maxLen) (w : World) (ht : Tab w) :
    Calls Tryd.prog 6 #[.string t] w (Holds w) := by
  unfold maxLen at hs
  have HT := Lib.hid ht
  have HH := Lib.hid H
  clear ht H
  unfold Holds
  by_cases hbig : 3000 < t.size
  · have hd : decide ((3000 : Int) < (t.size : Int)) = true := by simp; omega
    go_enter Tryd.func6, Tryd.ntmps6
    go_wp2_with (go_at_call 8; refine (show_awake HH.out _ HT.out).mono ?_; rintro e w1 ⟨rfl, hb1⟩; have HB1 := Lib.hid hb1; clear hb1)
    go_ret
    exact ⟨rfl, HB1.out⟩
  · have hd : decide ((3000 : Int) < (t.size : Int)) = false := by simp; omega
    have HP : Hid (∀ W0, Calls Tryd.prog 15 #[.string t] W0 (Ans (textI t.data.toList) (textAt t.data.toList) (textC t.data.toList) W0)) := Lib.hid fun W0 => parse_ins t W0 (by omega)
    have HL := Lib.hid (textI_light t.data.toList)
    have HE : Hid (textC t.data.toList = 0 → instErr (textI t.data.toList) = 0) := Lib.hid textI_may
    generalize textI t.data.toList = X at *
    generalize textAt t.data.toList = p at *
    generalize textC t.data.toList = c at *
    go_enter Tryd.func6, Tryd.ntmps6
    go_wp2_with (go_at_call 8; refine (show_awake HH.out _ HT.out).mono ?_; rintro e w1 ⟨rfl, hb1⟩; have HB1 := Lib.hid hb1; clear hb1)
    refine (HP.out _).mono ?_
    rintro e w2 ⟨A1, rfl, hi2, hb2⟩
    have hb3 := (Below.refl w2.heap.size w2).alloc (Nat.le_refl _) (.cells (insC A1 X) 38)
    have HI3 := Lib.hid ((hi2.later hb3).mono (by simp : w2.heap.size ≤ (w2.alloc (.cells (insC A1 X) 38)).heap.size))
    have HB3 := Lib.hid ((HB1.out.trans (hb2.mono HB1.out.size)).trans (hb3.mono (HB1.out.trans (hb2.mono HB1.out.size)).size))
    have HX3 := Lib.hid (XBox.make (Below.refl _ w2) A1 X)
    obtain ⟨x0, x1, x2, x3, x4, x5, x6, x7, x8⟩ := HX3.out.cells
    clear HP hi2 hb2 HB1 hb3
    by_cases hc : c = 0
    · have hmay : May X := May.of_err (HE.out hc)
      have HMAY := Lib.hid hmay
      obtain ⟨tx, htx⟩ : ∃ tx : ByteArray, tx = ⟨(showB X).toArray⟩ := ⟨_, rfl⟩
      have hst := show_str htx
      have HTT : Hid (∀ (A2 : InA) (W0 : World), Tab W0 → IsIns W0.heap.size W0 A2 X → Calls Tryd.prog 12 #[.agg (insC A2 X)] W0 fun e w' => e = .returned (.string tx) ∧ Below W0.heap.size W0 w') := Lib.hid (fun A2 W0 h1 h2 => by rw [htx]; exact HH.out.text A2 X W0 h1 h2 HMAY.out)
      have HP2 : Hid (∀ W0, Calls Tryd.prog 15 #[.string tx] W0 (Ans X 0 0 W0)) := Lib.hid (fun W0 => by
        have h := parse_ins tx W0 (by rw [hst.2]; have := show_len hmay; omega)
        rw [hst.1] at h
        obtain ⟨r1, r2, r3⟩ := show_read hmay
        unfold ParseP at h
        rw [r1, r2, r3] at h
        exact h)
      have heq : (tx.toList == tx.toList) = true := by simp
      have HSR := Lib.hid (sameI_refl X)
      subst hc
      clear hmay htx hst HE
      unfold insC at *
      go_wp2_with (first
        | (go_at_call 12; refine (HTT.out A1 _ (HT.out.later HB3.out) HI3.out).mono ?_; rintro e w4 ⟨rfl, hb4⟩; have HX4 := Lib.hid (HX3.out.later hb4); have HI4 := Lib.hid ((HI3.out.later hb4).mono hb4.size); have HB4 := Lib.hid (HB3.out.trans (hb4.mono HB3.out.size)); clear hb4))
      refine (HP2.out _).mono ?_
      rintro e w5 ⟨A5, rfl, hi5, hb5⟩
      have hb6 := (Below.refl w5.heap.size w5).alloc (Nat.le_refl _) (.cells (insC A5 X) 38)
      have hs6 : w5.heap.size ≤ (w5.alloc (.cells (insC A5 X) 38)).heap.size := by simp
      have HJ6 := Lib.hid ((hi5.later hb6).mono hs6)
      have HI6 := Lib.hid ((HI4.out.later (hb5.trans (hb6.mono hb5.size))).mono (Nat.le_trans hb5.size hs6))
      have HX6 := Lib.hid (HX4.out.later (hb5.trans (hb6.mono hb5.size)))
      have HB6 := Lib.hid (HB4.out.trans ((hb5.trans (hb6.mono hb5.size)).mono HB4.out.size))
      have HY6 := Lib.hid (heap_alloc_new w5 (.cells (insC A5 X) 38))
      have hy6 := HY6.out
      unfold insC at hy6
      obtain ⟨y0, y1, y2, y3, y4, y5, y6, y7, y8, _⟩ := cells9 hy6
      obtain ⟨v0, v1, v2, v3, v4, v5, v6, v7, v8⟩ := HX6.out.cells
      have HSm := Lib.hid (lawSame_any A1 A5 X X _ HI6.out HJ6.out HL.out)
      clear HP2 hi5 hb5 hb6 hs6 hy6 x0 x1 x2 x3 x4 x5 x6 x7 x8 HX4 HI4 HX3 HI3 HB4
      unfold insC at *
      go_wp2_with fail
      refine HSm.out.mono ?_
      rintro e w7 ⟨rfl, hb7⟩
      have HB7 := Lib.hid (HB6.out.trans (hb7.mono HB6.out.size))
      have HJ7 := Lib.hid ((HJ6.out.later hb7).mono hb7.size)
      have hy7 := (hb7.block _ (Array.getElem?_eq_some_iff.1 HY6.out).1).trans HY6.out
      obtain ⟨z0, z1, z2, z3, z4, z5, z6, z7, z8, _⟩ := cells9 hy7
      rw [HSR.out]
      clear hb7 hy7 HJ6 HSm y0 y1 y2 y3 y4 y5 y6 y7 y8 v0 v1 v2 v3 v4 v5 v6 v7 v8
      go_wp2_with (go_at_call 12; refine (HTT.out A5 _ (HT.out.later HB7.out) HJ7.out).mono ?_; rintro e w8 ⟨rfl, hb8⟩; have HB8 := Lib.hid (HB7.out.trans (hb8.mono HB7.out.size)); clear hb8)
      go_ret
      exact ⟨rfl, HB8.out⟩
    · have hcc : (c != 0) = true := by simpa using hc
      clear hc
      go_wp2_with fail
      go_ret
      exact ⟨rfl, HB3.out⟩
end Go.Proofs.YtnnddmojcaicbaaDoor

/- Joined: FMost, LeastIs. -/
import Derived.Test.YtbenmebmfihleaaWEmpty
import Derived.Test.YtbenmebmfihleaaWBegun
import Derived.Test.YtbenmebmfihleaaKLeast
import Derived.Test.YtbenmebmfihleaaKRight
section
/- Package flow: Most. -/
namespace Go.Proofs.Ytbenmebmfihleaa
open Go.RowKit

variable {w wr w2 : World} {a : Option Addr} {len cap N s t : Nat} {l : List Pi} {E : Env} {fl st : Nat → Int} {hi nx : Nat → Nat} {fv : Nat → Value} {Q : Nat → List Nat} {top : Int}
theorem owns_longs {base g len : Nat} {f : Nat → Int} (h : w.rowIs g 2 len (fun i => .int .i64 (f i))) (hb : base ≤ g) (hN : len ≤ maxLen) : LongRow w base (.slice (some ⟨g, 0, none⟩) len len) len f := by
  obtain ⟨cs, hg, hs, hc⟩ := h
  refine ⟨by simp [rowF], .inr ⟨g, len, cs, rfl, hb, hg, Nat.le_refl _, hN, by omega, ?_⟩⟩
  rw [Nat.mul_one, List.take_of_length_le (by simp [hs])]
  apply List.ext_getElem?
  intro j
  by_cases hj : j < len
  · rw [Array.getElem?_toList, hc j hj, rowF_get f hj]
  · rw [List.getElem?_eq_none (by simp; omega), List.getElem?_eq_none (by rw [rowF_length]; omega)]
set_option maxHeartbeats 2000000 in
theorem fmost_bad (n s t : Int) (len cap : Nat) (l : List Pi) (a : Option Addr) (w : World) (he : endsP n l s t ≠ 0) (hl : IsPipes w.heap.size w a len l) :
    Calls Try.prog 11 #[.agg #[.int .i64 n, .slice a len cap], .int .i64 s, .int .i64 t] w fun e w' => Below w.heap.size w w' ∧ ∃ a1 c1, e = .returned (.tuple #[.slice a1 0 c1, .int .i64 0, .int .i64 (endsP n l s t)]) := by
  have HG := Lib.hid (NBox.make (Below.refl _ w) n a len cap)
  have HEN := Lib.hid (fends_any n s t len cap l a _ (HG.out.pipesHere hl))
  have hb : (endsP n l s t != 0) = true := by simpa using he
  generalize endsP n l s t = ev at hb HEN ⊢
  clear hl he
  go_enter Try.func11, Try.ntmps11
  go_wp2_with (go_at_call 17; refine HEN.out.mono ?_; rintro e w2 ⟨rfl, hb2⟩; have HG2 := Lib.hid (HG.out.later hb2); clear hb2)
  go_ret3
  exact ⟨HG2.out.below, _, _, rfl⟩
/-- Between two rounds: a node was taken, or there is none. -/
structure Turn (E : Env) (wr : World) (fl : Nat → Int) (hi nx : Nat → Nat) (fv : Nat → Value) (Q : Nat → List Nat) (top : Int) (u : Nat) (b : Bool) : Prop where
  wk : Wk E fl (exc E fl) hi nx (cnt E.N hi) fv Q top wr
  pr : PRE E fl hi nx
  yes : b = true → Que E (exc E fl) Q top u ∧ u < E.N ∧ 0 < exc E fl u ∧ u ≠ E.s ∧ u ≠ E.t
  no : b = false → ∀ i, i < E.N → i ≠ E.s → i ≠ E.t → exc E fl i ≤ 0
/-- take, as it stands between two rounds. -/
theorem take_turn (H : Busy E E.N wr fl hi nx fv Q top) (hn : E.Net) :
    Calls Try.prog 20 #[.pointer (some ⟨E.p, 0, none⟩)] wr fun e w' => Below E.C wr w' ∧ ∃ u b fv2 Q2 top2, e = .returned (.tuple #[.int .i64 ((u : Nat) : Int), .bool b]) ∧ Turn E w' fl hi nx fv2 Q2 top2 u b := by
  refine (take_any H.wk hn H.que).mono ?_
  rintro e w' ⟨hb, h | h⟩
  · obtain ⟨u, fv2, Q2, top2, rfl, hk, hq, h1, h2, h3, h4⟩ := h
    exact ⟨hb, u, true, fv2, Q2, top2, rfl, hk, H.pr, fun _ => ⟨hq, h1, h2, h3, h4⟩, fun h => by cases h⟩
  · obtain ⟨top2, rfl, hk, h1⟩ := h
    exact ⟨hb, 0, false, fv, Q, top2, rfl, hk, H.pr, fun h => (by cases h), fun _ => h1⟩
set_option maxHeartbeats 2000000 in
set_option maxRecDepth 100000 in
theorem fmost_ok (N s t len cap : Nat) (l : List Pi) (a : Option Addr) (w : World) (he : endsP (N : Int) l (s : Int) (t : Int) = 0) (hl : IsPipes w.heap.size w a len l) :
    Calls Try.prog 11 #[.agg #[.int .i64 (N : Int), .slice a len cap], .int .i64 (s : Int), .int .i64 (t : Int)] w fun e w' => Below w.heap.size w w' ∧
      ∃ v fl much, e = .returned (.tuple #[v, .int .i64 much, .int .i64 0]) ∧ LongRow w' w.heap.size v len fl ∧ IsMost l N fl s t much := by
  have HG := Lib.hid (NBox.make (Below.refl _ w) (N : Int) a len cap)
  have HEN := Lib.hid (fends_any (N : Int) (s : Int) (t : Int) len cap l a _ (HG.out.pipesHere hl))
  rw [he] at HEN
  have HL := Lib.hid hl
  have HEE := Lib.hid he
  have hlen : len ≤ 20000 := by have := hl.1; have := (checkP_zero.1 (endsP_zero.1 he).1).1.2.2; omega
  clear hl he
  go_enter Try.func11, Try.ntmps11
  go_wp2_with (first
    | (go_at_call 17; refine HEN.out.mono ?_; rintro e w2 ⟨rfl, hb2⟩; have HG2 := Lib.hid (HG.out.later hb2); have x0 := HG2.out.c0; have x1 := HG2.out.c1; clear hb2)
    | (go_at_call 19; refine (begun_any N s t len cap l a _ HEE.out (HG2.out.pipesHere HL.out)).mono ?_; rintro e w3 ⟨E, fl, hi, nx, fv, Q, top, rfl, hEN, hEs, hEt, hEl, hElen, hnet, hb3, hC, hwk, hpr, hq⟩; have HNT := Lib.hid hnet; have HEQ := Lib.hid (And.intro hEN (And.intro hEs (And.intro hEt (And.intro hEl hElen)))); have HB3 := Lib.hid (HG2.out.later hb3).below; have HC := Lib.hid (Nat.le_trans HG2.out.below.size hC); have HBU : Hid (Busy E E.N w3 fl hi nx fv Q top) := Lib.hid ⟨hwk, hpr, hq⟩; clear hEN hEs hEt hEl hElen hnet hb3 hC hwk hpr hq)
    | (go_at_call 20; refine (take_turn HBU.out HNT.out).mono ?_; rintro e w4 ⟨hb4, u, b, fv2, Q2, top2, rfl, ht⟩; have HT4 := Lib.hid ht; have HB4 := Lib.hid (HB3.out.trans (hb4.mono HC.out)); clear hb4 ht))
  clear x0 x1
  go_loopg [11, 12] (measE E fl hi nx) (fun gn uv bv wr => ∃ fl hi nx fv Q top u b, uv = .int .i64 ((u : Nat) : Int) ∧ bv = .bool b ∧ gn = measE E fl hi nx ∧ Hid (Below w.heap.size w wr ∧ Turn E wr fl hi nx fv Q top u b))
  case atStart => exact ⟨fl, hi, nx, fv2, Q2, top2, u, b, rfl, rfl, rfl, Lib.hid ⟨HB4.out, HT4.out⟩⟩
  case round =>
    obtain ⟨fl, hi, nx, fv, Q, top, u, b, rfl, rfl, hgk, HW⟩ := hrel
    clear HT4 HB4 HBU
    cases b with
    | false =>
      obtain ⟨_, _, _, _, _, x5, x6, _⟩ := HW.out.2.wk.cellW
      have htE : E.t < E.N := HNT.out.tN
      have r0 := HW.out.2.wk.stays.cell htE
      rw [HEQ.out.2.2.1] at r0 htE
      obtain ⟨ev, hev⟩ : ∃ ev, exc E fl t = ev := ⟨_, rfl⟩
      have HEV := Lib.hid hev
      rw [hev] at r0
      clear hev
      go_wp2_with fail
      go_quiet (fail)
      go_wp2_with fail
      go_ret3
      obtain ⟨hEN, hEs, hEt, hEl, hElen⟩ := HEQ.out
      have hwk := HW.out.2.wk.later (below_drewN (Below.refl wr.heap.size wr) nq)
      have hrow : LongRow (wr.drewN nq) w.heap.size (.slice (some ⟨E.fb, 0, none⟩) E.len E.len) E.len fl := owns_longs hwk.flow (by have := HC.out; have := hwk.ord.cf; omega) (by unfold maxLen; omega)
      have hmost : IsMost E.l E.N fl E.s E.t (netTo E.l fl (E.t : Int) E.l.length) := HW.out.2.pr.most HNT.out.lanes HNT.out.ok HNT.out.sN HNT.out.tN HNT.out.st (fun i hi h1 h2 => by
        have h3 := HW.out.2.no rfl i hi h1 h2
        have h4 := HW.out.2.pr.exc i hi h1
        unfold exc at h3
        omega)
      have hev := HEV.out
      unfold exc at hev
      rw [hEl, hEN, hEs, hEt] at hmost
      rw [hEl] at hev
      rw [hev] at hmost
      exact ⟨below_drewN HW.out.1 _, _, fl, ev, rfl, by rw [hElen] at hrow; exact (by rw [hElen]; exact hrow), hmost⟩
    | true =>
      obtain ⟨hq, h1, h2, h3, h4⟩ := HW.out.2.yes rfl
      have HM := Lib.hid (empty_any (u := u) ⟨HW.out.2.wk, HW.out.2.pr, hq⟩ HNT.out h1 h3 h4)
      have HP := Lib.hid h2
      clear hq h1 h2 h3 h4
      go_wp2_with (first
        | (go_at_call 21; refine HM.out.mono ?_; rintro e w5 ⟨rfl, hb5, fl2, hi2, nx2, fv2, Q2, top2, hbu, hlt⟩; have HBU := Lib.hid hbu; have HLT := Lib.hid (hlt HP.out); have HB5 := Lib.hid (HW.out.1.trans (hb5.mono HC.out)); clear hb5 hbu hlt)
        | (go_at_call 20; refine (take_turn HBU.out HNT.out).mono ?_; rintro e w6 ⟨hb6, u2, b2, fv3, Q3, top3, rfl, ht⟩; have HT6 := Lib.hid ht; have HB6 := Lib.hid (HB5.out.trans (hb6.mono HC.out)); clear hb6 ht))
      go_roundg (measE E fl2 hi2 nx2)
      case measure => have := HLT.out; omega
      case rel => exact ⟨fl2, hi2, nx2, fv3, Q3, top3, u2, b2, rfl, rfl, rfl, Lib.hid ⟨HB6.out, HT6.out⟩⟩
end Go.Proofs.Ytbenmebmfihleaa
end
section
/- Package least answers as it is to. -/
namespace Go.Proofs.Ytbenmebmfihleaa
open Go.RowKit

theorem rightK_any (n s t want c : Int) (len cap : Nat) (l : List Pi) (a : Option Addr) (m fc : Nat) (xs : List Int) (fa : Option Addr) (hm hc : Nat) (hs : List Int) (ha : Option Addr) (w : World) (h1 : m ≤ 9223372036854775807) (h3 : hm ≤ 9223372036854775807) (hl : IsPipes w.heap.size w a len l) (hx : IsNums w.heap.size w fa m xs) (hh : IsNums w.heap.size w ha hm hs) :
    Calls Try.prog 14 #[.agg #[.int .i64 n, .slice a len cap], .int .i64 s, .int .i64 t, .int .i64 want, .agg #[.slice fa m fc, .int .i64 c, .slice ha hm hc]] w (Twixt n l xs hs s t want c w) := by
  by_cases he : leastErr n l s t want = 0
  · obtain ⟨N, s0, t0, hR⟩ := riE_of he hl.1
    obtain ⟨rfl, rfl, rfl⟩ := And.intro hR.en (And.intro hR.es hR.et)
    exact rightK_ok N s0 t0 want c len cap l a m fc xs fa hm hc hs ha w hR h1 h3 hl hx hh
  · exact rightK_bad n s t want c len cap l a m fc xs fa hm hc hs ha w he hl
theorem least_spec : LeastSpec where
  most_ok := fmost_ok
  ends_any := fends_any
  least_bad := leastK_bad
  least_any := leastK_any
  right_any := fun n s t want c len cap l a m fc xs fa hm hc hs ha w h1 _ h3 hl hx hh => (rightK_any n s t want c len cap l a m fc xs fa hm hc hs ha w h1 h3 hl hx hh).mono (by
    rintro e w' ⟨⟨b, rfl, hb⟩, h2⟩
    exact ⟨h2, by rw [rightLV_eq hb]⟩)
end Go.Proofs.Ytbenmebmfihleaa
end

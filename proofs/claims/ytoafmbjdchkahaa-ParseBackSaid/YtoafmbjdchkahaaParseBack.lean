/- The walk of the law on an instance's words, however they stand in lines. -/
import Derived.Test.YtoafmbjdchkahaaParseCuts
import Derived.Test.YtoafmbjdchkahaaRWords
import Derived.BigRegion
namespace Go.Proofs.Ytoafmbjdchkahaa
open Go.RowKit

/-- The law's gaps. -/
def gapZ (z : Int) : List UInt8 := if z % 4 = 0 then [32] else if z % 4 = 1 then [10] else if z % 4 = 2 then [32, 32, 10, 32] else [32, 35, 32, 55, 32, 101, 110, 100, 10]
theorem gapz2 : Gap [32, 32, 10, 32] := ⟨⟨_, _, rfl, rfl⟩, fun rest i => by simp [cutL_cons, blankB], by decide, by decide⟩
theorem gapz3 : Gap [32, 35, 32, 55, 32, 101, 110, 100, 10] := ⟨⟨_, _, rfl, rfl⟩, fun rest i => by simp [cutL_cons, blankB, toN, lineB], by decide, by decide⟩
theorem gapZ_gap (z : Int) : Gap (gapZ z) := by
  unfold gapZ
  split
  · exact gap_blank
  · split
    · exact gap0
    · split
      · exact gapz2
      · exact gapz3
def gapQ (zs : List Int) (len j : Nat) : List UInt8 := if j < len then gapZ (zs.getD j 0) else [32]
theorem gapQ_gap (zs : List Int) (len j : Nat) : Gap (gapQ zs len j) := by
  unfold gapQ
  split
  · exact gapZ_gap _
  · exact gap_blank
/-- What the loop keeps. -/
structure SpB (B : Nat) (w : World) (v : Value) (ws : List W) (g : Nat → List UInt8) (k : Nat) (y : ByteArray) (wr : World) : Prop where
  row : WRow 47 wr B v ws
  below : Below w.heap.size w wr
  text : y = ⟨(joinL (ws.take k) g).toArray⟩
variable {w wr w2 : World} {v : Value} {ws : List W} {g : Nat → List UInt8} {k B : Nat} {y : ByteArray}
theorem SpB.later (h : SpB B w v ws g k y wr) (hb : Below wr.heap.size wr w2) : SpB B w v ws g k y w2 := ⟨h.row.below hb, h.below.trans (hb.mono h.below.size), h.text⟩
theorem app_lists (l m : List UInt8) : (⟨l.toArray⟩ : ByteArray) ++ ⟨m.toArray⟩ = ⟨(l ++ m).toArray⟩ := by
  apply ByteArray.ext
  simp
theorem SpB.put (h : SpB B w v ws g k y wr) {t : List UInt8} {a : Nat} (hx : ws[k]? = some (t, a)) {x z : ByteArray} (hxx : (⟨t.toArray⟩ : ByteArray) = x) (hz : z = ⟨(g k).toArray⟩) : SpB B w v ws g (k + 1) (y ++ (x ++ z)) wr := by
  refine ⟨h.row, h.below, ?_⟩
  have hlt : k < ws.length := (List.getElem?_eq_some_iff.1 hx).1
  have e : ws.take (k + 1) = ws.take k ++ [(t, a)] := by
    rw [List.take_add_one, hx]
    rfl
  rw [e, joinL_snoc, h.text, ← hxx, hz, app_lists, app_lists, List.length_take, Nat.min_eq_left (Nat.le_of_lt hlt)]
theorem sum_ten : ∀ (l : List W), (∀ x ∈ l, x.1.length ≤ 10) → (l.map fun x => x.1.length).sum ≤ 10 * l.length
  | [], _ => by simp
  | x :: l, h => by
    have ih := sum_ten l (fun u hu => h u (by simp [hu]))
    have := h x (by simp)
    simp only [List.map_cons, List.sum_cons, List.length_cons]
    omega
theorem SpB.size (h : SpB B w v ws g k y wr) (hg : ∀ j, Gap (g j)) (h10 : ∀ x ∈ ws, x.1.length ≤ 10) (hn : ws.length ≤ 300) : y.size ≤ 8000 := by
  have h1 : (joinL (ws.take k) g).length ≤ ((ws.take k).map fun x : W => x.1.length).sum + 16 * (ws.take k).length := joinL_len (ws.take k) g hg
  have h2 := sum_ten (ws.take k) (fun x hx => h10 x (List.mem_of_mem_take hx))
  have h3 : (ws.take k).length ≤ ws.length := by rw [List.length_take]; omega
  rw [h.text]
  simp [ByteArray.size]
  omega
theorem fine_words {x : Ins} (h : May x) {ws : List W} (hw : ws.map Prod.fst = insW x) : ∀ y ∈ ws, FineW y.1 := fun y hy => fine_ins h y.1 (by rw [← hw]; exact List.mem_map.2 ⟨y, hy, rfl⟩)
set_option maxHeartbeats 8000000 in
set_option maxRecDepth 100000 in
theorem parseBack_walk (A : SmA) (s : Sm) (a : Option Addr) (len cap : Nat) (zs : List Int) (hlen : len ≤ maxLen) (w : World) (hs : IsSm w.heap.size w A s) (hz : IsU8 w.heap.size w a len zs) :
    Calls Try.prog 5 #[.agg (smC A s), .slice a len cap] w fun e w' => e = .returned (.bool true) ∧ Below w.heap.size w w' := by
  have HS := Lib.hid (SBox.make w A s)
  have HSM := Lib.hid hs
  unfold maxLen at hlen
  by_cases hbig : 200 < len
  · have hd : decide ((200 : Int) < (len : Int)) = true := by simp; omega
    unfold smC at *
    go_enter Try.func5, Try.ntmps5
    go_wp2_with (go_at_call 8; refine (parse_awake _).mono ?_; rintro e w1 ⟨rfl, hb1⟩; have HS1 := Lib.hid (HS.out.later hb1); clear hb1)
    go_ret
    exact ⟨rfl, HS1.out.below⟩
  have hd : decide ((200 : Int) < (len : Int)) = false := by simp; omega
  have HMK := Lib.hid (fun (W0 : World) (h : IsSm W0.heap.size W0 A s) => make_any A s W0 h)
  have hmay := may_make hs.okl
  have hil := make_len hs.okl
  have hml := makeI_light s
  obtain ⟨x, hx⟩ : ∃ x, makeI s = x := ⟨_, rfl⟩
  rw [hx] at HMK hmay hil hml
  have HMAY := Lib.hid hmay
  have HLG := Lib.hid hml
  obtain ⟨tx, htx⟩ : ∃ tx : ByteArray, tx = ⟨(textB x).toArray⟩ := ⟨_, rfl⟩
  have htl := text_str htx
  have HTT : Hid (∀ (A2 : InA) (W0 : World), IsIns W0.heap.size W0 A2 x → Calls Try.prog 13 #[.agg (insC A2 x)] W0 fun e w' => e = .returned (.string tx) ∧ Below W0.heap.size W0 w') := Lib.hid (fun A2 W0 h => by rw [htx]; exact text_any A2 x W0 h HMAY.out)
  have hts : toN badB tx.data.toList = tx.size := by rw [htl.1, htl.2]; exact toN_none (text_stands hmay)
  have htz : tx.size ≤ 90000 := by rw [htl.2]; exact text_len hmay
  have hfst : (cutL tx.data.toList 0).map Prod.fst = insW x := by rw [htl.1]; exact text_cut hmay
  have HWD := Lib.hid (fun W0 => words_good tx W0 (by omega) hts)
  obtain ⟨ws, hws⟩ : ∃ ws, cutL tx.data.toList 0 = ws := ⟨_, rfl⟩
  rw [hws] at hfst HWD
  have hn : ws.length ≤ 300 := by rw [← hfst, List.length_map] at hil; exact hil
  have HF := Lib.hid hfst
  have HFW := Lib.hid (fine_words hmay hfst)
  have HZ := Lib.hid hz
  obtain ⟨g, hg⟩ : ∃ g, g = gapQ zs len := ⟨_, rfl⟩
  have HG : Hid (∀ j, Gap (g j)) := Lib.hid (fun j => by rw [hg]; exact gapQ_gap zs len j)
  have HGD := Lib.hid hg
  have HP : Hid (∀ W0, Calls Try.prog 9 #[.string ⟨(joinL ws g).toArray⟩] W0 (Ans x 0 0 W0)) := Lib.hid (fun W0 => by
    have h1 : (joinL ws g).length ≤ (ws.map fun x : W => x.1.length).sum + 16 * ws.length := joinL_len ws g HG.out
    have h2 := sum_ten ws (fun y hy => (HFW.out y hy).2)
    have h := parse_ins ⟨(joinL ws g).toArray⟩ W0 (by simp [ByteArray.size]; omega)
    have e : (⟨(joinL ws g).toArray⟩ : ByteArray).data.toList = joinL ws g := by simp
    rw [e] at h
    obtain ⟨r1, r2, r3⟩ := read_words (l := joinL ws g) HMAY.out (joinL_stands ws g (fun y hy => (HFW.out y hy).1.2.2) HG.out) (by
      rw [← HF.out]
      exact cut_joinL ws g 0 (fun y hy => ⟨(HFW.out y hy).1.1, (HFW.out y hy).1.2.1⟩) HG.out)
    unfold ParseP at h
    rw [r1, r2, r3] at h
    exact h)
  clear hx hs hmay htx hil hml htl hts htz hfst hws hz hg
  unfold smC at *
  go_enter Try.func5, Try.ntmps5
  go_wp2_with (first
    | (go_at_call 8; refine (parse_awake _).mono ?_; rintro e w1 ⟨rfl, hb1⟩; have HS1 := Lib.hid (HS.out.later hb1); obtain ⟨j0, j1, j2, j3, j4, j5, j6, j7, j8, j9, j10⟩ := HS1.out.cells; clear hb1)
    | (go_at_call 14; refine (HMK.out _ (HS1.out.here HSM.out)).mono ?_; rintro e w2 ⟨⟨A2, rfl, C, D, VK, VT, hown⟩, hb2⟩; have HB2 := Lib.hid (HS1.out.below.trans (hb2.mono HS1.out.below.size)); have HI2 := Lib.hid hown.is_; have HX3 := Lib.hid (XBox.make (Below.refl _ w2) A2 x); have HI3 := Lib.hid (HX3.out.pipesHere HI2.out); have HB3 := Lib.hid (HB2.out.trans ((Below.refl w2.heap.size w2 |>.alloc (Nat.le_refl _) (.cells (insC A2 x) 29)).mono HB2.out.size)); obtain ⟨i0, i1, i2, i3, i4, i5, i6, i7, i8⟩ := HX3.out.cells; clear hown hb2 j0 j1 j2 j3 j4 j5 j6 j7 j8 j9 j10)
    | (go_at_call 13; refine (HTT.out A2 _ HI3.out).mono ?_; rintro e w4 ⟨rfl, hb4⟩; have HX4 := Lib.hid (HX3.out.later hb4); have HI4 := Lib.hid ((HI3.out.later hb4).mono hb4.size); have HB4 := Lib.hid (HB3.out.trans (hb4.mono HB3.out.size)); clear hb4))
  refine (HWD.out _).mono ?_
  rintro e w5 ⟨u, rfl, hu, hb5⟩
  have HX5 := Lib.hid (HX4.out.later hb5)
  have HI5 := Lib.hid ((HI4.out.later hb5).mono hb5.size)
  have HB5 := Lib.hid (HB4.out.trans (hb5.mono HB4.out.size))
  obtain ⟨ua, uc, hv⟩ := hu.shape
  subst hv
  have HR0 : Hid (SpB w4.heap.size w5 (.slice ua ws.length uc) ws g 0 ⟨#[]⟩ w5) := Lib.hid ⟨hu, Below.refl _ _, by simp [joinL]⟩
  clear hu hb5 HX3 HI3 HB3 HX4 HI4 HB4 HWD HTT HMK i0 i1 i2 i3 i4 i5 i6 i7 i8 HI2 HB2 HS HS1
  go_wp2_with fail
  go_loopw [8, 30] (fun t i wr => ∃ (k : Nat) (y : ByteArray), i = .int .i64 (k : Int) ∧ t = .string y ∧ k ≤ ws.length ∧ Hid (SpB w4.heap.size w5 (.slice ua ws.length uc) ws g k y wr)) (fun _ i _ => ws.length - (intOf i).toNat)
  case atStart => exact ⟨0, _, rfl, rfl, Nat.zero_le _, HR0⟩
  case round =>
    obtain ⟨k, y, rfl, rfl, hk, HK⟩ := hrel
    clear HR0
    by_cases hlt : k < ws.length
    · obtain ⟨⟨t, p⟩, hx⟩ : ∃ x, ws[k]? = some x := ⟨_, List.getElem?_eq_getElem hlt⟩
      obtain ⟨gb, gc, hv, _, hgb, hcl, hcm⟩ := HK.out.row.some_ (by omega)
      injection hv with e1 _ e3
      subst e1 e3
      obtain ⟨c0, c1⟩ := HK.out.row.cells hx
      have hys := HK.out.size HG.out (fun y hy => (HFW.out y hy).2) hn
      have ht6 := (HFW.out _ (List.mem_of_getElem? hx)).2
      have hxs : (⟨t.toArray⟩ : ByteArray).size ≤ 10 := by simpa [ByteArray.size] using ht6
      obtain ⟨q, hxx⟩ : ∃ q : ByteArray, (⟨t.toArray⟩ : ByteArray) = q := ⟨_, rfl⟩
      rw [hxx] at hxs c0
      have HX := Lib.hid hx
      have HXX := Lib.hid hxx
      clear hx hxx ht6
      unfold maxLen at hcm
      have HO2 := Lib.hid (HK.out.later ((Below.refl wr.heap.size wr).alloc (Nat.le_refl _) (.cells #[.string q, .int .i64 (p : Int)] 47)))
      have HO3 := Lib.hid (HO2.out.later ((Below.refl _ _).alloc (Nat.le_refl _) (.cells #[.string ⟨#[32]⟩, .string ⟨#[10]⟩, .string ⟨#[32, 32, 10, 32]⟩, .string ⟨#[32, 35, 32, 55, 32, 101, 110, 100, 10]⟩] 9)))
      by_cases hi : k < len
      · obtain ⟨b, off, z, rfl, hzk, ⟨hz1, hz2⟩, hcz⟩ := (HZ.out.later (HB5.out.trans (HK.out.below.mono HB5.out.size))).at_ hi
        have HGK : Hid (g k = gapZ z) := Lib.hid (by rw [HGD.out]; simp [gapQ, hi, List.getD, hzk])
        have hbr : b < wr.heap.size := World.block_lt_of_cell? _ _ hcz
        have hcz2 : (wr.alloc (.cells #[.string q, .int .i64 (p : Int)] 47)).cell? ⟨b, off + k, none⟩ = some (.int .u8 z) := (World.cell?_alloc_past _ _ _ hbr).trans hcz
        have hm4 : z % 4 = 0 ∨ z % 4 = 1 ∨ z % 4 = 2 ∨ z % 4 = 3 := by omega
        have hdk : decide ((k : Int) < (len : Int)) = true := by simp; omega
        clear hcz HK hzk
        rcases hm4 with h5 | h5 | h5 | h5
        · have HP5 := Lib.hid (HO3.out.put HX.out HXX.out (z := ⟨#[32]⟩) (by rw [HGK.out]; simp [gapZ, h5]))
          clear HO2 HO3
          have HP6 := Lib.hid (HP5.out.later (Below.refl _ _).drew)
          go_wp2_with fail
          go_region
          go_wp2_with fail
          go_roundw
          case rel => exact ⟨k + 1, _, by go_num, rfl, by omega, HP6⟩
          case measure => simp [intOf]; omega
        · have HP5 := Lib.hid (HO3.out.put HX.out HXX.out (z := ⟨#[10]⟩) (by rw [HGK.out]; simp [gapZ, h5]))
          clear HO2 HO3
          have HP6 := Lib.hid (HP5.out.later (Below.refl _ _).drew)
          go_wp2_with fail
          go_region
          go_wp2_with fail
          go_roundw
          case rel => exact ⟨k + 1, _, by go_num, rfl, by omega, HP6⟩
          case measure => simp [intOf]; omega
        · have HP5 := Lib.hid (HO3.out.put HX.out HXX.out (z := ⟨#[32, 32, 10, 32]⟩) (by rw [HGK.out]; simp [gapZ, h5]))
          clear HO2 HO3
          have HP6 := Lib.hid (HP5.out.later (Below.refl _ _).drew)
          go_wp2_with fail
          go_region
          go_wp2_with fail
          go_roundw
          case rel => exact ⟨k + 1, _, by go_num, rfl, by omega, HP6⟩
          case measure => simp [intOf]; omega
        · have HP5 := Lib.hid (HO3.out.put HX.out HXX.out (z := ⟨#[32, 35, 32, 55, 32, 101, 110, 100, 10]⟩) (by rw [HGK.out]; simp [gapZ, h5]))
          clear HO2 HO3
          have HP6 := Lib.hid (HP5.out.later (Below.refl _ _).drew)
          go_wp2_with fail
          go_region
          go_wp2_with fail
          go_roundw
          case rel => exact ⟨k + 1, _, by go_num, rfl, by omega, HP6⟩
          case measure => simp [intOf]; omega
      · have hdk : decide ((k : Int) < (len : Int)) = false := by simp; omega
        have HP5 := Lib.hid (HO3.out.put HX.out HXX.out (z := ⟨#[32]⟩) (by rw [HGD.out]; simp [gapQ, hi]))
        clear HO2 HO3 HK
        have HP6 := Lib.hid (HP5.out.later (Below.refl _ _).drew)
        go_wp2_with fail
        go_region
        go_wp2_with fail
        go_roundw
        case rel => exact ⟨k + 1, _, by go_num, rfl, by omega, HP6⟩
        case measure => simp [intOf]; omega
    · obtain rfl : k = ws.length := by omega
      have hyt : y = ⟨(joinL ws g).toArray⟩ := by rw [HK.out.text, List.take_length]
      subst hyt
      have hbk := HK.out.below
      have HX6 := Lib.hid (HX5.out.later hbk)
      have HI6 := Lib.hid ((HI5.out.later hbk).mono hbk.size)
      have HB6 := Lib.hid (HB5.out.trans (hbk.mono HB5.out.size))
      clear hbk HX5 HI5 HB5 HK hlt hk
      go_wp2_with fail
      refine (HP.out _).mono ?_
      rintro e w7 ⟨A7, rfl, hi7, hb7⟩
      have hb8 := (Below.refl w7.heap.size w7).alloc (Nat.le_refl _) (.cells (insC A7 x) 29)
      have hs8 : w7.heap.size ≤ (w7.alloc (.cells (insC A7 x) 29)).heap.size := by simp
      have HJ8 := Lib.hid ((hi7.later hb8).mono hs8)
      have HI8 := Lib.hid ((HI6.out.later (hb7.trans (hb8.mono hb7.size))).mono (Nat.le_trans hb7.size hs8))
      have HX8 := Lib.hid (HX6.out.later (hb7.trans (hb8.mono hb7.size)))
      have HB8 := Lib.hid (HB6.out.trans ((hb7.trans (hb8.mono hb7.size)).mono HB6.out.size))
      have hx8 := heap_alloc_new w7 (.cells (insC A7 x) 29)
      unfold insC at hx8
      obtain ⟨y0, y1, y2, y3, y4, y5, y6, y7, y8, _⟩ := cells9 hx8
      obtain ⟨x0, x1, x2, x3, x4, x5, x6, x7, x8⟩ := HX8.out.cells
      have HSm := Lib.hid (lawSame_any A2 A7 x x _ HI8.out HJ8.out HLG.out)
      have HSR := Lib.hid (sameI_refl x)
      clear HP hi7 hb7 hb8 hs8 hx8 HX6 HX8
      unfold insC at *
      go_wp2_with (go_at_call 11; refine HSm.out.mono ?_; rintro e w9 ⟨rfl, hb9⟩; have HB9 := Lib.hid (HB8.out.trans (hb9.mono HB8.out.size)); clear hb9; rw [HSR.out])
      go_ret
      exact ⟨rfl, HB9.out⟩
end Go.Proofs.Ytoafmbjdchkahaa

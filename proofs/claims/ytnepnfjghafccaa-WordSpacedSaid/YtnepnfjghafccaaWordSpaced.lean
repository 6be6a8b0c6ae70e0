/- The walk of the law on more blanks, newlines, remarks between words. -/
import Derived.Test.YtnepnfjghafccaaWAwake
import Derived.Test.YtnepnfjghafccaaJoin
import Derived.Test.YtnepnfjghafccaaRow
import Derived.IntWalk
import Derived.Laws.DeepStrings4
namespace Go.Proofs.Ytnepnfjghafccaa
open Go.RowKit

/-- What a walk is told of a slice of bytes that came in, at one place. -/
def ByteAt (w : World) (a : Option Addr) (zs : List Nat) (k : Nat) : Prop := ∃ b off, a = some ⟨b, off, none⟩ ∧ b < w.heap.size ∧ w.cell? ⟨b, off + k, none⟩ = some (.int .u8 (zs.getD k 0 : Nat)) ∧ zs.getD k 0 ≤ 255
theorem byte_at {w : World} {a : Option Addr} {len cap : Nat} {zs : List Int} (h : IsRow .u8 w a len cap zs) : ∃ ns : List Nat, ∀ k, k < len → ByteAt w a ns k := by
  refine ⟨zs.map Int.toNat, fun k hk => ?_⟩
  rcases h with ⟨_, h0, _⟩ | ⟨x, rfl, h1, h2, h3, h4, h5⟩
  · omega
  · have hkz : k < zs.length := by omega
    have hc := h4 k hkz
    obtain ⟨b, off, spot⟩ := x
    have hspot : spot = none := by simpa [Addr.add] using World.cell?_spot (h4 0 (by omega))
    subst hspot
    simp only [Addr.add_lit] at hc
    have hlt := World.block_lt_of_cell? w _ hc
    have hm : zs.getD k 0 ∈ zs := by rw [List.getD_eq_getElem?_getD, List.getElem?_eq_getElem hkz]; exact List.getElem_mem hkz
    have hw := h5 _ hm
    simp [Lit.wf, IntKind.min, IntKind.max, IntKind.signed, IntKind.bits] at hw
    have hmm : (zs.map Int.toNat).getD k 0 = (zs.getD k 0).toNat := by simp [List.getD_eq_getElem?_getD, List.getElem?_eq_getElem hkz]
    have hgd : zs[k]?.getD 0 = zs.getD k 0 := by rw [List.getD_eq_getElem?_getD]
    unfold ByteAt
    rw [hmm]
    refine ⟨b, off, rfl, hlt, ?_, by omega⟩
    rw [hc]
    congr 2
    omega

/-- What the first loop keeps. -/
structure SpR (w : World) (v : Value) (ws : List W) (g : Nat → List UInt8) (k : Nat) (y : ByteArray) (wr : World) : Prop where
  row : WRow 32 wr w.heap.size v ws
  below : Below w.heap.size w wr
  text : y = ⟨(joinL (ws.take k) g).toArray⟩
variable {w wr w2 : World} {v : Value} {ws : List W} {g : Nat → List UInt8} {k : Nat} {y : ByteArray}
theorem SpR.later (h : SpR w v ws g k y wr) (hb : Below wr.heap.size wr w2) : SpR w v ws g k y w2 := ⟨h.row.below hb, h.below.trans (hb.mono h.below.size), h.text⟩
theorem app_list (l m : List UInt8) : (⟨l.toArray⟩ : ByteArray) ++ ⟨m.toArray⟩ = ⟨(l ++ m).toArray⟩ := by
  apply ByteArray.ext
  simp
theorem SpR.put (h : SpR w v ws g k y wr) {t : List UInt8} {a : Nat} (hx : ws[k]? = some (t, a)) {x z : ByteArray} (hxx : (⟨t.toArray⟩ : ByteArray) = x) (hz : z = ⟨(g k).toArray⟩) : SpR w v ws g (k + 1) (y ++ (x ++ z)) wr := by
  refine ⟨h.row, h.below, ?_⟩
  have hlt : k < ws.length := (List.getElem?_eq_some_iff.1 hx).1
  have e : ws.take (k + 1) = ws.take k ++ [(t, a)] := by
    rw [List.take_add_one, hx]
    rfl
  rw [e, joinL_snoc, h.text, ← hxx, hz, app_list, app_list, List.length_take, Nat.min_eq_left (Nat.le_of_lt hlt)]
theorem SpR.size (h : SpR w v ws g k y wr) (hg : ∀ j, Gap (g j)) (hn : ws.length + (ws.map fun x => x.1.length).sum ≤ 1200) : y.size ≤ 20400 := by
  have h1 : (joinL (ws.take k) g).length ≤ ((ws.take k).map fun x : W => x.1.length).sum + 16 * (ws.take k).length := joinL_len (ws.take k) g hg
  have h2 : ((ws.take k).map fun x : W => x.1.length).sum ≤ (ws.map fun x : W => x.1.length).sum := sum_take ws k
  have h3 : (ws.take k).length ≤ ws.length := by rw [List.length_take]; omega
  rw [h.text]
  simp [ByteArray.size]
  omega

theorem wordSpaced_big (s : ByteArray) (a : Option Addr) (len cap : Nat) (hs : s.size ≤ maxLen) (hbig : 600 < s.size) (w : World) :
    Calls Try.prog 8 #[.string s, .slice a len cap] w fun e w' => e = .returned (.bool true) ∧ Below w.heap.size w w' := by
  unfold maxLen at hs
  have h1 : (600 : Int) < (s.size : Int) := by omega
  have HS : Hid (∀ W, Calls Try.prog 10 #[.string s] W fun e w' => ∃ v p c, e = .returned (.tuple #[v, .int .i64 p, .int .i64 c]) ∧ Below W.heap.size W w') := Lib.hid fun Wd => by
    by_cases h2 : 131072 < s.size
    · exact (split_big s Wd h2 (by omega)).mono fun e w' ⟨he, hw⟩ => ⟨_, _, _, he, hw ▸ Below.refl _ _⟩
    · have hle : toN badB s.data.toList ≤ s.size := by have := toN_le badB s.data.toList; simpa using this
      by_cases hb : toN badB s.data.toList < s.size
      · exact (split_bad s Wd (by omega) hb).mono fun e w' ⟨he, hw⟩ => ⟨_, _, _, he, hw ▸ Below.refl _ _⟩
      · exact (split_good s Wd (by omega) (by omega)).mono fun e w' ⟨v, he, _, hw⟩ => ⟨_, _, _, he, hw⟩
  go_enter Try.func8, Try.ntmps8
  go_wp2_with (first
    | (go_at_call 9; refine (word_awake _).mono ?_; rintro e w1 ⟨rfl, hb1⟩; have HB1 := Lib.hid hb1; clear hb1)
    | (go_at_call 10; refine (HS.out _).mono ?_; rintro e w2 ⟨v, p, c, rfl, hb2⟩; have HB2 := Lib.hid (HB1.out.trans (hb2.mono HB1.out.size)); clear hb2))
  go_ret
  exact ⟨rfl, HB2.out⟩
theorem wordSpaced_long (s : ByteArray) (a : Option Addr) (len cap : Nat) (hs : ¬ 600 < s.size) (hlen : len ≤ maxLen) (hl : 40 < len) (w : World) :
    Calls Try.prog 8 #[.string s, .slice a len cap] w fun e w' => e = .returned (.bool true) ∧ Below w.heap.size w w' := by
  unfold maxLen at hlen
  have h1 : ¬ (600 : Int) < (s.size : Int) := by omega
  have h2 : (40 : Int) < (len : Int) := by omega
  have HS : Hid (∀ W, Calls Try.prog 10 #[.string s] W fun e w' => ∃ v p c, e = .returned (.tuple #[v, .int .i64 p, .int .i64 c]) ∧ Below W.heap.size W w') := Lib.hid fun Wd => by
    have hle : toN badB s.data.toList ≤ s.size := by have := toN_le badB s.data.toList; simpa using this
    by_cases hb : toN badB s.data.toList < s.size
    · exact (split_bad s Wd (by omega) hb).mono fun e w' ⟨he, hw⟩ => ⟨_, _, _, he, hw ▸ Below.refl _ _⟩
    · exact (split_good s Wd (by omega) (by omega)).mono fun e w' ⟨v, he, _, hw⟩ => ⟨_, _, _, he, hw⟩
  go_enter Try.func8, Try.ntmps8
  go_wp2_with (first
    | (go_at_call 9; refine (word_awake _).mono ?_; rintro e w1 ⟨rfl, hb1⟩; have HB1 := Lib.hid hb1; clear hb1)
    | (go_at_call 10; refine (HS.out _).mono ?_; rintro e w2 ⟨v, p, c, rfl, hb2⟩; have HB2 := Lib.hid (HB1.out.trans (hb2.mono HB1.out.size)); clear hb2))
  go_ret
  exact ⟨rfl, HB2.out⟩
theorem wordSpaced_bad (s : ByteArray) (a : Option Addr) (len cap : Nat) (hs : ¬ 600 < s.size) (hl : ¬ 40 < len) (hb : toN badB s.data.toList < s.size) (w : World) :
    Calls Try.prog 8 #[.string s, .slice a len cap] w fun e w' => e = .returned (.bool true) ∧ Below w.heap.size w w' := by
  have h1 : ¬ (600 : Int) < (s.size : Int) := by omega
  have h2 : ¬ (40 : Int) < (len : Int) := by omega
  have HS := Lib.hid fun Wd => split_bad s Wd (by omega) hb
  generalize toN badB s.data.toList = q at *
  go_enter Try.func8, Try.ntmps8
  go_wp2_with (first
    | (go_at_call 9; refine (word_awake _).mono ?_; rintro e w1 ⟨rfl, hb1⟩; have HB1 := Lib.hid hb1; clear hb1)
    | (go_at_call 10; refine (HS.out _).mono ?_; rintro e w2 ⟨rfl, rfl⟩))
  go_ret
  exact ⟨rfl, HB1.out⟩

theorem us_at {Y : List UInt8} (h : (cutL Y 0).map Prod.fst = ws.map Prod.fst) {t : List UInt8} {a : Nat} (hx : ws[k]? = some (t, a)) : ∃ b, (cutL Y 0)[k]? = some (t, b) ∧ b + t.length ≤ Y.length ∧ (Y.drop b).take t.length = t := by
  have h1 : ((cutL Y 0).map Prod.fst)[k]? = some t := by rw [h, List.getElem?_map, hx]; rfl
  rw [List.getElem?_map] at h1
  obtain ⟨⟨t', b⟩, h2, h3⟩ := Option.map_eq_some_iff.1 h1
  obtain rfl : t' = t := h3
  obtain ⟨_, _, h4, h5, h6⟩ := cutL_mem Y.length Y 0 (Nat.le_refl _) t' b (List.mem_of_getElem? h2)
  exact ⟨b, h2, by omega, h6⟩
/-- What is known of a text's words. -/
theorem words_of (s : ByteArray) (hs : s.size ≤ 600) (hg : toN badB s.data.toList = s.size) (ws : List W) (hw : ws = cutL s.data.toList 0) :
    ws.length + (ws.map fun x => x.1.length).sum ≤ 1200 ∧ (∀ x ∈ ws, x.1 ≠ [] ∧ ∀ b ∈ x.1, sepB b = false) ∧ (∀ x ∈ ws, ∀ b ∈ x.1, badB b = false) ∧ ∀ x ∈ ws, x.1.length ≤ 600 := by
  subst hw
  have hl : s.data.toList.length = s.size := by simp
  refine ⟨?_, fun x hx => ?_, fun x hx b hb => ?_, fun x hx => ?_⟩
  · have : (cutL s.data.toList 0).length + ((cutL s.data.toList 0).map fun x : W => x.1.length).sum ≤ 2 * s.data.toList.length := cutL_length s.data.toList.length s.data.toList 0 (Nat.le_refl _)
    omega
  · obtain ⟨h1, h2, _⟩ := cutL_mem s.data.toList.length s.data.toList 0 (Nat.le_refl _) x.1 x.2 hx
    exact ⟨h1, h2⟩
  · obtain ⟨_, _, _, _, h5⟩ := cutL_mem s.data.toList.length s.data.toList 0 (Nat.le_refl _) x.1 x.2 hx
    rw [← h5] at hb
    exact toN_all (p := badB) (by rw [hg, hl]) b (List.mem_of_mem_drop (List.mem_of_mem_take hb))
  · obtain ⟨_, _, _, h4, _⟩ := cutL_mem s.data.toList.length s.data.toList 0 (Nat.le_refl _) x.1 x.2 hx
    omega
/-- What the second loop keeps. -/
structure SpT (w : World) (v u : Value) (ws us : List W) (wr : World) : Prop where
  one : WRow 32 wr w.heap.size v ws
  two : WRow 32 wr w.heap.size u us
  below : Below w.heap.size w wr
theorem SpT.later {u : Value} {us : List W} (h : SpT w v u ws us wr) (hb : Below wr.heap.size wr w2) : SpT w v u ws us w2 := ⟨h.one.below hb, h.two.below hb, h.below.trans (hb.mono h.below.size)⟩

set_option maxHeartbeats 2000000 in
set_option maxRecDepth 100000 in
theorem wordSpaced_good (s : ByteArray) (a : Option Addr) (len cap : Nat) (zs : List Nat) (w : World) (hs : ¬ 600 < s.size) (hl : ¬ 40 < len) (hg : toN badB s.data.toList = s.size) (hz : ∀ k, k < len → ByteAt w a zs k) :
    Calls Try.prog 8 #[.string s, .slice a len cap] w fun e w' => e = .returned (.bool true) ∧ Below w.heap.size w w' := by
  have h1 : ¬ (600 : Int) < (s.size : Int) := by omega
  have h2 : ¬ (40 : Int) < (len : Int) := by omega
  have HS := Lib.hid fun Wd => split_good s Wd (by omega) hg
  have hwo := words_of s (by omega) hg _ rfl
  generalize hws : cutL s.data.toList 0 = ws at *
  clear hws
  have hn : ws.length ≤ 1200 := by have := hwo.1; omega
  have HWO := Lib.hid hwo
  have HZ := Lib.hid hz
  obtain ⟨g, hgd⟩ : ∃ g, g = gapAt zs len := ⟨_, rfl⟩
  have HG : Hid (∀ j, Gap (g j)) := Lib.hid fun j => by rw [hgd]; exact gap_at zs len j
  have HGD := Lib.hid hgd
  clear hgd hwo hz hg
  go_enter Try.func8, Try.ntmps8
  go_wp2_with (go_at_call 9; refine (word_awake _).mono ?_; rintro e w1 ⟨rfl, hb1⟩; have HB1 := Lib.hid hb1; clear hb1)
  refine (HS.out _).mono ?_
  rintro e w2 ⟨v, rfl, hr, hb2⟩
  have HR2 : Hid (SpR w v ws g 0 ⟨#[]⟩ w2) := Lib.hid ⟨hr.rebase HB1.out.size, HB1.out.trans (hb2.mono HB1.out.size), by simp [joinL]⟩
  obtain ⟨va, vc, hv⟩ := hr.shape
  subst hv
  clear hr hb2 HB1 HS
  go_wp2_with fail
  go_loopw [8, 39] (fun t i wr => ∃ (k : Nat) (y : ByteArray), i = .int .i64 k ∧ t = .string y ∧ k ≤ ws.length ∧ Hid (SpR w (.slice va ws.length vc) ws g k y wr)) (fun _ i _ => ws.length - (intOf i).toNat)
  case atStart => exact ⟨0, _, rfl, rfl, Nat.zero_le _, HR2⟩
  case round =>
    obtain ⟨k, y, rfl, rfl, hk, HK⟩ := hrel
    clear HR2
    by_cases hlt : k < ws.length
    · obtain ⟨⟨t, p⟩, hx⟩ : ∃ x, ws[k]? = some x := ⟨_, List.getElem?_eq_getElem hlt⟩
      obtain ⟨gb, gc, hv, _, hgb, hcl, hcm⟩ := HK.out.row.some_ (by omega)
      injection hv with e1 _ e3
      subst e1 e3
      obtain ⟨c0, c1⟩ := HK.out.row.cells hx
      have hys := HK.out.size HG.out HWO.out.1
      have ht6 := HWO.out.2.2.2 _ (List.mem_of_getElem? hx)
      have hxs : (⟨t.toArray⟩ : ByteArray).size ≤ 600 := by simpa [ByteArray.size] using ht6
      obtain ⟨x, hxx⟩ : ∃ x : ByteArray, (⟨t.toArray⟩ : ByteArray) = x := ⟨_, rfl⟩
      rw [hxx] at hxs c0
      have HX := Lib.hid hx
      have HXX := Lib.hid hxx
      clear hx hxx ht6
      unfold maxLen at hcm
      by_cases hi : k < len
      · obtain ⟨b, off, hA, hb, hcz, hz5⟩ := HZ.out k hi
        subst hA
        have HGK : Hid (g k = gapOf (zs.getD k 0)) := Lib.hid (by rw [HGD.out]; simp [gapAt, hi])
        have hcz2 := (HK.out.below.cell (p := ⟨b, off + k, none⟩) hb).trans hcz
        have hbr : b < wr.heap.size := Nat.lt_of_lt_of_le hb HK.out.below.size
        clear hcz
        generalize zs.getD k 0 = z at *
        have hm5 : z % 5 = 0 ∨ z % 5 = 1 ∨ z % 5 = 2 ∨ z % 5 = 3 ∨ z % 5 = 4 := by omega
        have HGR := HGK.out
        have HO2 := Lib.hid ((HK.out.later ((Below.refl wr.heap.size wr).alloc (Nat.le_refl _) (.cells #[.string x, .int .i64 (p : Int)] 32))))
        have HO3 := Lib.hid (HO2.out.later ((Below.refl _ _).alloc (Nat.le_refl _) (.cells #[.string ⟨#[10]⟩, .string ⟨#[32, 32]⟩, .string ⟨#[32, 35, 32, 110, 111, 32, 119, 111, 114, 100, 115, 44, 32, 55, 10]⟩, .string ⟨#[10, 10, 32]⟩, .string ⟨#[35, 10]⟩] 9)))
        have hcz3 : ((wr.alloc (.cells #[.string x, .int .i64 (p : Int)] 32)).alloc (.cells #[.string ⟨#[10]⟩, .string ⟨#[32, 32]⟩, .string ⟨#[32, 35, 32, 110, 111, 32, 119, 111, 114, 100, 115, 44, 32, 55, 10]⟩, .string ⟨#[10, 10, 32]⟩, .string ⟨#[35, 10]⟩] 9)).cell? ⟨b, off + k, none⟩ = some (.int .u8 (z : Nat)) :=
          (World.cell?_alloc_past _ _ _ (by simp; omega)).trans ((World.cell?_alloc_past _ _ _ hbr).trans hcz2)
        clear hcz2 HGR HK
        rcases hm5 with h5 | h5 | h5 | h5 | h5
        · have hz5' : (z : Int) % 5 = 0 := by omega
          have HP := Lib.hid (HO3.out.put HX.out HXX.out (z := ⟨#[10]⟩) (by rw [HGK.out]; simp [gapOf, h5]))
          clear h5 HO2 HO3
          go_wp2_with fail
          go_roundw
          case rel => exact ⟨k + 1, _, by go_num, rfl, by omega, HP⟩
          case measure => simp [intOf]; omega
        · have hz5' : (z : Int) % 5 = 1 := by omega
          have HP := Lib.hid (HO3.out.put HX.out HXX.out (z := ⟨#[32, 32]⟩) (by rw [HGK.out]; simp [gapOf, h5]))
          clear h5 HO2 HO3
          go_wp2_with fail
          go_roundw
          case rel => exact ⟨k + 1, _, by go_num, rfl, by omega, HP⟩
          case measure => simp [intOf]; omega
        · have hz5' : (z : Int) % 5 = 2 := by omega
          have HP := Lib.hid (HO3.out.put HX.out HXX.out (z := ⟨#[32, 35, 32, 110, 111, 32, 119, 111, 114, 100, 115, 44, 32, 55, 10]⟩) (by rw [HGK.out]; simp [gapOf, h5]))
          clear h5 HO2 HO3
          go_wp2_with fail
          go_roundw
          case rel => exact ⟨k + 1, _, by go_num, rfl, by omega, HP⟩
          case measure => simp [intOf]; omega
        · have hz5' : (z : Int) % 5 = 3 := by omega
          have HP := Lib.hid (HO3.out.put HX.out HXX.out (z := ⟨#[10, 10, 32]⟩) (by rw [HGK.out]; simp [gapOf, h5]))
          clear h5 HO2 HO3
          go_wp2_with fail
          go_roundw
          case rel => exact ⟨k + 1, _, by go_num, rfl, by omega, HP⟩
          case measure => simp [intOf]; omega
        · have hz5' : (z : Int) % 5 = 4 := by omega
          have HP := Lib.hid (HO3.out.put HX.out HXX.out (z := ⟨#[35, 10]⟩) (by rw [HGK.out]; simp [gapOf, h5]))
          clear h5 HO2 HO3
          go_wp2_with fail
          go_roundw
          case rel => exact ⟨k + 1, _, by go_num, rfl, by omega, HP⟩
          case measure => simp [intOf]; omega
      · have HGK : Hid (g k = [32]) := Lib.hid (by rw [HGD.out]; simp [gapAt, hi])
        have HO2 := Lib.hid ((HK.out.later ((Below.refl wr.heap.size wr).alloc (Nat.le_refl _) (.cells #[.string x, .int .i64 (p : Int)] 32))))
        have HP := Lib.hid (HO2.out.put HX.out HXX.out (z := ⟨#[32]⟩) (by rw [HGK.out]))
        clear HO2 HK
        go_wp2_with fail
        go_roundw
        case rel => exact ⟨k + 1, _, by go_num, rfl, by omega, HP⟩
        case measure => simp [intOf]; omega
    · obtain rfl : k = ws.length := by omega
      have hys := HK.out.size HG.out HWO.out.1
      have hyt := HK.out.text
      rw [List.take_length] at hyt
      have hyd : y.data.toList = joinL ws g := by rw [hyt]
      have hyb : toN badB y.data.toList = y.size := by
        rw [hyd, toN_none (joinL_stands ws g HWO.out.2.2.1 HG.out), ← hyd]
        simp
      have hfst : (cutL y.data.toList 0).map Prod.fst = ws.map Prod.fst := by
        rw [hyd]
        exact cut_joinL ws g 0 HWO.out.2.1 HG.out
      have hlen : (cutL y.data.toList 0).length = ws.length := by simpa using congrArg List.length hfst
      have HS2 := Lib.hid fun Wd => split_good y Wd (by omega) hyb
      have HU := Lib.hid fun (j : Nat) (t : List UInt8) (p : Nat) (h : ws[j]? = some (t, p)) => us_at hfst h
      generalize hus : cutL y.data.toList 0 = us at *
      have HYS : Hid (y.data.toList.length = y.size) := Lib.hid (by simp)
      clear hus hfst hyb hyd hyt
      go_wp2_with fail
      refine (HS2.out _).mono ?_
      rintro e w3 ⟨u, rfl, hu, hb3⟩
      have HT := Lib.hid (⟨HK.out.row.below hb3, hu.rebase HK.out.below.size, HK.out.below.trans (hb3.mono HK.out.below.size)⟩ : SpT w (.slice va ws.length vc) u ws us w3)
      obtain ⟨ua, uc, hv⟩ := hu.shape
      rw [hlen] at hv
      subst hv
      clear hu hb3 HS2 HK
      have HLN := Lib.hid hlen
      clear hlen
      go_wp2_with fail
      go_loopw [80] (fun i wr => ∃ j : Nat, i = .int .i64 j ∧ j ≤ ws.length ∧ Hid (SpT w (.slice va ws.length vc) (.slice ua ws.length uc) ws us wr)) (fun i _ => ws.length - (intOf i).toNat)
      case atStart => exact ⟨0, rfl, Nat.zero_le _, HT⟩
      case round =>
        obtain ⟨j, rfl, hj, HK⟩ := hrel
        clear HT
        by_cases hjl : j < ws.length
        · obtain ⟨⟨t, p⟩, hx⟩ : ∃ x, ws[j]? = some x := ⟨_, List.getElem?_eq_getElem hjl⟩
          obtain ⟨q, hq, hq2, hq3⟩ := HU.out j t p hx
          obtain ⟨gb, gc, hv, _, hgb, hcl, hcm⟩ := HK.out.one.some_ (by omega)
          obtain ⟨gb2, gc2, hv2, _, hgb2, hcl2, hcm2⟩ := HK.out.two.some_ (by have := HLN.out; omega)
          injection hv with e1 _ e3
          rw [HLN.out] at hv2
          injection hv2 with f1 f2 f3
          try clear f2
          subst e1 e3 f1 f3
          obtain ⟨c0, c1⟩ := HK.out.one.cells hx
          obtain ⟨d0, d1⟩ := HK.out.two.cells hq
          obtain ⟨x, hxx⟩ : ∃ x : ByteArray, (⟨t.toArray⟩ : ByteArray) = x := ⟨_, rfl⟩
          have hxs : x.size = t.length := by rw [← hxx]; simp [ByteArray.size]
          have hqx : q + x.size ≤ y.size := by have := HYS.out; omega
          have hex : y.extract q (q + x.size) = x := by
            have e : q + x.size - q = t.length := by omega
            rw [extract_str, e, hq3, hxx]
          have HEX := Lib.hid hex
          clear hex
          rw [hxx] at c0 d0
          rw [HLN.out] at hcl2
          unfold maxLen at hcm hcm2
          have n1 : ¬ (q : Int) < 0 := by omega
          have n2 : (q : Int) ≤ (y.size : Int) - (x.size : Int) := by omega
          have hw1 : IntKind.i64.wrap ((y.size : Int) - (x.size : Int)) = (y.size : Int) - (x.size : Int) := IntWalk.i64_in _ (by omega)
          have hw2 : IntKind.i64.wrap ((q : Int) + (x.size : Int)) = (q : Int) + (x.size : Int) := IntWalk.i64_in _ (by omega)
          have hw3 : ((q : Int) + (x.size : Int)).toNat = q + x.size := by omega
          have hw4 : (0 : Int) ≤ (q : Int) + (x.size : Int) := by omega
          have hsl : ∀ Wd, (Instr.slice 9 (.string y) (some (.int .i64 (q : Int))) (some (.int .i64 ((q : Int) + (x.size : Int)))) none).run Try.prog Wd = .ok (.string x) Wd := fun Wd => by
            rw [run_slice_string_if (P := Try.prog) Wd 9 y .i64 .i64 _ _ Try.underlying9, if_pos ⟨hw4, by omega⟩, if_pos ⟨by omega, by omega⟩, hw3, Int.toNat_natCast, HEX.out]
          clear hxx hxs hq3 hq2 hq hx c1
          go_wp2_with fail
          go_quiet (fail)
          go_wp2_with fail
          go_roundw
          case rel => exact ⟨j + 1, by go_num, by omega, Lib.hid (HK.out.later (below_drewN (Below.refl _ _) _))⟩
          case measure => simp [intOf]; omega
        · go_wp2_with fail
          go_ret
          exact ⟨rfl, HK.out.below⟩

theorem wordSpaced_walk (s : ByteArray) (a : Option Addr) (len cap : Nat) (zs : List Int) (hs : s.size ≤ maxLen) (hr : IsRow .u8 w a len cap zs) :
    Calls Try.prog 8 #[.string s, .slice a len cap] w fun e w' => e = .returned (.bool true) ∧ Below w.heap.size w w' := by
  have hlen : len ≤ maxLen := by
    rcases hr with ⟨_, rfl, _⟩ | ⟨_, _, h1, h2, _⟩
    · exact Nat.zero_le _
    · omega
  by_cases hbig : 600 < s.size
  · exact wordSpaced_big s a len cap hs hbig w
  · by_cases hl : 40 < len
    · exact wordSpaced_long s a len cap hbig hlen hl w
    · have hle : toN badB s.data.toList ≤ s.size := by have := toN_le badB s.data.toList; simpa using this
      by_cases hb : toN badB s.data.toList < s.size
      · exact wordSpaced_bad s a len cap hbig hl hb w
      · obtain ⟨ns, hns⟩ := byte_at hr
        exact wordSpaced_good s a len cap ns w hbig hl (by omega) hns
end Go.Proofs.Ytnepnfjghafccaa

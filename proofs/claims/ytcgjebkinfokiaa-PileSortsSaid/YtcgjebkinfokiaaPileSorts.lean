/- The walk of the law on things put, and all taken. -/
import Derived.Test.YtcgjebkinfokiaaPileTakes
import Derived.Test.YtcgjebkinfokiaaPSort
namespace Go.Proofs.Ytcgjebkinfokiaa
open Go.RowKit
open Go.Sort (HoldsK putRowK flatK)

theorem TR.sorted {w wr w2 : World} {b g n cap : Nat} {v : Value} {pl hl hl' : List It} (h : TR w b v (.slice (some ⟨g, 0, none⟩) n cap) pl hl wr) (hr : RowW w2 w.heap.size (.slice (some ⟨g, 0, none⟩) n cap) hl'.toArray) (hm : Mod (fun k => k = g) wr w2) :
    TR w b v (.slice (some ⟨g, 0, none⟩) n cap) pl hl' w2 :=
  ⟨h.mod (hm.mono fun k _ e => by rw [e]; rfl), hr, h.apart⟩

theorem pileSorts_long (a : Option Addr) (len cap : Nat) (h : 80 < len) (hbig : len ≤ maxLen) (w : World) : Calls Try.prog 4 #[.slice a len cap] w fun e w' => e = .returned (.bool true) ∧ Below w.heap.size w w' := by
  unfold maxLen at hbig
  have h1 : (80 : Int) < (len : Int) := by omega
  go_enter Try.func4, Try.ntmps4
  go_wp2_with fail
  refine (pile_awake _).mono ?_
  rintro e w1 ⟨rfl, hb1⟩
  go_wp2_with fail
  go_ret
  exact ⟨rfl, hb1⟩

set_option maxHeartbeats 4000000 in
set_option maxRecDepth 100000 in
theorem pileSorts_zero (a : Option Addr) (cap : Nat) (w : World) : Calls Try.prog 4 #[.slice a 0 cap] w fun e w' => e = .returned (.bool true) ∧ Below w.heap.size w w' := by
  go_enter Try.func4, Try.ntmps4
  go_wp2_with fail
  refine (pile_awake _).mono ?_
  rintro e w1 ⟨rfl, hb1⟩
  have HB1 := Lib.hid hb1; clear hb1
  have HT0 := Lib.hid (TR.start w w1 HB1.out)
  go_wp2_with (go_at_call 7; refine (new_any _).mono ?_; rintro e w2 ⟨rfl, rfl⟩)
  generalize w1.heap.size = b at *
  go_loopw [4, 21] (fun s i wr => i = .int .i64 0 ∧ s = .slice none 0 0 ∧ Hid (TR w b (.slice none 0 0) (.slice none 0 0) [] [] wr)) (fun _ i _ => (intOf i).toNat)
  case atStart => exact ⟨rfl, rfl, HT0⟩
  case round =>
    obtain ⟨rfl, rfl, HT⟩ := hrel
    clear HT0
    go_wp2_with (go_at_call 13; refine (sort_none none 0 _).mono ?_; rintro e w2 ⟨rfl, rfl⟩)
    go_loopw [45] (fun i wi => i = .int .i64 0 ∧ Hid (TR w b (.slice none 0 0) (.slice none 0 0) [] [] wi)) (fun i _ => (intOf i).toNat)
    case atStart => exact ⟨rfl, HT⟩
    case round =>
      obtain ⟨rfl, HT2⟩ := hrel
      clear HT
      have HTK := Lib.hid (take_empty HT2.out.pile)
      go_wp2_with (first
        | (go_at_call 9; refine HTK.out.mono ?_; rintro e w2 ⟨rfl, hb2⟩; have HT3 := Lib.hid ((HT2.out.later hb2).later ((Below.refl _ _).alloc (Nat.le_refl _) (.cells #[.int .i64 0, .int .i64 0] 31))); have HLN := Lib.hid (HT3.out.len 0 (by simp)); clear hb2 HT2 HTK)
        | (go_at_call 12; refine HLN.out.mono ?_; rintro e w4 ⟨rfl, rfl⟩; clear HLN))
      go_ret
      exact ⟨rfl, HT3.out.pile.below⟩

set_option maxHeartbeats 4000000 in
set_option maxRecDepth 100000 in
theorem pileSorts_some (c off len cap : Nat) (l : List (Bool × It)) (w : World) (hbig : len ≤ 80) (h0 : 0 < len) (hlen : l.length = len) (hc : c < w.heap.size) (hl : ActRow w ⟨c, off, none⟩ l) :
    Calls Try.prog 4 #[.slice (some ⟨c, off, none⟩) len cap] w fun e w' => e = .returned (.bool true) ∧ Below w.heap.size w w' := by
  obtain ⟨i0, hi, hz0, hz1, hz2⟩ := info_parts3 infoIt
  have HL := Lib.hid hl; clear hl
  have HN := Lib.hid hlen; clear hlen
  go_enter Try.func4, Try.ntmps4
  go_wp2_with fail
  refine (pile_awake _).mono ?_
  rintro e w1 ⟨rfl, hb1⟩
  have HB1 := Lib.hid hb1; clear hb1
  have HT0 := Lib.hid (TR.start w w1 HB1.out)
  go_wp2_with (go_at_call 7; refine (new_any _).mono ?_; rintro e w2 ⟨rfl, rfl⟩)
  generalize w1.heap.size = b at *
  go_loopw [4, 21] (fun s i wr => ∃ (k : Nat) (v hv : Value) (hl : List It), i = .int .i64 k ∧ hv = s ∧ k ≤ len ∧ hl.length = k ∧ Hid (TR w b v hv hl hl wr)) (fun _ i _ => len - (intOf i).toNat)
  case atStart => exact ⟨0, _, _, [], rfl, rfl, Nat.zero_le _, rfl, HT0⟩
  case round =>
    obtain ⟨k, v, hv, hl, rfl, rfl, hk, hlk, HT⟩ := hrel
    clear HT0
    have HLK := Lib.hid hlk; clear hlk
    obtain ⟨wo, rfl⟩ : ∃ wo : World, wo = wr := ⟨_, rfl⟩
    by_cases hlt : k < len
    · obtain ⟨t, x, hx⟩ : ∃ t x, l[k]? = some (t, x) := ⟨_, _, List.getElem?_eq_getElem (by have := HN.out; omega)⟩
      obtain ⟨e0, e1, e2⟩ := HL.out.at_ hx
      have hbel := HT.out.pile.below
      have c0 := (hbel.cell (p := ⟨c, off + k * 3, none⟩) hc).trans e0
      have c1 := (hbel.cell (p := ⟨c, off + k * 3 + 1, none⟩) hc).trans e1
      have c2 := (hbel.cell (p := ⟨c, off + k * 3 + 2, none⟩) hc).trans e2
      clear hbel e0 e1 e2 hx
      have HA : Hid (∃ ha hcap, hv = .slice ha k hcap) := Lib.hid (by have := HT.out.shape; rwa [HLK.out] at this)
      obtain ⟨key, id⟩ := x
      have HT1 : Hid (TR w b v hv hl hl (wo.alloc (.cells #[.bool t, .int .i64 key, .int .i64 id] 28))) := Lib.hid (HT.out.later ((Below.refl _ _).alloc (Nat.le_refl _) _))
      have hput := Lib.hid (put_have (key, id) HT1.out.pile (by have := HLK.out; omega))
      have HF := Lib.hid HT.out.free
      go_wp2_with (first
        | (go_at_call 8; refine hput.out.mono ?_; rintro e w2 ⟨rfl, v2, hP2, ht2⟩; have HT2 := Lib.hid (HT1.out.piled hP2 ht2); have d1 : w2.cell? ⟨wo.heap.size, 1, none⟩ = some (.int .i64 key) := (turned_cell HF.out ht2 1).trans (by simp); have d2 : w2.cell? ⟨wo.heap.size, 2, none⟩ = some (.int .i64 id) := (turned_cell HF.out ht2 2).trans (by simp); have HT3 := Lib.hid (HT2.out.later ((Below.refl _ _).alloc (Nat.le_refl _) (.cells #[.int .i64 key, .int .i64 id] 31))); have HB3 := Lib.hid HT3.out.pile.below.size; clear hP2 ht2 HT1 HT2 hput; obtain ⟨ha, hcap, hsh⟩ := HA.out; clear HA; subst hsh)
        | (at_builtin; refine wpList_append_fresh rfl (.tmp 32) (.tmp 38) 26 rfl w.heap.size 31 i0 _ 2 16 Try.underlying26 hi hz0 hz1 hz2 (by decide) (.slice ha k hcap) k (flatL hl.toArray) rfl (by have := HT3.out.own_row; rwa [HLK.out] at this) ⟨w2.heap.size, 0, none⟩ 1 [.int .i64 key, .int .i64 id] rfl rfl (by intro j u hj; match j, hj with | 0, hj => simp at hj; subst hj; simp [Addr.add] | 1, hj => simp at hj; subst hj; simp [Addr.add]) (by intro u hu; simp at hu; rcases hu with rfl | rfl <;> rfl) (by unfold maxLen; omega) (by omega) HB3.out ?_; intro g cap' w3 hown hgrow hfr; have HT4 : Hid (TR w b v2 (.slice (some ⟨g, 0, none⟩) (k + 1) cap') (hl ++ [(key, id)]) (hl ++ [(key, id)]) w3) := Lib.hid ((TR.rowedk (x := (key, id)) HT3.out HLK.out hown hgrow hfr).perm (perm_snoc _ _)); clear hown hgrow hfr HT3 HB3 d1 d2))
      go_roundw
      case rel => exact ⟨k + 1, v2, _, hl ++ [(key, id)], by go_num, rfl, by omega, by rw [List.length_append, HLK.out]; rfl, HT4⟩
      case measure => simp [intOf]; omega
    · obtain rfl : k = len := by omega
      obtain ⟨n, rfl⟩ : ∃ n, k = n + 1 := ⟨k - 1, by omega⟩
      obtain ⟨g, hcap, hsh⟩ := HT.out.shape2 HLK.out
      subst hsh
      have HS := Lib.hid (sort_any HLK.out (by omega) HT.out.row)
      go_wp2_with (go_at_call 13; refine HS.out.mono ?_; rintro e w2 ⟨rfl, hs, hps, hri, hr2, hm2⟩; have HT2 := Lib.hid (HT.out.sorted hr2 hm2); have HPS := Lib.hid hps; have HRI := Lib.hid hri; clear hps hri hr2 hm2 HS)
      have hG := guard_it
      have HLS := Lib.hid (HPS.out.length_eq.trans HLK.out)
      have HT3 : Hid (∃ v2 pl, TR w b v2 (.slice (some ⟨g, 0, none⟩) (n + 1) hcap) pl hs w2 ∧ pl.Perm (hs.drop 0)) := Lib.hid ⟨v, hl, HT2.out, HPS.out.symm⟩
      clear HT HT2
      go_loopw [45] (fun i wi => ∃ k : Nat, i = .int .i64 k ∧ k ≤ n + 1 ∧ Hid (∃ v2 pl, TR w b v2 (.slice (some ⟨g, 0, none⟩) (n + 1) hcap) pl hs wi ∧ pl.Perm (hs.drop k))) (fun i _ => n + 1 - (intOf i).toNat)
      case atStart => exact ⟨0, rfl, by omega, HT3⟩
      case round =>
        obtain ⟨k, rfl, hkn, HTI⟩ := hrel
        clear HT3
        obtain ⟨wi, rfl⟩ : ∃ wi : World, wi = wr := ⟨_, rfl⟩
        obtain ⟨v2, pl, ht, hp⟩ := HTI.out
        have HT := Lib.hid ht
        have HP := Lib.hid hp
        clear ht hp HTI
        by_cases hkl : k < n + 1
        · obtain ⟨y, hy⟩ : ∃ y, hs[k]? = some y := ⟨_, List.getElem?_eq_getElem (by have := HLS.out; omega)⟩
          obtain ⟨y1, y2⟩ := HT.out.cells hy
          have HY := Lib.hid hy; clear hy
          have HPL : Hid (pl.length = n + 1 - k) := Lib.hid (by rw [HP.out.length_eq, List.length_drop, HLS.out])
          have HT1 := Lib.hid (HT.out.later ((Below.refl _ _).alloc (Nat.le_refl _) (.cells #[.int .i64 y.1, .int .i64 y.2] 31)))
          have HTK : Hid (Calls Try.prog 9 #[.pointer (some ⟨b, 0, none⟩)] (wi.alloc (.cells #[.int .i64 y.1, .int .i64 y.2] 31)) fun e W' => e = .returned (.tuple #[.agg #[.int .i64 y.1, .int .i64 y.2], .bool true]) ∧ ∃ l', l'.Perm (hs.drop (k + 1)) ∧ ∃ v', Have w b v' l' W' ∧ Turned b v2 v' (wi.alloc (.cells #[.int .i64 y.1, .int .i64 y.2] 31)) W') := Lib.hid ((take_have HT1.out.pile (by rw [HPL.out]; omega) (by rw [HPL.out]; omega)).mono fun e W' ⟨x, l', he, hx, hm, v', h1, h2⟩ => by
            obtain ⟨rfl, hl2⟩ := rising_head HRI.out HY.out HP.out hx hm
            exact ⟨he, l', hl2, v', h1, h2⟩)
          have hE : ∀ W, (Op.equalIn 10000 31 (.agg #[.int .i64 y.1, .int .i64 y.2]) (.agg #[.int .i64 y.1, .int .i64 y.2])).run Try.prog W = .ok true W := fun W => by rw [eq_it y y W, eqB_yes.2 rfl]
          have HF := Lib.hid HT.out.free
          go_wp2_with (go_at_call 9; refine HTK.out.mono ?_; rintro e w5 ⟨rfl, l5, hp5, v5, hP5, ht5⟩; have x1 : w5.cell? ⟨wi.heap.size, 0, none⟩ = some (.int .i64 y.1) := (turned_cell HF.out ht5 0).trans (by simp); have x2 : w5.cell? ⟨wi.heap.size, 1, none⟩ = some (.int .i64 y.2) := (turned_cell HF.out ht5 1).trans (by simp); have hz5 : wi.heap.size < w5.heap.size := Nat.lt_of_lt_of_le (by simp) ht5.mod.size; have HT5 := Lib.hid ((HT1.out.piled hP5 ht5).later ((Below.refl _ _).alloc (Nat.le_refl _) (.cells #[.int .i64 y.1, .int .i64 y.2] 31))); have HP5 := Lib.hid hp5; clear hp5 hP5 ht5 HTK HT1 HT y1 y2)
          go_roundw
          case rel => exact ⟨k + 1, by go_num, by omega, Lib.hid ⟨_, _, HT5.out, HP5.out⟩⟩
          case measure => simp [intOf]; omega
        · obtain rfl : k = n + 1 := by omega
          have HE : Hid (pl = []) := Lib.hid (List.eq_nil_of_length_eq_zero (by rw [HP.out.length_eq, List.length_drop, HLS.out]; omega))
          have HTK : Hid (Calls Try.prog 9 #[.pointer (some ⟨b, 0, none⟩)] wi fun e W' => e = .returned (.tuple #[.agg #[.int .i64 0, .int .i64 0], .bool false]) ∧ Below wi.heap.size wi W') := Lib.hid (by have := HT.out.pile; rw [HE.out] at this; exact take_empty this)
          go_wp2_with (first
            | (go_at_call 9; refine HTK.out.mono ?_; rintro e w5 ⟨rfl, hb5⟩; have HT5 := Lib.hid ((HT.out.later hb5).later ((Below.refl _ _).alloc (Nat.le_refl _) (.cells #[.int .i64 0, .int .i64 0] 31))); have HLN := Lib.hid (HT5.out.len 0 (by rw [HE.out]; rfl)); clear hb5 HT HTK)
            | (go_at_call 12; refine HLN.out.mono ?_; rintro e w6 ⟨rfl, rfl⟩; clear HLN))
          go_ret
          exact ⟨rfl, HT5.out.pile.below⟩

theorem pileSorts_row (a : Option Addr) (len cap : Nat) (l : List (Bool × It)) (w : World) (hbig : len ≤ maxLen) (h : IsActs w a len l) :
    Calls Try.prog 4 #[.slice a len cap] w fun e w' => e = .returned (.bool true) ∧ Below w.heap.size w w' := by
  by_cases h80 : 80 < len
  · exact pileSorts_long a len cap h80 hbig w
  · by_cases h0 : len = 0
    · subst h0
      exact pileSorts_zero a cap w
    · rcases h with ⟨hl, h1 | ⟨c, off, rfl, hc, hr⟩⟩
      · exact absurd h1 h0
      · exact pileSorts_some c off len cap l w (by omega) (by omega) hl hc hr
end Go.Proofs.Ytcgjebkinfokiaa

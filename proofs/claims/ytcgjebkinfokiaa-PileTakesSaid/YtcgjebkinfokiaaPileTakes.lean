/- The walk of the law on things put and taken in any order. -/
import Derived.Test.YtcgjebkinfokiaaPTake
namespace Go.Proofs.Ytcgjebkinfokiaa
open Go.RowKit
open Go.Sort (HoldsK putRowK flatK)

theorem pileTakes_long (a : Option Addr) (len cap : Nat) (h : 80 < len) (hbig : len ≤ maxLen) (w : World) : Calls Try.prog 3 #[.slice a len cap] w fun e w' => e = .returned (.bool true) ∧ Below w.heap.size w w' := by
  unfold maxLen at hbig
  have h1 : (80 : Int) < (len : Int) := by omega
  go_enter Try.func3, Try.ntmps3
  go_wp2_with fail
  refine (pile_awake _).mono ?_
  rintro e w1 ⟨rfl, hb1⟩
  go_wp2_with fail
  go_ret
  exact ⟨rfl, hb1⟩

theorem pileTakes_zero (a : Option Addr) (cap : Nat) (w : World) : Calls Try.prog 3 #[.slice a 0 cap] w fun e w' => e = .returned (.bool true) ∧ Below w.heap.size w w' := by
  go_enter Try.func3, Try.ntmps3
  go_wp2_with fail
  refine (pile_awake _).mono ?_
  rintro e w1 ⟨rfl, hb1⟩
  have HB1 := Lib.hid hb1; clear hb1
  have HT0 := Lib.hid (TR.start w w1 HB1.out)
  go_wp2_with (go_at_call 7; refine (new_any _).mono ?_; rintro e w2 ⟨rfl, rfl⟩)
  generalize w1.heap.size = b at *
  go_loopw [4, 20] (fun s i wr => ∃ (v hv : Value) (hl : List It), i = .int .i64 0 ∧ s = hv ∧ Hid (TR w b v hv hl hl wr)) (fun _ i _ => (intOf i).toNat)
  case atStart => exact ⟨_, _, [], rfl, rfl, HT0⟩
  case round =>
    obtain ⟨v, hv, hl, rfl, rfl, HT⟩ := hrel
    clear HT0
    go_wp2_with fail
    go_ret
    exact ⟨rfl, HT.out.pile.below⟩

theorem ActRow.at_ {w : World} {c off : Nat} {l : List (Bool × It)} (h : ActRow w ⟨c, off, none⟩ l) {k : Nat} {t : Bool} {x : It} (hk : l[k]? = some (t, x)) :
    w.cell? ⟨c, off + k * 3, none⟩ = some (.bool t) ∧ w.cell? ⟨c, off + k * 3 + 1, none⟩ = some (.int .i64 x.1) ∧ w.cell? ⟨c, off + k * 3 + 2, none⟩ = some (.int .i64 x.2) := by
  have := h k (t, x) hk
  simp only [Addr.add_lit] at this
  exact this

set_option maxHeartbeats 4000000 in
set_option maxRecDepth 100000 in
theorem pileTakes_some (c off len cap : Nat) (l : List (Bool × It)) (w : World) (hbig : len ≤ 80) (hlen : l.length = len) (hc : c < w.heap.size) (hl : ActRow w ⟨c, off, none⟩ l) :
    Calls Try.prog 3 #[.slice (some ⟨c, off, none⟩) len cap] w fun e w' => e = .returned (.bool true) ∧ Below w.heap.size w w' := by
  obtain ⟨i0, hi, hz0, hz1, hz2⟩ := info_parts3 infoIt
  have HL := Lib.hid hl; clear hl
  have HN := Lib.hid hlen; clear hlen
  go_enter Try.func3, Try.ntmps3
  go_wp2_with fail
  refine (pile_awake _).mono ?_
  rintro e w1 ⟨rfl, hb1⟩
  have HB1 := Lib.hid hb1; clear hb1
  have HT0 := Lib.hid (TR.start w w1 HB1.out)
  go_wp2_with (go_at_call 7; refine (new_any _).mono ?_; rintro e w2 ⟨rfl, rfl⟩)
  generalize w1.heap.size = b at *
  go_loopw [4, 20] (fun s i wr => ∃ (k : Nat) (v hv : Value) (hl : List It), i = .int .i64 k ∧ hv = s ∧ k ≤ len ∧ hl.length ≤ k ∧ Hid (TR w b v hv hl hl wr)) (fun _ i _ => len - (intOf i).toNat)
  case atStart => exact ⟨0, _, _, [], rfl, rfl, Nat.zero_le _, Nat.le_refl _, HT0⟩
  case round =>
    obtain ⟨k, v, hv, hl, rfl, rfl, hk, hlk, HT⟩ := hrel
    clear HT0
    by_cases hlt : k < len
    · obtain ⟨t, x, hx⟩ : ∃ t x, l[k]? = some (t, x) := ⟨_, _, List.getElem?_eq_getElem (by have := HN.out; omega)⟩
      obtain ⟨e0, e1, e2⟩ := HL.out.at_ hx
      have hbel := HT.out.pile.below
      have c0 := (hbel.cell (p := ⟨c, off + k * 3, none⟩) hc).trans e0
      have c1 := (hbel.cell (p := ⟨c, off + k * 3 + 1, none⟩) hc).trans e1
      have c2 := (hbel.cell (p := ⟨c, off + k * 3 + 2, none⟩) hc).trans e2
      clear hbel e0 e1 e2 hx
      have HA : Hid (∃ ha hcap, hv = .slice ha hl.length hcap) := Lib.hid HT.out.shape
      obtain ⟨wo, rfl⟩ : ∃ wo : World, wo = wr := ⟨_, rfl⟩
      cases t with
      | false =>
        obtain ⟨key, id⟩ := x
        have HT1 : Hid (TR w b v hv hl hl (wo.alloc (.cells #[.bool false, .int .i64 key, .int .i64 id] 28))) := Lib.hid (HT.out.later ((Below.refl _ _).alloc (Nat.le_refl _) _))
        have hput := Lib.hid (put_have (key, id) HT1.out.pile (by omega))
        have HF := Lib.hid HT.out.free
        go_wp2_with (first
          | (go_at_call 8; refine hput.out.mono ?_; rintro e w2 ⟨rfl, v2, hP2, ht2⟩; have HT2 := Lib.hid (HT1.out.piled hP2 ht2); have d1 : w2.cell? ⟨wo.heap.size, 1, none⟩ = some (.int .i64 key) := (turned_cell HF.out ht2 1).trans (by simp); have d2 : w2.cell? ⟨wo.heap.size, 2, none⟩ = some (.int .i64 id) := (turned_cell HF.out ht2 2).trans (by simp); have HT3 := Lib.hid (HT2.out.later ((Below.refl _ _).alloc (Nat.le_refl _) (.cells #[.int .i64 key, .int .i64 id] 31))); have HB3 := Lib.hid HT3.out.pile.below.size; clear hP2 ht2 HT1 HT2 hput; obtain ⟨ha, hcap, hsh⟩ := HA.out; clear HA; subst hsh)
          | (at_builtin; refine wpList_append_fresh rfl (.tmp 34) (.tmp 40) 26 rfl w.heap.size 31 i0 _ 2 16 Try.underlying26 hi hz0 hz1 hz2 (by decide) (.slice ha hl.length hcap) hl.length (flatL hl.toArray) rfl HT3.out.own_row ⟨w2.heap.size, 0, none⟩ 1 [.int .i64 key, .int .i64 id] rfl rfl (by intro j u hj; match j, hj with | 0, hj => simp at hj; subst hj; simp [Addr.add] | 1, hj => simp at hj; subst hj; simp [Addr.add]) (by intro u hu; simp at hu; rcases hu with rfl | rfl <;> rfl) (by unfold maxLen; omega) (by omega) HB3.out ?_; intro g cap' w3 hown hgrow hfr; have HT4 := Lib.hid ((TR.rowed (x := (key, id)) HT3.out hown hgrow hfr).perm (perm_snoc _ _)); have HLN := Lib.hid (HT4.out.len ((hl.length : Int) + 1) (by simp)); clear hown hgrow hfr HT3 HB3 d1 d2)
          | (go_at_call 12; refine HLN.out.mono ?_; rintro e w4 ⟨rfl, rfl⟩; clear HLN))
        go_roundw
        case rel => exact ⟨k + 1, v2, _, hl ++ [(key, id)], by go_num, rfl, by omega, by simp; omega, HT4⟩
        case measure => simp [intOf]; omega
      | true =>
        have hG := guard_it
        by_cases h0 : hl.length = 0
        · obtain rfl := List.eq_nil_of_length_eq_zero h0
          clear h0
          obtain ⟨ha, hcap, hsh⟩ := HA.out
          rw [List.length_nil] at hsh
          clear HA
          subst hsh
          have HT1 : Hid (TR w b v (.slice ha 0 hcap) [] [] (wo.alloc (.cells #[.bool true, .int .i64 x.1, .int .i64 x.2] 28))) := Lib.hid (HT.out.later ((Below.refl _ _).alloc (Nat.le_refl _) _))
          have HTK := Lib.hid (take_empty HT1.out.pile)
          have hE : ∀ W, (Op.equalIn 10000 31 (.agg #[.int .i64 0, .int .i64 0]) (.agg #[.int .i64 0, .int .i64 0])).run Try.prog W = .ok true W := fun W => eq_it (0, 0) (0, 0) W
          go_wp2_with (go_at_call 9; refine HTK.out.mono ?_; rintro e w2 ⟨rfl, hb2⟩; have HT2 := Lib.hid (HT1.out.later hb2); have HT3 := Lib.hid (HT2.out.later ((Below.refl _ _).alloc (Nat.le_refl _) (.cells #[.int .i64 0, .int .i64 0] 31))); clear hb2 HT1 HT2 HTK)
          go_loopw [9, 63] (fun a i wi => a = .int .i64 (-1) ∧ i = .int .i64 0 ∧ Hid (TR w b v (.slice ha 0 hcap) [] [] wi)) (fun _ i _ => (intOf i).toNat)
          case atStart => exact ⟨rfl, rfl, HT3⟩
          case round =>
            obtain ⟨rfl, rfl, HTI⟩ := hrel
            have HLN := Lib.hid (HTI.out.len 0 (by simp))
            clear HT3
            go_wp2_with (go_at_call 12; refine HLN.out.mono ?_; rintro e w4 ⟨rfl, rfl⟩; clear HLN)
            go_roundw
            case rel => exact ⟨k + 1, v, _, [], by go_num, rfl, by omega, by simp, HTI⟩
            case measure => simp [intOf]; omega
        · obtain ⟨n, hn⟩ : ∃ n, hl.length = n + 1 := ⟨hl.length - 1, by omega⟩
          clear h0 HA
          obtain ⟨g, hcap, hsh⟩ := HT.out.shape2 hn
          subst hsh
          have HT1 : Hid (TR w b v (.slice (some ⟨g, 0, none⟩) (n + 1) hcap) hl hl (wo.alloc (.cells #[.bool true, .int .i64 x.1, .int .i64 x.2] 28))) := Lib.hid (HT.out.later ((Below.refl _ _).alloc (Nat.le_refl _) _))
          have HTK := Lib.hid (take_have HT1.out.pile (by omega) (by omega))
          have hn80 : n < 80 := by omega
          have hnk : n + 1 ≤ k := by omega
          have HLN := Lib.hid hn; clear hn hlk
          go_wp2_with (go_at_call 9; refine HTK.out.mono ?_; rintro e w2 ⟨m, l', rfl, hp, hmin, v2, hP2, ht2⟩; have HT2 := Lib.hid (HT1.out.piled hP2 ht2); have HT3 := Lib.hid (HT2.out.later ((Below.refl _ _).alloc (Nat.le_refl _) (.cells #[.int .i64 m.1, .int .i64 m.2] 31))); have HP := Lib.hid hp; have HM := Lib.hid hmin; have HBX := Lib.hid (box_cells w2 m 31); clear hp hmin hP2 ht2 HT1 HT2 HTK)
          generalize w2.alloc (.cells #[.int .i64 m.1, .int .i64 m.2] 31) = W3 at HT3 HBX ⊢
          generalize w2.heap.size = z at HBX ⊢
          go_loopw [9, 63] (fun a i wi => ∃ (j : Nat) (q : Int), i = .int .i64 j ∧ a = .int .i64 q ∧ j ≤ n + 1 ∧ Hid (AtInv hl m j q) ∧ Hid (TR w b v2 (.slice (some ⟨g, 0, none⟩) (n + 1) hcap) l' hl wi) ∧ Hid (Below W3.heap.size W3 wi)) (fun _ i _ => n + 1 - (intOf i).toNat)
          case atStart => exact ⟨0, -1, rfl, rfl, by omega, Lib.hid (AtInv.start _ _), HT3, Lib.hid (Below.refl _ _)⟩
          case round =>
            obtain ⟨j, q, rfl, rfl, hj, HQ, HTI, HBI⟩ := hrel
            clear HT3
            obtain ⟨wi, rfl⟩ : ∃ wi : World, wi = wr := ⟨_, rfl⟩
            by_cases hjl : j < n + 1
            · obtain ⟨y, hy⟩ : ∃ y, hl[j]? = some y := ⟨_, List.getElem?_eq_getElem (by have := HLN.out; omega)⟩
              obtain ⟨y1, y2⟩ := HTI.out.cells hy
              have HAH : Hid (∀ W, Calls Try.prog 10 #[.agg #[.int .i64 y.1, .int .i64 y.2], .agg #[.int .i64 m.1, .int .i64 m.2]] W fun e w' => e = .returned (.bool false) ∧ Below W.heap.size W w') := Lib.hid fun W => by
                have := ahead_any y m W
                rwa [lessB_false.2 (HM.out y (List.mem_of_getElem? hy))] at this
              have HY := Lib.hid hy; clear hy
              have HBY := Lib.hid (box_cells wi y 31)
              obtain ⟨x1, x2⟩ := below_cells HBX.out.2.2 HBI.out HBX.out.1 HBX.out.2.1
              have hz : z < wi.heap.size := Nat.lt_of_lt_of_le HBX.out.2.2 HBI.out.size
              have HXA := Lib.hid (below_cells hz ((Below.refl _ _).alloc (Nat.le_refl _) (.cells #[.int .i64 y.1, .int .i64 y.2] 31)) x1 x2)
              by_cases hym : y = m
              · have hE : ∀ W, (Op.equalIn 10000 31 (.agg #[.int .i64 y.1, .int .i64 y.2]) (.agg #[.int .i64 m.1, .int .i64 m.2])).run Try.prog W = .ok true W := fun W => by rw [eq_it y m W, eqB_yes.2 hym]
                have HE := Lib.hid hym; clear hym
                go_wp2_with (go_at_call 10; refine (HAH.out _).mono ?_; rintro e w5 ⟨rfl, hb5⟩; obtain ⟨y5, y6⟩ := below_cells HBY.out.2.2 hb5 HBY.out.1 HBY.out.2.1; obtain ⟨x5, x6⟩ := below_cells (by simp; omega) hb5 HXA.out.1 HXA.out.2; have HT5 := Lib.hid ((HTI.out.later ((Below.refl _ _).alloc (Nat.le_refl _) _)).later hb5); have HB5 := Lib.hid (HBI.out.trans ((((Below.refl wi.heap.size wi).alloc (Nat.le_refl _) _).trans (hb5.mono (by simp))).mono HBI.out.size)); clear hb5 x1 x2 y1 y2)
                go_roundw
                case rel => exact ⟨j + 1, j, by go_num, rfl, by omega, Lib.hid (AtInv.yes (by have := HY.out; rwa [HE.out] at this)), HT5, HB5⟩
                case measure => simp [intOf]; omega
              · have hE : ∀ W, (Op.equalIn 10000 31 (.agg #[.int .i64 y.1, .int .i64 y.2]) (.agg #[.int .i64 m.1, .int .i64 m.2])).run Try.prog W = .ok false W := fun W => by rw [eq_it y m W, eqB_no hym]
                have HE := Lib.hid hym; clear hym
                go_wp2_with (go_at_call 10; refine (HAH.out _).mono ?_; rintro e w5 ⟨rfl, hb5⟩; obtain ⟨y5, y6⟩ := below_cells HBY.out.2.2 hb5 HBY.out.1 HBY.out.2.1; obtain ⟨x5, x6⟩ := below_cells (by simp; omega) hb5 HXA.out.1 HXA.out.2; have HT5 := Lib.hid ((HTI.out.later ((Below.refl _ _).alloc (Nat.le_refl _) _)).later hb5); have HB5 := Lib.hid (HBI.out.trans ((((Below.refl wi.heap.size wi).alloc (Nat.le_refl _) _).trans (hb5.mono (by simp))).mono HBI.out.size)); clear hb5 x1 x2 y1 y2)
                go_roundw
                case rel => exact ⟨j + 1, q, by go_num, rfl, by omega, Lib.hid (HQ.out.no HY.out HE.out), HT5, HB5⟩
                case measure => simp [intOf]; omega
            · obtain rfl : j = n + 1 := by omega
              obtain ⟨p, hpq, hpn, hpm⟩ := AtInv.found (by have := HQ.out; rwa [← HLN.out] at this) (HP.out.mem_iff.2 (by simp))
              subst hpq
              rw [HLN.out] at hpn
              have HD := Lib.hid (delete_any w.heap.size g n hcap p hl wi HLN.out (by omega) (by omega) HTI.out.row)
              have HPM := Lib.hid hpm; clear hpm
              have hp0 : ¬ ((p : Int) < 0) := by omega
              have hp1 : decide ((p : Int) < 0) = false := decide_eq_false hp0
              go_wp2_with (first
                | (go_at_call 11; refine HD.out.mono ?_; rintro e w5 ⟨rfl, hd5⟩; have HT5 := Lib.hid ((HTI.out.deleted hd5).perm (erase_perm HPM.out HP.out)); have HL5 := Lib.hid (HT5.out.len n (by rw [List.length_eraseIdx, if_pos (by have := HLN.out; omega), HLN.out]; rfl)); clear hd5 HTI HD)
                | (go_at_call 12; refine HL5.out.mono ?_; rintro e w6 ⟨rfl, rfl⟩; clear HL5))
              go_roundw
              case rel => exact ⟨k + 1, v2, _, hl.eraseIdx p, by go_num, rfl, by omega, by rw [List.length_eraseIdx, if_pos (by have := HLN.out; omega), HLN.out]; omega, HT5⟩
              case measure => simp [intOf]; omega
    · obtain rfl : k = len := by omega
      go_wp2_with fail
      go_ret
      exact ⟨rfl, HT.out.pile.below⟩

theorem pileTakes_row (a : Option Addr) (len cap : Nat) (l : List (Bool × It)) (w : World) (hbig : len ≤ maxLen) (h : IsActs w a len l) :
    Calls Try.prog 3 #[.slice a len cap] w fun e w' => e = .returned (.bool true) ∧ Below w.heap.size w w' := by
  by_cases h80 : 80 < len
  · exact pileTakes_long a len cap h80 hbig w
  · rcases h with ⟨hl, rfl | ⟨c, off, rfl, hc, hr⟩⟩
    · exact pileTakes_zero a cap w
    · exact pileTakes_some c off len cap l w (by omega) hl hc hr
end Go.Proofs.Ytcgjebkinfokiaa

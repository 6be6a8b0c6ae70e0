/- Joined: WMove, WPart, WLift. -/
import Derived.Test.YtbenmebmfihleaaMWk
import Derived.BigRegion
import Derived.RegionTactic
import Derived.Deep.QuietTactic
import Derived.LoopTactic
import Derived.Test.YtbenmebmfihleaaMLane
section
/- A node lies higher from now on. -/
namespace Go.Proofs.Ytbenmebmfihleaa
open Go.RowKit

variable {w wr w2 w4 : World} {E : Env} {fl st : Nat → Int} {hi nx : Nat → Nat} {mn mn2 : Nat → Int} {fv : Nat → Value} {Q : Nat → List Nat} {top : Int}
theorem Wk.congrMany (h : Wk E fl st hi nx mn fv Q top wr) (e : ∀ g, g < 2 * E.N → mn g = mn2 g) : Wk E fl st hi nx mn2 fv Q top wr :=
  ⟨h.pipes, h.lanes, h.work, h.flow, h.stays, h.high, h.many.congr (fun g hg => by rw [e g hg]), h.next, h.full, h.rows, h.apart, h.ord, h.size⟩
theorem Wk.drew (h : Wk E fl st hi nx mn fv Q top wr) : Wk E fl st hi nx mn fv Q top wr.drew := h.later (Below.refl _ _).drew
set_option maxHeartbeats 2000000 in
set_option maxRecDepth 100000 in
theorem move_any (H : Wk E fl st hi nx (cnt E.N hi) fv Q top wr) (hN : E.N ≤ 1000) (u h : Nat) (hu : u < E.N) (h1 : hi u < 2 * E.N) (h2 : h < 2 * E.N) :
    Calls Try.prog 49 #[.pointer (some ⟨E.p, 0, none⟩), .int .i64 (u : Int), .int .i64 (h : Int)] wr fun e w' => e = .returned (.tuple #[]) ∧ Below E.C wr w' ∧ Wk E fl st (lifted hi u h) (lifted nx u 0) (cnt E.N (lifted hi u h)) fv Q top w' := by
  obtain ⟨k, hk⟩ : ∃ k, hi u = k := ⟨_, rfl⟩
  rw [hk] at h1
  obtain ⟨_, _, _, _, _, _, _, a7, a8, a9, _, _⟩ := H.cellW
  have r0 := H.high.cell hu
  rw [hk] at r0
  have r1 := H.many.cell h1
  have f1 := H.many.frozen k
  obtain ⟨q1, hq1⟩ := (show 0 ≤ cnt E.N hi k ∧ cnt E.N hi k ≤ (E.N : Int) from cnt_bound _ _ _)
  obtain ⟨c1, hc1⟩ : ∃ c, cnt E.N hi k = c := ⟨_, rfl⟩
  have e1 : IntKind.i64.wrap (c1 - 1) = c1 - 1 := by rw [IntKind.wrap_i64]; omega
  have HA1 := H.setMany k (c1 - 1)
  have HA := HA1.drew
  rw [hc1] at r1
  obtain ⟨_, _, _, _, _, _, _, x7, x8, x9, _, _⟩ := HA.cellW
  have r2 := HA.many.cell h2
  have f2 := HA.many.frozen h
  obtain ⟨c2, hc2⟩ : ∃ c, (if h = k then c1 - 1 else cnt E.N hi h) = c := ⟨_, rfl⟩
  rw [hc2] at r2
  have hb2 : -1 ≤ c2 ∧ c2 ≤ (E.N : Int) := by have := cnt_bound E.N hi h; split at hc2 <;> omega
  have e2 : IntKind.i64.wrap (c2 + 1) = c2 + 1 := by rw [IntKind.wrap_i64]; omega
  have HB1 := HA1.setMany h (c2 + 1)
  have HB := HB1.drew
  obtain ⟨_, _, _, _, _, _, _, y7, y8, y9, _, _⟩ := HB.cellW
  have f3 := HB.high.frozen u
  have r3 := HB.high.cell hu
  have HC1 := HB1.setHigh u (z := (h : Int)) (m := h) rfl
  have HC := HC1.drew
  obtain ⟨_, _, _, _, _, _, _, z7, z8, z9, _, _⟩ := HC.cellW
  have f4 := HC.next.frozen u
  have r4 := HC.next.cell hu
  have HD := Lib.hid ((HC1.setNext u (z := 0) (m := 0) rfl).drew.congrMany (mn2 := cnt E.N (lifted hi u h)) (fun g _ => by
    rw [cnt_lifted hu, hk]
    subst hc2
    by_cases e3 : g = h
    · subst e3
      by_cases e4 : g = k
      · subst e4; simp only [if_true]; omega
      · simp only [e4, if_false, if_true]
        rw [if_neg (fun e => e4 e.symm)]
        omega
    · by_cases e4 : g = k
      · subst e4; simp only [e3, if_false, if_true]
        rw [if_neg (fun e => e3 e.symm)]
        omega
      · simp only [e3, e4, if_false]
        rw [if_neg (fun e => e4 e.symm), if_neg (fun e => e3 e.symm)]
        omega))
  have o := H.ord
  have HZ : Hid (Below E.C wr ((((wr.setCell ⟨E.mb, k, none⟩ (.int .i64 (c1 - 1))).setCell ⟨E.mb, h, none⟩ (.int .i64 (c2 + 1))).setCell ⟨E.hb, u, none⟩ (.int .i64 (h : Int))).setCell ⟨E.nb, u, none⟩ (.int .i64 0)).drew) := Lib.hid
    (((((Below.refl E.C wr).setCell (p := ⟨E.mb, k, none⟩) o.cm _).setCell (p := ⟨E.mb, h, none⟩) o.cm _).setCell (p := ⟨E.hb, u, none⟩) o.ch _).setCell (p := ⟨E.nb, u, none⟩) o.cn _).drew
  clear H HA HB HC HA1 HB1 HC1 hq1 q1 hc1 hc2 hb2 o hk
  go_enter Try.func49, Try.ntmps49
  go_wp2_with fail
  go_region
  go_wp2_with fail
  go_end0
  exact ⟨rfl, HZ.out, HD.out⟩
end Go.Proofs.Ytbenmebmfihleaa
end
section
/- Nodes that one doesn't come out of any more are lifted. -/
namespace Go.Proofs.Ytbenmebmfihleaa
open Go.RowKit

variable {w wr w2 w4 : World} {E : Env} {fl st : Nat → Int} {hi nx : Nat → Nat} {mn mn2 : Nat → Int} {fv : Nat → Value} {Q : Nat → List Nat} {top : Int} {N g c : Nat}
theorem parted_zero : parted N g 0 hi = hi := by funext i; simp [parted]
theorem partedNx_zero : partedNx N g 0 hi nx = nx := by funext i; simp [partedNx]
theorem parted_at : parted N g c hi c = hi c := by simp [parted]
theorem parted_take (h : g < hi c ∧ hi c < N) : lifted (parted N g c hi) c (N + 1) = parted N g (c + 1) hi := by
  funext i
  unfold lifted parted
  by_cases e : i = c
  · subst e; rw [if_pos rfl, if_pos (by omega)]
  · rw [if_neg e]
    by_cases e2 : i < c ∧ g < hi i ∧ hi i < N
    · rw [if_pos e2, if_pos (by omega)]
    · rw [if_neg e2, if_neg (by omega)]
theorem partedNx_take (h : g < hi c ∧ hi c < N) : lifted (partedNx N g c hi nx) c 0 = partedNx N g (c + 1) hi nx := by
  funext i
  unfold lifted partedNx
  by_cases e : i = c
  · subst e; rw [if_pos rfl, if_pos (by omega)]
  · rw [if_neg e]
    by_cases e2 : i < c ∧ g < hi i ∧ hi i < N
    · rw [if_pos e2, if_pos (by omega)]
    · rw [if_neg e2, if_neg (by omega)]
theorem parted_skip (h : ¬ (g < hi c ∧ hi c < N)) : parted N g c hi = parted N g (c + 1) hi := by
  funext i
  unfold parted
  by_cases e2 : i < c ∧ g < hi i ∧ hi i < N
  · rw [if_pos e2, if_pos (by omega)]
  · rw [if_neg e2, if_neg (fun h3 => by
      by_cases e : i = c
      · subst e; exact h ⟨h3.2.1, h3.2.2⟩
      · omega)]
theorem partedNx_skip (h : ¬ (g < hi c ∧ hi c < N)) : partedNx N g c hi nx = partedNx N g (c + 1) hi nx := by
  funext i
  unfold partedNx
  by_cases e2 : i < c ∧ g < hi i ∧ hi i < N
  · rw [if_pos e2, if_pos (by omega)]
  · rw [if_neg e2, if_neg (fun h3 => by
      by_cases e : i = c
      · subst e; exact h ⟨h3.2.1, h3.2.2⟩
      · omega)]
set_option maxHeartbeats 2000000 in
set_option maxRecDepth 100000 in
theorem part_any (H : Wk E fl st hi nx (cnt E.N hi) fv Q top wr) (hN2 : 2 ≤ E.N) (hN : E.N ≤ 1000) (hb : ∀ i, i < E.N → hi i < 2 * E.N) (g : Nat) :
    Calls Try.prog 50 #[.pointer (some ⟨E.p, 0, none⟩), .int .i64 (g : Int)] wr fun e w' => e = .returned (.tuple #[]) ∧ Below E.C wr w' ∧ Wk E fl st (parted E.N g E.N hi) (partedNx E.N g E.N hi nx) (cnt E.N (parted E.N g E.N hi)) fv Q top w' := by
  obtain ⟨w0, hw0⟩ : ∃ w0, w0 = wr := ⟨_, rfl⟩
  rw [← hw0] at H ⊢
  clear hw0
  obtain ⟨_, _, _, _, _, _, _, a7, _⟩ := H.cellW
  have HB := Lib.hid hb; clear hb
  have H0 : Hid (Below E.C w0 w0 ∧ Wk E fl st (parted E.N g 0 hi) (partedNx E.N g 0 hi nx) (cnt E.N (parted E.N g 0 hi)) fv Q top w0) := Lib.hid ⟨Below.refl _ _, by rw [parted_zero, partedNx_zero]; exact H⟩
  clear H
  go_enter Try.func50, Try.ntmps50
  go_wp2_with fail
  clear a7
  go_loopw [11] (fun i wr => ∃ c : Nat, i = .int .i64 c ∧ c ≤ E.N ∧ Hid (Below E.C w0 wr ∧ Wk E fl st (parted E.N g c hi) (partedNx E.N g c hi nx) (cnt E.N (parted E.N g c hi)) fv Q top wr)) (fun i _ => E.N - (intOf i).toNat)
  case atStart => exact ⟨0, rfl, Nat.zero_le _, H0⟩
  case round =>
    obtain ⟨c, rfl, hc, HX⟩ := hrel
    clear H0
    by_cases hlt : c < E.N
    · obtain ⟨a0, _⟩ := HX.out.2.cellW
      have r0 := HX.out.2.high.cell hlt
      rw [parted_at] at r0
      have hm := HB.out c hlt
      obtain ⟨m, hm2⟩ : ∃ m, hi c = m := ⟨_, rfl⟩
      have HM := Lib.hid hm2
      rw [hm2] at r0 hm
      clear hm2
      by_cases h1 : g < m
      · by_cases h2 : m < E.N
        · go_wp2_with (go_at_call 49; refine (move_any HX.out.2 hN c (E.N + 1) hlt (by rw [parted_at, HM.out]; exact hm) (by omega)).mono ?_; rintro e w2 ⟨rfl, hb2, hk2⟩; have HY := Lib.hid hk2; have HZ := Lib.hid (HX.out.1.trans hb2); clear hb2 hk2)
          go_roundw
          case rel => exact ⟨c + 1, by go_num, by omega, Lib.hid ⟨HZ.out, by have := HY.out; rw [parted_take (by rw [HM.out]; exact ⟨h1, h2⟩), partedNx_take (by rw [HM.out]; exact ⟨h1, h2⟩)] at this; exact this⟩⟩
          case measure => simp [intOf]; omega
        · go_wp2_with fail
          go_roundw
          case rel => exact ⟨c + 1, by go_num, by omega, Lib.hid (by have := HX.out; rw [parted_skip (by rw [HM.out]; omega), partedNx_skip (by rw [HM.out]; omega)] at this; exact this)⟩
          case measure => simp [intOf]; omega
      · go_wp2_with fail
        go_roundw
        case rel => exact ⟨c + 1, by go_num, by omega, Lib.hid (by have := HX.out; rw [parted_skip (by rw [HM.out]; omega), partedNx_skip (by rw [HM.out]; omega)] at this; exact this)⟩
        case measure => simp [intOf]; omega
    · obtain rfl : c = E.N := by omega
      go_wp2_with fail
      go_end0
      exact ⟨rfl, HX.out.1, HX.out.2⟩
end Go.Proofs.Ytbenmebmfihleaa
end
section
/- A node is lifted. -/
namespace Go.Proofs.Ytbenmebmfihleaa
open Go.RowKit

variable {w wr w2 w4 : World} {E : Env} {fl st : Nat → Int} {hi nx hi2 nx2 : Nat → Nat} {mn mn2 : Nat → Int} {fv : Nat → Value} {Q : Nat → List Nat} {top : Int} {N g c : Nat}
def Caps (E : Env) (fl : Nat → Int) : Prop := ∀ (k : Nat) (x : Pi), E.l[k]? = some x → 0 ≤ fl k ∧ fl k ≤ x.2.2.1 ∧ x.2.2.1 ≤ 1099511627776
abbrev PRE (E : Env) (fl : Nat → Int) (hi nx : Nat → Nat) : Prop := PR E.l E.N E.L E.s E.t fl hi nx
abbrev measE (E : Env) (fl : Nat → Int) (hi nx : Nat → Nat) : Nat := meas E.l E.N E.L fl hi nx
theorem caps_of (h : PRE E fl hi nx) (hn : E.Net) : Caps E fl := fun k x hx => by
  have := h.cap k x hx
  have := okP_true.1 (hn.ok x (List.mem_of_getElem? hx))
  omega
theorem parted_ge (i : Nat) : hi i ≤ parted N g c hi i ∨ N ≤ hi i := by
  unfold parted
  split <;> omega
/-- A lane of the row is there. -/
theorem Wk.lane (H : Wk E fl st hi nx mn fv Q top wr) {u q : Nat} (hu : u < E.N) (hq : q < (E.L u).length) : ∃ b off cap k v bk, E.V u = .slice (some ⟨b, off, none⟩) (E.L u).length cap ∧ (E.L u)[q]? = some (k, v, bk) ∧
    wr.cell? ⟨b, off + q * 3, none⟩ = some (.int .i64 (k : Int)) ∧ wr.cell? ⟨b, off + q * 3 + 1, none⟩ = some (.int .i64 (v : Int)) ∧ wr.cell? ⟨b, off + q * 3 + 2, none⟩ = some (.bool bk) := by
  obtain ⟨a, cap, e, hl⟩ := H.lanes.row u hu
  obtain ⟨b, off, ⟨k, v, bk⟩, ha, _, hx, c0, c1, c2⟩ := hl.at_ hq
  subst ha
  exact ⟨b, off, cap, k, v, bk, e, hx, c0, c1, c2⟩
theorem Wk.rowV (H : Wk E fl st hi nx mn fv Q top wr) {u : Nat} (hu : u < E.N) : ∃ a cap, E.V u = .slice a (E.L u).length cap := by
  obtain ⟨a, cap, e, _⟩ := H.lanes.row u hu
  exact ⟨a, cap, e⟩
theorem Env.Net.lane (hn : E.Net) (H : Wk E fl st hi nx mn fv Q top wr) {u q k v : Nat} {b : Bool} (hu : u < E.N) (hq : (E.L u)[q]? = some (k, v, b)) : k < E.len ∧ v < E.N ∧ u ≠ v := by
  obtain ⟨x, hx, h1, h2, h3, _⟩ := lane_of hn.lanes hu (List.mem_of_getElem? hq)
  have := H.pipes.1
  exact ⟨by simp only at h3; omega, h2, h1⟩
set_option maxHeartbeats 4000000 in
set_option maxRecDepth 100000 in
theorem lift_any (H : Wk E fl st hi nx (cnt E.N hi) fv Q top wr) (hn : E.Net) (hp : PRE E fl hi nx) (u : Nat) (hu : u < E.N) (hus : u ≠ E.s) (hut : u ≠ E.t) (hx : nx u = (E.L u).length) (hpos : 0 < netTo E.l fl (u : Int) E.l.length) :
    Calls Try.prog 38 #[.pointer (some ⟨E.p, 0, none⟩), .int .i64 (u : Int)] wr fun e w' => e = .returned (.tuple #[]) ∧ Below E.C wr w' ∧
      ∃ hi2 nx2, Wk E fl st hi2 nx2 (cnt E.N hi2) fv Q top w' ∧ PRE E fl hi2 nx2 ∧ measE E fl hi2 nx2 < measE E fl hi nx := by
  obtain ⟨w0, hw0⟩ : ∃ w0, w0 = wr := ⟨_, rfl⟩
  rw [← hw0] at H ⊢
  clear hw0
  have hN := hn.nm
  have hN2 := hn.n2
  obtain ⟨m, hm⟩ : ∃ m, hi u = m := ⟨_, rfl⟩
  have HM := Lib.hid hm
  have hmb : m < 2 * E.N := by have := hp.bound u hu; omega
  obtain ⟨M, hM⟩ : ∃ M, (E.L u).length = M := ⟨_, rfl⟩
  have hMb : M ≤ 40000 := by have := hn.many u; omega
  have HMM := Lib.hid hM
  obtain ⟨va, vc, hv⟩ := H.rowV hu
  rw [hM] at hv
  have HV := Lib.hid hv
  obtain ⟨a0, _, _, _, a4, _, _, a7, a8, _, _, _⟩ := H.cellW
  have r0 := H.high.cell hu
  rw [hm] at r0
  have r1 := H.lanes.out.cell hu
  rw [hv] at r1
  have e2N : IntKind.i64.wrap (2 * (E.N : Int)) = 2 * (E.N : Int) := by rw [IntKind.wrap_i64]; omega
  have HN := Lib.hid hn
  have HP := Lib.hid hp
  have HX := Lib.hid hx
  have HPS := Lib.hid hpos
  have HUS := Lib.hid hus
  have HUT := Lib.hid hut
  have H0 := Lib.hid H
  have HL0 := Lib.hid (Low.begin_ E.l E.N fl hi)
  clear hm hM hv hn hp hx hpos hus hut
  go_enter Try.func38, Try.ntmps38
  go_wp2_with fail
  go_quiet (fail)
  go_wp2_with fail
  clear r0 r1 a0 a4 a7 a8 H
  have H0 := Lib.hid (H0.out.later (below_drewN (Below.refl w0.heap.size w0) nq))
  have HB0 := Lib.hid (below_drewN (Below.refl E.C w0) nq)
  go_loopw [5, 29] (fun lv i wr => ∃ (q low : Nat), lv = .int .i64 (low : Int) ∧ i = .int .i64 (q : Int) ∧ q ≤ M ∧ Hid (Below E.C w0 wr ∧ Wk E fl st hi nx (cnt E.N hi) fv Q top wr) ∧ Hid (Low E.l E.N fl hi ((E.L u).take q) low)) (fun _ i _ => M - (intOf i).toNat)
  case atStart => exact ⟨0, 2 * E.N, congrArg (Value.int .i64) (by omega), rfl, Nat.zero_le _, Lib.hid ⟨HB0.out, H0.out⟩, HL0⟩
  case round =>
    obtain ⟨q, low, rfl, rfl, hq, HW, HL⟩ := hrel
    clear H0 HB0 HL0
    by_cases hlt : q < M
    · obtain ⟨b, off, cap, k, v, bk, hv2, hj, c0, c1, c2⟩ := HW.out.2.lane (q := q) hu (by rw [HMM.out]; exact hlt)
      rw [HV.out] at hv2
      injection hv2 with e1 e2 e3
      clear e2
      subst e1 e3
      obtain ⟨hk, hvN, huv⟩ := HN.out.lane HW.out.2 hu hj
      have HJ := Lib.hid hj
      have HW1 := Lib.hid (HW.out.2.later ((Below.refl wr.heap.size wr).alloc (Nat.le_refl _) (.cells #[.int .i64 (k : Int), .int .i64 (v : Int), .bool bk] 81)))
      have HC := Lib.hid (caps_of HP.out HN.out)
      have HS : Hid (E.C ≤ wr.heap.size) := Lib.hid (by have := HW.out.2.size; have := HW.out.2.ord.dp; have := HW.out.2.ord.cp; omega)
      have hlb := HL.out.le
      have hvb : hi v < 2 * E.N := HP.out.bound v hvN
      obtain ⟨hv1, hhv⟩ : ∃ z, hi v = z := ⟨_, rfl⟩
      have HHV := Lib.hid hhv
      rw [hhv] at hvb
      obtain ⟨d, hd⟩ : ∃ d, lft E.l fl (k, v, bk) = d := ⟨_, rfl⟩
      have HD := Lib.hid hd
      have HCL := Lib.hid (left_any HW1.out k v bk hk HC.out)
      rw [hd] at HCL
      clear hj hd hhv
      have HTK : Hid ((E.L u).take (q + 1) = (E.L u).take q ++ [(k, v, bk)]) := Lib.hid (by rw [List.take_add_one, HJ.out]; rfl)
      by_cases hpos : 0 < d
      · have HLN := Lib.hid (HL.out.take (k, v, bk) (by rw [HD.out]; exact hpos) (by rw [HHV.out]; exact hvb))
        go_wp2_with (go_at_call 36; refine HCL.out.mono ?_; rintro e w2 ⟨rfl, hb2⟩; have HW2 := Lib.hid (HW1.out.later hb2); have x7 := HW2.out.cellW.2.2.2.2.2.2.2.1; have x1 : w2.cell? ⟨wr.heap.size, 1, none⟩ = some (.int .i64 (v : Int)) := (hb2.cell (p := ⟨wr.heap.size, 1, none⟩) (by simp)).trans (by simp); have rv := HW2.out.high.cell hvN; rw [HHV.out] at rv; have HB2 := Lib.hid ((HW.out.1.alloc HS.out _).trans (hb2.mono (by have := HS.out; simp; omega))); clear hb2)
        go_region
        go_wp2_with fail
        go_roundw
        case rel => exact ⟨q + 1, min low hv1, congrArg (Value.int .i64) (by split <;> omega), by go_num, by omega, Lib.hid ⟨HB2.out.drew, HW2.out.drew⟩, Lib.hid (by have := HLN.out; rw [HHV.out] at this; rw [HTK.out]; exact this)⟩
        case measure => simp [intOf]; omega
      · have HLN := Lib.hid (HL.out.skip (k, v, bk) (by rw [HD.out]; exact hpos))
        go_wp2_with (go_at_call 36; refine HCL.out.mono ?_; rintro e w2 ⟨rfl, hb2⟩; have HW2 := Lib.hid (HW1.out.later hb2); have HB2 := Lib.hid ((HW.out.1.alloc HS.out _).trans (hb2.mono (by have := HS.out; simp; omega))); clear hb2)
        go_roundw
        case rel => exact ⟨q + 1, low, rfl, by go_num, by omega, Lib.hid ⟨HB2.out, HW2.out⟩, Lib.hid (by rw [HTK.out]; exact HLN.out)⟩
        case measure => simp [intOf]; omega
    · have hql : (E.L u).take q = E.L u := List.take_of_length_le (by have := HMM.out; omega)
      rw [hql] at HL
      obtain ⟨hpr, hup, hlo⟩ := HP.out.lift HN.out.lanes HN.out.ok HN.out.sN hu HUS.out HUT.out HX.out HPS.out HL.out
      have HPR := Lib.hid hpr
      have HUP := Lib.hid hup
      clear hpr hup hql
      have hlw : IntKind.i64.wrap ((low : Int) + 1) = (low : Int) + 1 := by rw [IntKind.wrap_i64]; omega
      obtain ⟨h, hh⟩ : ∃ h, h = low + 1 := ⟨_, rfl⟩
      have hh2 : (low : Int) + 1 = (h : Int) := by omega
      rw [← hh] at HPR HUP hlo
      have HMV := Lib.hid (move_any HW.out.2 hN u h hu (by rw [HM.out]; exact hmb) hlo)
      have HLE : Hid (∀ i, i < E.N → hi i ≤ lifted hi u h i) := Lib.hid (fun i _ => by
        unfold lifted
        split
        · rename_i e; subst e; have := HUP.out; omega
        · omega)
      have HLT : Hid (hi u < lifted hi u h u) := Lib.hid (by have := HUP.out; simp only [lifted, if_true]; omega)
      clear hh
      obtain ⟨cw, hcw⟩ : ∃ cw, cnt E.N (lifted hi u h) m = cw := ⟨_, rfl⟩
      have HCW := Lib.hid hcw
      by_cases hz : cw = 0
      · have hzb : (cw == 0) = true := by simp [hz]
        have HG := Lib.hid (cnt_none (hcw.trans hz))
        clear hz hcw
        by_cases hmn : m < E.N
        · go_wp2_with (first
            | (go_at_call 49; (try rw [hh2]); refine HMV.out.mono ?_; rintro e w2 ⟨rfl, hb2, hk2⟩; have HY := Lib.hid hk2; have HZ := Lib.hid (HW.out.1.trans hb2); have y0 := hk2.cellW.1; have y8 := hk2.cellW.2.2.2.2.2.2.2.2.1; have ym := hk2.many.cell hmb; rw [HCW.out] at ym; clear hb2 hk2)
            | (go_at_call 50; refine (part_any HY.out hN2 hN HPR.out.bound m).mono ?_; rintro e w3 ⟨rfl, hb3, hk3⟩; have HY3 := Lib.hid hk3; have HZ3 := Lib.hid (HZ.out.trans hb3); clear hb3 hk3))
          go_end0
          have hp3 := HPR.out.part HN.out.lanes HN.out.n2 HG.out
          refine ⟨rfl, HZ3.out, _, _, HY3.out, hp3, meas_lift HP.out hp3 HN.out.ok hu ?_ (fun i hi3 => ?_)⟩
          · have h1 := HLT.out
            have h2 := HP.out.bound u hu
            unfold parted
            split <;> omega
          · have h1 := HLE.out i hi3
            unfold parted
            split <;> omega
        · go_wp2_with (go_at_call 49; (try rw [hh2]); refine HMV.out.mono ?_; rintro e w2 ⟨rfl, hb2, hk2⟩; have HY := Lib.hid hk2; have HZ := Lib.hid (HW.out.1.trans hb2); have y0 := hk2.cellW.1; have y8 := hk2.cellW.2.2.2.2.2.2.2.2.1; have ym := hk2.many.cell hmb; rw [HCW.out] at ym; clear hb2 hk2)
          go_end0
          exact ⟨rfl, HZ.out, _, _, HY.out, HPR.out, meas_lift HP.out HPR.out HN.out.ok hu HLT.out HLE.out⟩
      · have hzb : (cw == 0) = false := by simp [hz]
        clear hz hcw
        go_wp2_with (go_at_call 49; (try rw [hh2]); refine HMV.out.mono ?_; rintro e w2 ⟨rfl, hb2, hk2⟩; have HY := Lib.hid hk2; have HZ := Lib.hid (HW.out.1.trans hb2); have y0 := hk2.cellW.1; have y8 := hk2.cellW.2.2.2.2.2.2.2.2.1; have ym := hk2.many.cell hmb; rw [HCW.out] at ym; clear hb2 hk2)
        go_end0
        exact ⟨rfl, HZ.out, _, _, HY.out, HPR.out, meas_lift HP.out HPR.out HN.out.ok hu HLT.out HLE.out⟩
end Go.Proofs.Ytbenmebmfihleaa
end

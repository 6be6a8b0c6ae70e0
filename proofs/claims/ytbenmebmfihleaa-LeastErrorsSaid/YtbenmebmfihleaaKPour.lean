/- Package least: pour. -/
import Derived.Test.YtbenmebmfihleaaMSend
import Derived.Deep.RegionHeld3
import Derived.Deep.LoopGhost
import Derived.LoopTactic
import Derived.StillTailTactics
namespace Go.Proofs.Ytbenmebmfihleaa
open Go.RowKit

variable {w wr w1 w2 w4 : World} {E : EnvK} {fl st h sp fl2 st2 : Nat → Int} {nx nx2 : Nat → Nat} {cost : Int} {k v s t co at_ : Nat} {b : Bool} {m want much : Int}
/-- What a call of pour answers. -/
def PourC (E : EnvK) (h sp : Nat → Int) (co : Nat) (cost : Int) (at_ : Nat) : Prop := ∀ (much : Int) (fl st : Nat → Int) (nx : Nat → Nat) (wr : World), 1 ≤ much → much ≤ 36028797018963968 → Kw E fl st h sp nx (co : Int) cost wr → Pre E.l E.N E.L co h sp fl st nx →
  Calls Try.prog 53 #[.pointer (some ⟨E.p, 0, none⟩), .int .i64 (at_ : Int), .int .i64 much] wr fun e w' => ∃ gone fl2 st2 nx2, e = .returned (.int .i64 gone) ∧ Mod (SK E) wr w' ∧ Kw E fl2 st2 h sp nx2 (co : Int) cost w' ∧
    Poured E.l E.N E.L co h sp at_ much fl st nx fl2 st2 nx2 gone ∧ (Fresh E.l E.N E.L co h sp (sp at_) fl st nx → 1 ≤ gone)
set_option maxHeartbeats 4000000 in
set_option maxRecDepth 100000 in
theorem pour_here (hat : at_ < E.N) (h0 : sp at_ = 0) : PourC E h sp co cost at_ := by
  intro much fl st nx w0 hm hm2 H hp
  obtain ⟨hd, hpr⟩ := hp.here hat h0 hm
  have hs := hp.small at_ hat
  have hs2 := hp.on_ at_ hat h0
  have hz := H.size
  obtain ⟨_, _, _, _, _, _, _, a7, a8, _⟩ := H.cellW
  have r0 := H.steps.cell hat
  rw [h0] at r0
  have r1 := H.stays.cell hat
  have f1 := H.stays.frozen at_
  obtain ⟨u, hu⟩ : ∃ u, st at_ = u := ⟨_, rfl⟩
  rw [hu] at hs hs2 r1 hd hpr
  obtain ⟨g, hg⟩ : ∃ g, min much (-u) = g := ⟨_, rfl⟩
  rw [hg] at hd hpr
  have HD := Lib.hid hd
  have HP := Lib.hid hpr
  have HM := Lib.hid (SK.set H.ord.cs H.ord.ds (Mod.refl (SK E) w0) at_ (.int .i64 (u + g)))
  have HK := Lib.hid (H.setStays at_ (u + g))
  have e1 : (if -u < much then -u else much) = g := by split <;> omega
  have e2 : IntKind.i64.wrap (u + g) = u + g := by rw [IntKind.wrap_i64]; omega
  clear hd hpr H hp hu hg h0
  go_enter Try.func53, Try.ntmps53
  go_wp2_with fail
  go_ret
  exact ⟨g, fl, _, nx, rfl, HM.out, HK.out, HD.out, HP.out⟩
/-- What the loop's region asks of the steps. -/
def StepsAt (E : EnvK) (at_ v g k : Nat) (b : Bool) (y z : Int) (W : World) : Prop := W.cell? ⟨E.p, 8, none⟩ = some (.slice (some ⟨E.tb, 0, none⟩) E.N E.N) ∧ W.cell? ⟨E.tb, v, none⟩ = some (.int .i64 y) ∧ W.cell? ⟨E.tb, at_, none⟩ = some (.int .i64 z) ∧ W.cell? ⟨g, 0, none⟩ = some (.int .i64 (k : Int)) ∧ W.cell? ⟨g, 1, none⟩ = some (.int .i64 (v : Int)) ∧ W.cell? ⟨g, 2, none⟩ = some (.bool b)
theorem stepsAt_of {fl st : Nat → Int} {nx : Nat → Nat} {g : Nat} {y z : Int} (hK : Kw E fl st h sp nx (co : Int) cost w) (hL : LB w g k v b) (hv : v < E.N) (ha : at_ < E.N) (hy : sp v = y) (hz : sp at_ = z) : StepsAt E at_ v g k b y z w := by
  obtain ⟨l0, l1, l2⟩ := hL.cells
  obtain ⟨_, _, _, _, _, _, _, _, a8, _⟩ := hK.cellW
  have r3 := hK.steps.cell hv
  have r4 := hK.steps.cell ha
  rw [hy] at r3
  rw [hz] at r4
  exact ⟨a8, r3, r4, l0, l1, l2⟩
set_option maxHeartbeats 4000000 in
set_option maxRecDepth 100000 in
theorem pour_on (hn : NetK E.l E.N s t want E.L) (hnear : Near E.N h) (hco : co ≤ 64) (hat : at_ < E.N) (h0 : sp at_ ≠ 0) (IH : ∀ v, v < E.N → 0 ≤ sp v → sp v = sp at_ - 1 → PourC E h sp co cost v) : PourC E h sp co cost at_ := by
  intro much fl st nx w0 hm hm2 H hp
  have HPG := Lib.hid (Pg.begin_ hp hat h0 hm)
  have HSP := Lib.hid hp.sps
  have HPR := Lib.hid hp
  have HN := Lib.hid hn
  have HI := Lib.hid IH
  have HNE := Lib.hid hnear
  have H00 := Lib.hid h0
  obtain ⟨hz1, hz2⟩ := hp.sps at_ hat
  obtain ⟨z, hz⟩ : ∃ z, sp at_ = z := ⟨_, rfl⟩
  have HZ := Lib.hid hz
  obtain ⟨M, hM⟩ : ∃ M, (E.L at_).length = M := ⟨_, rfl⟩
  have HM := Lib.hid hM
  have hMb : M ≤ 40000 := by rw [← hM]; exact hn.many hat
  have hNm := hn.nm
  obtain ⟨va, vc, hv⟩ := H.rowV hat
  rw [hM] at hv
  have HV := Lib.hid hv
  have hq0 : nx at_ ≤ M := by rw [← hM]; exact hp.nxb at_ hat
  obtain ⟨_, _, _, _, _, _, _, _, a8, _⟩ := H.cellW
  have r0 := H.steps.cell hat
  rw [hz] at r0 h0 hz1 hz2
  have hzb : (z == 0) = false := by simp [h0]
  have HK0 := Lib.hid H
  have HM0 := Lib.hid (Mod.refl (SK E) w0)
  have HSZ := Lib.hid H.size
  clear H hp hn IH hnear hz hM hv
  go_enter Try.func53, Try.ntmps53
  go_wp2_with fail
  clear a8 r0 h0 hzb
  go_loopg [8] (M + 1) (fun gn gv wr => ∃ (gone : Int) (q : Nat) (fl1 st1 : Nat → Int) (nx1 : Nat → Nat), gv = .int .i64 gone ∧ 0 ≤ gone ∧ gone < much ∧ q ≤ M ∧ M + 1 ≤ q + gn ∧ Hid (Mod (SK E) w0 wr) ∧ Hid (Kw E fl1 st1 h sp nx1 (co : Int) cost wr) ∧ Hid (Pg E.l E.N E.L co h sp at_ much fl st nx fl1 st1 nx1 gone q))
  case atStart => exact ⟨0, nx at_, fl, st, nx, rfl, by omega, by omega, hq0, by omega, HM0, HK0, HPG⟩
  case round =>
    obtain ⟨gone, q, fl1, st1, nx1, rfl, hg0, hg1, hq, hgk, HMW, HKW, HPW⟩ := hrel
    clear HM0 HK0 HPG hq0
    obtain ⟨_, _, _, _, _, _, a6, _, _, a9, _⟩ := HKW.out.cellW
    have r1 := HKW.out.next.cell hat
    rw [HPW.out.at_q] at r1
    have r2 := HKW.out.lanes.out.cell hat
    rw [HV.out] at r2
    by_cases hlt : q < M
    · obtain ⟨lb2, off, cap, k, v, b, hv2, hj, c0, c1, c2⟩ := HKW.out.lane (q := q) hat (by rw [HM.out]; exact hlt)
      rw [HV.out] at hv2
      injection hv2 with e1 e2 e3
      clear e2
      subst e1 e3
      have HJ := Lib.hid hj
      obtain ⟨x, hx, hkl, hvN⟩ := HN.out.lanes.lane hat (List.mem_of_getElem? hj)
      simp only at hx hkl hvN
      have hmem := List.mem_of_getElem? hx
      have HX := Lib.hid hx
      have HXO := Lib.hid (HN.out.ok x hmem)
      have HXC := Lib.hid (HN.out.cost x hmem)
      clear hj hx hmem
      go_wp2_with fail
      go_quiet (fail)
      go_wp2_with fail
      obtain ⟨w1, hw1⟩ : ∃ w1, wr.drewN nq = w1 := ⟨_, rfl⟩
      have HK1 : Hid (Kw E fl1 st1 h sp nx1 (co : Int) cost w1) := Lib.hid (hw1 ▸ HKW.out.drewN nq)
      have HM1 : Hid (Mod (SK E) w0 w1) := Lib.hid (hw1 ▸ HMW.out.drewN nq)
      have HC1 : Hid (w1.cell? ⟨lb2, off + q * 3, none⟩ = some (.int .i64 (k : Int)) ∧ w1.cell? ⟨lb2, off + q * 3 + 1, none⟩ = some (.int .i64 (v : Int)) ∧ w1.cell? ⟨lb2, off + q * 3 + 2, none⟩ = some (.bool b)) := Lib.hid (hw1 ▸ ⟨c0, c1, c2⟩)
      rw [hw1]
      clear hw1 a6 a9 r1 r2 c0 c1 c2 HKW HMW
      obtain ⟨_, _, _, _, _, _, a6, _, _, a9, _⟩ := HK1.out.cellW
      have r1 := HK1.out.next.cell hat
      rw [HPW.out.at_q] at r1
      have r2 := HK1.out.lanes.out.cell hat
      rw [HV.out] at r2
      obtain ⟨c0, c1, c2⟩ := HC1.out
      have hlb := World.block_lt_of_cell? w1 _ c0
      have d0 := ((Below.refl w1.heap.size w1).alloc (Nat.le_refl _) (.cells #[.int .i64 0, .int .i64 0, .bool false] 90)).cell (p := ⟨lb2, off + q * 3, none⟩) hlb
      have d1 := ((Below.refl w1.heap.size w1).alloc (Nat.le_refl _) (.cells #[.int .i64 0, .int .i64 0, .bool false] 90)).cell (p := ⟨lb2, off + q * 3 + 1, none⟩) hlb
      have d2 := ((Below.refl w1.heap.size w1).alloc (Nat.le_refl _) (.cells #[.int .i64 0, .int .i64 0, .bool false] 90)).cell (p := ⟨lb2, off + q * 3 + 2, none⟩) hlb
      rw [c0] at d0
      rw [c1] at d1
      rw [c2] at d2
      have HKA := HK1.out.alloc (.cells #[.int .i64 0, .int .i64 0, .bool false] 90)
      obtain ⟨_, _, _, _, _, _, b6, _, _, b9, _⟩ := HKA.cellW
      have s1 := HKA.next.cell hat
      rw [HPW.out.at_q] at s1
      have s2 := HKA.lanes.out.cell hat
      rw [HV.out] at s2
      clear HKA
      go_region
      go_wp2_with fail
      obtain ⟨g, hg⟩ : ∃ g, w1.heap.size = g := ⟨_, rfl⟩
      obtain ⟨w2, hw2⟩ : ∃ w2, (w1.alloc (.cells #[.int .i64 (k : Int), .int .i64 (v : Int), .bool b] 90)).drew = w2 := ⟨_, rfl⟩
      have HK2 : Hid (Kw E fl1 st1 h sp nx1 (co : Int) cost w2) := Lib.hid (hw2 ▸ (HK1.out.alloc _).drew)
      have HM2 : Hid (Mod (SK E) w0 w2) := Lib.hid (hw2 ▸ (HM1.out.alloc _).drew)
      have HL2 : Hid (LB w2 g k v b) := Lib.hid (hw2 ▸ hg ▸ LB.new w1 k v b)
      have HGD : Hid (E.D ≤ g) := Lib.hid (by have := HK1.out.size; omega)
      rw [hw2, hg]
      clear hw2 hg a6 a9 r1 r2 c0 c1 c2 d0 d1 d2 b6 b9 s1 s2 hlb HK1 HM1 HC1
      obtain ⟨l0, l1, l2⟩ := HL2.out.cells
      obtain ⟨_, _, _, _, _, _, _, _, a8, a9, _⟩ := HK2.out.cellW
      obtain ⟨y, hy⟩ : ∃ y, sp v = y := ⟨_, rfl⟩
      have HY := Lib.hid hy
      have hyb := HSP.out v hvN
      have r3 := HK2.out.steps.cell hvN
      have r4 := HK2.out.steps.cell hat
      rw [hy] at r3 hyb
      rw [HZ.out] at r4
      have hzw : IntKind.i64.wrap (z - 1) = z - 1 := by rw [IntKind.wrap_i64]; omega
      have hgm : (gone == much) = false := by simp; omega
      clear hy
      by_cases hyz : y = z - 1
      · have hyzb : (y == z - 1) = true := by simp [hyz]
        have HYZ := Lib.hid hyz
        clear hyz
        have HS2 : Hid (StepsAt E at_ v g k b y z w2.drew) := Lib.hid (stepsAt_of HK2.out.drew (HL2.out.later (Below.refl _ _).drew) hvN hat HY.out HZ.out)
        have HF := Lib.hid (flatK_any (HK2.out.drew.view) v b HX.out HXO.out HXC.out HNE.out hco (HPW.out.out.cap k x HX.out))
        cases hop : opn E.l co h fl1 (k, v, b) with
        | true =>
          rw [hop] at HF
          have HOP := Lib.hid hop
          clear hop
          obtain ⟨d, hd⟩ : ∃ d, lft E.l fl1 (k, v, b) = d := ⟨_, rfl⟩
          have HD := Lib.hid hd
          have hd0 : 0 < d := by rw [← hd]; exact (opn_true.1 HOP.out).2
          have hd1 : d ≤ 1099511627776 := by
            have h1 := HPW.out.out.cap k x HX.out
            have h2 := okP_true.1 HXO.out
            rw [← hd]
            unfold lft
            rw [room_of (k := k) HX.out]
            split <;> (simp only; omega)
          obtain ⟨m1, hm1⟩ : ∃ m1, min (much - gone) d = m1 := ⟨_, rfl⟩
          have HM1 := Lib.hid hm1
          have hmb : 1 ≤ m1 ∧ m1 ≤ d ∧ m1 ≤ much - gone := by omega
          have hmi : (if d < much - gone then d else much - gone) = m1 := by split <;> omega
          have hmw : IntKind.i64.wrap (much - gone) = much - gone := by rw [IntKind.wrap_i64]; omega
          have HYV := Lib.hid (show 0 ≤ sp v from by have := HYZ.out; have := H00.out; rw [HZ.out] at this; rw [HY.out]; omega)
          have HYA := Lib.hid (show sp v = sp at_ - 1 from by rw [HY.out, HZ.out]; exact HYZ.out)
          have HPRE := Lib.hid (HPR.out.poured HPW.out.out)
          clear hm1 hd
          go_region_held3 (fun W => W.cell? ⟨E.p, 8, none⟩ = some (.slice (some ⟨E.tb, 0, none⟩) E.N E.N) ∧ W.cell? ⟨E.tb, v, none⟩ = some (.int .i64 y) ∧ W.cell? ⟨E.tb, at_, none⟩ = some (.int .i64 z) ∧ W.cell? ⟨g, 0, none⟩ = some (.int .i64 (k : Int)) ∧ W.cell? ⟨g, 1, none⟩ = some (.int .i64 (v : Int)) ∧ W.cell? ⟨g, 2, none⟩ = some (.bool b))
            (first | assumption | exact HS2.out | exact HS3.out)
            (first | (go_at_call 57; refine HF.out.mono ?_; rintro e w3 ⟨rfl, hb3⟩; have HB3 := Lib.hid hb3; have HK3 := Lib.hid (HK2.out.drew.later hb3); have HL3 : Hid (LB w3 g k v b) := Lib.hid ((HL2.out.later (Below.refl _ _).drew).later hb3); have HM3 := Lib.hid (HM2.out.drew.trans (Mod.of_below (SK E) hb3)); have HS3 : Hid (StepsAt E at_ v g k b y z w3) := Lib.hid (stepsAt_of HK3.out HL3.out hvN hat HY.out HZ.out); clear hb3))
          have HLF := Lib.hid (leftK_any (HK3.out.drew.view) v b HX.out HXO.out (HPW.out.out.cap k x HX.out))
          rw [HD.out] at HLF
          have HL3d : Hid (LB w3.drew g k v b) := Lib.hid (HL3.out.later (Below.refl _ _).drew)
          obtain ⟨x0, x1, x2⟩ := HL3.out.cells
          clear a8 a9 r3 r4 l0 l1 l2 hyzb hzw hyb
          go_wp2_with fail
          go_region_held3 (fun W => W.cell? ⟨g, 0, none⟩ = some (.int .i64 (k : Int)) ∧ W.cell? ⟨g, 1, none⟩ = some (.int .i64 (v : Int)) ∧ W.cell? ⟨g, 2, none⟩ = some (.bool b))
            (first | assumption | exact HL3d.out.cells | exact HL4.out.cells | exact HL5.out.cells)
            (first
              | (go_at_call 58; refine HLF.out.mono ?_; rintro e w4 ⟨rfl, hb4⟩; have HK4 := Lib.hid (HK3.out.drew.later hb4); have HL4 : Hid (LB w4 g k v b) := Lib.hid (HL3d.out.later hb4); have HM4 := Lib.hid (HM3.out.drew.trans (Mod.of_below (SK E) hb4)); clear hb4)
              | (go_at_call 53; refine (HI.out v hvN HYV.out HYA.out m1 fl1 st1 nx1 _ hmb.1 (by omega) HK4.out HPRE.out).mono ?_; rintro e w5 ⟨more, fl2, st2, nx2, rfl, hm5, hk5, hp5, hpr5⟩; have HK5 := Lib.hid hk5; have HM5 := Lib.hid (HM4.out.trans hm5); have HL5 : Hid (LB w5 g k v b) := Lib.hid (HL4.out.kept hm5 (fun hh => by have := HGD.out; have := hh.2; omega)); have HP5 := Lib.hid hp5; have HR5 := Lib.hid hpr5; clear hm5 hk5 hp5 hpr5))
          obtain ⟨hT1, hT2, _⟩ := HPW.out.take HN.out.lanes hat (by have := HYV.out; have := HYA.out; omega) HJ.out HOP.out HYA.out (by have := HM1.out; rw [HD.out, this]; exact HP5.out) HR5.out
          have HT1 := Lib.hid hT1
          have HT2 := Lib.hid hT2
          have hmr0 := HP5.out.g0
          have hmr1 := HP5.out.g1
          have hmr2 : more ≤ 1099511627776 := by omega
          have hgw : IntKind.i64.wrap (gone + more) = gone + more := by rw [IntKind.wrap_i64]; omega
          have HFC : Hid (0 ≤ fl2 k ∧ fl2 k ≤ 1099511627776) := Lib.hid (by have h1 := HP5.out.cap k x HX.out; have h2 := okP_true.1 HXO.out; omega)
          have HSE := Lib.hid (sendK_any HK5.out k v b (by have := HK5.out.pipes.1; omega) hmr0 hmr2 HFC.out)
          obtain ⟨x0, x1, x2⟩ := HL5.out.cells
          clear hT1 hT2 hmi hmw
          by_cases hge : gone + more = much
          · have hgeb : (gone + more == much) = true := by simp [hge]
            have HGE := Lib.hid hge
            clear hge
            go_wp2_with (go_at_call 59; refine HSE.out.mono ?_; rintro e w6 ⟨rfl, hm6, hk6⟩; have HK6 := Lib.hid hk6; have HM6 := Lib.hid (HM5.out.trans hm6); clear hm6 hk6)
            go_ret
            exact ⟨gone + more, _, st2, nx2, rfl, HM6.out, HK6.out, HT1.out.out, HT2.out⟩
          · have hgeb : (gone + more == much) = false := by simp [hge]
            have hgl : gone + more < much := by omega
            clear hge
            go_wp2_with (go_at_call 59; refine HSE.out.mono ?_; rintro e w6 ⟨rfl, hm6, hk6⟩; have HK6 := Lib.hid hk6; have HM6 := Lib.hid (HM5.out.trans hm6); have a9 := hk6.cellW.2.2.2.2.2.2.2.2.2.1; have r5 := hk6.next.cell hat; rw [HT1.out.at_q] at r5; have f5 := hk6.next.frozen at_; clear hm6 hk6)
            go_roundg (gk - 1)
            case measure => omega
            case rel => exact ⟨gone + more, q + 1, _, st2, _, rfl, by omega, hgl, by omega, by omega, Lib.hid (SK.set HK6.out.ord.cn HK6.out.ord.dn HM6.out at_ _), Lib.hid (HK6.out.setNext at_ (m := q + 1) (by omega)), Lib.hid (HT1.out.on_ (by rw [HM.out]; exact hlt) HT2.out)⟩
        | false =>
          rw [hop] at HF
          have HSK := Lib.hid (HPW.out.skip HJ.out (fun hh => by rw [hop] at hh; exact absurd hh.1 (by simp)))
          clear hop
          go_region_held3 (fun W => W.cell? ⟨E.p, 8, none⟩ = some (.slice (some ⟨E.tb, 0, none⟩) E.N E.N) ∧ W.cell? ⟨E.tb, v, none⟩ = some (.int .i64 y) ∧ W.cell? ⟨E.tb, at_, none⟩ = some (.int .i64 z) ∧ W.cell? ⟨g, 0, none⟩ = some (.int .i64 (k : Int)) ∧ W.cell? ⟨g, 1, none⟩ = some (.int .i64 (v : Int)) ∧ W.cell? ⟨g, 2, none⟩ = some (.bool b))
            (first | assumption | exact HS2.out | exact HS3.out)
            (first | (go_at_call 57; refine HF.out.mono ?_; rintro e w3 ⟨rfl, hb3⟩; have HB3 := Lib.hid hb3; have HK3 := Lib.hid (HK2.out.drew.later hb3); have HL3 : Hid (LB w3 g k v b) := Lib.hid ((HL2.out.later (Below.refl _ _).drew).later hb3); have HM3 := Lib.hid (HM2.out.drew.trans (Mod.of_below (SK E) hb3)); have HS3 : Hid (StepsAt E at_ v g k b y z w3) := Lib.hid (stepsAt_of HK3.out HL3.out hvN hat HY.out HZ.out); clear hb3))
          have r5 := HK3.out.next.cell hat
          rw [HPW.out.at_q] at r5
          have f5 := HK3.out.next.frozen at_
          have a9 := HK3.out.cellW.2.2.2.2.2.2.2.2.2.1
          go_wp2_with fail
          go_roundg (gk - 1)
          case measure => omega
          case rel => exact ⟨gone, q + 1, fl1, st1, _, rfl, hg0, hg1, by omega, by omega, Lib.hid (SK.set HK3.out.ord.cn HK3.out.ord.dn HM3.out at_ _), Lib.hid (HK3.out.setNext at_ (m := q + 1) (by omega)), HSK⟩
      · have hyzb : (y == z - 1) = false := by simp [hyz]
        have HSK := Lib.hid (HPW.out.skip HJ.out (fun hh => hyz (by rw [HY.out, HZ.out] at hh; exact hh.2)))
        clear hyz
        have r5 := HK2.out.next.cell hat
        rw [HPW.out.at_q] at r5
        have f5 := HK2.out.next.frozen at_
        go_quiet (fail)
        go_wp2_with fail
        go_roundg (gk - 1)
        case measure => omega
        case rel => exact ⟨gone, q + 1, fl1, st1, _, rfl, hg0, hg1, by omega, by omega, Lib.hid (SK.set HK2.out.ord.cn HK2.out.ord.dn (HM2.out.drewN nq) at_ _), Lib.hid ((HK2.out.drewN nq).setNext at_ (m := q + 1) (by omega)), HSK⟩
    · go_wp2_with fail
      go_quiet (fail)
      go_wp2_with fail
      go_ret
      have hql : q = M := by omega
      exact ⟨gone, fl1, st1, nx1, rfl, HMW.out.drewN _, HKW.out.drewN _, HPW.out.out, HPW.out.end_ hat H00.out (by rw [HM.out]; omega)⟩
theorem pour_all (hn : NetK E.l E.N s t want E.L) (hnear : Near E.N h) (hco : co ≤ 64) : ∀ (n : Nat) (at_ : Nat), at_ < E.N → sp at_ < (n : Int) → PourC E h sp co cost at_
  | 0, at_, hat, hlt => by
    by_cases h0 : sp at_ = 0
    · exact pour_here hat h0
    · exact pour_on hn hnear hco hat h0 (fun v _ h1 h2 => by omega)
  | n + 1, at_, hat, hlt => by
    by_cases h0 : sp at_ = 0
    · exact pour_here hat h0
    · exact pour_on hn hnear hco hat h0 (fun v hv _ h2 => pour_all hn hnear hco n v hv (by omega))
end Go.Proofs.Ytbenmebmfihleaa

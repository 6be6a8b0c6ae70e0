/- So much is sent through a lane. -/
import Derived.Test.YtifhapmblofmkaaQue
import Derived.Deep.Cut
namespace Go.Proofs.Ytifhapmblofmkaa
open Go.RowKit

variable {w wr w2 w4 : World} {E : Env} {fl st st2 : Nat → Int} {hi nx hi2 nx2 : Nat → Nat} {mn mn2 : Nat → Int} {fv : Nat → Value} {Q : Nat → List Nat} {top m : Int} {N g c u v k : Nat} {a : La}
theorem fill_any (H : Wk E fl st hi nx mn fv Q top wr) (hn : E.Net) (hb : hi v < 2 * E.N) (hq : Que E st Q top u) (hv : v < E.N) (hvu : v ≠ u) (hz : st v = 0) (he : ∀ i, i ≠ u → i ≠ v → st2 i = st i) (hp : v ≠ E.s → 0 < st2 v) :
    Calls Try.prog 33 #[.pointer (some ⟨E.p, 0, none⟩), .int .i64 (v : Int)] wr fun e w' => e = .returned (.tuple #[]) ∧ Below E.C wr w' ∧
      ∃ fv2 Q2 top2, Wk E fl st hi nx mn fv2 Q2 top2 w' ∧ Que E st2 Q2 top2 u ∧ Aside E wr w' (fv (hi v)) := by
  by_cases h1 : v = E.s ∨ v = E.t
  · refine (fill_no H v h1).mono ?_
    rintro e w' ⟨rfl, hb2⟩
    have hC : E.C ≤ wr.heap.size := by have := H.size; have := H.ord.cp; have := H.ord.dp; omega
    exact ⟨rfl, hb2.mono hC, _, _, _, H.later hb2, hq.more he hp (by rcases h1 with h1 | h1 <;> simp [h1]), fun b _ hb3 _ => hb2.block b hb3⟩
  · refine (fill_yes H v hv hb hn.nm (fun e => h1 (.inl e)) (fun e => h1 (.inr e)) (Nat.le_trans (hq.len hb) hn.nm)).mono ?_
    rintro e w' ⟨rfl, hb2, ⟨fv2, hk⟩, ha⟩
    exact ⟨rfl, hb2, fv2, _, _, hk, hq.fill he (hp (fun e => h1 (.inl e))) hv hz (fun e => h1 (.inl e)) (fun e => h1 (.inr e)) hvu hb, ha⟩
theorem Wk.far (H : Wk E fl st hi nx mn fv Q top wr) {h : Nat} (hh : h < 2 * E.N) : (fv h).ownBlock ≠ some wr.heap.size := fun e => by
  have := (World.ownsRow.lt (H.rows h hh) _ e).2
  omega
/-- The lane's box. -/
def LBox (w : World) (g : Nat) (k v : Nat) (b : Bool) : Prop := w.heap[g]? = some (.cells #[.int .i64 (k : Int), .int .i64 (v : Int), .bool b] 63 (0, 0))
theorem LBox.cells {b : Bool} (h : LBox w g k v b) : w.cell? ⟨g, 0, none⟩ = some (.int .i64 (k : Int)) ∧ w.cell? ⟨g, 1, none⟩ = some (.int .i64 (v : Int)) ∧ w.cell? ⟨g, 2, none⟩ = some (.bool b) := by
  unfold LBox at h
  simp [World.cell?, h]
theorem LBox.set_ {b : Bool} (h : LBox w g k v b) {c i : Nat} (hc : g ≠ c) (u : Value) : LBox (w.setCell ⟨c, i, none⟩ u) g k v b := (heap_setCell_other _ _ _ _ hc).trans h
set_option maxHeartbeats 4000000 in
set_option maxRecDepth 100000 in
theorem send_any (H : Wk E fl (exc E fl) hi nx mn fv Q top wr) (hn : E.Net) (hc : Caps E fl) (hu : u < E.N) (b : Bool) (ha : (k, v, b) ∈ E.L u) (hb : hi v < 2 * E.N) (h0 : 0 < m) (hm : m ≤ lft E.l fl (k, v, b)) (hq : Que E (exc E fl) Q top u) (hv : v = E.s ∨ 0 ≤ exc E fl v) :
    Calls Try.prog 29 #[.pointer (some ⟨E.p, 0, none⟩), .int .i64 (u : Int), .agg #[.int .i64 (k : Int), .int .i64 (v : Int), .bool b], .int .i64 m] wr fun e w' => e = .returned (.tuple #[]) ∧ Below E.C wr w' ∧
      ∃ fv2 Q2 top2, Wk E (push fl (k, v, b) m) (exc E (push fl (k, v, b) m)) hi nx mn fv2 Q2 top2 w' ∧ Que E (exc E (push fl (k, v, b) m)) Q2 top2 u ∧ Aside E wr w' (fv (hi v)) := by
  obtain ⟨x, hx, huv, hvN, hk, _⟩ := lane_of hn.lanes hu ha
  simp only at hx huv hvN hk
  have hkl : k < E.len := by have := H.pipes.1; omega
  have hcx := hc k x hx
  have hpu := fun i => exc_push (fl := fl) (m := m) hn hu ha i
  simp only at hpu
  have heq : ∀ i, i ≠ u → i ≠ v → exc E (push fl (k, v, b) m) i = exc E fl i := fun i h1 h2 => by rw [hpu, if_neg h1, if_neg h2]; omega
  have hpv : exc E (push fl (k, v, b) m) v = exc E fl v + m := by rw [hpu, if_pos rfl, if_neg (fun e => huv e.symm)]; omega
  have hpuu : exc E (push fl (k, v, b) m) u = exc E fl u - m := by rw [hpu, if_pos rfl, if_neg huv]; omega
  have hp0 : v ≠ E.s → 0 < exc E (push fl (k, v, b) m) v := fun h1 => by
    rw [hpv]
    rcases hv with hv | hv
    · exact absurd hv h1
    · omega
  have hbu := exc_bound hc hn.lm u
  have hbv := exc_bound hc hn.lm v
  have hmb : m ≤ 1099511627776 := by
    have : lft E.l fl (k, v, b) ≤ 1099511627776 := by
      simp only [lft, room_of hx]
      split <;> omega
    omega
  have HST : Hid (∀ i, i < E.N → (fun j => if j = v then exc E fl v + m else (fun j => if j = u then exc E fl u - m else exc E fl j) j) i = exc E (push fl (k, v, b) m) i) := Lib.hid (fun i _ => by
    by_cases e1 : i = v
    · subst e1; simp only [if_true]; exact hpv.symm
    · by_cases e2 : i = u
      · subst e2; simp only [e1, if_true, if_false]; exact hpuu.symm
      · simp only [e1, e2, if_false]; exact (heq i e2 e1).symm)
  obtain ⟨pu, hpu2⟩ : ∃ z, exc E fl u = z := ⟨_, rfl⟩
  obtain ⟨pv, hpv2⟩ : ∃ z, exc E fl v = z := ⟨_, rfl⟩
  obtain ⟨fk, hfk⟩ : ∃ z, fl k = z := ⟨_, rfl⟩
  have e1 : IntKind.i64.wrap (pu - m) = pu - m := by rw [IntKind.wrap_i64]; omega
  have e2 : IntKind.i64.wrap (pv + m) = pv + m := by rw [IntKind.wrap_i64]; omega
  have e3 : IntKind.i64.wrap (fk + m) = fk + m := by rw [IntKind.wrap_i64]; omega
  have e4 : IntKind.i64.wrap (fk + -m) = fk + -m := by rw [IntKind.wrap_i64]; omega
  have e5 : IntKind.i64.wrap (-m) = -m := by rw [IntKind.wrap_i64]; omega
  have HQM : Hid (¬ pv = 0 → Que E (exc E (push fl (k, v, b) m)) Q top u) := Lib.hid (fun hz => hq.more heq hp0 (by
    rcases hv with hv | hv
    · exact .inl hv
    · exact .inr (.inr (by omega))))
  have HB1 := Lib.hid ((Below.refl wr.heap.size wr).alloc (Nat.le_refl _) (.cells #[.int .i64 (k : Int), .int .i64 (v : Int), .bool b] 63))
  have HS : Hid (E.C ≤ wr.heap.size ∧ E.D ≤ wr.heap.size) := Lib.hid (by have := H.size; have := H.ord.cp; have := H.ord.dp; omega)
  have HBC := Lib.hid ((Below.refl E.C wr).alloc HS.out.1 (.cells #[.int .i64 (k : Int), .int .i64 (v : Int), .bool b] 63))
  have HL1 : Hid (LBox (wr.alloc (.cells #[.int .i64 (k : Int), .int .i64 (v : Int), .bool b] 63)) wr.heap.size k v b) := Lib.hid (heap_alloc_new _ _)
  have H1 := Lib.hid (H.later HB1.out)
  have x6 := H1.out.cellW.2.2.2.2.2.2.1
  have xv := H1.out.stays.cell hvN
  rw [hpv2] at xv
  have HFAR := Lib.hid (H.far hb)
  have HUV := Lib.hid huv
  have HN := Lib.hid hn
  have HPU := Lib.hid hpu2
  have HPV := Lib.hid hpv2
  have HFK := Lib.hid hfk
  have HQ := Lib.hid hq
  have HEQ := Lib.hid heq
  have HP0 := Lib.hid hp0
  obtain ⟨g, hg⟩ : ∃ g, wr.heap.size = g := ⟨_, rfl⟩
  have HG := Lib.hid hg
  rw [hg] at HL1 HFAR
  clear hx hcx hpu heq hpv hpuu hp0 hpu2 hpv2 hfk hq hv hn hc ha huv hg hm
  cases b with
  | true =>
    by_cases hz : pv = 0
    · have hzb : (pv == 0) = true := by simp [hz]
      have HZ : Hid (exc E fl v = 0) := Lib.hid (HPV.out.trans hz)
      clear hz HQM
      go_enter Try.func29, Try.ntmps29
      obtain ⟨l0, l1, l2⟩ := HL1.out.cells
      go_wp2_with fail
      rw [HG.out]
      go_quiet (fail)
      go_upto_region 3 with (go_at_call 33; refine (fill_any (H1.out.later (below_drewN (Below.refl _ _) nq)) HN.out hb HQ.out hvN (fun e => HUV.out e.symm) HZ.out HEQ.out HP0.out).mono ?_; rintro e w2 ⟨rfl, hb2, fv2, Q2, top2, hk2, hq2, has2⟩; have HK2 := Lib.hid hk2; have HQ2 := Lib.hid hq2; have HBB := Lib.hid ((below_drewN HBC.out nq).trans hb2); have HL2 : Hid (LBox w2 g k v true) := Lib.hid ((has2 g (by have := HS.out; have := HG.out; omega) (by have := HG.out; show g < (wr.heap.push _).size; simp; omega) HFAR.out).trans HL1.out); have HAS : Hid (Aside E wr w2 (fv (hi v))) := Lib.hid (fun b h1 h2 h3 => (has2 b h1 (by show b < (wr.heap.push _).size; simp; omega) h3).trans (RowKit.Below.heap_alloc wr _ b h2)); clear hb2 hk2 hq2 has2; clear l0 l1 l2)
      have HB3 := Lib.hid (HK2.out.setStays u (pu - m))
      have y6 := HK2.out.cellW.2.2.2.2.2.2.1
      have yu := HK2.out.stays.cell hu
      rw [HPU.out] at yu
      have yf := HK2.out.stays.frozen u
      have z6 := HB3.out.cellW.2.2.2.2.2.2.1
      have zv := HB3.out.stays.cell hvN
      rw [if_neg (fun e => HUV.out e.symm), HPV.out] at zv
      have zf := HB3.out.stays.frozen v
      have HC3 := Lib.hid (HB3.out.setStays v (pv + m))
      have HL3 := Lib.hid (HL2.out.set_ (i := u) (show g ≠ E.sb from by have := HK2.out.ord.ds; have := HS.out; have := HG.out; omega) (.int .i64 (pu - m)))
      obtain ⟨l0, l1, l2⟩ := HL3.out.cells
      have HL4 := Lib.hid (HL3.out.set_ (i := v) (show g ≠ E.sb from by have := HK2.out.ord.ds; have := HS.out; have := HG.out; omega) (.int .i64 (pv + m)))
      obtain ⟨m0, m1, m2⟩ := HL4.out.cells
      have v5 := HC3.out.cellW.2.2.2.2.2.1
      have vk := HC3.out.flow.cell hkl
      rw [HFK.out] at vk
      have vf := HC3.out.flow.frozen k
      have HD3 := Lib.hid (HC3.out.setFlow k (fk + -m))
      have HBD := Lib.hid (((HBB.out.setCell (p := ⟨E.sb, u, none⟩) HK2.out.ord.cs (.int .i64 (pu - m))).setCell (p := ⟨E.sb, v, none⟩) HK2.out.ord.cs (.int .i64 (pv + m))).setCell (p := ⟨E.fb, k, none⟩) HK2.out.ord.cf (.int .i64 (fk + -m)))
      go_wp2_with fail
      go_region
      go_wp2_with fail
      go_region
      go_wp2_with fail
      go_end0
      refine ⟨rfl, HBD.out.drew.drew, fv2, Q2, top2, ?_, HQ2.out, fun b h1 h2 h3 => (((heap_setCell_other _ _ _ _ (fun e => by have h4 : b = E.fb := e; have := HK2.out.ord.df; omega)).trans (heap_setCell_other _ _ _ _ (fun e => by have h4 : b = E.sb := e; have := HK2.out.ord.ds; omega))).trans (heap_setCell_other _ _ _ _ (fun e => by have h4 : b = E.sb := e; have := HK2.out.ord.ds; omega))).trans (HAS.out b h1 h2 h3)⟩
      refine ((HD3.out.drew.drew.congrStays (fun i hi2 => by have := HST.out i hi2; simp only [HPU.out, HPV.out] at this; exact this)).congrFlow (fun i _ => ?_))
      unfold push
      by_cases e : i = k
      · subst e; simp [HFK.out]
      · simp [e]
    · have hzb : (pv == 0) = false := by simp [hz]
      have HQ2 := Lib.hid (HQM.out hz)
      clear hz HQM
      go_enter Try.func29, Try.ntmps29
      obtain ⟨l0, l1, l2⟩ := HL1.out.cells
      go_wp2_with fail
      rw [HG.out]
      go_quiet (fail)
      obtain ⟨w2, hw2⟩ : ∃ w2, w2 = ((wr.alloc (.cells #[.int .i64 (k : Int), .int .i64 (v : Int), .bool true] 63)).drewN nq) := ⟨_, rfl⟩
      have HK2 : Hid (Wk E fl (exc E fl) hi nx mn fv Q top w2) := Lib.hid (by rw [hw2]; exact H1.out.later (below_drewN (Below.refl _ _) nq))
      have HBB : Hid (Below E.C wr w2) := Lib.hid (by rw [hw2]; exact below_drewN HBC.out nq)
      have HL2 : Hid (LBox w2 g k v true) := Lib.hid (by rw [hw2]; exact HL1.out)
      have HAS : Hid (Aside E wr w2 (fv (hi v))) := Lib.hid (fun b _ h2 _ => by rw [hw2]; exact RowKit.Below.heap_alloc wr _ b h2)
      obtain ⟨fv2, hfv⟩ : ∃ z, z = fv := ⟨_, rfl⟩
      obtain ⟨Q2, hQ2⟩ : ∃ z, z = Q := ⟨_, rfl⟩
      obtain ⟨top2, htop2⟩ : ∃ z, z = top := ⟨_, rfl⟩
      rw [← hfv, ← hQ2, ← htop2] at HK2
      rw [← hQ2, ← htop2] at HQ2
      rw [← hw2]
      clear hw2 hfv hQ2 htop2 x6 xv
      have HB3 := Lib.hid (HK2.out.setStays u (pu - m))
      have y6 := HK2.out.cellW.2.2.2.2.2.2.1
      have yu := HK2.out.stays.cell hu
      rw [HPU.out] at yu
      have yf := HK2.out.stays.frozen u
      have z6 := HB3.out.cellW.2.2.2.2.2.2.1
      have zv := HB3.out.stays.cell hvN
      rw [if_neg (fun e => HUV.out e.symm), HPV.out] at zv
      have zf := HB3.out.stays.frozen v
      have HC3 := Lib.hid (HB3.out.setStays v (pv + m))
      have HL3 := Lib.hid (HL2.out.set_ (i := u) (show g ≠ E.sb from by have := HK2.out.ord.ds; have := HS.out; have := HG.out; omega) (.int .i64 (pu - m)))
      obtain ⟨l0, l1, l2⟩ := HL3.out.cells
      have HL4 := Lib.hid (HL3.out.set_ (i := v) (show g ≠ E.sb from by have := HK2.out.ord.ds; have := HS.out; have := HG.out; omega) (.int .i64 (pv + m)))
      obtain ⟨m0, m1, m2⟩ := HL4.out.cells
      have v5 := HC3.out.cellW.2.2.2.2.2.1
      have vk := HC3.out.flow.cell hkl
      rw [HFK.out] at vk
      have vf := HC3.out.flow.frozen k
      have HD3 := Lib.hid (HC3.out.setFlow k (fk + -m))
      have HBD := Lib.hid (((HBB.out.setCell (p := ⟨E.sb, u, none⟩) HK2.out.ord.cs (.int .i64 (pu - m))).setCell (p := ⟨E.sb, v, none⟩) HK2.out.ord.cs (.int .i64 (pv + m))).setCell (p := ⟨E.fb, k, none⟩) HK2.out.ord.cf (.int .i64 (fk + -m)))
      go_wp2_with fail
      go_region
      go_wp2_with fail
      go_region
      go_wp2_with fail
      go_end0
      refine ⟨rfl, HBD.out.drew.drew, fv2, Q2, top2, ?_, HQ2.out, fun b h1 h2 h3 => (((heap_setCell_other _ _ _ _ (fun e => by have h4 : b = E.fb := e; have := HK2.out.ord.df; omega)).trans (heap_setCell_other _ _ _ _ (fun e => by have h4 : b = E.sb := e; have := HK2.out.ord.ds; omega))).trans (heap_setCell_other _ _ _ _ (fun e => by have h4 : b = E.sb := e; have := HK2.out.ord.ds; omega))).trans (HAS.out b h1 h2 h3)⟩
      refine ((HD3.out.drew.drew.congrStays (fun i hi2 => by have := HST.out i hi2; simp only [HPU.out, HPV.out] at this; exact this)).congrFlow (fun i _ => ?_))
      unfold push
      by_cases e : i = k
      · subst e; simp [HFK.out]
      · simp [e]
  | false =>
    by_cases hz : pv = 0
    · have hzb : (pv == 0) = true := by simp [hz]
      have HZ : Hid (exc E fl v = 0) := Lib.hid (HPV.out.trans hz)
      clear hz HQM
      go_enter Try.func29, Try.ntmps29
      obtain ⟨l0, l1, l2⟩ := HL1.out.cells
      go_wp2_with fail
      rw [HG.out]
      go_quiet (fail)
      go_upto_region 3 with (go_at_call 33; refine (fill_any (H1.out.later (below_drewN (Below.refl _ _) nq)) HN.out hb HQ.out hvN (fun e => HUV.out e.symm) HZ.out HEQ.out HP0.out).mono ?_; rintro e w2 ⟨rfl, hb2, fv2, Q2, top2, hk2, hq2, has2⟩; have HK2 := Lib.hid hk2; have HQ2 := Lib.hid hq2; have HBB := Lib.hid ((below_drewN HBC.out nq).trans hb2); have HL2 : Hid (LBox w2 g k v false) := Lib.hid ((has2 g (by have := HS.out; have := HG.out; omega) (by have := HG.out; show g < (wr.heap.push _).size; simp; omega) HFAR.out).trans HL1.out); have HAS : Hid (Aside E wr w2 (fv (hi v))) := Lib.hid (fun b h1 h2 h3 => (has2 b h1 (by show b < (wr.heap.push _).size; simp; omega) h3).trans (RowKit.Below.heap_alloc wr _ b h2)); clear hb2 hk2 hq2 has2; clear l0 l1 l2)
      have HB3 := Lib.hid (HK2.out.setStays u (pu - m))
      have y6 := HK2.out.cellW.2.2.2.2.2.2.1
      have yu := HK2.out.stays.cell hu
      rw [HPU.out] at yu
      have yf := HK2.out.stays.frozen u
      have z6 := HB3.out.cellW.2.2.2.2.2.2.1
      have zv := HB3.out.stays.cell hvN
      rw [if_neg (fun e => HUV.out e.symm), HPV.out] at zv
      have zf := HB3.out.stays.frozen v
      have HC3 := Lib.hid (HB3.out.setStays v (pv + m))
      have HL3 := Lib.hid (HL2.out.set_ (i := u) (show g ≠ E.sb from by have := HK2.out.ord.ds; have := HS.out; have := HG.out; omega) (.int .i64 (pu - m)))
      obtain ⟨l0, l1, l2⟩ := HL3.out.cells
      have HL4 := Lib.hid (HL3.out.set_ (i := v) (show g ≠ E.sb from by have := HK2.out.ord.ds; have := HS.out; have := HG.out; omega) (.int .i64 (pv + m)))
      obtain ⟨m0, m1, m2⟩ := HL4.out.cells
      have v5 := HC3.out.cellW.2.2.2.2.2.1
      have vk := HC3.out.flow.cell hkl
      rw [HFK.out] at vk
      have vf := HC3.out.flow.frozen k
      have HD3 := Lib.hid (HC3.out.setFlow k (fk + m))
      have HBD := Lib.hid (((HBB.out.setCell (p := ⟨E.sb, u, none⟩) HK2.out.ord.cs (.int .i64 (pu - m))).setCell (p := ⟨E.sb, v, none⟩) HK2.out.ord.cs (.int .i64 (pv + m))).setCell (p := ⟨E.fb, k, none⟩) HK2.out.ord.cf (.int .i64 (fk + m)))
      go_wp2_with fail
      go_region
      go_wp2_with fail
      go_region
      go_wp2_with fail
      go_end0
      refine ⟨rfl, HBD.out.drew.drew, fv2, Q2, top2, ?_, HQ2.out, fun b h1 h2 h3 => (((heap_setCell_other _ _ _ _ (fun e => by have h4 : b = E.fb := e; have := HK2.out.ord.df; omega)).trans (heap_setCell_other _ _ _ _ (fun e => by have h4 : b = E.sb := e; have := HK2.out.ord.ds; omega))).trans (heap_setCell_other _ _ _ _ (fun e => by have h4 : b = E.sb := e; have := HK2.out.ord.ds; omega))).trans (HAS.out b h1 h2 h3)⟩
      refine ((HD3.out.drew.drew.congrStays (fun i hi2 => by have := HST.out i hi2; simp only [HPU.out, HPV.out] at this; exact this)).congrFlow (fun i _ => ?_))
      unfold push
      by_cases e : i = k
      · subst e; simp [HFK.out]
      · simp [e]
    · have hzb : (pv == 0) = false := by simp [hz]
      have HQ2 := Lib.hid (HQM.out hz)
      clear hz HQM
      go_enter Try.func29, Try.ntmps29
      obtain ⟨l0, l1, l2⟩ := HL1.out.cells
      go_wp2_with fail
      rw [HG.out]
      go_quiet (fail)
      obtain ⟨w2, hw2⟩ : ∃ w2, w2 = ((wr.alloc (.cells #[.int .i64 (k : Int), .int .i64 (v : Int), .bool false] 63)).drewN nq) := ⟨_, rfl⟩
      have HK2 : Hid (Wk E fl (exc E fl) hi nx mn fv Q top w2) := Lib.hid (by rw [hw2]; exact H1.out.later (below_drewN (Below.refl _ _) nq))
      have HBB : Hid (Below E.C wr w2) := Lib.hid (by rw [hw2]; exact below_drewN HBC.out nq)
      have HL2 : Hid (LBox w2 g k v false) := Lib.hid (by rw [hw2]; exact HL1.out)
      have HAS : Hid (Aside E wr w2 (fv (hi v))) := Lib.hid (fun b _ h2 _ => by rw [hw2]; exact RowKit.Below.heap_alloc wr _ b h2)
      obtain ⟨fv2, hfv⟩ : ∃ z, z = fv := ⟨_, rfl⟩
      obtain ⟨Q2, hQ2⟩ : ∃ z, z = Q := ⟨_, rfl⟩
      obtain ⟨top2, htop2⟩ : ∃ z, z = top := ⟨_, rfl⟩
      rw [← hfv, ← hQ2, ← htop2] at HK2
      rw [← hQ2, ← htop2] at HQ2
      rw [← hw2]
      clear hw2 hfv hQ2 htop2 x6 xv
      have HB3 := Lib.hid (HK2.out.setStays u (pu - m))
      have y6 := HK2.out.cellW.2.2.2.2.2.2.1
      have yu := HK2.out.stays.cell hu
      rw [HPU.out] at yu
      have yf := HK2.out.stays.frozen u
      have z6 := HB3.out.cellW.2.2.2.2.2.2.1
      have zv := HB3.out.stays.cell hvN
      rw [if_neg (fun e => HUV.out e.symm), HPV.out] at zv
      have zf := HB3.out.stays.frozen v
      have HC3 := Lib.hid (HB3.out.setStays v (pv + m))
      have HL3 := Lib.hid (HL2.out.set_ (i := u) (show g ≠ E.sb from by have := HK2.out.ord.ds; have := HS.out; have := HG.out; omega) (.int .i64 (pu - m)))
      obtain ⟨l0, l1, l2⟩ := HL3.out.cells
      have HL4 := Lib.hid (HL3.out.set_ (i := v) (show g ≠ E.sb from by have := HK2.out.ord.ds; have := HS.out; have := HG.out; omega) (.int .i64 (pv + m)))
      obtain ⟨m0, m1, m2⟩ := HL4.out.cells
      have v5 := HC3.out.cellW.2.2.2.2.2.1
      have vk := HC3.out.flow.cell hkl
      rw [HFK.out] at vk
      have vf := HC3.out.flow.frozen k
      have HD3 := Lib.hid (HC3.out.setFlow k (fk + m))
      have HBD := Lib.hid (((HBB.out.setCell (p := ⟨E.sb, u, none⟩) HK2.out.ord.cs (.int .i64 (pu - m))).setCell (p := ⟨E.sb, v, none⟩) HK2.out.ord.cs (.int .i64 (pv + m))).setCell (p := ⟨E.fb, k, none⟩) HK2.out.ord.cf (.int .i64 (fk + m)))
      go_wp2_with fail
      go_region
      go_wp2_with fail
      go_region
      go_wp2_with fail
      go_end0
      refine ⟨rfl, HBD.out.drew.drew, fv2, Q2, top2, ?_, HQ2.out, fun b h1 h2 h3 => (((heap_setCell_other _ _ _ _ (fun e => by have h4 : b = E.fb := e; have := HK2.out.ord.df; omega)).trans (heap_setCell_other _ _ _ _ (fun e => by have h4 : b = E.sb := e; have := HK2.out.ord.ds; omega))).trans (heap_setCell_other _ _ _ _ (fun e => by have h4 : b = E.sb := e; have := HK2.out.ord.ds; omega))).trans (HAS.out b h1 h2 h3)⟩
      refine ((HD3.out.drew.drew.congrStays (fun i hi2 => by have := HST.out i hi2; simp only [HPU.out, HPV.out] at this; exact this)).congrFlow (fun i _ => ?_))
      unfold push
      by_cases e : i = k
      · subst e; simp [HFK.out]
      · simp [e]
end Go.Proofs.Ytifhapmblofmkaa

/- The law's own word on an instance's error. -/
import Derived.Test.YtoafmbjdchkahaaIPick
import Derived.Deep.CutRange
namespace Go.Proofs.Ytoafmbjdchkahaa
open Go.RowKit

variable {w wr w2 : World} {A : InA} {x : Ins} {i k g gp n : Nat} {b b2 : Bool}
theorem getD_of {α : Type} {l : List α} {d y : α} (h : l[i]? = some y) : l.getD i d = y := by simp [List.getD, h]
/-- The closure's own mark. -/
structure CW (w wr : World) (A : InA) (x : Ins) (gp : Nat) (b : Bool) : Prop where
  box : XBox w wr w.heap.size A x
  ins : IsIns w.heap.size wr A x
  good : wr.heap[gp]? = some (.cells #[.bool b] 4 (0, 0))
  lt : w.heap.size < gp
theorem CW.later (h : CW w wr A x gp b) (hb : Below wr.heap.size wr w2) : CW w w2 A x gp b := ⟨h.box.later hb, h.ins.later (hb.mono h.box.below.size), (hb.block _ (Array.getElem?_eq_some_iff.1 h.good).1).trans h.good, h.lt⟩
theorem CW.set (h : CW w wr A x gp b) (b2 : Bool) : CW w (wr.setCell ⟨gp, 0, none⟩ (.bool b2)) A x gp b2 := by
  have hl := h.lt
  have hB : Below w.heap.size wr (wr.setCell ⟨gp, 0, none⟩ (.bool b2)) := (Below.refl _ _).setCell (p := ⟨gp, 0, none⟩) (Nat.le_of_lt hl) _
  exact ⟨⟨h.box.below.trans hB, h.box.ge, (heap_setCell_other _ _ _ _ (fun e => by have e2 : w.heap.size = gp := e; omega)).trans h.box.blk⟩, h.ins.later hB, heap_setCell_same wr gp 0 _ _ _ h.good, hl⟩
theorem CW.cell (h : CW w wr A x gp b) : wr.cell? ⟨gp, 0, none⟩ = some (.bool b) ∧ wr.frozen? ⟨gp, 0, none⟩ = false := by simp [World.cell?, World.frozen?, h.good]
theorem code1_any (v low : Int) (g : Nat) (b : Bool) (w : World) (h : w.cell? ⟨g, 0, none⟩ = some (.bool b)) (hf : w.frozen? ⟨g, 0, none⟩ = false) :
    Calls Try.prog 38 #[.int .i64 v, .int .i64 low, .pointer (some ⟨g, 0, none⟩)] w fun e w' => e = .returned (.tuple #[]) ∧ w' = w.setCell ⟨g, 0, none⟩ (.bool (b && inB_ v low)) := by
  cases b with
  | false =>
    rw [show (false && inB_ v low) = false from rfl]
    go_enter Try.func38, Try.ntmps38
    go_wp2_with fail
    go_end0
    exact ⟨rfl, rfl⟩
  | true =>
    by_cases h1 : low ≤ v
    · have d1 : decide (low ≤ v) = true := by simpa using h1
      by_cases h2 : v ≤ 1000000000
      · have d2 : decide (v ≤ 1000000000) = true := by simpa using h2
        rw [show (true && inB_ v low) = true by simp [inB_, d1, d2]]
        go_enter Try.func38, Try.ntmps38
        go_wp2_with fail
        go_end0
        exact ⟨rfl, rfl⟩
      · have d2 : decide (v ≤ 1000000000) = false := by simpa using h2
        rw [show (true && inB_ v low) = false by simp [inB_, d2]]
        go_enter Try.func38, Try.ntmps38
        go_wp2_with fail
        go_end0
        exact ⟨rfl, rfl⟩
    · have d1 : decide (low ≤ v) = false := by simpa using h1
      rw [show (true && inB_ v low) = false by simp [inB_, d1]]
      go_enter Try.func38, Try.ntmps38
      go_wp2_with fail
      go_end0
      exact ⟨rfl, rfl⟩
/-- And the two lists in a row behind it. -/
structure CT (w wr : World) (A : InA) (x : Ins) (gp g : Nat) (b : Bool) : Prop where
  cw : CW w wr A x gp b
  two : wr.heap[g]? = some (.cells #[.slice A.ka x.cost.length A.kc, .slice A.ta x.time.length A.tc] 27 (0, 0))
  lt : gp < g
theorem CT.later (h : CT w wr A x gp g b) (hb : Below wr.heap.size wr w2) : CT w w2 A x gp g b := ⟨h.cw.later hb, (hb.block _ (Array.getElem?_eq_some_iff.1 h.two).1).trans h.two, h.lt⟩
theorem CT.set (h : CT w wr A x gp g b) (b2 : Bool) : CT w (wr.setCell ⟨gp, 0, none⟩ (.bool b2)) A x gp g b2 := by
  have hl := h.lt
  exact ⟨h.cw.set b2, (heap_setCell_other _ _ _ _ (fun e => by have e2 : g = gp := e; omega)).trans h.two, hl⟩
theorem CT.at_ (h : CT w wr A x gp g b) (hi : i < 2) : wr.cell? ⟨g, i, none⟩ = some (.slice (A.pick i) (x.pick i).length (A.cap i)) :=
  TwoL.at_ (w := w) ⟨h.cw.box.below, h.two⟩ hi
theorem CT.rows (h : CT w wr A x gp g b) (i : Nat) : IsRows w.heap.size wr (A.pick i) (x.pick i).length (x.pick i) := h.cw.ins.rows i
theorem sq_step (n : Nat) (L : List (List Int)) (s : Bool) : ((s && decide (L.length = n)) && allR L.length (fun j => lenB n (L.getD j []))) = (s && sqB n L) := by simp [sqB, Bool.and_assoc]
theorem el_step {a i0 D g2 g3 b1 B2 : Bool} (h1 : g3 = (g2 && a)) (h2 : (g3 && i0) = b1) (h3 : (b1 && D) = B2) : B2 = (g2 && (a && (i0 && D))) := by
  subst h1 h2 h3
  simp [Bool.and_assoc]
theorem cells2 {gb : Nat} {y1 y2 : Value} {T : TypeId} (h : w.heap[gb]? = some (.cells #[y1, y2] T (0, 0))) : w.cell? ⟨gb, 0, none⟩ = some y1 ∧ w.cell? ⟨gb, 1, none⟩ = some y2 ∧ True ∧ True := by simp [World.cell?, h]
theorem cells4 {gb : Nat} {y1 y2 y3 y4 : Value} {T : TypeId} (h : w.heap[gb]? = some (.cells #[y1, y2, y3, y4] T (0, 0))) : w.cell? ⟨gb, 0, none⟩ = some y1 ∧ w.cell? ⟨gb, 1, none⟩ = some y2 ∧ w.cell? ⟨gb, 2, none⟩ = some y3 ∧ w.cell? ⟨gb, 3, none⟩ = some y4 := by simp [World.cell?, h]
theorem light_short (h : x.light = true) (_hi : i < 2) : ∀ r ∈ x.pick i, r.length ≤ 80 := fun r hr => by
  simp only [Ins.light, Bool.and_eq_true, List.all_eq_true, decide_eq_true_eq] at h
  obtain ⟨⟨_, h5⟩, h6⟩ := h
  unfold Ins.pick at hr
  split at hr
  · exact h5 r hr
  · exact h6 r hr
theorem count_no (x : Ins) (h : x.tm < 1 ∨ 60 < x.tm ∨ x.bm < 1 ∨ 60 < x.bm ∨ x.sats.length < 1 ∨ 12 < x.sats.length ∨ x.cus.length < 1 ∨ 48 < x.cus.length) : x.count = false := by
  apply Bool.eq_false_iff.2
  intro hl
  simp only [Ins.count, Bool.and_eq_true, decide_eq_true_eq] at hl
  omega
theorem count_yes (x : Ins) (h1 : 1 ≤ x.tm ∧ x.tm ≤ 60) (h2 : 1 ≤ x.bm ∧ x.bm ≤ 60) (h3 : 1 ≤ x.sats.length ∧ x.sats.length ≤ 12) (h4 : 1 ≤ x.cus.length ∧ x.cus.length ≤ 48) : x.count = true := by simp [Ins.count, h1, h2, h3, h4]
theorem instErr_count (x : Ins) (h : x.count = false) : instErr x = 9 := by simp [instErr, h]
set_option maxHeartbeats 8000000 in
set_option maxRecDepth 100000 in
theorem code_any (A : InA) (x : Ins) (w : World) (hi : IsIns w.heap.size w A x) (hl : x.light = true) :
    Calls Try.prog 15 #[.agg (insC A x)] w fun e w' => e = .returned (.int .i64 (instErr x)) ∧ Below w.heap.size w w' := by
  have HG := Lib.hid (XBox.make (Below.refl _ w) A x)
  obtain ⟨_, c1, _, c3, _, c5, c6, _⟩ := HG.out.cells
  have hll : x.sats.length ≤ 40 ∧ x.cus.length ≤ 60 ∧ x.cost.length ≤ 70 ∧ x.time.length ≤ 70 := by
    simp only [Ins.light, Bool.and_eq_true, decide_eq_true_eq] at hl
    omega
  obtain ⟨l1, l2, l3, l4⟩ := hll
  have HI := Lib.hid hi
  have HLI := Lib.hid hl
  clear hi hl
  unfold insC at *
  have hW0 : ∃ W0, w.alloc (.cells #[.int .i64 x.en, .int .i64 x.tm, .int .i64 x.tr, .int .i64 x.bm, .int .i64 x.br, .slice A.sa x.sats.length A.sc, .slice A.ca x.cus.length A.cc, .slice A.ka x.cost.length A.kc, .slice A.ta x.time.length A.tc] 29) = W0 := ⟨_, rfl⟩
  go_enter Try.func15, Try.ntmps15
  go_upto_region 2 with fail
  obtain ⟨W0, hW0⟩ := hW0
  rw [hW0] at HG c1 c3 c5 c6 ⊢
  clear hW0
  go_cut [70] from 25 to 70 (fun bv wx => bv = .bool (!x.count) ∧ wx = W0)
  case first =>
    by_cases h0 : x.tm < 1
    · have d0 : decide (x.tm < 1) = true := by simp; omega
      have HX := Lib.hid (count_no x (.inl h0))
      go_wp2_with fail
      go_meet
      exact ⟨by rw [HX.out]; rfl, rfl⟩
    have d0 : decide (x.tm < 1) = false := by simp; omega
    by_cases h1 : 60 < x.tm
    · have d1 : decide (60 < x.tm) = true := by simp; omega
      have HX := Lib.hid (count_no x (.inr (.inl h1)))
      go_wp2_with fail
      go_meet
      exact ⟨by rw [HX.out]; rfl, rfl⟩
    have d1 : decide (60 < x.tm) = false := by simp; omega
    by_cases h2 : x.bm < 1
    · have d2 : decide (x.bm < 1) = true := by simp; omega
      have HX := Lib.hid (count_no x (.inr (.inr (.inl h2))))
      go_wp2_with fail
      go_meet
      exact ⟨by rw [HX.out]; rfl, rfl⟩
    have d2 : decide (x.bm < 1) = false := by simp; omega
    by_cases h3 : 60 < x.bm
    · have d3 : decide (60 < x.bm) = true := by simp; omega
      have HX := Lib.hid (count_no x (.inr (.inr (.inr (.inl h3)))))
      go_wp2_with fail
      go_meet
      exact ⟨by rw [HX.out]; rfl, rfl⟩
    have d3 : decide (60 < x.bm) = false := by simp; omega
    by_cases h4 : x.sats.length < 1
    · have d4 : decide ((x.sats.length : Int) < 1) = true := by simp; omega
      have HX := Lib.hid (count_no x (.inr (.inr (.inr (.inr (.inl h4))))))
      go_wp2_with fail
      go_meet
      exact ⟨by rw [HX.out]; rfl, rfl⟩
    have d4 : decide ((x.sats.length : Int) < 1) = false := by simp; omega
    by_cases h5 : 12 < x.sats.length
    · have d5 : decide ((12 : Int) < (x.sats.length : Int)) = true := by simp; omega
      have HX := Lib.hid (count_no x (.inr (.inr (.inr (.inr (.inr (.inl h5)))))))
      go_wp2_with fail
      go_meet
      exact ⟨by rw [HX.out]; rfl, rfl⟩
    have d5 : decide ((12 : Int) < (x.sats.length : Int)) = false := by simp; omega
    by_cases h6 : x.cus.length < 1
    · have d6 : decide ((x.cus.length : Int) < 1) = true := by simp; omega
      have HX := Lib.hid (count_no x (.inr (.inr (.inr (.inr (.inr (.inr (.inl h6))))))))
      go_wp2_with fail
      go_meet
      exact ⟨by rw [HX.out]; rfl, rfl⟩
    have d6 : decide ((x.cus.length : Int) < 1) = false := by simp; omega
    by_cases h7 : 48 < x.cus.length
    · have d7 : decide ((48 : Int) < (x.cus.length : Int)) = true := by simp; omega
      have HX := Lib.hid (count_no x (.inr (.inr (.inr (.inr (.inr (.inr (.inr (h7)))))))))
      go_wp2_with fail
      go_meet
      exact ⟨by rw [HX.out]; rfl, rfl⟩
    have d7 : decide ((48 : Int) < (x.cus.length : Int)) = false := by simp; omega
    have HX := Lib.hid (count_yes x (by omega) (by omega) (by omega) (by omega))
    go_wp2_with fail
    go_meet
    exact ⟨by rw [HX.out]; rfl, rfl⟩
  case rest =>
    obtain ⟨rfl, rfl⟩ := hcut
    clear c1 c3
    cases hcn : x.count with
    | false =>
      have HX := Lib.hid (instErr_count x hcn)
      clear hcn
      go_wp2_with fail
      go_ret
      exact ⟨by rw [HX.out]; rfl, HG.out.below⟩
    | true =>
      have HCN := Lib.hid hcn
      clear hcn
      rw [show (!true) = false from rfl]
      have HBA := Lib.hid ((Below.refl wc.heap.size wc).alloc (Nat.le_refl _) (.cells #[.bool true] 4))
      have HWA : Hid (CW w (wc.alloc (.cells #[.bool true] 4)) A x wc.heap.size true) := Lib.hid ⟨HG.out.later HBA.out, HI.out.later (HG.out.later HBA.out).below, heap_alloc_new _ _, HG.out.lt⟩
      obtain ⟨_, _, _, _, _, _, _, c7, c8⟩ := HWA.out.box.cells
      have hsz : (wc.alloc (.cells #[.bool true] 4)).heap.size = wc.heap.size + 1 := by simp
      have HC0 : Hid (CT w ((wc.alloc (.cells #[.bool true] 4)).alloc (.cells #[.slice A.ka x.cost.length A.kc, .slice A.ta x.time.length A.tc] 27)) A x wc.heap.size (wc.heap.size + 1) true) := Lib.hid ⟨HWA.out.later ((Below.refl _ _).alloc (Nat.le_refl _) _), by rw [← hsz]; exact heap_alloc_new _ _, by omega⟩
      clear hsz c5 c6
      go_wp2_with fail
      clear c7 c8
      obtain ⟨W2, hW2⟩ : ∃ W2, (wc.alloc (.cells #[.bool true] 4)).alloc (.cells #[.slice A.ka x.cost.length A.kc, .slice A.ta x.time.length A.tc] 27) = W2 := ⟨_, rfl⟩
      obtain ⟨g, hg⟩ : ∃ g, wc.heap.size + 1 = g := ⟨_, rfl⟩
      obtain ⟨gp, hgp⟩ : ∃ gp, wc.heap.size = gp := ⟨_, rfl⟩
      rw [hW2, hg, hgp] at HC0
      rw [hW2, hg, hgp]
      clear hW2 hg hgp HWA HBA HG
      go_loopw [4, 78] (fun sv iv wr => ∃ (i : Nat) (sz gd : Bool), iv = .int .i64 (i : Int) ∧ sv = .bool sz ∧ i ≤ 2 ∧ Hid (sz = allR i (fun i => sqB x.nodes (x.pick i))) ∧ Hid (gd = allR i (fun i => rowsB (x.pick i))) ∧ Hid (CT w wr A x gp g gd)) (fun _ iv _ => 2 - (intOf iv).toNat)
      case atStart => exact ⟨0, true, true, rfl, rfl, Nat.zero_le _, Lib.hid rfl, Lib.hid rfl, HC0⟩
      case round =>
        obtain ⟨i, sz, gd, rfl, rfl, hi, HSZ, HGD, HC⟩ := hrel
        clear HC0
        by_cases hlt : i < 2
        · have hd2 : decide ((i : Int) < 2) = true := by simp; omega
          have e0 := HC.out.at_ hlt
          have hpl : (x.pick i).length ≤ 70 := by unfold Ins.pick; split <;> omega
          have HRW := Lib.hid (HI.out.rows i)
          have HSH := Lib.hid (light_short HLI.out hlt)
          obtain ⟨L, hL⟩ : ∃ L, x.pick i = L := ⟨_, rfl⟩
          have HLE := Lib.hid hL
          rw [hL] at e0 hpl HRW HSH
          clear hL
          generalize A.pick i = pa at e0 HRW
          generalize A.cap i = pc at e0
          go_upto_region 9 with fail
          clear e0
          go_cut [4] from 82 to 88 (fun sv wx => sv = .bool (sz && decide (L.length = x.nodes)) ∧ wx = wr)
          case first =>
            cases sz with
            | false => go_wp2_with fail; go_meet; exact ⟨rfl, rfl⟩
            | true =>
              by_cases hq : L.length = x.nodes
              · have hq2 : ((L.length : Int) == 1 + (x.sats.length : Int) + (x.cus.length : Int)) = true := by have h9 : x.nodes = 1 + x.sats.length + x.cus.length := rfl; simp; omega
                have HX : Hid (decide (L.length = x.nodes) = true) := Lib.hid (by simpa using hq)
                clear hq
                go_wp2_with fail
                go_meet
                exact ⟨by rw [HX.out]; rfl, rfl⟩
              · have hq2 : ((L.length : Int) == 1 + (x.sats.length : Int) + (x.cus.length : Int)) = false := by have h9 : x.nodes = 1 + x.sats.length + x.cus.length := rfl; simp; omega
                have HX : Hid (decide (L.length = x.nodes) = false) := Lib.hid (by simpa using hq)
                clear hq
                go_wp2_with fail
                go_meet
                exact ⟨by rw [HX.out]; rfl, rfl⟩
          case rest =>
            obtain ⟨hsv, hwc⟩ := hcut
            subst hsv hwc
            obtain ⟨sz1, hs1⟩ : ∃ b, (sz && decide (L.length = x.nodes)) = b := ⟨_, rfl⟩
            have HS1 := Lib.hid hs1
            rw [hs1]
            clear hs1
            go_wp2_with fail
            go_loopw [4, 91] (fun sv iv wr => ∃ (r : Nat) (s2 g2 : Bool), iv = .int .i64 (r : Int) ∧ sv = .bool s2 ∧ r ≤ L.length ∧ Hid (s2 = (sz1 && allR r (fun j => lenB x.nodes (L.getD j [])))) ∧ Hid (g2 = (gd && allR r (fun j => rowB j (L.getD j [])))) ∧ Hid (CT w wr A x gp g g2)) (fun _ iv _ => L.length - (intOf iv).toNat)
            case atStart => exact ⟨0, sz1, gd, rfl, rfl, Nat.zero_le _, Lib.hid (by rw [allR_zero, Bool.and_true]), Lib.hid (by rw [allR_zero, Bool.and_true]), HC⟩
            case round =>
              obtain ⟨r, s2, g2, rfl, rfl, hr, HS2, HG2, HC2⟩ := hrel
              clear HC
              by_cases hlr : r < L.length
              · obtain ⟨rb, ro, R, ra, rc, rfl, hrb, hR, hRl, q00, hRn⟩ := HRW.out.at_ hlr
                have q0 := (HC2.out.cw.box.below.cell (p := ⟨rb, ro + r, none⟩) hrb).trans q00
                have HRR := Lib.hid hR
                have HR80 : Hid (R.length ≤ 80) := Lib.hid (HSH.out R (List.mem_of_getElem? hR))
                have HRN := Lib.hid hRn
                clear hR hRn q00
                have hr80 := HR80.out
                go_upto_region 13 with fail
                clear q0
                go_cut [4] from 96 to 102 (fun sv wx => sv = .bool (s2 && lenB x.nodes R) ∧ wx = wr)
                case first =>
                  cases s2 with
                  | false => go_wp2_with fail; go_meet; exact ⟨rfl, rfl⟩
                  | true =>
                    by_cases hq : R.length = x.nodes
                    · have hq2 : ((R.length : Int) == 1 + (x.sats.length : Int) + (x.cus.length : Int)) = true := by have h9 : x.nodes = 1 + x.sats.length + x.cus.length := rfl; simp; omega
                      have HX : Hid (lenB x.nodes R = true) := Lib.hid (by simpa [lenB] using hq)
                      clear hq
                      go_wp2_with fail
                      go_meet
                      exact ⟨by rw [HX.out]; rfl, rfl⟩
                    · have hq2 : ((R.length : Int) == 1 + (x.sats.length : Int) + (x.cus.length : Int)) = false := by have h9 : x.nodes = 1 + x.sats.length + x.cus.length := rfl; simp; omega
                      have HX : Hid (lenB x.nodes R = false) := Lib.hid (by simpa [lenB] using hq)
                      clear hq
                      go_wp2_with fail
                      go_meet
                      exact ⟨by rw [HX.out]; rfl, rfl⟩
                case rest =>
                  obtain ⟨hsv, hwc⟩ := hcut
                  subst hsv hwc
                  obtain ⟨s3, hs3⟩ : ∃ b, (s2 && lenB x.nodes R) = b := ⟨_, rfl⟩
                  have HS3 := Lib.hid hs3
                  rw [hs3]
                  clear hs3
                  go_wp2_with fail
                  go_loopw [105] (fun iv wr => ∃ (c : Nat) (g3 : Bool), iv = .int .i64 (c : Int) ∧ c ≤ R.length ∧ Hid (g3 = (g2 && allR c (fun k => elB r k (R.getD k 0)))) ∧ Hid (CT w wr A x gp g g3)) (fun iv _ => R.length - (intOf iv).toNat)
                  case atStart => exact ⟨0, g2, rfl, Nat.zero_le _, Lib.hid (by rw [allR_zero, Bool.and_true]), HC2⟩
                  case round =>
                    obtain ⟨c, g3, rfl, hc, HG3, HC3⟩ := hrel
                    clear HC2
                    by_cases hlc : c < R.length
                    · obtain ⟨eb, eo, v, rfl, hv, q1⟩ := (HRN.out.later HC3.out.cw.box.below).at_ hlc
                      have HVV : Hid (R.getD c 0 = v) := Lib.hid (getD_of hv)
                      clear hv
                      go_wp2_with fail
                      go_at_call 38
                      refine (code1_any v 0 gp _ _ HC3.out.cw.cell.1 HC3.out.cw.cell.2).mono ?_
                      rintro e w4 ⟨rfl, hw4⟩
                      obtain ⟨b1, hb1⟩ : ∃ b, (g3 && inB_ v 0) = b := ⟨_, rfl⟩
                      have HC4 : Hid (CT w w4 A x gp g b1) := Lib.hid (by rw [hw4, ← hb1]; exact HC3.out.set _)
                      have HB1 := Lib.hid hb1
                      clear hw4 hb1 q1
                      obtain ⟨q2, q3⟩ := HC4.out.cw.cell
                      cases b1 with
                      | false =>
                        have HC5 := Lib.hid (HC4.out.set false)
                        have HG5 : Hid (false = (g2 && allR (c + 1) (fun k => elB r k (R.getD k 0)))) := Lib.hid (by rw [allR_succ, HVV.out]; exact el_step HG3.out HB1.out rfl)
                        go_wp2_with fail
                        go_roundw
                        case rel => exact ⟨c + 1, _, by go_num, by omega, HG5, HC5⟩
                        case measure => simp [intOf]; omega
                      | true =>
                        by_cases hrc : r = c
                        · have hrb2 : ((r : Int) != (c : Int)) = false := by simp; omega
                          by_cases hv0 : v = 0
                          · have hvb : (v == 0) = true := by simpa using hv0
                            have HC5 := Lib.hid (HC4.out.set true)
                            have HG5 : Hid (true = (g2 && allR (c + 1) (fun k => elB r k (R.getD k 0)))) := Lib.hid (by rw [allR_succ, HVV.out]; exact el_step HG3.out HB1.out (by simp [hv0]))
                            try clear hv0
                            try clear hrc
                            go_wp2_with fail
                            go_roundw
                            case rel => exact ⟨c + 1, _, by go_num, by omega, HG5, HC5⟩
                            case measure => simp [intOf]; omega
                          · have hvb : (v == 0) = false := by simpa using hv0
                            have HC5 := Lib.hid (HC4.out.set false)
                            have HG5 : Hid (false = (g2 && allR (c + 1) (fun k => elB r k (R.getD k 0)))) := Lib.hid (by rw [allR_succ, HVV.out]; exact el_step HG3.out HB1.out (by simp [hv0, hrc]))
                            try clear hv0
                            try clear hrc
                            go_wp2_with fail
                            go_roundw
                            case rel => exact ⟨c + 1, _, by go_num, by omega, HG5, HC5⟩
                            case measure => simp [intOf]; omega
                        · have hrb2 : ((r : Int) != (c : Int)) = true := by simp; omega
                          have HC5 := Lib.hid (HC4.out.set true)
                          have HG5 : Hid (true = (g2 && allR (c + 1) (fun k => elB r k (R.getD k 0)))) := Lib.hid (by rw [allR_succ, HVV.out]; exact el_step HG3.out HB1.out (by simp [hrc]))
                          try clear hv0
                          try clear hrc
                          go_wp2_with fail
                          go_roundw
                          case rel => exact ⟨c + 1, _, by go_num, by omega, HG5, HC5⟩
                          case measure => simp [intOf]; omega
                    · obtain rfl : c = R.length := by omega
                      have HG4 : Hid (g3 = (gd && allR (r + 1) (fun j => rowB j (L.getD j [])))) := Lib.hid (by rw [HG3.out, HG2.out, allR_succ, getD_of HRR.out, rowB, Bool.and_assoc])
                      have HS4 : Hid (s3 = (sz1 && allR (r + 1) (fun j => lenB x.nodes (L.getD j [])))) := Lib.hid (by rw [← HS3.out, HS2.out, allR_succ, getD_of HRR.out, Bool.and_assoc])
                      go_wp2_with fail
                      go_roundw
                      case rel => exact ⟨r + 1, _, g3, by go_num, rfl, by omega, HS4, HG4, HC3⟩
                      case measure => simp [intOf]; omega
              · obtain rfl : r = L.length := by omega
                have HG4 : Hid (g2 = allR (i + 1) (fun i => rowsB (x.pick i))) := Lib.hid (by rw [HG2.out, HGD.out, allR_succ, HLE.out, rowsB])
                have HS4 : Hid (s2 = allR (i + 1) (fun i => sqB x.nodes (x.pick i))) := Lib.hid (by rw [HS2.out, ← HS1.out, sq_step, HSZ.out, allR_succ, HLE.out])
                go_wp2_with fail
                go_roundw
                case rel => exact ⟨i + 1, _, g2, by go_num, rfl, by omega, HS4, HG4, HC2⟩
                case measure => simp [intOf]; omega
        · obtain rfl : i = 2 := by omega
          obtain ⟨c0, c1, c2, c3, c4, c5, c6, c7, c8⟩ := HC.out.cw.box.cells
          have HSZ2 : Hid (sz = x.size) := Lib.hid (by rw [HSZ.out, allR_succ, allR_succ, allR_zero, Bool.true_and]; rfl)
          obtain ⟨gd0, hgd0⟩ : ∃ b, gd = b := ⟨_, rfl⟩
          have HGD2 : Hid (gd0 = (rowsB x.cost && rowsB x.time)) := Lib.hid (by rw [← hgd0, HGD.out, allR_succ, allR_succ, allR_zero, Bool.true_and]; rfl)
          rw [hgd0] at HC
          clear hgd0 HGD HSZ
          have HK0 := HC
          go_wp2_with fail
          go_at_call 38
          refine (code1_any x.en 0 gp _ _ HK0.out.cw.cell.1 HK0.out.cw.cell.2).mono ?_
          rintro e k1 ⟨rfl, hw⟩
          have HK1 : Hid (CT w k1 A x gp g _) := Lib.hid (by rw [hw]; exact HK0.out.set _)
          clear hw c0 c1 c2 c3 c4 c5 c6 c7 c8
          obtain ⟨c0, c1, c2, c3, c4, c5, c6, c7, c8⟩ := HK1.out.cw.box.cells
          go_wp2_with fail
          go_at_call 38
          refine (code1_any x.tr 0 gp _ _ HK1.out.cw.cell.1 HK1.out.cw.cell.2).mono ?_
          rintro e k2 ⟨rfl, hw⟩
          have HK2 : Hid (CT w k2 A x gp g _) := Lib.hid (by rw [hw]; exact HK1.out.set _)
          clear hw c0 c1 c2 c3 c4 c5 c6 c7 c8
          obtain ⟨c0, c1, c2, c3, c4, c5, c6, c7, c8⟩ := HK2.out.cw.box.cells
          go_wp2_with fail
          go_at_call 38
          refine (code1_any x.br 0 gp _ _ HK2.out.cw.cell.1 HK2.out.cw.cell.2).mono ?_
          rintro e k3 ⟨rfl, hw⟩
          have HK3 : Hid (CT w k3 A x gp g _) := Lib.hid (by rw [hw]; exact HK2.out.set _)
          clear hw c0 c1 c2 c3 c4 c5 c6 c7 c8
          obtain ⟨c0, c1, c2, c3, c4, c5, c6, c7, c8⟩ := HK3.out.cw.box.cells
          obtain ⟨B3, hB3⟩ : ∃ b, (((gd0 && inB_ x.en 0) && inB_ x.tr 0) && inB_ x.br 0) = b := ⟨_, rfl⟩
          have HB3 := Lib.hid hB3
          rw [hB3] at HK3
          clear hB3 HK0 HK1 HK2
          have HPS := HI.out.sats
          have HPC := HI.out.cus
          obtain ⟨sa, hsa⟩ : ∃ a, A.sa = a := ⟨_, rfl⟩
          obtain ⟨ca, hca⟩ : ∃ a, A.ca = a := ⟨_, rfl⟩
          rw [hsa] at HPS c5 ⊢
          rw [hca] at HPC c6 ⊢
          have HPS2 := Lib.hid HPS
          have HPC2 := Lib.hid HPC
          clear HPS HPC HI
          go_wp2_with fail
          clear c5
          go_loopw [143] (fun iv wr => ∃ (c : Nat) (gd : Bool), iv = .int .i64 (c : Int) ∧ c ≤ x.sats.length ∧ Hid (gd = (B3 && allR c (fun i => satB (x.sats.getD i (0, 0))))) ∧ Hid (CT w wr A x gp g gd)) (fun iv _ => x.sats.length - (intOf iv).toNat)
          case atStart => exact ⟨0, B3, rfl, Nat.zero_le _, Lib.hid (by rw [allR_zero, Bool.and_true]), HK3⟩
          case round =>
            obtain ⟨c, gd, rfl, hc, HGD, HK⟩ := hrel
            clear HK3 c0 c1 c2 c3 c4 c6 c7 c8
            by_cases hlc : c < x.sats.length
            · obtain ⟨b, off, y, rfl, hb, hy, p0, p1⟩ := (HPS2.out.later HK.out.cw.box.below).at_ hlc
              have HYY : Hid (x.sats.getD c (0, 0) = y) := Lib.hid (getD_of hy)
              have hsl : x.sats.length ≤ 40 := l1
              obtain ⟨y1, y2⟩ := y
              simp only at p0 p1
              clear hy
              have HQ0 : Hid (CT w (wr.alloc (.cells #[.int .i64 y1, .int .i64 y2] 61)) A x gp g gd) := Lib.hid (HK.out.later ((Below.refl _ _).alloc (Nat.le_refl _) _))
              have HP0 : Hid ((wr.alloc (.cells #[.int .i64 y1, .int .i64 y2] 61)).heap[wr.heap.size]? = some (.cells #[.int .i64 y1, .int .i64 y2] 61 (0, 0))) := Lib.hid (heap_alloc_new _ _)
              have HGB : Hid (gp < wr.heap.size) := Lib.hid (Array.getElem?_eq_some_iff.1 HK.out.cw.good).1
              obtain ⟨gb, hgb⟩ : ∃ b, wr.heap.size = b := ⟨_, rfl⟩
              rw [hgb] at HP0 HGB
              go_wp2_with fail
              go_at_call 38
              refine (code1_any y1 0 gp _ _ HQ0.out.cw.cell.1 HQ0.out.cw.cell.2).mono ?_
              rintro e v1 ⟨rfl, hw⟩
              have HQ1 : Hid (CT w v1 A x gp g _) := Lib.hid (by rw [hw]; exact HQ0.out.set _)
              have HP1 : Hid (v1.heap[gb]? = some (.cells #[.int .i64 y1, .int .i64 y2] 61 (0, 0))) := Lib.hid (by rw [hw]; exact (heap_setCell_other _ _ _ _ (fun e => by have e2 : gb = gp := e; have := HGB.out; omega)).trans HP0.out)
              clear hw
              try clear q0 q1 q2 q3
              obtain ⟨q0, q1, q2, q3⟩ := cells2 HP1.out
              go_wp2_with fail
              go_at_call 38
              refine (code1_any y2 0 gp _ _ HQ1.out.cw.cell.1 HQ1.out.cw.cell.2).mono ?_
              rintro e v2 ⟨rfl, hw⟩
              have HQ2 : Hid (CT w v2 A x gp g _) := Lib.hid (by rw [hw]; exact HQ1.out.set _)
              have HP2 : Hid (v2.heap[gb]? = some (.cells #[.int .i64 y1, .int .i64 y2] 61 (0, 0))) := Lib.hid (by rw [hw]; exact (heap_setCell_other _ _ _ _ (fun e => by have e2 : gb = gp := e; have := HGB.out; omega)).trans HP1.out)
              clear hw
              try clear q0 q1 q2 q3
              obtain ⟨q0, q1, q2, q3⟩ := cells2 HP2.out
              have HG2 : Hid (((gd && inB_ y1 0) && inB_ y2 0) = (B3 && allR (c + 1) (fun i => satB (x.sats.getD i (0, 0))))) := Lib.hid (by rw [HGD.out, allR_succ, HYY.out, satB, Bool.and_assoc, Bool.and_assoc])
              go_wp2_with fail
              go_roundw
              case rel => exact ⟨c + 1, _, by go_num, by omega, HG2, HQ2⟩
              case measure => simp [intOf]; omega
            · obtain rfl : c = x.sats.length := by omega
              obtain ⟨B4, hB4⟩ : ∃ b, gd = b := ⟨_, rfl⟩
              rw [hB4] at HK HGD
              have HB4 := HGD
              clear hB4
              have c6 := HK.out.cw.box.cells.2.2.2.2.2.2.1
              rw [hca] at c6
              have HK5 := HK
              go_wp2_with fail
              clear c6
              go_loopw [159] (fun iv wr => ∃ (c : Nat) (gd : Bool), iv = .int .i64 (c : Int) ∧ c ≤ x.cus.length ∧ Hid (gd = (B4 && allR c (fun i => cusB (x.cus.getD i (0, 0, 0, 0))))) ∧ Hid (CT w wr A x gp g gd)) (fun iv _ => x.cus.length - (intOf iv).toNat)
              case atStart => exact ⟨0, B4, rfl, Nat.zero_le _, Lib.hid (by rw [allR_zero, Bool.and_true]), HK5⟩
              case round =>
                obtain ⟨c, gd, rfl, hc, HGD, HK⟩ := hrel
                clear HK5
                by_cases hlc : c < x.cus.length
                · obtain ⟨b, off, y, rfl, hb, hy, p0, p1, p2, p3⟩ := (HPC2.out.later HK.out.cw.box.below).at_ hlc
                  have HYY : Hid (x.cus.getD c (0, 0, 0, 0) = y) := Lib.hid (getD_of hy)
                  obtain ⟨y1, y2, y3, y4⟩ := y
                  simp only at p0 p1 p2 p3
                  clear hy
                  have HQ0 : Hid (CT w (wr.alloc (.cells #[.int .i64 y1, .int .i64 y2, .int .i64 y3, .int .i64 y4] 64)) A x gp g gd) := Lib.hid (HK.out.later ((Below.refl _ _).alloc (Nat.le_refl _) _))
                  have HP0 : Hid ((wr.alloc (.cells #[.int .i64 y1, .int .i64 y2, .int .i64 y3, .int .i64 y4] 64)).heap[wr.heap.size]? = some (.cells #[.int .i64 y1, .int .i64 y2, .int .i64 y3, .int .i64 y4] 64 (0, 0))) := Lib.hid (heap_alloc_new _ _)
                  have HGB : Hid (gp < wr.heap.size) := Lib.hid (Array.getElem?_eq_some_iff.1 HK.out.cw.good).1
                  obtain ⟨gb, hgb⟩ : ∃ b, wr.heap.size = b := ⟨_, rfl⟩
                  rw [hgb] at HP0 HGB
                  go_wp2_with fail
                  go_at_call 38
                  refine (code1_any y1 1 gp _ _ HQ0.out.cw.cell.1 HQ0.out.cw.cell.2).mono ?_
                  rintro e v1 ⟨rfl, hw⟩
                  have HQ1 : Hid (CT w v1 A x gp g _) := Lib.hid (by rw [hw]; exact HQ0.out.set _)
                  have HP1 : Hid (v1.heap[gb]? = some (.cells #[.int .i64 y1, .int .i64 y2, .int .i64 y3, .int .i64 y4] 64 (0, 0))) := Lib.hid (by rw [hw]; exact (heap_setCell_other _ _ _ _ (fun e => by have e2 : gb = gp := e; have := HGB.out; omega)).trans HP0.out)
                  clear hw
                  try clear q0 q1 q2 q3
                  obtain ⟨q0, q1, q2, q3⟩ := cells4 HP1.out
                  go_wp2_with fail
                  go_at_call 38
                  refine (code1_any y2 0 gp _ _ HQ1.out.cw.cell.1 HQ1.out.cw.cell.2).mono ?_
                  rintro e v2 ⟨rfl, hw⟩
                  have HQ2 : Hid (CT w v2 A x gp g _) := Lib.hid (by rw [hw]; exact HQ1.out.set _)
                  have HP2 : Hid (v2.heap[gb]? = some (.cells #[.int .i64 y1, .int .i64 y2, .int .i64 y3, .int .i64 y4] 64 (0, 0))) := Lib.hid (by rw [hw]; exact (heap_setCell_other _ _ _ _ (fun e => by have e2 : gb = gp := e; have := HGB.out; omega)).trans HP1.out)
                  clear hw
                  try clear q0 q1 q2 q3
                  obtain ⟨q0, q1, q2, q3⟩ := cells4 HP2.out
                  go_wp2_with fail
                  go_at_call 38
                  refine (code1_any y3 y2 gp _ _ HQ2.out.cw.cell.1 HQ2.out.cw.cell.2).mono ?_
                  rintro e v3 ⟨rfl, hw⟩
                  have HQ3 : Hid (CT w v3 A x gp g _) := Lib.hid (by rw [hw]; exact HQ2.out.set _)
                  have HP3 : Hid (v3.heap[gb]? = some (.cells #[.int .i64 y1, .int .i64 y2, .int .i64 y3, .int .i64 y4] 64 (0, 0))) := Lib.hid (by rw [hw]; exact (heap_setCell_other _ _ _ _ (fun e => by have e2 : gb = gp := e; have := HGB.out; omega)).trans HP2.out)
                  clear hw
                  try clear q0 q1 q2 q3
                  obtain ⟨q0, q1, q2, q3⟩ := cells4 HP3.out
                  go_wp2_with fail
                  go_at_call 38
                  refine (code1_any y4 0 gp _ _ HQ3.out.cw.cell.1 HQ3.out.cw.cell.2).mono ?_
                  rintro e v4 ⟨rfl, hw⟩
                  have HQ4 : Hid (CT w v4 A x gp g _) := Lib.hid (by rw [hw]; exact HQ3.out.set _)
                  have HP4 : Hid (v4.heap[gb]? = some (.cells #[.int .i64 y1, .int .i64 y2, .int .i64 y3, .int .i64 y4] 64 (0, 0))) := Lib.hid (by rw [hw]; exact (heap_setCell_other _ _ _ _ (fun e => by have e2 : gb = gp := e; have := HGB.out; omega)).trans HP3.out)
                  clear hw
                  try clear q0 q1 q2 q3
                  obtain ⟨q0, q1, q2, q3⟩ := cells4 HP4.out
                  have HG2 : Hid (((((gd && inB_ y1 1) && inB_ y2 0) && inB_ y3 y2) && inB_ y4 0) = (B4 && allR (c + 1) (fun i => cusB (x.cus.getD i (0, 0, 0, 0))))) := Lib.hid (by rw [HGD.out, allR_succ, HYY.out, cusB]; simp [Bool.and_assoc])
                  go_wp2_with fail
                  go_roundw
                  case rel => exact ⟨c + 1, _, by go_num, by omega, HG2, HQ4⟩
                  case measure => simp [intOf]; omega
                · obtain rfl : c = x.cus.length := by omega
                  have HGO : Hid (gd = x.good) := Lib.hid (by rw [HGD.out, HB4.out, ← HB3.out, HGD2.out]; rfl)
                  have q0 := HK.out.cw.cell.1
                  cases sz with
                  | false =>
                    have HX : Hid (instErr x = 4) := Lib.hid (by unfold instErr; rw [if_pos HCN.out, if_neg (by rw [← HSZ2.out]; exact Bool.false_ne_true)])
                    go_wp2_with fail
                    go_ret
                    exact ⟨by rw [HX.out]; rfl, HK.out.cw.box.below⟩
                  | true =>
                    cases gd with
                    | false =>
                      have HX : Hid (instErr x = 2) := Lib.hid (by unfold instErr; rw [if_pos HCN.out, if_pos HSZ2.out.symm, if_neg (by rw [← HGO.out]; exact Bool.false_ne_true)])
                      go_wp2_with fail
                      go_ret
                      exact ⟨by rw [HX.out]; rfl, HK.out.cw.box.below⟩
                    | true =>
                      have HX : Hid (instErr x = 0) := Lib.hid (by unfold instErr; rw [if_pos HCN.out, if_pos HSZ2.out.symm, if_pos HGO.out.symm])
                      go_wp2_with fail
                      go_ret
                      exact ⟨by rw [HX.out]; rfl, HK.out.cw.box.below⟩
end Go.Proofs.Ytoafmbjdchkahaa

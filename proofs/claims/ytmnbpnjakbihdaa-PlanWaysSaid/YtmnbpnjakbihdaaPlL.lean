/- Package plan: what the bikes of each satellite carry, what trucks leave there; who is served. -/
import Derived.Test.YtmnbpnjakbihdaaPlG
import Derived.Deep.RegionHeld3
import Derived.BigRegion
import Derived.Deep.CutRange
import Derived.Deep.LoopGhost
import Derived.LoopTactic
import Derived.StillTailTactics
namespace Go.Proofs.Ytmnbpnjakbihdaa
open Go.RowKit

variable {w wr w2 : World} {A : InA} {x : Ins} {B n g N : Nat} {a : Option Addr} {C : Array Value} {T : TypeId} {f f2 : Nat → Int}
theorem infoLongPl : (Try.prog.info? 2).map (fun i => (i.zero, i.size, i.bytes)) = some (some (.int .i64 0), 1, 8) := by kernel_rfl
theorem CBox.drew (h : CBox w wr g C T) : CBox w wr.drew g C T := h.later (Below.refl _ _).drew
/-- A made row of numbers. -/
def MRow (w : World) (g N : Nat) (f : Nat → Int) : Prop := w.rowIs g 2 N (fun i => .int .i64 (f i))
theorem MRow.later (h : MRow w g N f) (hb : Below w.heap.size w w2) : MRow w2 g N f := rowIs_below h hb
theorem MRow.congr (h : MRow w g N f) (e : ∀ i, i < N → f i = f2 i) : MRow w g N f2 := World.rowIs.congr h (fun i hi => by rw [e i hi])
theorem MRow.set_ (h : MRow w g N f) (i : Nat) (z : Int) : MRow (w.setCell ⟨g, i, none⟩ (.int .i64 z)) g N (fun j => if j = i then z else f j) := (World.rowIs.set h i _).congr (fun j _ => by by_cases e : j = i <;> simp [e])
theorem MRow.lt (h : MRow w g N f) : g < w.heap.size := World.rowIs.lt h
theorem MRow.other {b k : Nat} {v : Value} (h : MRow w g N f) (hb : g ≠ b) : MRow (w.setCell ⟨b, k, none⟩ v) g N f := World.rowIs.of_block h (heap_setCell_other _ _ _ _ hb)
theorem CBox.set_ {b k : Nat} {v : Value} (h : CBox w wr g C T) (hb : w.heap.size ≤ b) (hn : g ≠ b) : CBox w (wr.setCell ⟨b, k, none⟩ v) g C T := ⟨h.below.setCell hb _, h.ge, (heap_setCell_other _ _ _ _ hn).trans h.blk⟩
theorem loadS_next {l : List (Int × List Int)} {k s : Nat} {t : Int × List Int} (h : l[k]? = some t) : loadS x (l.take (k + 1)) s = loadS x (l.take k) s + if t.1 = (s : Int) then bload x t.2 else 0 := sumF_next h
theorem bload_in (hm : May x) {l : List Int} (h : l.length ≤ 1000) : 0 ≤ bload x l ∧ bload x l ≤ 1000000000000 := by
  obtain ⟨h1, h2⟩ := sumF_in (f := wantL x) (M := 1000000000) (l := l) (fun c _ => wantL_in hm c)
  unfold bload
  omega
theorem loadS_in (hm : May x) {l : List (Int × List Int)} (hl : ∀ b ∈ l, b.2.length ≤ 1000) {k : Nat} (hk : k ≤ 1000) (s : Nat) : 0 ≤ loadS x (l.take k) s ∧ loadS x (l.take k) s ≤ 1000000000000000 := by
  have := sumF_take_in (f := fun b : Int × List Int => if b.1 = (s : Int) then bload x b.2 else 0) (M := 1000000000000) (l := l) (k := k) (fun c hc => by
    have := bload_in hm (hl c hc)
    by_cases e : c.1 = (s : Int) <;> simp only [e, if_true, if_false] <;> omega) (by omega) hk
  unfold loadS
  omega
set_option maxHeartbeats 4000000 in
set_option maxRecDepth 100000 in
theorem loads_any (A : InA) (x : Ins) (ba : Option Addr) (bc len : Nat) (l : List (Int × List Int)) (w : World) (hx : IsIns w.heap.size w A x) (hm : May x) (hp : IsBikes w.heap.size w ba len l) (hn : len ≤ 1000) (hl : ∀ b ∈ l, b.2.length ≤ 1000) :
    Calls Try.prog 24 #[.agg (insC A x), .slice ba len bc] w fun e w' => ∃ g, e = .returned (.slice (some ⟨g, 0, none⟩) x.sats.length x.sats.length) ∧ w.heap.size ≤ g ∧ MRow w' g x.sats.length (loadS x l) ∧ Below w.heap.size w w' := by
  have HX0 := Lib.hid (CBox.make (Below.refl _ w) (insC A x) 37)
  have HI := Lib.hid hx
  have HM := Lib.hid hm
  have HP := Lib.hid hp
  have HL := Lib.hid hl
  have hns := hm.ns
  obtain ⟨N, hN⟩ : ∃ N, x.sats.length = N := ⟨_, rfl⟩
  have HNN := Lib.hid hN
  rw [hN] at hns ⊢
  have hmk := run_make_row' (P := Try.prog) 60 2 (.int .i64 0) 8 Try.underlying60 infoLongPl rfl .i64 .i64 N (by omega) (by omega)
  have c5 := (CBox.inst (A := A) (x := x) HX0.out).2.2.2.2.2.1
  rw [hN] at c5
  clear hx hm hp hl hN
  unfold insC at *
  go_enter Try.func24, Try.ntmps24
  go_wp2_with fail
  clear c5
  have HX1 := Lib.hid (HX0.out.alloc (.cells (madeCells #[Value.int .i64 0] N) 2))
  have HR1 : Hid (MRow ((w.alloc (.cells (insC A x) 37)).alloc (.cells (madeCells #[Value.int .i64 0] N) 2)) (w.heap.size + 1) N (loadS x (l.take 0))) := Lib.hid (by
    have := World.rowIs_made (w.alloc (.cells (insC A x) 37)) (.int .i64 0) N 2
    rw [show (w.alloc (.cells (insC A x) 37)).heap.size = w.heap.size + 1 by simp] at this
    exact World.rowIs.congr this (fun i _ => by rw [List.take_zero]; rfl))
  unfold insC at HR1
  obtain ⟨W1, hW1⟩ : ∃ W1, ((w.alloc (.cells #[.int .i64 x.en, .int .i64 x.tm, .int .i64 x.tr, .int .i64 x.bm, .int .i64 x.br, .slice A.sa x.sats.length A.sc, .slice A.ca x.cus.length A.cc, .slice A.ka x.cost.length A.kc, .slice A.ta x.time.length A.tc] 37)).alloc (.cells (madeCells #[Value.int .i64 0] N) 2)) = W1 := ⟨_, rfl⟩
  rw [hW1] at HX1 HR1
  first | rw [hW1] | skip
  clear hW1 HX0
  go_loopw [14] (fun iv wr => ∃ i : Nat, iv = .int .i64 (i : Int) ∧ i ≤ len ∧ Hid (CBox w wr w.heap.size (insC A x) 37) ∧ Hid (MRow wr (w.heap.size + 1) N (loadS x (l.take i)))) (fun iv _ => len - (intOf iv).toNat)
  case atStart => exact ⟨0, rfl, Nat.zero_le _, HX1, HR1⟩
  case round =>
    obtain ⟨i, rfl, hi, HXR, HRR⟩ := hrel
    clear HX1 HR1
    by_cases hlt : i < len
    · obtain ⟨tb, to_, t, ra, rc, hta, htb, hg, htl, q0, q1, hpr⟩ := HP.out.at_ hlt
      have q0 := (HXR.out.below.cell (p := ⟨tb, to_ + i * 2, none⟩) htb).trans q0
      have q1 := (HXR.out.below.cell (p := ⟨tb, to_ + i * 2 + 1, none⟩) htb).trans q1
      have HPR := Lib.hid hpr
      have HLN : Hid (∀ s : Nat, loadS x (l.take (i + 1)) s = loadS x (l.take i) s + if t.1 = (s : Int) then bload x t.2 else 0) := Lib.hid (fun s => loadS_next hg)
      have HTL : Hid (t.2.length ≤ 1000) := Lib.hid (HL.out t (List.mem_of_getElem? hg))
      rw [hta]
      clear hg hpr hta htb
      obtain ⟨m, hm⟩ : ∃ m, t.2.length = m := ⟨_, rfl⟩
      rw [hm] at q1 htl HPR HTL
      have HMM := Lib.hid hm
      have HX2 := Lib.hid (HXR.out.alloc (.cells #[.int .i64 t.1, .slice ra m rc] 55))
      have HR2 := Lib.hid (HRR.out.later ((Below.refl wr.heap.size wr).alloc (Nat.le_refl _) (.cells #[.int .i64 t.1, .slice ra m rc] 55)))
      have HT2 : Hid ((wr.alloc (.cells #[.int .i64 t.1, .slice ra m rc] 55)).heap[wr.heap.size]? = some (.cells #[.int .i64 t.1, .slice ra m rc] 55 (0, 0))) := Lib.hid (heap_alloc_new _ _)
      have hgc := (CBox.inst (A := A) (x := x) HX2.out).2.2.2.2.2.1
      rw [HNN.out] at hgc
      clear hm
      cases ham : amB t.1 N with
      | false =>
        have HRN : Hid (∀ (W : World), MRow W (w.heap.size + 1) N (loadS x (l.take i)) → MRow W (w.heap.size + 1) N (loadS x (l.take (i + 1)))) := Lib.hid (fun W h => h.congr (fun s hs => by
          rw [HLN.out s, if_neg (fun e => by rw [amB_false] at ham; omega)]; omega))
        go_wp2_with (go_at_call 43; refine (among_any _ _ false _ ham).mono ?_; rintro e w5 ⟨rfl, rfl⟩)
        go_roundw
        case rel => exact ⟨i + 1, by go_num, by omega, HX2, Lib.hid (HRN.out _ HR2.out)⟩
        case measure => simp [intOf]; omega
      | true =>
        have hbb := amB_true.1 ham
        obtain ⟨t1, t2⟩ := t
        obtain ⟨s, rfl⟩ : ∃ s : Nat, t1 = (s : Int) := ⟨t1.toNat, by simp only at hbb; omega⟩
        simp only at hbb
        have hsN : s < N := by omega
        go_upto_region 6 with (go_at_call 43; refine (among_any _ _ true _ ham).mono ?_; rintro e w5 ⟨rfl, rfl⟩)
        obtain ⟨gb, hgb⟩ : ∃ gb, wr.heap.size = gb := ⟨_, rfl⟩
        have HGB : Hid (w.heap.size + 1 < gb) := Lib.hid (by rw [← hgb]; exact HRR.out.lt)
        obtain ⟨W2, hW2⟩ : ∃ W2, wr.alloc (.cells #[.int .i64 (s : Int), .slice ra m rc] 55) = W2 := ⟨_, rfl⟩
        rw [hW2] at HX2 HR2 HT2
        rw [hgb] at HT2
        rw [hW2, hgb]
        clear hgb hgc q0 q1 hW2
        have HX3 := Lib.hid HX2.out.drew
        have HR3 := Lib.hid (HR2.out.later (Below.refl _ _).drew)
        have HT3 : Hid (W2.drew.heap[gb]? = some (.cells #[.int .i64 (s : Int), .slice ra m rc] 55 (0, 0))) := HT2
        obtain ⟨v, hv⟩ : ∃ v, loadS x (l.take i) s = v := ⟨_, rfl⟩
        have HV := Lib.hid hv
        have hvb := loadS_in HM.out HL.out (show i ≤ 1000 by omega) s
        rw [hv] at hvb
        obtain ⟨u, hu⟩ : ∃ u, bload x t2 = u := ⟨_, rfl⟩
        have hub := bload_in HM.out (l := t2) (by rw [HMM.out]; exact HTL.out)
        rw [hu] at hub
        have HBL : Hid (∀ W, Below w.heap.size w W → Calls Try.prog 47 #[.agg #[.int .i64 (s : Int), .slice ra m rc], .agg (insC A x)] W fun e w' => e = .returned (.int .i64 u) ∧ Below W.heap.size W w') := Lib.hid (fun W hb => by
          have := bload_any A x (s : Int) ra rc t2 W ((HI.out.later hb).mono hb.size) HM.out (by have := (HPR.out.later hb).mono hb.size; rwa [← HMM.out] at this) (by rw [HMM.out]; exact HTL.out)
          rwa [show t2.length = m from HMM.out, hu] at this)
        unfold insC at HBL
        have HRV : Hid (∀ W, MRow W (w.heap.size + 1) N (loadS x (l.take i)) → W.cell? ⟨w.heap.size + 1, s, none⟩ = some (.int .i64 v) ∧ W.frozen? ⟨w.heap.size + 1, s, none⟩ = false) := Lib.hid (fun W h2 => by
          have e1 := World.rowIs.cell h2 hsN
          rw [hv] at e1
          exact ⟨e1, World.rowIs.frozen h2 s⟩)
        have hsum : IntKind.i64.wrap (v + u) = v + u := by rw [IntKind.wrap_i64]; omega
        have HUU := Lib.hid hu
        clear hv hu
        obtain ⟨v0, hv0⟩ : ∃ v9, World.drew W2 = v9 := ⟨_, rfl⟩
        rw [hv0] at HX3 HR3 HT3
        refine wp_region_held_drew (S := fun Wz => CBox w Wz w.heap.size (insC A x) 37 ∧ Wz.heap[gb]? = some (.cells #[.int .i64 (s : Int), .slice ra m rc] 55 (0, 0))) (by kernel_rfl) (by rw [hv0]; exact ⟨HX3.out, HT3.out⟩) (fun hHeld => ?_)
        rw [hv0] at hHeld ⊢
        clear hv0
        refine wpAnyH_take (i := 0) (v := ?_) rfl (by kernel_rfl) (by kernel_rfl) (by kernel_rfl) (fun _ _ _ h => h) (Or.inl ⟨by rfl, ?_⟩) hHeld ?_
        rotate_left
        · intro Wz hWz; clear hWz; go_simp; (try with_reducible rfl)
        try simp only [Act.put, List.setIfInBounds_toArray, List.set_cons_zero, List.set_cons_succ, List.getElem_toArray, List.getElem_cons_zero]
        refine wpAnyH_take (i := 1) (v := ?_) rfl (by kernel_rfl) (by kernel_rfl) (by kernel_rfl) (fun _ _ _ h => h) (Or.inl ⟨by rfl, ?_⟩) hHeld ?_
        rotate_left
        · intro Wz hWz; clear hWz; go_simp; (try with_reducible rfl)
        try simp only [Act.put, List.setIfInBounds_toArray, List.set_cons_zero, List.set_cons_succ, List.getElem_toArray, List.getElem_cons_zero, List.getElem_cons_succ]
        refine wpAnyH_take (i := 2) (v := ?_) rfl (by kernel_rfl) (by kernel_rfl) (by kernel_rfl) (fun _ _ _ h => h) (Or.inl ⟨by rfl, ?_⟩) hHeld ?_
        rotate_left
        · intro Wz hWz; obtain ⟨b0, b1⟩ := cells2r hWz.2; clear hWz; go_simp; (try with_reducible rfl)
        try simp only [Act.put, List.setIfInBounds_toArray, List.set_cons_zero, List.set_cons_succ, List.getElem_toArray, List.getElem_cons_zero, List.getElem_cons_succ]
        refine wpAnyH_take (i := 3) (v := ?_) rfl (by kernel_rfl) (by kernel_rfl) (by kernel_rfl) (fun _ _ _ h => h) (Or.inl ⟨by rfl, ?_⟩) hHeld ?_
        rotate_left
        · intro Wz hWz; clear hWz; go_simp; (try with_reducible rfl)
        try simp only [Act.put, List.setIfInBounds_toArray, List.set_cons_zero, List.set_cons_succ, List.getElem_toArray, List.getElem_cons_zero, List.getElem_cons_succ]
        refine wpAnyH_take (i := 5) (v := ?_) rfl (by kernel_rfl) (by kernel_rfl) (by kernel_rfl) (fun _ _ _ h => h) (Or.inl ⟨by rfl, ?_⟩) hHeld ?_
        rotate_left
        · intro Wz hWz; obtain ⟨b0, b1⟩ := cells2r hWz.2; clear hWz; go_simp; (try with_reducible rfl)
        try simp only [Act.put, List.setIfInBounds_toArray, List.set_cons_zero, List.set_cons_succ, List.getElem_toArray, List.getElem_cons_zero, List.getElem_cons_succ]
        refine wpAnyH_take (i := 6) (v := ?_) rfl (by kernel_rfl) (by kernel_rfl) (by kernel_rfl) (fun _ _ _ h => h) (Or.inl ⟨by rfl, ?_⟩) hHeld ?_
        rotate_left
        · intro Wz hWz; obtain ⟨c0, c1, c2, c3, c4, c5, c6, c7, c8⟩ := CBox.inst (A := A) (x := x) hWz.1; clear hWz; unfold insC at *; go_simp; (try with_reducible rfl)
        try simp only [Act.put, List.setIfInBounds_toArray, List.set_cons_zero, List.set_cons_succ, List.getElem_toArray, List.getElem_cons_zero, List.getElem_cons_succ]
        refine wpAnyH_ready (rs := [4, 7]) (by kernel_rfl) (by simp) ?_
        refine AllReadyH.cons rfl (fun K hK => ?_) (AllReadyH.cons rfl (fun K hK => ?_) AllReadyH.nil)
        · have e0 := (HRV.out _ HR3.out).1
          go_simp
          clear e0
          refine hK.out _ _ ?_ (fun hHeld => ?_)
          · exact ⟨HX3.out, HT3.out⟩
          clear hK K
          try simp only [Act.put, List.setIfInBounds_toArray, List.set_cons_zero, List.set_cons_succ, List.getElem_toArray, List.getElem_cons_zero, List.getElem_cons_succ]
          refine wpAnyH_ready (rs := [7]) (by kernel_rfl) (by simp) ?_
          refine AllReadyH.cons rfl (fun K hK => ?_) AllReadyH.nil
          go_simp
          refine (HBL.out _ HX3.out.below).mono ?_
          rintro e w5 ⟨rfl, hb5⟩
          have HX5 := Lib.hid (HX3.out.later hb5)
          have HR5 := Lib.hid (HR3.out.later hb5)
          have HT5 : Hid (w5.heap[gb]? = some (.cells #[.int .i64 (s : Int), .slice ra m rc] 55 (0, 0))) := Lib.hid ((hb5.block gb (Array.getElem?_eq_some_iff.1 HT3.out).1).trans HT3.out)
          clear hb5 HX3 HR3 HT3
          have HX3 := HX5
          have HR3 := HR5
          have HT3 := HT5
          clear HX5 HR5 HT5
          refine hK.out _ _ ?_ (fun hHeld => ?_)
          · exact ⟨HX3.out, HT3.out⟩
          clear hK K
          try simp only [Act.put, List.setIfInBounds_toArray, List.set_cons_zero, List.set_cons_succ, List.getElem_toArray, List.getElem_cons_zero, List.getElem_cons_succ]
          refine wpAnyH_ready (rs := [8]) (by kernel_rfl) (by simp) ?_
          refine AllReadyH.cons rfl (fun K hK => ?_) AllReadyH.nil
          go_simp
          refine hK.out _ _ ?_ (fun hHeld => ?_)
          · exact ⟨HX3.out, HT3.out⟩
          clear hK K
          try simp only [Act.put, List.setIfInBounds_toArray, List.set_cons_zero, List.set_cons_succ, List.getElem_toArray, List.getElem_cons_zero, List.getElem_cons_succ]
          refine wpAnyH_ready (rs := [9]) (by kernel_rfl) (by simp) ?_
          refine AllReadyH.cons rfl (fun K hK => ?_) AllReadyH.nil
          go_simp
          refine hK.out _ _ ?_ (fun hHeld => ?_)
          · exact ⟨HX3.out, HT3.out⟩
          clear hK K
          try simp only [Act.put, List.setIfInBounds_toArray, List.set_cons_zero, List.set_cons_succ, List.getElem_toArray, List.getElem_cons_zero, List.getElem_cons_succ]
          obtain ⟨e0, f0⟩ := HRV.out _ HR3.out
          have HX7 := Lib.hid (HX3.out.set_ (b := w.heap.size + 1) (k := s) (v := .int .i64 (v + u)) (by omega) (by omega))
          have HT7 : Hid ((w5.setCell ⟨w.heap.size + 1, s, none⟩ (.int .i64 (v + u))).heap[gb]? = some (.cells #[.int .i64 (s : Int), .slice ra m rc] 55 (0, 0))) := Lib.hid ((heap_setCell_other _ _ _ _ (fun e => by have := HGB.out; have e2 : gb = w.heap.size + 1 := e; omega)).trans HT3.out)
          have HR7 : Hid (MRow (w5.setCell ⟨w.heap.size + 1, s, none⟩ (.int .i64 (v + u))) (w.heap.size + 1) N (loadS x (l.take (i + 1)))) := Lib.hid ((HR3.out.set_ s (v + u)).congr (fun j hj => by
            have h1 := HLN.out j
            rw [h1]
            by_cases e : j = s
            · subst e
              simp only [if_true]
              rw [HV.out, HUU.out]
            · simp only [e, if_false]
              rw [if_neg (by omega)]
              omega))
          refine wpAnyH_ready (rs := [10]) (by kernel_rfl) (by simp) ?_
          refine AllReadyH.cons rfl (fun K hK => ?_) AllReadyH.nil
          go_simp
          refine hK.out _ _ ?_ (fun hHeld => ?_)
          · exact ⟨HX7.out, HT7.out⟩
          clear hK K
          try simp only [Act.put, List.setIfInBounds_toArray, List.set_cons_zero, List.set_cons_succ, List.getElem_toArray, List.getElem_cons_zero, List.getElem_cons_succ]
          refine wpAnyH_done (by kernel_rfl) ?_ _
          clear hHeld
          go_wp2_with fail
          go_roundw
          case rel => exact ⟨i + 1, by go_num, by omega, HX7, HR7⟩
          case measure => simp [intOf]; omega
        · go_simp
          refine (HBL.out _ HX3.out.below).mono ?_
          rintro e w5 ⟨rfl, hb5⟩
          have HX5 := Lib.hid (HX3.out.later hb5)
          have HR5 := Lib.hid (HR3.out.later hb5)
          have HT5 : Hid (w5.heap[gb]? = some (.cells #[.int .i64 (s : Int), .slice ra m rc] 55 (0, 0))) := Lib.hid ((hb5.block gb (Array.getElem?_eq_some_iff.1 HT3.out).1).trans HT3.out)
          clear hb5 HX3 HR3 HT3
          have HX3 := HX5
          have HR3 := HR5
          have HT3 := HT5
          clear HX5 HR5 HT5
          refine hK.out _ _ ?_ (fun hHeld => ?_)
          · exact ⟨HX3.out, HT3.out⟩
          clear hK K
          try simp only [Act.put, List.setIfInBounds_toArray, List.set_cons_zero, List.set_cons_succ, List.getElem_toArray, List.getElem_cons_zero, List.getElem_cons_succ]
          refine wpAnyH_ready (rs := [4]) (by kernel_rfl) (by simp) ?_
          refine AllReadyH.cons rfl (fun K hK => ?_) AllReadyH.nil
          have e0 := (HRV.out _ HR3.out).1
          go_simp
          clear e0
          refine hK.out _ _ ?_ (fun hHeld => ?_)
          · exact ⟨HX3.out, HT3.out⟩
          clear hK K
          try simp only [Act.put, List.setIfInBounds_toArray, List.set_cons_zero, List.set_cons_succ, List.getElem_toArray, List.getElem_cons_zero, List.getElem_cons_succ]
          refine wpAnyH_ready (rs := [8]) (by kernel_rfl) (by simp) ?_
          refine AllReadyH.cons rfl (fun K hK => ?_) AllReadyH.nil
          go_simp
          refine hK.out _ _ ?_ (fun hHeld => ?_)
          · exact ⟨HX3.out, HT3.out⟩
          clear hK K
          try simp only [Act.put, List.setIfInBounds_toArray, List.set_cons_zero, List.set_cons_succ, List.getElem_toArray, List.getElem_cons_zero, List.getElem_cons_succ]
          refine wpAnyH_ready (rs := [9]) (by kernel_rfl) (by simp) ?_
          refine AllReadyH.cons rfl (fun K hK => ?_) AllReadyH.nil
          go_simp
          refine hK.out _ _ ?_ (fun hHeld => ?_)
          · exact ⟨HX3.out, HT3.out⟩
          clear hK K
          try simp only [Act.put, List.setIfInBounds_toArray, List.set_cons_zero, List.set_cons_succ, List.getElem_toArray, List.getElem_cons_zero, List.getElem_cons_succ]
          obtain ⟨e0, f0⟩ := HRV.out _ HR3.out
          have HX7 := Lib.hid (HX3.out.set_ (b := w.heap.size + 1) (k := s) (v := .int .i64 (v + u)) (by omega) (by omega))
          have HT7 : Hid ((w5.setCell ⟨w.heap.size + 1, s, none⟩ (.int .i64 (v + u))).heap[gb]? = some (.cells #[.int .i64 (s : Int), .slice ra m rc] 55 (0, 0))) := Lib.hid ((heap_setCell_other _ _ _ _ (fun e => by have := HGB.out; have e2 : gb = w.heap.size + 1 := e; omega)).trans HT3.out)
          have HR7 : Hid (MRow (w5.setCell ⟨w.heap.size + 1, s, none⟩ (.int .i64 (v + u))) (w.heap.size + 1) N (loadS x (l.take (i + 1)))) := Lib.hid ((HR3.out.set_ s (v + u)).congr (fun j hj => by
            have h1 := HLN.out j
            rw [h1]
            by_cases e : j = s
            · subst e
              simp only [if_true]
              rw [HV.out, HUU.out]
            · simp only [e, if_false]
              rw [if_neg (by omega)]
              omega))
          refine wpAnyH_ready (rs := [10]) (by kernel_rfl) (by simp) ?_
          refine AllReadyH.cons rfl (fun K hK => ?_) AllReadyH.nil
          go_simp
          refine hK.out _ _ ?_ (fun hHeld => ?_)
          · exact ⟨HX7.out, HT7.out⟩
          clear hK K
          try simp only [Act.put, List.setIfInBounds_toArray, List.set_cons_zero, List.set_cons_succ, List.getElem_toArray, List.getElem_cons_zero, List.getElem_cons_succ]
          refine wpAnyH_done (by kernel_rfl) ?_ _
          clear hHeld
          go_wp2_with fail
          go_roundw
          case rel => exact ⟨i + 1, by go_num, by omega, HX7, HR7⟩
          case measure => simp [intOf]; omega
    · obtain rfl : i = len := by omega
      have HE : Hid (l.take i = l) := Lib.hid (List.take_of_length_le (by rw [HP.out.1]; exact Nat.le_refl _))
      go_wp2_with fail
      go_ret
      exact ⟨w.heap.size + 1, rfl, by omega, by rw [← HE.out]; exact HRR.out, HXR.out.below⟩
end Go.Proofs.Ytmnbpnjakbihdaa

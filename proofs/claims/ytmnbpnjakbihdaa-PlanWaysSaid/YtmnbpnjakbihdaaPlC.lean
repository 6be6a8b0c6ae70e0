/- Package plan: do all find room? -/
import Derived.Test.YtmnbpnjakbihdaaPlF
namespace Go.Proofs.Ytmnbpnjakbihdaa
open Go.RowKit

variable {w wr w2 : World} {A : InA} {x : Ins} {B n g N : Nat} {a : Option Addr} {C : Array Value} {T : TypeId} {f f2 : Nat → Int}
theorem goB_le {ns nc : Nat} {l : List (Int × List Int)} {b : Int × List Int} (h : goB ns nc l b) : b.2.length ≤ nc := distinct_le (f := fun c : Int => c) fun j s hj => by
  have := h.2.2 j s hj
  exact ⟨amB_true.1 this.1, fun o ho e => this.2 (List.mem_append_right _ (by rwa [← e]))⟩
theorem BGo.le {ns nc : Nat} {l : List (Int × List Int)} (h : BGo ns nc l) : ∀ b ∈ l, b.2.length ≤ nc := fun b hb => by
  obtain ⟨j, hj⟩ := List.getElem?_of_mem hb
  exact goB_le (h j b hj)
theorem TGo.le {ns : Nat} {l : List (List (Int × Int))} (h : TGo ns l) : ∀ t ∈ l, t.length ≤ ns ∧ ∀ s ∈ t, 1 ≤ s.2 ∧ s.2 ≤ 1000000000 := fun b hb => by
  obtain ⟨j, hj⟩ := List.getElem?_of_mem hb
  exact ⟨goT_le (h j b hj), goT_in (h j b hj)⟩
theorem all_next {α : Type} {q : α → Prop} {l : List α} {k : Nat} {t : α} (h : ∀ (j : Nat) (u : α), j < k → l[j]? = some u → q u) (ht : l[k]? = some t) (hg : q t) : ∀ (j : Nat) (u : α), j < k + 1 → l[j]? = some u → q u := fun i u hi hu => by
  by_cases e : i = k
  · subst e; rw [ht] at hu; injection hu with hu; rwa [← hu]
  · exact h i u (by omega) hu
theorem all_all {α : Type} {q : α → Prop} {l : List α} {k : Nat} (h : ∀ (j : Nat) (u : α), j < k → l[j]? = some u → q u) (hk : l.length ≤ k) : ∀ u ∈ l, q u := fun u hu => by
  obtain ⟨j, hj⟩ := List.getElem?_of_mem hu
  exact h j u (by have := (List.getElem?_eq_some_iff.1 hj).1; omega) hj
set_option maxHeartbeats 8000000 in
set_option maxRecDepth 100000 in
theorem fits_any (A : InA) (x : Ins) (P : PlA) (p : Pl) (b : Bool) (w : World) (hx : IsIns w.heap.size w A x) (hp : IsPl w.heap.size w P p) (hm : May x) (ht : TGo x.sats.length p.tr) (hbk : ∀ b ∈ p.bk, b.2.length ≤ 1000) (hn : p.tr.length ≤ 60) (hn2 : p.bk.length ≤ 60) (hb : b = true ↔ FitsP x p) :
    Calls Try.prog 40 #[.agg (plC P p), .agg (insC A x)] w fun e w' => e = .returned (.bool b) ∧ Below w.heap.size w w' := by
  have HQ := Lib.hid (CBox.make (Below.refl _ w) (plC P p) 42)
  have HX0 := Lib.hid (CBox.make HQ.out.below (insC A x) 37)
  have HQ0 := Lib.hid (HQ.out.alloc (.cells (insC A x) 37))
  clear HQ
  have HP := Lib.hid hp
  have HI := Lib.hid hx
  have HM := Lib.hid hm
  have HT := Lib.hid ht.le
  have HBK := Lib.hid hbk
  have HB := Lib.hid hb
  have hns := hm.ns
  obtain ⟨n, hnn⟩ : ∃ n, p.tr.length = n := ⟨_, rfl⟩
  obtain ⟨n2, hnn2⟩ : ∃ n, p.bk.length = n := ⟨_, rfl⟩
  have HN := Lib.hid hnn
  have HN2 := Lib.hid hnn2
  have hsz : (w.alloc (.cells (plC P p) 42)).heap.size = w.heap.size + 1 := by simp
  rw [hsz] at HX0
  clear hx hp hm ht hbk hb hsz
  unfold plC at *
  rw [hnn, hnn2] at HX0 HQ0 ⊢
  rw [hnn] at hn
  rw [hnn2] at hn2
  obtain ⟨c0, c1⟩ := HQ0.out.cell2
  have HA0 : Hid (∀ (j : Nat) (u : List (Int × Int)), j < 0 → p.tr[j]? = some u → tload u ≤ x.tr) := Lib.hid (fun j u h => by omega)
  have HA2 : Hid (∀ (j : Nat) (u : Int × List Int), j < 0 → p.bk[j]? = some u → bload x u.2 ≤ x.br) := Lib.hid (fun j u h => by omega)
  clear hnn hnn2
  unfold insC at *
  go_enter Try.func40, Try.ntmps40
  go_wp2_with fail
  clear c0
  go_loopw [14] (fun iv wr => ∃ i : Nat, iv = .int .i64 (i : Int) ∧ i ≤ n ∧ Hid (∀ (j : Nat) (u : List (Int × Int)), j < i → p.tr[j]? = some u → tload u ≤ x.tr) ∧ Hid (CBox w wr w.heap.size #[.slice P.ta n P.tc, .slice P.ba n2 P.bc] 42) ∧ Hid (CBox w wr (w.heap.size + 1) (insC A x) 37)) (fun iv _ => n - (intOf iv).toNat)
  case atStart => exact ⟨0, rfl, Nat.zero_le _, HA0, HQ0, HX0⟩
  case round =>
    obtain ⟨i, rfl, hi, HA, HQR, HXR⟩ := hrel
    clear HA0 HQ0 HX0
    by_cases hlt : i < n
    · obtain ⟨tb, to_, t, ra, rc, hta, htb, hg, htl, q0, hpr⟩ := HP.out.tr.at_ (by rw [HN.out]; exact hlt)
      have q0 := (HXR.out.below.cell (p := ⟨tb, to_ + i, none⟩) htb).trans q0
      have HPR := Lib.hid hpr
      have HG := Lib.hid hg
      have htt := HT.out t (List.mem_of_getElem? hg)
      rw [hta] at HQR ⊢
      have HCL : Hid (∀ W, Below w.heap.size w W → Calls Try.prog 67 #[.agg #[.slice ra t.length rc]] W fun e w' => e = .returned (.int .i64 (tload t)) ∧ Below W.heap.size W w') := Lib.hid (fun W hb => tload_any ra rc t W ((hpr.later hb).mono hb.size) (by omega) htt.2)
      obtain ⟨u, hu⟩ : ∃ u, tload t = u := ⟨_, rfl⟩
      have HU := Lib.hid hu
      obtain ⟨m, hmm⟩ : ∃ m, t.length = m := ⟨_, rfl⟩
      rw [hmm] at q0 htl HPR HCL
      rw [hu] at HCL
      have HX2 := Lib.hid (HXR.out.alloc (.cells #[.slice ra m rc] 58))
      have HQ2 := Lib.hid (HQR.out.alloc (.cells #[.slice ra m rc] 58))
      have HT2 : Hid ((wr.alloc (.cells #[.slice ra m rc] 58)).heap[wr.heap.size]? = some (.cells #[.slice ra m rc] 58 (0, 0))) := Lib.hid (heap_alloc_new _ _)
      clear hta htb hg hpr htt hu hmm
      go_upto_region 4 with fail
      obtain ⟨gt, hgt⟩ : ∃ gt, wr.heap.size = gt := ⟨_, rfl⟩
      obtain ⟨W2, hW2⟩ : ∃ W2, wr.alloc (.cells #[.slice ra m rc] 58) = W2 := ⟨_, rfl⟩
      rw [hW2] at HX2 HQ2 HT2
      rw [hgt] at HT2
      rw [hW2, hgt]
      clear hW2 hgt q0
      have HX3 := Lib.hid HX2.out.drew
      have HQ3 := Lib.hid HQ2.out.drew
      have HT3 : Hid (W2.drew.heap[gt]? = some (.cells #[.slice ra m rc] 58 (0, 0))) := HT2
      have HCS : Hid (∀ W, CBox w W (w.heap.size + 1) (insC A x) 37 → W.heap[gt]? = some (.cells #[.slice ra m rc] 58 (0, 0)) → W.cell? ⟨w.heap.size + 1, 0, none⟩ = some (.int .i64 x.en) ∧ W.cell? ⟨w.heap.size + 1, 1, none⟩ = some (.int .i64 x.tm) ∧ W.cell? ⟨w.heap.size + 1, 2, none⟩ = some (.int .i64 x.tr) ∧ W.cell? ⟨w.heap.size + 1, 3, none⟩ = some (.int .i64 x.bm) ∧ W.cell? ⟨w.heap.size + 1, 4, none⟩ = some (.int .i64 x.br) ∧ W.cell? ⟨w.heap.size + 1, 5, none⟩ = some (.slice A.sa x.sats.length A.sc) ∧ W.cell? ⟨w.heap.size + 1, 6, none⟩ = some (.slice A.ca x.cus.length A.cc) ∧ W.cell? ⟨w.heap.size + 1, 7, none⟩ = some (.slice A.ka x.cost.length A.kc) ∧ W.cell? ⟨w.heap.size + 1, 8, none⟩ = some (.slice A.ta x.time.length A.tc) ∧ W.cell? ⟨gt, 0, none⟩ = some (.slice ra m rc)) := Lib.hid (fun W h1 h2 => by
        obtain ⟨d0, d1, d2, d3, d4, d5, d6, d7, d8⟩ := CBox.inst (A := A) (x := x) h1
        exact ⟨d0, d1, d2, d3, d4, d5, d6, d7, d8, by simp [World.cell?, h2]⟩)
      obtain ⟨d0, d1, d2, d3, d4, d5, d6, d7, d8, d9⟩ := HCS.out _ HX3.out HT3.out
      clear HX2 HQ2 HT2
      by_cases hov : u > x.tr
      · have dv : decide (u > x.tr) = true := decide_eq_true hov
        have HE := Lib.hid (bool_no HB.out (fun h => by have := h.tr t (List.mem_of_getElem? HG.out); rw [HU.out] at this; omega))
        go_region_held3 (fun W => W.cell? ⟨w.heap.size + 1, 0, none⟩ = some (.int .i64 x.en) ∧ W.cell? ⟨w.heap.size + 1, 1, none⟩ = some (.int .i64 x.tm) ∧ W.cell? ⟨w.heap.size + 1, 2, none⟩ = some (.int .i64 x.tr) ∧ W.cell? ⟨w.heap.size + 1, 3, none⟩ = some (.int .i64 x.bm) ∧ W.cell? ⟨w.heap.size + 1, 4, none⟩ = some (.int .i64 x.br) ∧ W.cell? ⟨w.heap.size + 1, 5, none⟩ = some (.slice A.sa x.sats.length A.sc) ∧ W.cell? ⟨w.heap.size + 1, 6, none⟩ = some (.slice A.ca x.cus.length A.cc) ∧ W.cell? ⟨w.heap.size + 1, 7, none⟩ = some (.slice A.ka x.cost.length A.kc) ∧ W.cell? ⟨w.heap.size + 1, 8, none⟩ = some (.slice A.ta x.time.length A.tc) ∧ W.cell? ⟨gt, 0, none⟩ = some (.slice ra m rc))
          (first | assumption | exact HCS.out _ HX3.out HT3.out | exact HCS.out _ HX5.out HT5.out)
          (first
            | (go_at_call 67; refine (HCL.out _ HX3.out.below).mono ?_; rintro e w5 ⟨rfl, hb5⟩; have HX5 := Lib.hid (HX3.out.later hb5); have HT5 : Hid (w5.heap[gt]? = some (.cells #[.slice ra m rc] 58 (0, 0))) := Lib.hid ((hb5.block gt (Array.getElem?_eq_some_iff.1 HT3.out).1).trans HT3.out); clear hb5))
        clear d0 d1 d2 d3 d4 d5 d6 d7 d8 d9
        go_wp2_with fail
        go_ret
        exact ⟨by rw [HE.out]; rfl, HX5.out.below⟩
      · have dv : decide (u > x.tr) = false := decide_eq_false hov
        have HAN := Lib.hid (all_next HA.out HG.out (by rw [HU.out]; omega))
        go_region_held3 (fun W => W.cell? ⟨w.heap.size + 1, 0, none⟩ = some (.int .i64 x.en) ∧ W.cell? ⟨w.heap.size + 1, 1, none⟩ = some (.int .i64 x.tm) ∧ W.cell? ⟨w.heap.size + 1, 2, none⟩ = some (.int .i64 x.tr) ∧ W.cell? ⟨w.heap.size + 1, 3, none⟩ = some (.int .i64 x.bm) ∧ W.cell? ⟨w.heap.size + 1, 4, none⟩ = some (.int .i64 x.br) ∧ W.cell? ⟨w.heap.size + 1, 5, none⟩ = some (.slice A.sa x.sats.length A.sc) ∧ W.cell? ⟨w.heap.size + 1, 6, none⟩ = some (.slice A.ca x.cus.length A.cc) ∧ W.cell? ⟨w.heap.size + 1, 7, none⟩ = some (.slice A.ka x.cost.length A.kc) ∧ W.cell? ⟨w.heap.size + 1, 8, none⟩ = some (.slice A.ta x.time.length A.tc) ∧ W.cell? ⟨gt, 0, none⟩ = some (.slice ra m rc))
          (first | assumption | exact HCS.out _ HX3.out HT3.out | exact HCS.out _ HX5.out HT5.out)
          (first
            | (go_at_call 67; refine (HCL.out _ HX3.out.below).mono ?_; rintro e w5 ⟨rfl, hb5⟩; have HX5 := Lib.hid (HX3.out.later hb5); have HQ5 := Lib.hid (HQ3.out.later hb5); have HT5 : Hid (w5.heap[gt]? = some (.cells #[.slice ra m rc] 58 (0, 0))) := Lib.hid ((hb5.block gt (Array.getElem?_eq_some_iff.1 HT3.out).1).trans HT3.out); clear hb5))
        clear d0 d1 d2 d3 d4 d5 d6 d7 d8 d9
        go_wp2_with fail
        go_roundw
        case rel => exact ⟨i + 1, by go_num, by omega, HAN, HQ5, HX5⟩
        case measure => simp [intOf]; omega
    · obtain rfl : n = i := by omega
      have HTR : Hid (∀ t ∈ p.tr, tload t ≤ x.tr) := Lib.hid (all_all HA.out (by rw [HN.out]; exact Nat.le_refl _))
      have c1 := HQR.out.cell2.2
      clear HA
      go_wp2_with fail
      clear c1
      go_loopw [28] (fun iv wr => ∃ i : Nat, iv = .int .i64 (i : Int) ∧ i ≤ n2 ∧ Hid (∀ (j : Nat) (u : Int × List Int), j < i → p.bk[j]? = some u → bload x u.2 ≤ x.br) ∧ Hid (CBox w wr w.heap.size #[.slice P.ta n P.tc, .slice P.ba n2 P.bc] 42) ∧ Hid (CBox w wr (w.heap.size + 1) (insC A x) 37)) (fun iv _ => n2 - (intOf iv).toNat)
      case atStart => exact ⟨0, rfl, Nat.zero_le _, HA2, HQR, HXR⟩
      case round =>
        obtain ⟨i, rfl, hi, HA, HQS, HXS⟩ := hrel
        clear HA2 HQR HXR
        by_cases hlt : i < n2
        · obtain ⟨tb, to_, t, ra, rc, hta, htb, hg, htl, q0, q1, hpr⟩ := HP.out.bk.at_ (by rw [HN2.out]; exact hlt)
          have q0 := (HXS.out.below.cell (p := ⟨tb, to_ + i * 2, none⟩) htb).trans q0
          have q1 := (HXS.out.below.cell (p := ⟨tb, to_ + i * 2 + 1, none⟩) htb).trans q1
          have HG := Lib.hid hg
          have htt := HBK.out t (List.mem_of_getElem? hg)
          rw [hta] at HQS ⊢
          have HCL : Hid (∀ W, Below w.heap.size w W → Calls Try.prog 47 #[.agg #[.int .i64 t.1, .slice ra t.2.length rc], .agg (insC A x)] W fun e w' => e = .returned (.int .i64 (bload x t.2)) ∧ Below W.heap.size W w') := Lib.hid (fun W hb => bload_any A x t.1 ra rc t.2 W ((HI.out.later hb).mono hb.size) HM.out ((hpr.later hb).mono hb.size) htt)
          unfold insC at HCL
          obtain ⟨u, hu⟩ : ∃ u, bload x t.2 = u := ⟨_, rfl⟩
          have HU := Lib.hid hu
          obtain ⟨m, hmm⟩ : ∃ m, t.2.length = m := ⟨_, rfl⟩
          rw [hmm] at q1 htl HCL
          rw [hu] at HCL
          have HX2 := Lib.hid (HXS.out.alloc (.cells #[.int .i64 t.1, .slice ra m rc] 55))
          have HQ2 := Lib.hid (HQS.out.alloc (.cells #[.int .i64 t.1, .slice ra m rc] 55))
          have HT2 : Hid ((wr.alloc (.cells #[.int .i64 t.1, .slice ra m rc] 55)).heap[wr.heap.size]? = some (.cells #[.int .i64 t.1, .slice ra m rc] 55 (0, 0))) := Lib.hid (heap_alloc_new _ _)
          clear hta htb hg hpr htt hu hmm
          go_upto_region 10 with fail
          obtain ⟨gt, hgt⟩ : ∃ gt, wr.heap.size = gt := ⟨_, rfl⟩
          obtain ⟨W2, hW2⟩ : ∃ W2, wr.alloc (.cells #[.int .i64 t.1, .slice ra m rc] 55) = W2 := ⟨_, rfl⟩
          rw [hW2] at HX2 HQ2 HT2
          rw [hgt] at HT2
          rw [hW2, hgt]
          clear hW2 hgt q0 q1
          have HX3 := Lib.hid HX2.out.drew
          have HQ3 := Lib.hid HQ2.out.drew
          have HT3 : Hid (W2.drew.heap[gt]? = some (.cells #[.int .i64 t.1, .slice ra m rc] 55 (0, 0))) := HT2
          have HCS : Hid (∀ W, CBox w W (w.heap.size + 1) (insC A x) 37 → W.heap[gt]? = some (.cells #[.int .i64 t.1, .slice ra m rc] 55 (0, 0)) → W.cell? ⟨w.heap.size + 1, 0, none⟩ = some (.int .i64 x.en) ∧ W.cell? ⟨w.heap.size + 1, 1, none⟩ = some (.int .i64 x.tm) ∧ W.cell? ⟨w.heap.size + 1, 2, none⟩ = some (.int .i64 x.tr) ∧ W.cell? ⟨w.heap.size + 1, 3, none⟩ = some (.int .i64 x.bm) ∧ W.cell? ⟨w.heap.size + 1, 4, none⟩ = some (.int .i64 x.br) ∧ W.cell? ⟨w.heap.size + 1, 5, none⟩ = some (.slice A.sa x.sats.length A.sc) ∧ W.cell? ⟨w.heap.size + 1, 6, none⟩ = some (.slice A.ca x.cus.length A.cc) ∧ W.cell? ⟨w.heap.size + 1, 7, none⟩ = some (.slice A.ka x.cost.length A.kc) ∧ W.cell? ⟨w.heap.size + 1, 8, none⟩ = some (.slice A.ta x.time.length A.tc) ∧ W.cell? ⟨gt, 0, none⟩ = some (.int .i64 t.1) ∧ W.cell? ⟨gt, 1, none⟩ = some (.slice ra m rc)) := Lib.hid (fun W h1 h2 => by
            obtain ⟨d0, d1, d2, d3, d4, d5, d6, d7, d8⟩ := CBox.inst (A := A) (x := x) h1
            exact ⟨d0, d1, d2, d3, d4, d5, d6, d7, d8, by simp [World.cell?, h2], by simp [World.cell?, h2]⟩)
          obtain ⟨d0, d1, d2, d3, d4, d5, d6, d7, d8, d9, e0⟩ := HCS.out _ HX3.out HT3.out
          clear HX2 HQ2 HT2
          by_cases hov : u > x.br
          · have dv : decide (u > x.br) = true := decide_eq_true hov
            have HE := Lib.hid (bool_no HB.out (fun h => by have := h.bk t (List.mem_of_getElem? HG.out); rw [HU.out] at this; omega))
            go_region_held3 (fun W => W.cell? ⟨w.heap.size + 1, 0, none⟩ = some (.int .i64 x.en) ∧ W.cell? ⟨w.heap.size + 1, 1, none⟩ = some (.int .i64 x.tm) ∧ W.cell? ⟨w.heap.size + 1, 2, none⟩ = some (.int .i64 x.tr) ∧ W.cell? ⟨w.heap.size + 1, 3, none⟩ = some (.int .i64 x.bm) ∧ W.cell? ⟨w.heap.size + 1, 4, none⟩ = some (.int .i64 x.br) ∧ W.cell? ⟨w.heap.size + 1, 5, none⟩ = some (.slice A.sa x.sats.length A.sc) ∧ W.cell? ⟨w.heap.size + 1, 6, none⟩ = some (.slice A.ca x.cus.length A.cc) ∧ W.cell? ⟨w.heap.size + 1, 7, none⟩ = some (.slice A.ka x.cost.length A.kc) ∧ W.cell? ⟨w.heap.size + 1, 8, none⟩ = some (.slice A.ta x.time.length A.tc) ∧ W.cell? ⟨gt, 0, none⟩ = some (.int .i64 t.1) ∧ W.cell? ⟨gt, 1, none⟩ = some (.slice ra m rc))
              (first | assumption | exact HCS.out _ HX3.out HT3.out | exact HCS.out _ HX5.out HT5.out)
              (first
                | (go_at_call 47; refine (HCL.out _ HX3.out.below).mono ?_; rintro e w5 ⟨rfl, hb5⟩; have HX5 := Lib.hid (HX3.out.later hb5); have HT5 : Hid (w5.heap[gt]? = some (.cells #[.int .i64 t.1, .slice ra m rc] 55 (0, 0))) := Lib.hid ((hb5.block gt (Array.getElem?_eq_some_iff.1 HT3.out).1).trans HT3.out); clear hb5))
            clear d0 d1 d2 d3 d4 d5 d6 d7 d8 d9 e0
            go_wp2_with fail
            go_ret
            exact ⟨by rw [HE.out]; rfl, HX5.out.below⟩
          · have dv : decide (u > x.br) = false := decide_eq_false hov
            have HAN := Lib.hid (all_next (q := fun u : Int × List Int => bload x u.2 ≤ x.br) HA.out HG.out (by rw [HU.out]; omega))
            go_region_held3 (fun W => W.cell? ⟨w.heap.size + 1, 0, none⟩ = some (.int .i64 x.en) ∧ W.cell? ⟨w.heap.size + 1, 1, none⟩ = some (.int .i64 x.tm) ∧ W.cell? ⟨w.heap.size + 1, 2, none⟩ = some (.int .i64 x.tr) ∧ W.cell? ⟨w.heap.size + 1, 3, none⟩ = some (.int .i64 x.bm) ∧ W.cell? ⟨w.heap.size + 1, 4, none⟩ = some (.int .i64 x.br) ∧ W.cell? ⟨w.heap.size + 1, 5, none⟩ = some (.slice A.sa x.sats.length A.sc) ∧ W.cell? ⟨w.heap.size + 1, 6, none⟩ = some (.slice A.ca x.cus.length A.cc) ∧ W.cell? ⟨w.heap.size + 1, 7, none⟩ = some (.slice A.ka x.cost.length A.kc) ∧ W.cell? ⟨w.heap.size + 1, 8, none⟩ = some (.slice A.ta x.time.length A.tc) ∧ W.cell? ⟨gt, 0, none⟩ = some (.int .i64 t.1) ∧ W.cell? ⟨gt, 1, none⟩ = some (.slice ra m rc))
              (first | assumption | exact HCS.out _ HX3.out HT3.out | exact HCS.out _ HX5.out HT5.out)
              (first
                | (go_at_call 47; refine (HCL.out _ HX3.out.below).mono ?_; rintro e w5 ⟨rfl, hb5⟩; have HX5 := Lib.hid (HX3.out.later hb5); have HQ5 := Lib.hid (HQ3.out.later hb5); have HT5 : Hid (w5.heap[gt]? = some (.cells #[.int .i64 t.1, .slice ra m rc] 55 (0, 0))) := Lib.hid ((hb5.block gt (Array.getElem?_eq_some_iff.1 HT3.out).1).trans HT3.out); clear hb5))
            clear d0 d1 d2 d3 d4 d5 d6 d7 d8 d9 e0
            go_wp2_with fail
            go_roundw
            case rel => exact ⟨i + 1, by go_num, by omega, HAN, HQ5, HX5⟩
            case measure => simp [intOf]; omega
        · obtain rfl : i = n2 := by omega
          have HBR : Hid (∀ b ∈ p.bk, bload x b.2 ≤ x.br) := Lib.hid (all_all (q := fun u : Int × List Int => bload x u.2 ≤ x.br) HA.out (by rw [HN2.out]; exact Nat.le_refl _))
          have c1 := HQS.out.cell2.2
          obtain ⟨d0, d1, d2, d3, d4, d5, d6, d7, d8⟩ := CBox.inst (A := A) (x := x) HXS.out
          have HLD := Lib.hid (loads_any A x P.ba P.bc i p.bk wr ((HI.out.later HXS.out.below).mono HXS.out.below.size) HM.out (by have := (HP.out.bk.later HXS.out.below).mono HXS.out.below.size; rwa [HN2.out] at this) (by omega) HBK.out)
          unfold insC at HLD
          clear HA
          go_wp2_with (go_at_call 24; refine HLD.out.mono ?_; rintro e w5 ⟨gl, rfl, hgl, hrow, hb5⟩; have HX5 := Lib.hid (HXS.out.later hb5); have HRL := Lib.hid hrow; clear hb5 hrow)
          clear c1 d0 d1 d2 d3 d4 d5 d6 d7 d8
          have HS0 : Hid (∀ s, s < 0 → loadS x p.bk s ≤ (x.sats.getD s (0, 0)).1) := Lib.hid (fun s h => by omega)
          obtain ⟨N, hNN⟩ : ∃ N, x.sats.length = N := ⟨_, rfl⟩
          have HNN := Lib.hid hNN
          rw [hNN] at HRL hns ⊢
          clear hNN
          go_loopw [45] (fun iv wr => ∃ k : Nat, iv = .int .i64 (k : Int) ∧ k ≤ N ∧ Hid (∀ s, s < k → loadS x p.bk s ≤ (x.sats.getD s (0, 0)).1) ∧ Hid (CBox w wr (w.heap.size + 1) (insC A x) 37) ∧ Hid (MRow wr gl N (loadS x p.bk))) (fun iv _ => N - (intOf iv).toNat)
          case atStart => exact ⟨0, rfl, Nat.zero_le _, HS0, HX5, HRL⟩
          case round =>
            obtain ⟨k, rfl, hk, HS, HXT, HRT⟩ := hrel
            clear HS0 HX5 HRL HQS HXS
            by_cases hlt : k < N
            · obtain ⟨b2, off, z, hsa, hb2, hgs, q0, q1⟩ := ((HI.out.later HXT.out.below).mono HXT.out.below.size).sats.at_ (show k < x.sats.length by rw [HNN.out]; exact hlt)
              have r0 := World.rowIs.cell HRT.out hlt
              have d5 := (CBox.inst (A := A) (x := x) HXT.out).2.2.2.2.2.1
              rw [hsa, HNN.out] at d5
              have HZ : Hid ((x.sats.getD k (0, 0)).1 = z.1) := Lib.hid (by rw [List.getD, hgs]; rfl)
              obtain ⟨u, hu⟩ : ∃ u, loadS x p.bk k = u := ⟨_, rfl⟩
              have HU := Lib.hid hu
              rw [hu] at r0
              clear hu hgs hb2 hsa
              by_cases hov : u > z.1
              · have dv : decide (u > z.1) = true := decide_eq_true hov
                have HE := Lib.hid (bool_no HB.out (fun h => by have := h.sat k (by rw [HNN.out]; exact hlt); rw [HU.out, HZ.out] at this; omega))
                go_wp2_with fail
                go_ret
                exact ⟨by rw [HE.out]; rfl, HXT.out.below⟩
              · have dv : decide (u > z.1) = false := decide_eq_false hov
                have HSN : Hid (∀ s, s < k + 1 → loadS x p.bk s ≤ (x.sats.getD s (0, 0)).1) := Lib.hid (fun s hs => by
                  by_cases e : s = k
                  · subst e; rw [HU.out, HZ.out]; omega
                  · exact HS.out s (by omega))
                go_wp2_with fail
                go_roundw
                case rel => exact ⟨k + 1, by go_num, by omega, HSN, HXT, HRT⟩
                case measure => simp [intOf]; omega
            · obtain rfl : k = N := by omega
              have HE : Hid (b = true) := Lib.hid (HB.out.2 ⟨HTR.out, HBR.out, fun s hs => HS.out s (by rw [HNN.out] at hs; exact hs)⟩)
              go_wp2_with fail
              go_ret
              exact ⟨by rw [HE.out]; rfl, HXT.out.below⟩
end Go.Proofs.Ytmnbpnjakbihdaa

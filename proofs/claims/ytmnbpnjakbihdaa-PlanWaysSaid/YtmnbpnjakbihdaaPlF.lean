/- Package plan: what trucks leave; who is served. -/
import Derived.Test.YtmnbpnjakbihdaaPlL
namespace Go.Proofs.Ytmnbpnjakbihdaa
open Go.RowKit

variable {w wr w2 : World} {A : InA} {x : Ins} {B n g N : Nat} {a : Option Addr} {C : Array Value} {T : TypeId} {f f2 : Nat → Int}
theorem leftT_next {t : List (Int × Int)} {k s : Nat} {z : Int × Int} (h : t[k]? = some z) : leftT (t.take (k + 1)) s = leftT (t.take k) s + if z.1 = (s : Int) then z.2 else 0 := sumF_next h
theorem leftS_next {l : List (List (Int × Int))} {k s : Nat} {t : List (Int × Int)} (h : l[k]? = some t) : leftS (l.take (k + 1)) s = leftS (l.take k) s + leftT t s := sumF_next h
theorem leftT_in {t : List (Int × Int)} (h : ∀ s ∈ t, 1 ≤ s.2 ∧ s.2 ≤ 1000000000) {k : Nat} (hk : k ≤ 1000) (s : Nat) : 0 ≤ leftT (t.take k) s ∧ leftT (t.take k) s ≤ 1000000000000 := by
  have := sumF_take_in (f := fun z : Int × Int => if z.1 = (s : Int) then z.2 else 0) (M := 1000000000) (l := t) (k := k) (fun c hc => by
    have := h c hc
    by_cases e : c.1 = (s : Int) <;> simp only [e, if_true, if_false] <;> omega) (by omega) hk
  unfold leftT
  omega
theorem leftT_all {t : List (Int × Int)} (h : ∀ s ∈ t, 1 ≤ s.2 ∧ s.2 ≤ 1000000000) (hl : t.length ≤ 1000) (s : Nat) : 0 ≤ leftT t s ∧ leftT t s ≤ 1000000000000 := by
  have := leftT_in h (Nat.le_refl 1000) s
  rwa [List.take_of_length_le hl] at this
theorem leftS_in {l : List (List (Int × Int))} {ns : Nat} (h : TGo ns l) (hns : ns ≤ 12) {k : Nat} (hk : k ≤ 1000) (s : Nat) : 0 ≤ leftS (l.take k) s ∧ leftS (l.take k) s ≤ 1000000000000000 := by
  have := sumF_take_in (f := fun t => leftT t s) (M := 1000000000000) (l := l) (k := k) (fun c hc => by
    obtain ⟨j, hj⟩ := List.getElem?_of_mem hc
    have hg := h j c hj
    exact leftT_all (goT_in hg) (by have := goT_le hg; omega) s) (by omega) hk
  unfold leftS
  omega
set_option maxHeartbeats 4000000 in
set_option maxRecDepth 100000 in
theorem left_any (A : InA) (x : Ins) (P : PlA) (p : Pl) (w : World) (hp : IsPl w.heap.size w P p) (hm : May x) (ht : TGo x.sats.length p.tr) (hn : p.tr.length ≤ 60) :
    Calls Try.prog 41 #[.agg (plC P p), .agg (insC A x)] w fun e w' => ∃ g, e = .returned (.slice (some ⟨g, 0, none⟩) x.sats.length x.sats.length) ∧ w.heap.size ≤ g ∧ MRow w' g x.sats.length (leftS p.tr) ∧ Below w.heap.size w w' := by
  have HQ := Lib.hid (CBox.make (Below.refl _ w) (plC P p) 42)
  have HX0 := Lib.hid (CBox.make HQ.out.below (insC A x) 37)
  have HQ0 := Lib.hid (HQ.out.alloc (.cells (insC A x) 37))
  clear HQ
  have HP := Lib.hid hp.tr
  have HT := Lib.hid ht
  have hns := hm.ns
  obtain ⟨N, hN⟩ : ∃ N, x.sats.length = N := ⟨_, rfl⟩
  obtain ⟨n, hnn⟩ : ∃ n, p.tr.length = n := ⟨_, rfl⟩
  have HNN := Lib.hid hN
  have HN2 := Lib.hid hnn
  unfold plC at *
  rw [hN] at hns HT ⊢
  rw [hnn] at HX0 HQ0 HP hn ⊢
  have hmk := run_make_row' (P := Try.prog) 60 2 (.int .i64 0) 8 Try.underlying60 infoLongPl rfl .i64 .i64 N (by omega) (by omega)
  have hsz : (w.alloc (.cells #[.slice P.ta n P.tc, .slice P.ba p.bk.length P.bc] 42)).heap.size = w.heap.size + 1 := by simp
  rw [hsz] at HX0
  have c5 := (CBox.inst (A := A) (x := x) HX0.out).2.2.2.2.2.1
  rw [hN] at c5
  obtain ⟨c0, c1⟩ := HQ0.out.cell2
  clear hp hm ht hnn hsz
  obtain ⟨W0, hW0⟩ : ∃ W0, ((w.alloc (.cells #[.slice P.ta n P.tc, .slice P.ba p.bk.length P.bc] 42)).alloc (.cells (insC A x) 37)) = W0 := ⟨_, rfl⟩
  have hz0 : W0.heap.size = w.heap.size + 2 := by rw [← hW0]; simp
  have HBL : Hid (Below w.heap.size w (W0.alloc (.cells (madeCells #[Value.int .i64 0] N) 2))) := Lib.hid (by rw [← hW0]; exact (HX0.out.alloc _).below)
  have HR1 : Hid (MRow (W0.alloc (.cells (madeCells #[Value.int .i64 0] N) 2)) (w.heap.size + 2) N (fun s => leftS (p.tr.take 0) s)) := Lib.hid (by
    have := World.rowIs_made W0 (.int .i64 0) N 2
    rw [hz0] at this
    exact World.rowIs.congr this (fun i _ => by rw [List.take_zero]; rfl))
  have q5 : (W0.alloc (.cells (madeCells #[Value.int .i64 0] N) 2)).cell? ⟨w.heap.size, 0, none⟩ = some (.slice P.ta n P.tc) := by rw [← hW0]; exact (HQ0.out.alloc _).cell2.1
  rw [hW0] at c0 c1 c5
  unfold insC at *
  go_enter Try.func41, Try.ntmps41
  go_upto_region 1 with fail
  rw [HNN.out] at hW0
  rw [hW0]
  clear hW0 HX0 HQ0 hN
  go_wp2_with fail
  clear c0 c1 c5 q5 hz0
  obtain ⟨W1, hW1⟩ : ∃ W1, W0.alloc (.cells (madeCells #[Value.int .i64 0] N) 2) = W1 := ⟨_, rfl⟩
  rw [hW1] at HBL HR1 ⊢
  clear hW1
  go_loopw [17] (fun iv wr => ∃ i : Nat, iv = .int .i64 (i : Int) ∧ i ≤ n ∧ Hid (Below w.heap.size w wr) ∧ Hid (MRow wr (w.heap.size + 2) N (fun s => leftS (p.tr.take i) s))) (fun iv _ => n - (intOf iv).toNat)
  case atStart => exact ⟨0, rfl, Nat.zero_le _, HBL, HR1⟩
  case round =>
    obtain ⟨i, rfl, hi, HBR, HRR⟩ := hrel
    clear HBL HR1
    by_cases hlt : i < n
    · obtain ⟨tb, to_, t, ra, rc, hta, htb, hg, htl, q0, hpr⟩ := HP.out.at_ hlt
      have q0 := (HBR.out.cell (p := ⟨tb, to_ + i, none⟩) htb).trans q0
      have HPR := Lib.hid hpr
      have hgo := HT.out i t hg
      have HGO := Lib.hid hgo
      have htle := goT_le hgo
      have HLN : Hid (∀ s : Nat, leftS (p.tr.take (i + 1)) s = leftS (p.tr.take i) s + leftT t s) := Lib.hid (fun s => leftS_next hg)
      have HSI : Hid (∀ s : Nat, 0 ≤ leftS (p.tr.take i) s ∧ leftS (p.tr.take i) s ≤ 1000000000000000) := Lib.hid (fun s => leftS_in HT.out (by omega) (by omega) s)
      rw [hta]
      obtain ⟨m, hmm⟩ : ∃ m, t.length = m := ⟨_, rfl⟩
      have HMM := Lib.hid hmm
      rw [hmm] at q0 htl HPR htle
      have HB2 : Hid (Below w.heap.size w (wr.alloc (.cells #[.slice ra m rc] 58))) := Lib.hid (HBR.out.alloc HBR.out.size _)
      have HR2 : Hid (MRow (wr.alloc (.cells #[.slice ra m rc] 58)) (w.heap.size + 2) N (fun s => leftS (p.tr.take i) s + leftT (t.take 0) s)) := Lib.hid ((HRR.out.later ((Below.refl wr.heap.size wr).alloc (Nat.le_refl _) _)).congr (fun s _ => by rw [List.take_zero]; unfold leftT; rw [sumF_nil]; omega))
      clear hg hpr hta htb hgo hmm
      go_wp2_with fail
      clear q0
      go_loopw [24] (fun iv wr => ∃ j : Nat, iv = .int .i64 (j : Int) ∧ j ≤ m ∧ Hid (Below w.heap.size w wr) ∧ Hid (MRow wr (w.heap.size + 2) N (fun s => leftS (p.tr.take i) s + leftT (t.take j) s))) (fun iv _ => m - (intOf iv).toNat)
      case atStart => exact ⟨0, rfl, Nat.zero_le _, HB2, HR2⟩
      case round =>
        obtain ⟨j, rfl, hj, HBS, HRS⟩ := hrel
        clear HB2 HR2 HRR HBR
        by_cases hjt : j < m
        · obtain ⟨b2, off, z, rfl, hb2, hgs, q0, q1⟩ := (HPR.out.later HBS.out).at_ hjt
          have hok := (HGO.out.2 j z hgs)
          have hzb := hok.2.2
          obtain ⟨ha1, ha2⟩ := amB_true.1 hok.1
          have HTN : Hid (∀ s : Nat, leftT (t.take (j + 1)) s = leftT (t.take j) s + if z.1 = (s : Int) then z.2 else 0) := Lib.hid (fun s => leftT_next hgs)
          obtain ⟨z1, z2⟩ := z
          obtain ⟨s, rfl⟩ : ∃ s : Nat, z1 = (s : Int) := ⟨z1.toNat, by simp only at ha1; omega⟩
          simp only at ha1 ha2 hzb q0 q1 HTN
          have hsN : s < N := by omega
          have h1 := HSI.out s
          have h2 := leftT_in (goT_in HGO.out) (show j ≤ 1000 by omega) s
          have HB3 : Hid (Below w.heap.size w (wr.alloc (.cells #[.int .i64 (s : Int), .int .i64 z2] 63))) := Lib.hid (HBS.out.alloc HBS.out.size _)
          have HR3 := Lib.hid (HRS.out.later ((Below.refl wr.heap.size wr).alloc (Nat.le_refl _) (.cells #[.int .i64 (s : Int), .int .i64 z2] 63)))
          obtain ⟨v, hv⟩ : ∃ v, leftS (p.tr.take i) s + leftT (t.take j) s = v := ⟨_, rfl⟩
          have HV := Lib.hid hv
          have hgt := HRS.out.lt
          have w1 : IntKind.i64.wrap (v + z2) = v + z2 := by rw [IntKind.wrap_i64]; omega
          clear hgs hb2 hok h1 h2
          go_upto_region 8 with fail
          obtain ⟨gs, hgs⟩ : ∃ gs, wr.heap.size = gs := ⟨_, rfl⟩
          have r0 := World.rowIs.cell HR3.out hsN
          have rf := World.rowIs.frozen HR3.out s
          dsimp only at r0
          rw [hv] at r0
          have HBX : Hid ((wr.alloc (.cells #[.int .i64 (s : Int), .int .i64 z2] 63)).heap[gs]? = some (.cells #[.int .i64 (s : Int), .int .i64 z2] 63 (0, 0))) := Lib.hid (by rw [← hgs]; exact heap_alloc_new _ _)
          obtain ⟨k0, k1⟩ := cells2r HBX.out
          obtain ⟨W2, hW2⟩ : ∃ W2, wr.alloc (.cells #[.int .i64 (s : Int), .int .i64 z2] 63) = W2 := ⟨_, rfl⟩
          rw [hW2] at HB3 HR3 r0 rf k0 k1
          rw [hW2, hgs]
          rw [hgs] at hgt
          have HB4 : Hid (Below w.heap.size w (W2.setCell ⟨w.heap.size + 2, s, none⟩ (.int .i64 (v + z2)))) := Lib.hid (HB3.out.setCell (by show w.heap.size ≤ w.heap.size + 2; omega) _)
          have HR4 : Hid (MRow (W2.setCell ⟨w.heap.size + 2, s, none⟩ (.int .i64 (v + z2))) (w.heap.size + 2) N (fun s => leftS (p.tr.take i) s + leftT (t.take (j + 1)) s)) := Lib.hid ((HR3.out.set_ s (v + z2)).congr (fun q hq => by
            rw [HTN.out q]
            by_cases e : q = s
            · subst e
              simp only [if_true]
              have := HV.out
              omega
            · simp only [e, if_false]
              rw [if_neg (by omega)]
              omega))
          clear hW2 hgs q0 q1 hv HBX
          go_region
          go_wp2_with fail
          go_roundw
          case rel => exact ⟨j + 1, by go_num, by omega, Lib.hid (HB4.out.drew), Lib.hid (HR4.out.later (Below.refl _ _).drew)⟩
          case measure => simp [intOf]; omega
        · obtain rfl : j = m := by omega
          have HRN : Hid (MRow wr (w.heap.size + 2) N (fun s => leftS (p.tr.take (i + 1)) s)) := Lib.hid (HRS.out.congr (fun s _ => by rw [HLN.out s, List.take_of_length_le (l := t) (by rw [HMM.out]; exact Nat.le_refl _)]))
          go_wp2_with fail
          go_roundw
          case rel => exact ⟨i + 1, by go_num, by omega, HBS, HRN⟩
          case measure => simp [intOf]; omega
    · obtain rfl : i = n := by omega
      have HE : Hid (p.tr.take i = p.tr) := Lib.hid (List.take_of_length_le (by rw [HN2.out]; exact Nat.le_refl _))
      go_wp2_with fail
      go_ret
      exact ⟨w.heap.size + 2, rfl, by omega, by have := HRR.out; rwa [HE.out] at this, HBR.out⟩
theorem of_or (l m : List Int) : ofN l ||| ofN m = ofN (l ++ m) := by
  refine bits_ext (or_lt (ofN_lt l) (ofN_lt m)) (ofN_lt _) (fun i hi => ?_)
  rw [Nat.testBit_or, ofN_bit _ _ hi, ofN_bit _ _ hi, ofN_bit _ _ hi]
  simp [inB]
theorem IsNums.row {l : List Int} (h : IsNums B w a n l) : Row w a l := by
  obtain ⟨h1, h2⟩ := h
  rcases h2 with h2 | ⟨b, off, e, _, h3⟩
  · exact .inl (by omega)
  · exact .inr ⟨b, off, e, fun j hj => h3 j _ (by rw [List.getD, List.getElem?_eq_getElem hj]; rfl)⟩
set_option maxHeartbeats 4000000 in
theorem served_any (ba : Option Addr) (bc len : Nat) (l : List (Int × List Int)) (w : World) (hp : IsBikes w.heap.size w ba len l) (hn : len ≤ 9223372036854775807) :
    Calls Try.prog 38 #[.slice ba len bc] w fun e w' => e = .returned (.int .u64 (ofN (flatB l) : Nat)) ∧ Below w.heap.size w w' := by
  have HP := Lib.hid hp
  have HB0 : Hid (Below w.heap.size w w) := Lib.hid (Below.refl _ w)
  clear hp
  go_enter Try.func38, Try.ntmps38
  go_wp2_with fail
  go_loopw [3, 8] (fun cv iv wr => ∃ i : Nat, ∃ z : Nat, iv = .int .i64 (i : Int) ∧ cv = .int .u64 (z : Int) ∧ i ≤ len ∧ Hid (ofN (flatB (l.take i)) = z) ∧ Hid (Below w.heap.size w wr)) (fun _ iv _ => len - (intOf iv).toNat)
  case atStart => exact ⟨0, 0, rfl, rfl, Nat.zero_le _, Lib.hid rfl, HB0⟩
  case round =>
    obtain ⟨i, z, rfl, rfl, hi, HZ, HBR⟩ := hrel
    clear HB0
    by_cases hlt : i < len
    · obtain ⟨tb, to_, t, ra, rc, hta, htb, hg, htl, q0, q1, hpr⟩ := HP.out.at_ hlt
      have q0 := (HBR.out.cell (p := ⟨tb, to_ + i * 2, none⟩) htb).trans q0
      have q1 := (HBR.out.cell (p := ⟨tb, to_ + i * 2 + 1, none⟩) htb).trans q1
      have HB2 : Hid (Below w.heap.size w (wr.alloc (.cells #[.int .i64 t.1, .slice ra t.2.length rc] 55))) := Lib.hid (HBR.out.alloc HBR.out.size _)
      have HOF := Lib.hid (of_any ra t.2.length rc t.2 (wr.alloc (.cells #[.int .i64 t.1, .slice ra t.2.length rc] 55)) rfl htl (hpr.later HB2.out).row)
      have HL : Hid (z < 18446744073709551616) := Lib.hid (by rw [← HZ.out]; exact ofN_lt _)
      have HL2 := Lib.hid (ofN_lt t.2)
      have HZN : Hid (ofN (flatB (l.take (i + 1))) = z ||| ofN t.2) := Lib.hid (by rw [flatB_next hg, ← of_or, HZ.out])
      obtain ⟨z2, hz2⟩ : ∃ z2, ofN t.2 = z2 := ⟨_, rfl⟩
      rw [hz2] at HOF HL2 HZN
      obtain ⟨m, hmm⟩ : ∃ m, t.2.length = m := ⟨_, rfl⟩
      rw [hmm] at q1 HB2 HOF
      rw [hta]
      clear hta htb hg hpr hz2 hmm
      go_wp2_with (first
        | (go_at_call 65; refine HOF.out.mono ?_; rintro e w5 ⟨rfl, rfl⟩)
        | (go_at_call 64; refine (or_any _ _ HL.out HL2.out _).mono ?_; rintro e w6 ⟨rfl, rfl⟩))
      go_roundw
      case rel => exact ⟨i + 1, z ||| z2, by go_num, rfl, by omega, HZN, HB2⟩
      case measure => simp [intOf]; omega
    · obtain rfl : i = len := by omega
      have HE : Hid (ofN (flatB l) = z) := Lib.hid (by rw [← HZ.out, List.take_of_length_le (by rw [HP.out.1]; exact Nat.le_refl _)])
      go_wp2_with fail
      go_ret
      exact ⟨by rw [HE.out]; rfl, HBR.out⟩
end Go.Proofs.Ytmnbpnjakbihdaa

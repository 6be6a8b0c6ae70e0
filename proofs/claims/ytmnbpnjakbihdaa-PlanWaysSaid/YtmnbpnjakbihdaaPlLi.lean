/- Layer 17's law: Light. -/
import Derived.Test.YtmnbpnjakbihdaaPlAw
namespace Go.Proofs.Ytmnbpnjakbihdaa
open Go.RowKit

variable {w wr w2 : World} {B n g N k : Nat} {P : PlA} {p : Pl}
/-- How much there is, as it wraps. -/
def lgT (s : Int) (l : List (List (Int × Int))) : Int := l.foldl (fun s t => IntKind.i64.wrap (s + (t.length : Int))) s
def lgB (s : Int) (l : List (Int × List Int)) : Int := l.foldl (fun s b => IntKind.i64.wrap (s + (b.2.length : Int))) s
def lightP (p : Pl) : Bool := decide (lgB (lgT (IntKind.i64.wrap ((p.tr.length : Int) + (p.bk.length : Int))) p.tr) p.bk ≤ 200)
theorem lgT_next {s : Int} {l : List (List (Int × Int))} {t : List (Int × Int)} (h : l[k]? = some t) : lgT s (l.take (k + 1)) = IntKind.i64.wrap (lgT s (l.take k) + (t.length : Int)) := by
  unfold lgT
  rw [List.take_add_one, h, List.foldl_append]; rfl
theorem lgB_next {s : Int} {l : List (Int × List Int)} {t : Int × List Int} (h : l[k]? = some t) : lgB s (l.take (k + 1)) = IntKind.i64.wrap (lgB s (l.take k) + (t.2.length : Int)) := by
  unfold lgB
  rw [List.take_add_one, h, List.foldl_append]; rfl
set_option maxHeartbeats 4000000 in
theorem plight_any (P : PlA) (p : Pl) (w : World) (hp : IsPl w.heap.size w P p) (b : Bool) (hb : lightP p = b) :
    Calls Try.prog 17 #[.agg (plC P p)] w fun e w' => e = .returned (.bool b) ∧ Below w.heap.size w w' := by
  have HQ0 := Lib.hid (CBox.make (Below.refl _ w) (plC P p) 42)
  have HP := Lib.hid hp
  have HB := Lib.hid hb
  have hl1 := hp.lt
  have hl2 := hp.lb
  obtain ⟨n, hnn⟩ : ∃ n, p.tr.length = n := ⟨_, rfl⟩
  obtain ⟨n2, hnn2⟩ : ∃ n, p.bk.length = n := ⟨_, rfl⟩
  have HN := Lib.hid hnn
  have HN2 := Lib.hid hnn2
  unfold plC at *
  rw [hnn, hnn2] at HQ0 ⊢
  rw [hnn] at hl1
  rw [hnn2] at hl2
  obtain ⟨c0, c1⟩ := HQ0.out.cell2
  obtain ⟨s0, hs0⟩ : ∃ s, IntKind.i64.wrap ((n : Int) + (n2 : Int)) = s := ⟨_, rfl⟩
  have HS0 := Lib.hid hs0
  clear hp hb hnn hnn2
  go_enter Try.func17, Try.ntmps17
  go_wp2_with fail
  clear c0 c1 hs0
  go_loopw [3, 18] (fun mv iv wr => ∃ i : Nat, ∃ u : Int, iv = .int .i64 (i : Int) ∧ mv = .int .i64 u ∧ i ≤ n ∧ Hid (lgT s0 (p.tr.take i) = u) ∧ Hid (CBox w wr w.heap.size #[.slice P.ta n P.tc, .slice P.ba n2 P.bc] 42)) (fun _ iv _ => n - (intOf iv).toNat)
  case atStart => exact ⟨0, s0, rfl, rfl, Nat.zero_le _, Lib.hid rfl, HQ0⟩
  case round =>
    obtain ⟨i, u, rfl, rfl, hi, HU, HQR⟩ := hrel
    clear HQ0
    by_cases hlt : i < n
    · obtain ⟨tb, to_, t, ra, rc, hta, htb, hg, htl, q0, hpr⟩ := HP.out.tr.at_ (by rw [HN.out]; exact hlt)
      have q0 := (HQR.out.below.cell (p := ⟨tb, to_ + i, none⟩) htb).trans q0
      have HSN : Hid (lgT s0 (p.tr.take (i + 1)) = IntKind.i64.wrap (u + (t.length : Int))) := Lib.hid (by rw [lgT_next hg, HU.out])
      have HQ2 := Lib.hid (HQR.out.alloc (.cells #[.slice ra t.length rc] 58))
      obtain ⟨m, hm⟩ : ∃ m, t.length = m := ⟨_, rfl⟩
      rw [hm] at q0 HSN HQ2 htl
      rw [hta] at HQ2 ⊢
      obtain ⟨v, hv⟩ : ∃ v, IntKind.i64.wrap (u + (m : Int)) = v := ⟨_, rfl⟩
      rw [hv] at HSN
      clear hta htb hg hpr hm
      go_wp2_with fail
      go_roundw
      case rel => exact ⟨i + 1, v, by go_num, rfl, by omega, HSN, HQ2⟩
      case measure => simp [intOf]; omega
    · obtain rfl : n = i := by omega
      have HTT : Hid (lgT s0 p.tr = u) := Lib.hid (by rw [← HU.out, List.take_of_length_le (by rw [HN.out]; exact Nat.le_refl _)])
      have c1 := HQR.out.cell2.2
      clear HU
      go_wp2_with fail
      clear c1
      go_loopw [3, 31] (fun mv iv wr => ∃ i : Nat, ∃ u2 : Int, iv = .int .i64 (i : Int) ∧ mv = .int .i64 u2 ∧ i ≤ n2 ∧ Hid (lgB u (p.bk.take i) = u2) ∧ Hid (CBox w wr w.heap.size #[.slice P.ta n P.tc, .slice P.ba n2 P.bc] 42)) (fun _ iv _ => n2 - (intOf iv).toNat)
      case atStart => exact ⟨0, u, rfl, rfl, Nat.zero_le _, Lib.hid rfl, HQR⟩
      case round =>
        obtain ⟨i, u2, rfl, rfl, hi, HU2, HQS⟩ := hrel
        clear HQR
        by_cases hlt : i < n2
        · obtain ⟨tb, to_, t, ra, rc, hta, htb, hg, htl, q0, q1, hpr⟩ := HP.out.bk.at_ (by rw [HN2.out]; exact hlt)
          have q0 := (HQS.out.below.cell (p := ⟨tb, to_ + i * 2, none⟩) htb).trans q0
          have q1 := (HQS.out.below.cell (p := ⟨tb, to_ + i * 2 + 1, none⟩) htb).trans q1
          have HSN : Hid (lgB u (p.bk.take (i + 1)) = IntKind.i64.wrap (u2 + (t.2.length : Int))) := Lib.hid (by rw [lgB_next hg, HU2.out])
          have HQ2 := Lib.hid (HQS.out.alloc (.cells #[.int .i64 t.1, .slice ra t.2.length rc] 55))
          obtain ⟨m, hm⟩ : ∃ m, t.2.length = m := ⟨_, rfl⟩
          rw [hm] at q1 HSN HQ2 htl
          rw [hta] at HQ2 ⊢
          obtain ⟨v, hv⟩ : ∃ v, IntKind.i64.wrap (u2 + (m : Int)) = v := ⟨_, rfl⟩
          rw [hv] at HSN
          clear hta htb hg hpr hm
          go_wp2_with fail
          go_roundw
          case rel => exact ⟨i + 1, v, by go_num, rfl, by omega, HSN, HQ2⟩
          case measure => simp [intOf]; omega
        · obtain rfl : n2 = i := by omega
          have HE : Hid (decide (u2 ≤ 200) = b) := Lib.hid (by
            rw [← HB.out]
            unfold lightP
            rw [HN.out, HN2.out, HS0.out, HTT.out, ← HU2.out, List.take_of_length_le (l := p.bk) (by rw [HN2.out]; exact Nat.le_refl _)])
          have he := HE.out
          go_wp2_with fail
          go_ret
          exact ⟨by first | rfl | (rw [← HE.out]; rfl) | simp [HE.out], HQS.out.below⟩
end Go.Proofs.Ytmnbpnjakbihdaa

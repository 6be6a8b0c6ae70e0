/- A node lies higher from now on. -/
import Derived.Test.YtifhapmblofmkaaWk
import Derived.BigRegion
import Derived.RegionTactic
import Derived.Deep.QuietTactic
namespace Go.Proofs.Ytifhapmblofmkaa
open Go.RowKit

variable {w wr w2 w4 : World} {E : Env} {fl st : Nat → Int} {hi nx : Nat → Nat} {mn mn2 : Nat → Int} {fv : Nat → Value} {Q : Nat → List Nat} {top : Int}
theorem Wk.congrMany (h : Wk E fl st hi nx mn fv Q top wr) (e : ∀ g, g < 2 * E.N → mn g = mn2 g) : Wk E fl st hi nx mn2 fv Q top wr :=
  ⟨h.pipes, h.lanes, h.work, h.flow, h.stays, h.high, h.many.congr (fun g hg => by rw [e g hg]), h.next, h.full, h.rows, h.apart, h.ord, h.size⟩
theorem Wk.drew (h : Wk E fl st hi nx mn fv Q top wr) : Wk E fl st hi nx mn fv Q top wr.drew := h.later (Below.refl _ _).drew
set_option maxHeartbeats 2000000 in
set_option maxRecDepth 100000 in
theorem move_any (H : Wk E fl st hi nx (cnt E.N hi) fv Q top wr) (hN : E.N ≤ 1000) (u h : Nat) (hu : u < E.N) (h1 : hi u < 2 * E.N) (h2 : h < 2 * E.N) :
    Calls Try.prog 34 #[.pointer (some ⟨E.p, 0, none⟩), .int .i64 (u : Int), .int .i64 (h : Int)] wr fun e w' => e = .returned (.tuple #[]) ∧ Below E.C wr w' ∧ Wk E fl st (lifted hi u h) (lifted nx u 0) (cnt E.N (lifted hi u h)) fv Q top w' := by
  obtain ⟨k, hk⟩ : ∃ k, hi u = k := ⟨_, rfl⟩
  rw [hk] at h1
  obtain ⟨_, _, _, _, _, _, _, a7, a8, a9, _, _⟩ := H.cellW
  have r0 := H.high.cell hu
  rw [hk] at r0
  have r1 := H.many.cell h1
  have f1 := H.many.frozen k
  obtain ⟨q1, hq1⟩ := (show 0 ≤ cnt E.N hi k ∧ cnt E.N hi k ≤ (E.N : Int) from cnt_bound _ _ _)
  obtain ⟨c1, hc1⟩ : ∃ c, cnt E.N hi k = c := ⟨_, rfl⟩
  have e1 : IntKind.i64.wrap (c1 - 1) = c1 - 1 := by rw [IntKind.wrap_i64]; omega
  have HA1 := H.setMany k (c1 - 1)
  have HA := HA1.drew
  rw [hc1] at r1
  obtain ⟨_, _, _, _, _, _, _, x7, x8, x9, _, _⟩ := HA.cellW
  have r2 := HA.many.cell h2
  have f2 := HA.many.frozen h
  obtain ⟨c2, hc2⟩ : ∃ c, (if h = k then c1 - 1 else cnt E.N hi h) = c := ⟨_, rfl⟩
  rw [hc2] at r2
  have hb2 : -1 ≤ c2 ∧ c2 ≤ (E.N : Int) := by have := cnt_bound E.N hi h; split at hc2 <;> omega
  have e2 : IntKind.i64.wrap (c2 + 1) = c2 + 1 := by rw [IntKind.wrap_i64]; omega
  have HB1 := HA1.setMany h (c2 + 1)
  have HB := HB1.drew
  obtain ⟨_, _, _, _, _, _, _, y7, y8, y9, _, _⟩ := HB.cellW
  have f3 := HB.high.frozen u
  have r3 := HB.high.cell hu
  have HC1 := HB1.setHigh u (z := (h : Int)) (m := h) rfl
  have HC := HC1.drew
  obtain ⟨_, _, _, _, _, _, _, z7, z8, z9, _, _⟩ := HC.cellW
  have f4 := HC.next.frozen u
  have r4 := HC.next.cell hu
  have HD := Lib.hid ((HC1.setNext u (z := 0) (m := 0) rfl).drew.congrMany (mn2 := cnt E.N (lifted hi u h)) (fun g _ => by
    rw [cnt_lifted hu, hk]
    subst hc2
    by_cases e3 : g = h
    · subst e3
      by_cases e4 : g = k
      · subst e4; simp only [if_true]; omega
      · simp only [e4, if_false, if_true]
        rw [if_neg (fun e => e4 e.symm)]
        omega
    · by_cases e4 : g = k
      · subst e4; simp only [e3, if_false, if_true]
        rw [if_neg (fun e => e3 e.symm)]
        omega
      · simp only [e3, e4, if_false]
        rw [if_neg (fun e => e4 e.symm), if_neg (fun e => e3 e.symm)]
        omega))
  have o := H.ord
  have HZ : Hid (Below E.C wr ((((wr.setCell ⟨E.mb, k, none⟩ (.int .i64 (c1 - 1))).setCell ⟨E.mb, h, none⟩ (.int .i64 (c2 + 1))).setCell ⟨E.hb, u, none⟩ (.int .i64 (h : Int))).setCell ⟨E.nb, u, none⟩ (.int .i64 0)).drew) := Lib.hid
    (((((Below.refl E.C wr).setCell (p := ⟨E.mb, k, none⟩) o.cm _).setCell (p := ⟨E.mb, h, none⟩) o.cm _).setCell (p := ⟨E.hb, u, none⟩) o.ch _).setCell (p := ⟨E.nb, u, none⟩) o.cn _).drew
  clear H HA HB HC HA1 HB1 HC1 hq1 q1 hc1 hc2 hb2 o hk
  go_enter Try.func34, Try.ntmps34
  go_wp2_with fail
  go_region
  go_wp2_with fail
  go_end0
  exact ⟨rfl, HZ.out, HD.out⟩
end Go.Proofs.Ytifhapmblofmkaa

/- The highest node that is full. -/
import Derived.Test.YtifhapmblofmkaaWSend
import Derived.Deep.LoopGhost
namespace Go.Proofs.Ytifhapmblofmkaa
open Go.RowKit

variable {w wr w2 w4 : World} {E : Env} {fl st st2 : Nat → Int} {hi nx hi2 nx2 : Nat → Nat} {mn mn2 : Nat → Int} {fv : Nat → Value} {Q : Nat → List Nat} {top m : Int} {N g c u v k : Nat} {a : La}
theorem node_cell {base : Nat} {q : List Nat} {D cap n : Nat} {val : Value} (h : w.ownsRow base 3 1 val n (nodeV q)) (hv : val = .slice (some ⟨D, 0, none⟩) n cap) {j : Nat} (hj : q[j]? = some u) : w.cell? ⟨D, j, none⟩ = some (.int .i64 (u : Int)) := by
  have := World.ownsRow.cells h (g := D) (by rw [hv]; rfl) j (.int .i64 (u : Int)) (by simp [nodeV, hj])
  simpa [Addr.add_lit] using this
set_option maxHeartbeats 4000000 in
set_option maxRecDepth 100000 in
theorem take_any (H : Wk E fl st hi nx mn fv Q top wr) (hn : E.Net) (hq : Que E st Q top E.N) :
    Calls Try.prog 21 #[.pointer (some ⟨E.p, 0, none⟩)] wr fun e w' => Below E.C wr w' ∧
      ((∃ u fv2 Q2 top2, e = .returned (.tuple #[.int .i64 ((u : Nat) : Int), .bool true]) ∧ Wk E fl st hi nx mn fv2 Q2 top2 w' ∧ Que E st Q2 top2 u ∧ u < E.N ∧ 0 < st u ∧ u ≠ E.s ∧ u ≠ E.t) ∨
       (∃ top2, e = .returned (.tuple #[.int .i64 0, .bool false]) ∧ Wk E fl st hi nx mn fv Q top2 w' ∧ ∀ i, i < E.N → i ≠ E.s → i ≠ E.t → st i ≤ 0)) := by
  obtain ⟨w0, hw0⟩ : ∃ w0, w0 = wr := ⟨_, rfl⟩
  rw [← hw0] at H ⊢
  clear hw0
  have hN := hn.nm
  have hlo := hq.lo
  have H0 := Lib.hid (And.intro (Below.refl E.C w0) H)
  have HQ0 := Lib.hid hq
  clear H hq hn
  go_enter Try.func21, Try.ntmps21
  go_wp2_with fail
  go_loopg [4] (top + 1).toNat (fun gn _ wr => ∃ top : Int, top + 1 = (gn : Int) ∧ Hid (Below E.C w0 wr ∧ Wk E fl st hi nx mn fv Q top wr) ∧ Hid (Que E st Q top E.N))
  case atStart => exact ⟨top, by omega, H0, HQ0⟩
  case round =>
    obtain ⟨tp, htp, HW, HQ⟩ := hrel
    clear H0 HQ0
    obtain ⟨_, _, _, _, _, _, _, _, _, _, x10, x11, xf⟩ := HW.out.2.cellW
    by_cases h0 : 0 ≤ tp
    · obtain ⟨k, rfl⟩ : ∃ k : Nat, tp = (k : Int) := ⟨tp.toNat, by omega⟩
      have hk : k < 2 * E.N := by have := HQ.out.hiT; omega
      have hki : (k : Int) < 2 * (E.N : Int) := by omega
      have r1 := HW.out.2.full.cell hk
      have rf := HW.out.2.full.frozen k
      rcases List.eq_nil_or_concat (Q k) with hqk | ⟨q, u, hqk⟩
      · obtain ⟨va, vc, hv⟩ := owns_shape (HW.out.2.rows k hk)
        rw [hqk] at hv
        simp only [List.length_nil] at hv
        rw [hv] at r1
        have e1 : IntKind.i64.wrap ((k : Int) - 1) = (k : Int) - 1 := by rw [IntKind.wrap_i64]; omega
        have HW2 := Lib.hid (HW.out.2.setTop ((k : Int) - 1))
        have HB2 := Lib.hid (HW.out.1.setCell (p := ⟨E.p, 11, none⟩) HW.out.2.ord.cp (.int .i64 ((k : Int) - 1)))
        have HQ2 := Lib.hid (HQ.out.down hqk rfl)
        clear hqk hv
        go_wp2_with fail
        go_quiet (fail)
        go_wp2_with fail
        go_roundg k
        case measure => omega
        case rel => exact ⟨(k : Int) - 1, by omega, Lib.hid ⟨below_drewN HB2.out _, HW2.out.later (below_drewN (Below.refl _ _) _)⟩, HQ2⟩
      · rw [List.concat_eq_append] at hqk
        obtain ⟨n, hn⟩ : ∃ n, q.length = n := ⟨_, rfl⟩
        have hrow := HW.out.2.rows k hk
        have hlen : (Q k).length = n + 1 := by rw [hqk, List.length_append, hn]; rfl
        rw [hlen] at hrow
        obtain ⟨D, cp, hv, hD, _, hcp, hcm⟩ := owns_some hrow (by omega)
        unfold maxLen at hcm
        have rc : wr.cell? ⟨D, n, none⟩ = some (.int .i64 (u : Int)) := node_cell hrow hv (by rw [hqk, ← hn]; simp)
        have hnm : n ≤ 1000 := by have := HQ.out.len hk; omega
        rw [hv] at r1
        have HT := Lib.hid (HQ.out.take hk hqk rfl)
        have e1 : IntKind.i64.wrap ((n : Int) + 1 - 1) = (n : Int) := by rw [IntKind.wrap_i64]; omega
        have HV := Lib.hid hv
        have HQK := Lib.hid hqk
        have HNN := Lib.hid hn
        have HRC := Lib.hid rc
        clear hqk hv hrow hlen hn
        go_wp2_with fail
        go_quiet (fail)
        have HWq := Lib.hid (And.intro (below_drewN HW.out.1 nq) (HW.out.2.later (below_drewN (Below.refl wr.heap.size wr) nq)))
        have HRq : Hid ((wr.drewN nq).cell? ⟨D, n, none⟩ = some (.int .i64 (u : Int))) := HRC
        obtain ⟨wq, hwq⟩ : ∃ wq, wr.drewN nq = wq := ⟨_, rfl⟩
        rw [hwq] at HWq HRq ⊢
        clear hwq x10 x11 xf r1 rf rc HW HRC
        obtain ⟨_, _, _, _, _, _, _, _, _, _, x10, x11, xf⟩ := HWq.out.2.cellW
        have r1 := HWq.out.2.full.cell hk
        rw [HV.out] at r1
        have rf := HWq.out.2.full.frozen k
        have HP := Lib.hid (HWq.out.2.popQ hk HV.out HQK.out HNN.out)
        have HB2 := Lib.hid (HWq.out.1.setCell (p := ⟨E.ub, k, none⟩) HWq.out.2.ord.cu (.slice (some ⟨D, 0, none⟩) n cp))
        have rc2 : (wq.setCell ⟨E.ub, k, none⟩ (.slice (some ⟨D, 0, none⟩) n cp)).cell? ⟨D, n, none⟩ = some (.int .i64 (u : Int)) := (World.cell?_of_block (heap_setCell_other _ _ _ _ (fun e => by have e2 : D = E.ub := e; have := HWq.out.2.ord.du; omega))).trans HRq.out
        go_wp2_with fail
        go_region
        go_wp2_with fail
        go_ret2
        exact ⟨HB2.out.drew, .inl ⟨u, _, _, _, rfl, HP.out.drew, HT.out.1, HT.out.2⟩⟩
    · have HE : Hid (∀ i, i < E.N → i ≠ E.s → i ≠ E.t → st i ≤ 0) := Lib.hid (fun i hi h1 h2 => by
        apply Classical.byContradiction
        intro h3
        obtain ⟨h, _, h4, _⟩ := HQ.out.all i hi h1 h2 (by omega) (by omega)
        omega)
      go_wp2_with fail
      go_ret2
      exact ⟨HW.out.1, .inr ⟨rfl, ⟨_, HW.out.2⟩, HE.out⟩⟩
end Go.Proofs.Ytifhapmblofmkaa

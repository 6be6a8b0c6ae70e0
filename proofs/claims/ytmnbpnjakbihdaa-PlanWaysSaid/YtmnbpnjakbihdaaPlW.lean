/- Package plan: what it costs to go round. -/
import Derived.Test.YtmnbpnjakbihdaaPlK
import Derived.BigQuiet
namespace Go.Proofs.Ytmnbpnjakbihdaa
open Go.RowKit

variable {w wr w2 : World} {A : InA} {x : Ins} {B n g N : Nat} {f : Nat → Int}
/-- What an arc costs. -/
def ctN (x : Ins) (a b : Nat) : Int := (x.cost.getD a []).getD b 0
def ctZ (x : Ins) (a b : Int) : Int := ctN x a.toNat b.toNat
theorem ctN_in (hm : May x) {a b : Nat} (ha : a < x.nodes) (hb : b < x.nodes) : 0 ≤ ctN x a b ∧ ctN x a b ≤ 1000000000 := by
  have h1 : a < x.cost.length := by rw [hm.lc]; exact ha
  obtain ⟨h2, h3⟩ := hm.cost a _ (List.getElem?_eq_getElem h1)
  have h4 : b < x.cost[a].length := by rw [h2]; exact hb
  have h5 := h3 b _ (List.getElem?_eq_getElem h4)
  unfold ctN
  rw [show x.cost.getD a [] = x.cost[a] by simp [List.getD, List.getElem?_eq_getElem h1], show x.cost[a].getD b 0 = x.cost[a][b] by simp [List.getD, List.getElem?_eq_getElem h4]]
  simp [elB, inB_] at h5
  omega
theorem cost_cell (hx : IsIns B w A x) (hm : May x) {a b : Nat} (ha : a < x.nodes) (hb : b < x.nodes) : ∃ kb ko rb ro rc, A.ka = some ⟨kb, ko, none⟩ ∧ w.cell? ⟨kb, ko + a, none⟩ = some (.slice (some ⟨rb, ro, none⟩) x.nodes rc) ∧ w.cell? ⟨rb, ro + b, none⟩ = some (.int .i64 (ctN x a b)) := by
  have h1 : a < x.cost.length := by rw [hm.lc]; exact ha
  obtain ⟨kb, ko, r, ra, rc, e1, _, hr, _, hc, hn⟩ := hx.cost.at_ h1
  have hrl := (hm.cost a r hr).1
  obtain ⟨rb, ro, v, e2, hv, hcv⟩ := hn.at_ (show b < r.length by rw [hrl]; exact hb)
  refine ⟨kb, ko, rb, ro, rc, e1, ?_, ?_⟩
  · rw [hc, e2, hrl]
  · rw [hcv]
    unfold ctN
    rw [show x.cost.getD a [] = r by simp [List.getD, hr], show r.getD b 0 = v by simp [List.getD, hv]]
/-- From each to the next, the last one to the first. -/
def stepW (x : Ins) (l : List Int) (i : Nat) : Int := ctZ x (l.getD i 0) (l.getD ((i + 1) % l.length) 0)
def wayS (x : Ins) (l : List Int) : Int := sumF (stepW x l) (List.range l.length)
theorem node_of {l : List Int} {N : Nat} (h : ∀ c ∈ l, amB c N = true) {k : Nat} (hk : k < l.length) : ∃ a : Nat, a < N ∧ l[k]? = some (a : Int) ∧ l.getD k 0 = (a : Int) := by
  have hg := List.getElem?_eq_getElem hk
  obtain ⟨h1, h2⟩ := amB_true.1 (h _ (List.getElem_mem hk))
  refine ⟨l[k].toNat, by omega, ?_, ?_⟩
  · rw [hg]; congr 1; omega
  · simp [List.getD, hg]; omega
theorem stepW_in (hm : May x) {l : List Int} (h : ∀ c ∈ l, amB c x.nodes = true) {i : Nat} (hi : i < l.length) : 0 ≤ stepW x l i ∧ stepW x l i ≤ 1000000000 := by
  obtain ⟨a, ha, _, ea⟩ := node_of h hi
  obtain ⟨b, hb, _, eb⟩ := node_of h (Nat.mod_lt (i + 1) (show l.length > 0 by omega))
  unfold stepW ctZ
  rw [ea, eb]
  exact ctN_in hm (by omega) (by omega)
theorem wayS_in (hm : May x) {l : List Int} (h : ∀ c ∈ l, amB c x.nodes = true) (hl : l.length ≤ 1000) : 0 ≤ wayS x l ∧ wayS x l ≤ 1000000000000 := by
  have := sumF_in (f := stepW x l) (M := 1000000000) (l := List.range l.length) (fun c hc => stepW_in hm h (List.mem_range.1 hc))
  rw [List.length_range] at this
  unfold wayS
  omega
set_option maxHeartbeats 4000000 in
set_option maxRecDepth 100000 in
theorem way_any (A : InA) (x : Ins) (ra : Option Addr) (n rc : Nat) (l : List Int) (w : World) (hx : IsIns w.heap.size w A x) (hm : May x) (hl : IsNums w.heap.size w ra n l) (hn : n ≤ 1000) (hin : ∀ c ∈ l, amB c x.nodes = true) :
    Calls Try.prog 35 #[.agg (insC A x), .slice ra n rc] w fun e w' => e = .returned (.int .i64 (wayS x l)) ∧ Below w.heap.size w w' := by
  have HX0 := Lib.hid (CBox.make (Below.refl _ w) (insC A x) 37)
  have HI := Lib.hid hx
  have HM := Lib.hid hm
  have HL := Lib.hid hl
  have HIN := Lib.hid hin
  have hln := hl.1
  have HLN := Lib.hid hln
  have hnd := nodes_61 hm
  obtain ⟨N, hNN⟩ : ∃ N, x.nodes = N := ⟨_, rfl⟩
  have HNN := Lib.hid hNN
  have HLC : Hid (x.cost.length = N) := Lib.hid (by rw [← hNN]; exact hm.lc)
  rw [hNN] at hnd HIN
  have HB0 : Hid (∀ k, k ≤ n → 0 ≤ sumF (stepW x l) (List.range k) ∧ sumF (stepW x l) (List.range k) ≤ 1000000000000) := Lib.hid (fun k hk => by
    have := sumF_in (f := stepW x l) (M := 1000000000) (l := List.range k) (fun c hc => stepW_in hm hin (by have := List.mem_range.1 hc; omega))
    rw [List.length_range] at this
    omega)
  clear hx hm hl hin hln hNN
  unfold insC at *
  go_enter Try.func35, Try.ntmps35
  go_wp2_with fail
  go_loopw [5, 10] (fun mv iv wr => ∃ i : Nat, ∃ u : Int, iv = .int .i64 (i : Int) ∧ mv = .int .i64 u ∧ i ≤ n ∧ Hid (sumF (stepW x l) (List.range i) = u) ∧ Hid (CBox w wr w.heap.size (insC A x) 37)) (fun _ iv _ => n - (intOf iv).toNat)
  case atStart => exact ⟨0, 0, rfl, rfl, Nat.zero_le _, Lib.hid rfl, HX0⟩
  case round =>
    obtain ⟨i, u, rfl, rfl, hi, HU, HXR⟩ := hrel
    clear HX0
    by_cases hlt : i < n
    · have hub := HB0.out i hi
      rw [HU.out] at hub
      obtain ⟨j, hj⟩ : ∃ j, (i + 1) % n = j := ⟨_, rfl⟩
      have hjn : j < n := by rw [← hj]; exact Nat.mod_lt _ (by omega)
      have hji : ((i : Int) + 1) % (n : Int) = (j : Int) := by rw [← hj]; exact_mod_cast (Int.natCast_emod (i + 1) n).symm
      obtain ⟨a, ha, ga, ea⟩ := node_of HIN.out (show i < l.length by rw [HLN.out]; exact hlt)
      obtain ⟨b, hb, gb, eb⟩ := node_of HIN.out (show j < l.length by rw [HLN.out]; exact hjn)
      obtain ⟨lb, lo, c1, hra, hc1, q0⟩ := (HL.out.later HXR.out.below).at_ hlt
      obtain ⟨lb2, lo2, c2, hra2, hc2, q1⟩ := (HL.out.later HXR.out.below).at_ hjn
      rw [hra] at hra2
      injection hra2 with hra2
      injection hra2 with e1 e2
      subst e1 e2
      rw [ga] at hc1
      injection hc1 with hc1
      subst hc1
      rw [gb] at hc2
      injection hc2 with hc2
      subst hc2
      obtain ⟨kb, ko, rb, ro, rc2, hka, k0, k1⟩ := cost_cell (HI.out.later HXR.out.below) HM.out (a := a) (b := b) (by rw [HNN.out]; exact ha) (by rw [HNN.out]; exact hb)
      rw [HNN.out] at k0
      have hvb := ctN_in HM.out (a := a) (b := b) (by rw [HNN.out]; exact ha) (by rw [HNN.out]; exact hb)
      have HSN : Hid (sumF (stepW x l) (List.range (i + 1)) = u + ctN x a b) := Lib.hid (by
        rw [List.range_succ, sumF_snoc, HU.out]
        unfold stepW ctZ
        rw [ea, HLN.out, hj, eb]
        simp)
      obtain ⟨v, hv⟩ : ∃ v, ctN x a b = v := ⟨_, rfl⟩
      rw [hv] at k1 hvb HSN
      have d7 := (CBox.inst (A := A) (x := x) HXR.out).2.2.2.2.2.2.2.1
      rw [hka, HLC.out] at d7
      rw [hra]
      have w1 : IntKind.i64.wrap (u + v) = u + v := by rw [IntKind.wrap_i64]; omega
      clear ea eb ga gb hj hv hra hka
      go_upto_region 5 with fail
      go_quiet (fail)
      go_wp2_with fail
      go_roundw
      case rel => exact ⟨i + 1, u + v, by go_num, rfl, by omega, HSN, Lib.hid (HXR.out.later (below_drewN (Below.refl _ _) _))⟩
      case measure => simp [intOf]; omega
    · obtain rfl : n = i := by omega
      have HE : Hid (wayS x l = u) := Lib.hid (by unfold wayS; rw [HLN.out, HU.out])
      go_wp2_with fail
      go_ret
      exact ⟨by rw [HE.out]; rfl, HXR.out.below⟩
end Go.Proofs.Ytmnbpnjakbihdaa

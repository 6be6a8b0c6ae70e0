/- Package path: Cycle, where there is such a node. -/
import Derived.Test.YtmmhdjibigopfaaLoop
namespace Go.Proofs.Ytmmhdjibigopfaa
open Go.RowKit

variable {w wr w1 w2 : World} {a : Option Addr} {len cap N s g tc gf cf gb cb : Nat} {l : List Ar} {by_ : Nat → Int}
set_option maxHeartbeats 2000000 in
set_option maxRecDepth 100000 in
theorem cycle_none (hs : s < N) (hc : checkV (N : Int) l = 0) (hn : ¬ Neg l s) (a : Option Addr) (cap : Nat) (w : World) (hl : IsArcs w.heap.size w a len l) :
    Calls Try.prog 12 #[.agg #[.int .i64 (N : Int), .slice a len cap], .int .i64 (s : Int)] w fun e w' => e = .returned (.slice none 0 0) ∧ Below w.heap.size w w' := by
  have HG := Lib.hid (Box.make (Below.refl _ w) (N : Int) a len cap)
  have HL := Lib.hid hl
  obtain ⟨hN, hok⟩ := checkV_zero.1 hc
  have HOK := Lib.hid hok
  have HE := Lib.hid (fromErr_in hc (show (0 : Int) ≤ (s : Int) ∧ (s : Int) < (N : Int) by omega))
  have HNG := Lib.hid hn
  have hll := hl.1
  have hN2 : N ≤ 1000 := by omega
  have hlen : len ≤ 20000 := by omega
  clear hok hc hn hl hN hll
  go_enter Try.func12, Try.ntmps12
  go_wp2_with (first
    | (go_at_call 20; refine (pcheck_ok HE.out (HG.out.arcsHere HL.out)).mono ?_; rintro e w1 ⟨rfl, hb1⟩; have HG1 := Lib.hid (HG.out.later hb1); have x0 := HG1.out.c0; have x1 := HG1.out.c1; clear hb1)
    | (go_at_call 21; refine (lightest_any N s hs hN2 hlen HOK.out a cap _ (HG1.out.arcsHere HL.out)).mono ?_; rintro e w2 ⟨gf, cf, gb, cb, far, by_, late, rfl, hf, hi, hb2, hfin⟩; obtain ⟨hlv, ht⟩ := hfin.tree HNG.out; subst hlv; have HG2 := Lib.hid (HG1.out.later hb2); clear hf hi hb2 hfin ht))
  go_ret
  exact ⟨rfl, HG2.out.below.alloc HG2.out.below.size _⟩
/-- What Cycle has. -/
structure CycW (w wr : World) (g tc N : Nat) (a : Option Addr) (len cap gf cf gb cb : Nat) (by_ : Nat → Int) : Prop where
  box : Box w wr g (N : Int) a len cap
  tv : wr.heap[tc]? = some (.cells #[.slice (some ⟨gf, 0, none⟩) N cf, .slice (some ⟨gb, 0, none⟩) N cb] 31 (0, 0))
  row : IntRow wr 0 (.slice (some ⟨gb, 0, none⟩) N cb) N by_
theorem CycW.later (h : CycW w wr g tc N a len cap gf cf gb cb by_) (hb : Below wr.heap.size wr w2) : CycW w w2 g tc N a len cap gf cf gb cb by_ :=
  ⟨h.box.later hb, (hb.block _ (Array.getElem?_eq_some_iff.1 h.tv).1).trans h.tv, h.row.below hb⟩
theorem CycW.t0 (h : CycW w wr g tc N a len cap gf cf gb cb by_) : wr.cell? ⟨tc, 0, none⟩ = some (.slice (some ⟨gf, 0, none⟩) N cf) := by simp [World.cell?, h.tv]
theorem CycW.t1 (h : CycW w wr g tc N a len cap gf cf gb cb by_) : wr.cell? ⟨tc, 1, none⟩ = some (.slice (some ⟨gb, 0, none⟩) N cb) := by simp [World.cell?, h.tv]

set_option maxHeartbeats 4000000 in
set_option maxRecDepth 100000 in
theorem cycle_neg (hs : s < N) (hc : checkV (N : Int) l = 0) (hn : Neg l s) (a : Option Addr) (cap : Nat) (w : World) (hl : IsArcs w.heap.size w a len l) :
    Calls Try.prog 12 #[.agg #[.int .i64 (N : Int), .slice a len cap], .int .i64 (s : Int)] w fun e w' => Below w.heap.size w w' ∧
      ∃ v ws, e = .returned v ∧ w'.ownsRow w.heap.size 3 1 v ws.length (numsV ws) ∧ ws.length ≤ N ∧ ws ≠ [] ∧ ∃ (i : Nat) (W : Int), joinO l ws (i : Int) 0 = some ((i : Int), W) ∧ W < 0 ∧ Comes l s i := by
  have HG := Lib.hid (Box.make (Below.refl _ w) (N : Int) a len cap)
  have HL := Lib.hid hl
  obtain ⟨hN, hok⟩ := checkV_zero.1 hc
  have HOK := Lib.hid hok
  have HE := Lib.hid (fromErr_in hc (show (0 : Int) ≤ (s : Int) ∧ (s : Int) < (N : Int) by omega))
  have HNG := Lib.hid hn
  have hll := hl.1
  have HLl := Lib.hid hll
  have hN2 : N ≤ 1000 := by omega
  have hlen : len ≤ 20000 := by omega
  clear hok hc hn hl hN hll
  go_enter Try.func12, Try.ntmps12
  go_wp2_with (first
    | (go_at_call 20; refine (pcheck_ok HE.out (HG.out.arcsHere HL.out)).mono ?_; rintro e w1 ⟨rfl, hb1⟩; have HG1 := Lib.hid (HG.out.later hb1); have x0 := HG1.out.c0; have x1 := HG1.out.c1; clear hb1)
    | (go_at_call 21; refine (lightest_any N s hs hN2 hlen HOK.out a cap _ (HG1.out.arcsHere HL.out)).mono ?_; rintro e w2 ⟨gf, cf, gb, cb, far, by_, late, rfl, hf, hi, hb2, hfin⟩; obtain ⟨v, T, hlv, hvN, hvT, hrun⟩ := hfin.cyc HNG.out; subst hlv; have HG2 := Lib.hid (HG1.out.later hb2); have v0 : (0 : Int) ≤ (v : Int) := (by omega); have HV := Lib.hid hvT; have HRUN := Lib.hid hrun; have HC2 : Hid (CycW w (w2.alloc (.cells #[.slice (some ⟨gf, 0, none⟩) N cf, .slice (some ⟨gb, 0, none⟩) N cb] 31)) w.heap.size w2.heap.size N a len cap gf cf gb cb by_) := Lib.hid ⟨HG2.out.alloc _, heap_alloc_new _ _, (hi.rebase (Nat.zero_le _)).below ((Below.refl _ _).alloc (Nat.le_refl _) _)⟩; have y0 := HG2.out.c0; have yl := HG2.out.lt; clear hf hi hb2 hfin hvT hrun))
  have HCY := Lib.hid (HRUN.out.cycle2 HOK.out hs HV.out)
  obtain ⟨tc, htc⟩ : ∃ tc, w2.heap.size = tc := ⟨_, rfl⟩
  rw [htc] at HC2 ⊢
  clear htc x0 x1 y0 yl
  go_loopw [7, 23] (fun av jv wr => ∃ m : Nat, av = .int .i64 ((backs l by_ v m : Nat) : Int) ∧ jv = .int .i64 m ∧ m ≤ N ∧ Hid (CycW w wr w.heap.size tc N a len cap gf cf gb cb by_)) (fun _ jv _ => N - (intOf jv).toNat)
  case atStart => exact ⟨0, rfl, rfl, Nat.zero_le _, HC2⟩
  case round =>
    obtain ⟨m, rfl, rfl, hm, HX⟩ := hrel
    clear HC2
    by_cases hlt : m < N
    · obtain ⟨k, x, hby⟩ := HRUN.out.backs_by HV.out hlt
      have hbN := HCY.out.1 m (by omega)
      have hbN2 := HCY.out.1 (m + 1) (by omega)
      generalize hbm : backs l by_ v m = c at hby hbN
      generalize hbm2 : backs l by_ v (m + 1) = f at hby hbN2
      have HBM := Lib.hid hbm2
      clear hbm hbm2
      have x2 := HX.out.row.cell hbN
      rw [hby.1] at x2
      have hkl : k < len := by have h1 := (List.getElem?_eq_some_iff.1 hby.2.1).1; have h2 := HLl.out; omega
      obtain ⟨b, off, x', rfl, hbb, hx', e0, e1, e2⟩ := (HX.out.box.arcs HL.out).at_ hkl
      rw [hby.2.1] at hx'
      cases hx'
      rw [hby.2.2.2] at e0
      have x0 := HX.out.box.c1
      have x1 := HX.out.t1
      have u1 : (0 : Int) ≤ (c : Int) := by omega
      have u2 : (c : Int) < (N : Int) := by omega
      have u3 : (0 : Int) ≤ (k : Int) := by omega
      have u4 : (k : Int) < (len : Int) := by omega
      clear hby hbb e1 e2
      go_wp2_with fail
      go_quiet (fail)
      have HX2 := Lib.hid (HX.out.later (below_drewN (Below.refl _ _) nq))
      go_wp2_with fail
      go_roundw
      case rel => exact ⟨m + 1, by rw [HBM.out], by go_num, by omega, HX2⟩
      case measure => simp [intOf]; omega
    · have hmN : N = m := by omega
      subst hmN
      have x0 := HX.out.box.c0
      have x1 := HX.out.box.c1
      have x2 := HX.out.t0
      have x3 := HX.out.t1
      obtain ⟨hin, ws, W, hbw, hne, hwl, hcm⟩ := HCY.out
      have hon := hin N (Nat.le_refl _)
      clear hin
      generalize backs l by_ v N = on at hbw hcm hon
      have HBW := Lib.hid hbw
      have HNE := Lib.hid hne
      have HCM := Lib.hid hcm
      clear hbw hne hcm
      go_wp2_with (go_at_call 24; refine (loop_any hN2 HOK.out hon HBW.out HNE.out hwl a cap _ (HX.out.box.arcsHere HL.out) HX.out.row).mono ?_; rintro e w6 ⟨v6, ws6, W6, rfl, ho6, hbw6, hne6, hl6, hb6⟩; have HO6 := Lib.hid ho6; have HBW6 := Lib.hid hbw6; have HNE6 := Lib.hid hne6; have HX6 := Lib.hid (HX.out.later hb6); clear ho6 hbw6 hne6 hb6)
      go_ret
      exact ⟨HX6.out.box.below, v6, ws6, rfl, owns_rebase HO6.out HX.out.box.below.size, hl6, HNE6.out, on, W6, HBW6.out.join HOK.out (by omega), HRUN.out.cyc _ _ _ HBW6.out HNE6.out, HCM.out⟩
theorem cycle_ok (N s len cap : Nat) (l : List Ar) (a : Option Addr) (w : World) (hs : s < N) (hc : checkV (N : Int) l = 0) (hl : IsArcs w.heap.size w a len l) :
    Calls Try.prog 12 #[.agg #[.int .i64 (N : Int), .slice a len cap], .int .i64 (s : Int)] w fun e w' => Below w.heap.size w w' ∧
      ∃ v ws, e = .returned v ∧ w'.ownsRow w.heap.size 3 1 v ws.length (numsV ws) ∧ (¬ Neg l s → ws = []) ∧
        (Neg l s → ws.length ≤ N ∧ ws ≠ [] ∧ ∃ (i : Nat) (W : Int), joinO l ws (i : Int) 0 = some ((i : Int), W) ∧ W < 0 ∧ Comes l s i) := by
  by_cases hn : Neg l s
  · exact (cycle_neg hs hc hn a cap w hl).mono fun e w' ⟨h1, v, ws, h2, h3, h4⟩ => ⟨h1, v, ws, h2, h3, fun h => absurd hn h, fun _ => h4⟩
  · exact (cycle_none hs hc hn a cap w hl).mono fun e w' ⟨h1, h2⟩ => ⟨h2, .slice none 0 0, [], h1, World.ownsRow_nil _ _ _ 1, fun _ => rfl, fun h => absurd h hn⟩
/-- All calls of package path answer so. -/
theorem path_spec : PathSpec := ⟨from_ok, from_bad, near_bad, cycle_bad, cycle_ok, way_ok⟩
end Go.Proofs.Ytmmhdjibigopfaa

/- Package path: lightest. -/
import Derived.Test.YtmmhdjibigopfaaLightW
import Derived.RegionTactic
namespace Go.Proofs.Ytmmhdjibigopfaa
open Go.RowKit

variable {len cap N s : Nat} {l : List Ar} {a : Option Addr}
set_option maxHeartbeats 4000000 in
set_option maxRecDepth 100000 in
theorem lightest_any (N s : Nat) (hs : s < N) (hN : N ≤ 1000) (hlen : len ≤ 20000) (hok : ∀ x ∈ l, okA (N : Int) x = true) (a : Option Addr) (cap : Nat) (w : World) (hl : IsArcs w.heap.size w a len l) :
    Calls Try.prog 21 #[.agg #[.int .i64 (N : Int), .slice a len cap], .int .i64 (s : Int)] w fun e w' => ∃ gf cf gb cb far by_ late, e = .returned (.tuple #[.agg #[.slice (some ⟨gf, 0, none⟩) N cf, .slice (some ⟨gb, 0, none⟩) N cb], .int .i64 late]) ∧
      LongRow w' w.heap.size (.slice (some ⟨gf, 0, none⟩) N cf) N (valI far) ∧ IntRow w' w.heap.size (.slice (some ⟨gb, 0, none⟩) N cb) N by_ ∧ Below w.heap.size w w' ∧ Fin l s N far by_ late := by
  have hmf : ∀ (fn : Fn) (first cap : Array Value) (w : World), (Instr.makeFunc fn first cap).run Try.prog w = .ok (.func fn first cap) w := fun _ _ _ _ => rfl
  have HOK := Lib.hid hok; clear hok
  have HL := Lib.hid hl; clear hl
  have HB0 := Lib.hid (((Below.refl _ w).alloc (Nat.le_refl _) (.cells #[.int .i64 (N : Int), .slice a len cap] 26)).alloc (by simp) (.cells #[.slice none 0 0, .slice none 0 0] 31))
  have hs1 : (0 : Int) ≤ (s : Int) := by omega
  have hs2 : (s : Int) < (N : Int) := by omega
  go_enter Try.func21, Try.ntmps21
  go_wp2_with (first
    | (go_at_call 28; refine (begun_any N s hs hN _).mono ?_; rintro e w1 ⟨gf, gb, rfl, hf, hi, hne, hb1⟩; have HF := Lib.hid hf; have HI := Lib.hid hi; have HB1 := Lib.hid hb1; have HN := Lib.hid hne; have hbb := HB0.out.trans (hb1.mono (by simp; omega)); have HBB := Lib.hid hbb; have x0 : w1.cell? ⟨w.heap.size, 0, none⟩ = some (.int .i64 (N : Int)) := (by rw [hb1.cell (p := ⟨w.heap.size, 0, none⟩) (by simp; omega)]; simp); have x1 : w1.cell? ⟨w.heap.size, 1, none⟩ = some (.slice a len cap) := (by rw [hb1.cell (p := ⟨w.heap.size, 1, none⟩) (by simp; omega)]; simp); have xs : w.heap.size < w1.heap.size := (by have := hb1.size; simp at this; omega); clear hf hi hb1 hne hbb)
    | (go_at_call 29; refine (looker_any N hN hlen HOK.out a cap _ _ _ ((HL.out.later (HBB.out.trans ((Below.refl w1.heap.size w1).alloc (Nat.le_refl _) _ |>.mono (by omega)))).mono (by simp; omega))).mono ?_; rintro e w2 ⟨tb, g, co, L, V, rfl, hk, htb⟩; have HW2 := Lib.hid (LtW.make (by simpa using HB1.out) (by simpa using HF.out) (by simpa using HI.out) HN.out hk htb HL.out (-1)); have x2 := HW2.out.box.c0; clear hk htb))
  clear x2 x1 x0 xs
  obtain ⟨tc, htc⟩ : ∃ tc, w1.heap.size = tc := ⟨_, rfl⟩
  obtain ⟨cl, hcl⟩ : ∃ cl, w2.heap.size = cl := ⟨_, rfl⟩
  obtain ⟨rs, hrs⟩ : ∃ rs, w.heap.size + 1 = rs := ⟨_, rfl⟩
  rw [htc, hcl, hrs] at HW2 ⊢
  clear htc hcl hrs HF HI HB1 HBB HB0
  have HH2 := Lib.hid (Head.begin_ l s N)
  go_loopw [20] (fun rv wr => ∃ (r : Nat) (far : Nat → Option Int) (by_ : Nat → Int) (T : Nat → Nat) (late : Int), rv = .int .i64 r ∧ r ≤ N ∧ Hid (LtW w wr w.heap.size rs tc co g tb gf N gb N cl L N a len cap V l (valI far) by_ late) ∧ Hid (Head l s N far by_ T r late)) (fun rv _ => N - (intOf rv).toNat)
  case atStart => exact ⟨0, _, _, _, _, rfl, Nat.zero_le _, HW2, HH2⟩
  case round =>
    obtain ⟨r, far, by_, T, late, rfl, hr, HX, HH⟩ := hrel
    clear HW2 HH2
    by_cases hlt : r < N
    · have x0 := HX.out.look.lc
      have x1 := HX.out.look.lf
      have HX1 := Lib.hid (HX.out.lset (-1))
      have x2 := HX1.out.tv0
      go_wp2_with (go_at_call 22; refine (cloneLongs HX1.out.look.far (by omega) (by omega)).mono ?_; rintro e w5 ⟨v5, rfl, hc5, hb5⟩; obtain ⟨gc, cc, hv, hgc, _, hcc, hcm⟩ := hc5.some_ (by omega); subst hv; have HC5 := Lib.hid hc5; have HGC := Lib.hid hgc; have HX5 := Lib.hid (HX1.out.later hb5); clear hc5 hb5 hgc)
      have HGN : Hid (¬ LookS gf gb cl gc) := Lib.hid (fun h => by
        have b1 := HX1.out.look.far.base_
        have b2 := HX1.out.look.by_.base_
        have b3 := (Array.getElem?_eq_some_iff.1 HX1.out.look.lt).1
        have b4 := HGC.out
        unfold LookS at h
        omega)
      have HC6 := Lib.hid (HC5.out.rebase (Nat.zero_le _))
      have HR0 := Lib.hid (Rnd.begin_ (N := N) HH.out.jac)
      clear x0 x1 x2 HC5 HGC HX HX1 HH
      go_loopw [26] (fun iv wr => ∃ (i : Nat) (far2 : Nat → Option Int) (by2 : Nat → Int) (T2 : Nat → Nat) (late2 : Int), iv = .int .i64 i ∧ i ≤ N ∧ Hid (LtW w wr w.heap.size rs tc co g tb gf N gb N cl L N a len cap V l (valI far2) by2 late2) ∧ Hid (Rnd l s N far far2 by2 T2 r (Upto l i) late2) ∧ Hid (LongRow wr 0 (.slice (some ⟨gc, 0, none⟩) N cc) N (valI far))) (fun iv _ => N - (intOf iv).toNat)
      case atStart => exact ⟨0, _, _, _, _, rfl, Nat.zero_le _, HX5, HR0, HC6⟩
      case round =>
        obtain ⟨i, far2, by2, T2, late2, rfl, hi, HX, HR, HC⟩ := hrel
        clear HX5 HR0 HC6
        by_cases hlti : i < N
        · have i1 : (0 : Int) ≤ (i : Int) := by omega
          have i2 : (i : Int) < (N : Int) := by omega
          have x0 := HC.out.cell hlti
          cases hfar : far i with
          | none =>
            rw [valI_none hfar] at x0
            have HR2 := Lib.hid (HR.out.off hfar)
            clear hfar
            go_wp2_with fail
            go_roundw
            case rel => exact ⟨i + 1, _, _, _, _, by go_num, by omega, HX, HR2, HC⟩
            case measure => simp [intOf]; omega
          | some p =>
            rw [valI_some hfar] at x0
            have hps := HR.out.jac.small2 HOK.out (by omega) hfar
            have hpb : decide (p < 1152921504606846976) = true := by simp; omega
            have HP := Lib.hid hfar
            clear hfar hps
            go_wp2_with (go_at_call 39; refine (look_any (by omega) hN hlen HOK.out hlti HP.out _ HX.out.look HR.out).mono ?_; rintro e w6 ⟨rfl, far3, by3, T3, late3, hW6, hR6, hM6⟩; have HX6 := Lib.hid (HX.out.mod hM6 hW6); have HR6 := Lib.hid hR6; have HC6 := Lib.hid (HC.out.kept hM6 (fun k hk hk2 => HGN.out (by have e2 : gc = k := Option.some.inj hk; subst e2; exact hk2))); clear hW6 hR6 hM6)
            go_roundw
            case rel => exact ⟨i + 1, _, _, _, _, by go_num, by omega, HX6, HR6, HC6⟩
            case measure => simp [intOf]; omega
        · have hiN : N = i := by omega
          subst hiN
          have x0 := HX.out.look.lc
          by_cases hl0 : late2 < 0
          · have HF := Lib.hid (HR.out.still HOK.out hl0)
            have hle : late2 = -1 := by
              rcases HR.out.end_ with ⟨e, _⟩ | ⟨v, e, _⟩
              · exact e
              · omega
            subst hle
            have r0 := HX.out.tv0
            have r1 := HX.out.tv1
            have r2 := HX.out.look.lc
            have r3 := HX.out.r0
            have r4 := HX.out.r1
            have r5 := HX.out.rf
            have r6 : ¬ rs = cl := by have q2 := HX.out.p2; have q4 := HX.out.p4; have q6 := HX.out.p6; have q7 := HX.out.look.o3; have q8 := HX.out.look.o4; have q9 := HX.out.look.o5; have q10 := HX.out.look.adj.lt; omega
            have r7 : ¬ rs = tc := by have q2 := HX.out.p2; have q4 := HX.out.p4; omega
            go_wp2_with fail
            go_region
            go_wp2_with fail
            obtain ⟨d1, d2, d3⟩ := (HX.out.later (Below.refl _ _).drew).done (.slice (some ⟨gf, 0, none⟩) N N) (.slice (some ⟨gb, 0, none⟩) N N)
            obtain ⟨_, q0, q1⟩ := tree_stored HX.out.res (.slice (some ⟨gf, 0, none⟩) N N) (.slice (some ⟨gb, 0, none⟩) N N)
            refine bodyPost_ret (v := .tuple #[.agg #[.slice (some ⟨gf, 0, none⟩) N N, .slice (some ⟨gb, 0, none⟩) N N], .int .i64 (-1)]) ?_ rfl ⟨_, _, _, _, _, _, _, rfl, d1, d2, d3, HF.out⟩
            simp [results, Try.results21, go_sem, q0, q1]
          · have HH2 := Lib.hid (HR.out.next HOK.out hl0)
            have hl1 : decide (late2 < 0) = false := by simpa using hl0
            go_wp2_with fail
            go_roundw
            case rel => exact ⟨r + 1, _, _, _, _, by go_num, by omega, HX, HH2⟩
            case measure => simp [intOf]; omega
    · have hrN : N = r := by omega
      subst hrN
      have HF := Lib.hid (HH.out.last HOK.out hs)
      have r0 := HX.out.tv0
      have r1 := HX.out.tv1
      have r2 := HX.out.look.lc
      have r3 := HX.out.r0
      have r4 := HX.out.r1
      have r5 := HX.out.rf
      have r6 : ¬ rs = cl := by have q2 := HX.out.p2; have q4 := HX.out.p4; have q6 := HX.out.p6; have q7 := HX.out.look.o3; have q8 := HX.out.look.o4; have q9 := HX.out.look.o5; have q10 := HX.out.look.adj.lt; omega
      have r7 : ¬ rs = tc := by have q2 := HX.out.p2; have q4 := HX.out.p4; omega
      go_wp2_with fail
      go_region
      go_wp2_with fail
      obtain ⟨d1, d2, d3⟩ := (HX.out.later (Below.refl _ _).drew).done (.slice (some ⟨gf, 0, none⟩) N N) (.slice (some ⟨gb, 0, none⟩) N N)
      obtain ⟨_, q0, q1⟩ := tree_stored HX.out.res (.slice (some ⟨gf, 0, none⟩) N N) (.slice (some ⟨gb, 0, none⟩) N N)
      refine bodyPost_ret (v := .tuple #[.agg #[.slice (some ⟨gf, 0, none⟩) N N, .slice (some ⟨gb, 0, none⟩) N N], .int .i64 late]) ?_ rfl ⟨_, _, _, _, _, _, _, rfl, d1, d2, d3, HF.out⟩
      simp [results, Try.results21, go_sem, q0, q1]
end Go.Proofs.Ytmmhdjibigopfaa

/- The laws' plain instance, and the fixed fact (chapter 11's example). -/
import Derived.Test.YtnnddmojcaicbaaDoorIMake
import Derived.Test.YtnnddmojcaicbaaDoorIMakeOk
import Derived.Laws.MakeOwn
namespace Go.Proofs.YtnnddmojcaicbaaDoor
open Go.RowKit

theorem sm8_zero : sm8 0 := ⟨by decide, by decide⟩
/-- No numbers at all. -/
def smallZ : Sm := ⟨0, 0, 0, 0, 0, [], [], [], [], false, false⟩
def smallZA : SmA := ⟨none, 0, none, 0, none, 0, 0, none, 0, 0⟩
theorem smallZ_is (w : World) : IsSm w.heap.size w smallZA smallZ :=
  ⟨⟨rfl, fun x hx => (by simp [smallZ] at hx), .inl rfl⟩, ⟨rfl, fun x hx => (by simp [smallZ] at hx), .inl rfl⟩, ⟨rfl, fun x hx => (by simp [smallZ] at hx), .inl rfl⟩, ⟨rfl, fun x hx => (by simp [smallZ] at hx), .inl rfl⟩, ⟨sm8_zero, sm8_zero, sm8_zero, sm8_zero, sm8_zero⟩, by decide, by decide⟩
theorem smallZ_ok : SmOk smallZ := ⟨⟨sm8_zero, sm8_zero, sm8_zero, sm8_zero, sm8_zero⟩, fun x hx => (by simp [smallZ] at hx), fun x hx => (by simp [smallZ] at hx)⟩
set_option maxRecDepth 100000 in
/-- The plain instance. -/
theorem one_any (w : World) : Calls Tryd.prog 58 #[] w fun e w' => (∃ A2, e = .returned (.agg (insC A2 (makeI smallZ))) ∧ IsIns w'.heap.size w' A2 (makeI smallZ)) ∧ Below w.heap.size w w' := by
  have HW := Lib.hid (heap_alloc_new w (.cells #[.int .i64 0, .int .i64 0, .int .i64 0, .int .i64 0, .int .i64 0, .slice none 0 0, .slice none 0 0, .slice none 0 0, .slice none 0 0] 38))
  have HB0 := Lib.hid (below1 w (.cells #[.int .i64 0, .int .i64 0, .int .i64 0, .int .i64 0, .int .i64 0, .slice none 0 0, .slice none 0 0, .slice none 0 0, .slice none 0 0] 38))
  have hs0 : (w.alloc (.cells #[.int .i64 0, .int .i64 0, .int .i64 0, .int .i64 0, .int .i64 0, .slice none 0 0, .slice none 0 0, .slice none 0 0, .slice none 0 0] 38)).heap.size = w.heap.size + 1 := by simp
  go_enter Tryd.func58, Tryd.ntmps58
  go_wp2_with fail
  refine (make_any smallZA smallZ _ (smallZ_is _)).mono ?_
  rintro e w2 ⟨⟨A2, rfl, C, D, VK, VT, hown⟩, hb⟩
  rw [hs0] at hown hb
  have HR := Lib.hid ((hb.block _ (Nat.lt_succ_self _)).trans HW.out)
  have HO := Lib.hid hown
  have HB2 := Lib.hid (HB0.out.trans (hb.mono (Nat.le_succ _)))
  clear hown hb hs0 HW HB0
  obtain ⟨x0, hx0⟩ : ∃ x0, makeI smallZ = x0 := ⟨_, rfl⟩
  rw [hx0] at HO ⊢
  have HX0 := Lib.hid hx0
  clear hx0
  obtain ⟨n0, n1, n2, n3, n4, n5, n6, n7, n8, nf⟩ := cells9 HR.out
  unfold insC
  go_wp2_with fail
  have hb9 := storeI_blk (y0 := .int .i64 x0.en) (y1 := .int .i64 x0.tm) (y2 := .int .i64 x0.tr) (y3 := .int .i64 x0.bm) (y4 := .int .i64 x0.br) (y5 := .slice A2.sa x0.sats.length A2.sc) (y6 := .slice A2.ca x0.cus.length A2.cc) (y7 := .slice A2.ka x0.cost.length A2.kc) (y8 := .slice A2.ta x0.time.length A2.tc) HR.out
  obtain ⟨z0, z1, z2, z3, z4, z5, z6, z7, z8, _⟩ := cells9 hb9
  unfold storeI at z0 z1 z2 z3 z4 z5 z6 z7 z8
  have ho9 := (storeI_own (r := w.heap.size) (y0 := .int .i64 x0.en) (y1 := .int .i64 x0.tm) (y2 := .int .i64 x0.tr) (y3 := .int .i64 x0.bm) (y4 := .int .i64 x0.br) (y5 := .slice A2.sa x0.sats.length A2.sc) (y6 := .slice A2.ca x0.cus.length A2.cc) (y7 := .slice A2.ka x0.cost.length A2.kc) (y8 := .slice A2.ta x0.time.length A2.tc) HO.out (by omega)).is_
  refine bodyPost_ret (v := .agg (insC A2 x0)) ?_ rfl ⟨⟨A2, by rw [HX0.out], by rw [HX0.out]; exact ho9⟩, storeI_below HB2.out (Nat.le_refl _)⟩
  unfold insC
  clear ho9 n0 n1 n2 n3 n4 n5 n6 n7 n8 nf hb9
  simp only [results, Tryd.results58]
  simp [go_sem, z0, z1, z2, z3, z4, z5, z6, z7, z8]
/-- Two satellites, nothing else. -/
def twoS : Ins := ⟨0, 0, 0, 0, 0, [(0, 0), (0, 0)], [], [], []⟩
def twoA (g : Nat) : InA := ⟨some ⟨g, 0, none⟩, 2, none, 0, none, 0, none, 0⟩
theorem twoS_err : instErr twoS = 9 := by decide
theorem twoS_light : twoS.light = true := by decide
theorem twoS_is (w : World) : IsIns (w.alloc (.cells #[.int .i64 0, .int .i64 0, .int .i64 0, .int .i64 0] 46)).heap.size (w.alloc (.cells #[.int .i64 0, .int .i64 0, .int .i64 0, .int .i64 0] 46)) (twoA w.heap.size) twoS := by
  refine ⟨⟨rfl, .inr ⟨w.heap.size, 0, rfl, by simp, fun k x hk => ?_⟩⟩, ⟨rfl, .inl rfl⟩, ⟨rfl, .inl rfl⟩, ⟨rfl, .inl rfl⟩⟩
  match k, hk with
  | 0, hk => simp [twoS] at hk; subst hk; simp
  | 1, hk => simp [twoS] at hk; subst hk; simp
set_option maxRecDepth 100000 in
theorem make_two (w : World) : (Instr.makeSlice 34 (.int .i64 2) (.int .i64 2)).run Tryd.prog w = .ok (.slice (some ⟨w.heap.size, 0, none⟩) 2 2) (w.alloc (.cells #[.int .i64 0, .int .i64 0, .int .i64 0, .int .i64 0] 46)) := by
  obtain ⟨i, hi, hz, hs, hb⟩ := info_parts infoSatM
  have h := run_make w 34 46 i _ Tryd.underlying34 hi hz .i64 .i64 2 2 (by omega) (by omega) (by rw [hb]; decide) (by decide)
  rw [hs, show madeCells (Value.agg #[Value.int .i64 0, Value.int .i64 0]).cells (Int.toNat 2 * 2) = #[Value.int .i64 0, .int .i64 0, .int .i64 0, .int .i64 0] from by kernel_rfl] at h
  exact h
set_option maxRecDepth 100000 in
theorem inst_awake (w : World) : Calls Tryd.prog 44 #[] w fun e w' => e = .returned (.bool true) ∧ Below w.heap.size w w' := by
  have hmk := make_two
  have HB0 := Lib.hid (below1 w (.cells #[.int .i64 0, .int .i64 0, .int .i64 0, .int .i64 0] 46))
  have HX1 := Lib.hid (XBox.make HB0.out (twoA w.heap.size) twoS)
  have HI1 := Lib.hid (IsIns.mono ((twoS_is w).later (below1 (w.alloc (.cells #[.int .i64 0, .int .i64 0, .int .i64 0, .int .i64 0] 46)) (.cells (insC (twoA w.heap.size) twoS) 38))) (Nat.le_of_lt HX1.out.lt))
  go_enter Tryd.func44, Tryd.ntmps44
  go_wp2_with fail
  go_at_call 57
  refine (customer_any (twoA w.heap.size) twoS 1 _ (by decide)).mono ?_
  rw [show wrap64 (1 + (twoS.sats.length : Int) + 1) = 4 from by first | kernel_rfl | (simp [twoS, wrap64])]
  rintro e w2 ⟨rfl, hb2⟩
  have HX2 := Lib.hid (HX1.out.later hb2)
  have HI2 := Lib.hid ((HI1.out.later hb2).mono hb2.size)
  have HZ := Lib.hid (show (w.alloc (.cells #[.int .i64 0, .int .i64 0, .int .i64 0, .int .i64 0] 46)).heap.size = w.heap.size + 1 from by simp)
  clear hb2
  have hz := HZ.out
  rw [hz] at HX2
  clear hz
  obtain ⟨k0, k1, k2, k3, k4, k5, k6, k7, k8⟩ := HX2.out.cells
  clear HX1 HI1 HB0 hmk
  go_wp2_with fail
  go_at_call 16
  refine (check_any (twoA w.heap.size) twoS _ HI2.out twoS_light).mono ?_
  rw [twoS_err]
  rintro e w3 ⟨rfl, hb3⟩
  have HB3 := Lib.hid (HX2.out.later hb3).below
  clear hb3 k0 k1 k2 k3 k4 k5 k6 k7 k8
  go_wp2_with fail
  go_at_call 58
  refine (one_any _).mono ?_
  rintro e w4 ⟨⟨A2, rfl, hi4⟩, hb4⟩
  have HI4 := Lib.hid hi4
  have HB4 := Lib.hid (HB3.out.trans (hb4.mono HB3.out.size))
  clear hi4 hb4
  go_wp2_with fail
  go_at_call 16
  refine (check_any A2 (makeI smallZ) _ HI4.out (makeI_light _)).mono ?_
  rw [makeI_ok smallZ_ok]
  rintro e w5 ⟨rfl, hb5⟩
  have HB5 := Lib.hid (HB4.out.trans (hb5.mono HB4.out.size))
  clear hb5
  go_wp2_with fail
  go_ret
  exact ⟨rfl, HB5.out⟩
end Go.Proofs.YtnnddmojcaicbaaDoor

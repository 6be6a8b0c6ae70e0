/- The laws' plain instance. -/
import Derived.Test.YtmnbpnjakbihdaaIMake
import Derived.Test.YtmnbpnjakbihdaaIMakeOk
import Derived.Laws.MakeOwn
namespace Go.Proofs.Ytmnbpnjakbihdaa
open Go.RowKit

theorem sm8_zero : sm8 0 := ⟨by decide, by decide⟩
/-- No numbers at all. -/
def smallZ : Sm := ⟨0, 0, 0, 0, 0, [], [], [], [], false, false⟩
def smallZA : SmA := ⟨none, 0, none, 0, none, 0, 0, none, 0, 0⟩
theorem smallZ_is (w : World) : IsSm w.heap.size w smallZA smallZ :=
  ⟨⟨rfl, fun x hx => (by simp [smallZ] at hx), .inl rfl⟩, ⟨rfl, fun x hx => (by simp [smallZ] at hx), .inl rfl⟩, ⟨rfl, fun x hx => (by simp [smallZ] at hx), .inl rfl⟩, ⟨rfl, fun x hx => (by simp [smallZ] at hx), .inl rfl⟩, ⟨sm8_zero, sm8_zero, sm8_zero, sm8_zero, sm8_zero⟩, by decide, by decide⟩
theorem smallZ_ok : SmOk smallZ := ⟨⟨sm8_zero, sm8_zero, sm8_zero, sm8_zero, sm8_zero⟩, fun x hx => (by simp [smallZ] at hx), fun x hx => (by simp [smallZ] at hx)⟩
set_option maxRecDepth 100000 in
/-- The plain instance. -/
theorem one_own (w : World) : Calls Try.prog 29 #[] w fun e w' => (∃ A2, e = .returned (.agg (insC A2 (makeI smallZ))) ∧ ∃ C D VK VT, OwnIns (w.heap.size + 1 + 3) w' A2 (makeI smallZ) (nodesOf smallZ) C D VK VT (sqE smallZ.cost (nodesOf smallZ)) (sqE smallZ.time (nodesOf smallZ))) ∧ Below w.heap.size w w' := by
  have HW := Lib.hid (heap_alloc_new w (.cells #[.int .i64 0, .int .i64 0, .int .i64 0, .int .i64 0, .int .i64 0, .slice none 0 0, .slice none 0 0, .slice none 0 0, .slice none 0 0] 37))
  have HB0 := Lib.hid (below1 w (.cells #[.int .i64 0, .int .i64 0, .int .i64 0, .int .i64 0, .int .i64 0, .slice none 0 0, .slice none 0 0, .slice none 0 0, .slice none 0 0] 37))
  have hs0 : (w.alloc (.cells #[.int .i64 0, .int .i64 0, .int .i64 0, .int .i64 0, .int .i64 0, .slice none 0 0, .slice none 0 0, .slice none 0 0, .slice none 0 0] 37)).heap.size = w.heap.size + 1 := by simp
  go_enter Try.func29, Try.ntmps29
  go_wp2_with fail
  refine (make_any smallZA smallZ _ (smallZ_is _)).mono ?_
  rintro e w2 ⟨⟨A2, rfl, C, D, VK, VT, hown⟩, hb⟩
  rw [hs0] at hown hb
  have HR := Lib.hid ((hb.block _ (Nat.lt_succ_self _)).trans HW.out)
  have HO := Lib.hid hown
  have HB2 := Lib.hid (HB0.out.trans (hb.mono (Nat.le_succ _)))
  clear hown hb hs0 HW HB0
  obtain ⟨x0, hx0⟩ : ∃ x0, makeI smallZ = x0 := ⟨_, rfl⟩
  rw [hx0] at HO ⊢
  have HX0 := Lib.hid hx0
  clear hx0
  obtain ⟨n0, n1, n2, n3, n4, n5, n6, n7, n8, nf⟩ := cells9 HR.out
  unfold insC
  go_wp2_with fail
  have hb9 := storeI_blk (y0 := .int .i64 x0.en) (y1 := .int .i64 x0.tm) (y2 := .int .i64 x0.tr) (y3 := .int .i64 x0.bm) (y4 := .int .i64 x0.br) (y5 := .slice A2.sa x0.sats.length A2.sc) (y6 := .slice A2.ca x0.cus.length A2.cc) (y7 := .slice A2.ka x0.cost.length A2.kc) (y8 := .slice A2.ta x0.time.length A2.tc) HR.out
  obtain ⟨z0, z1, z2, z3, z4, z5, z6, z7, z8, _⟩ := cells9 hb9
  unfold storeI at z0 z1 z2 z3 z4 z5 z6 z7 z8
  have ho9 := (storeI_own (r := w.heap.size) (y0 := .int .i64 x0.en) (y1 := .int .i64 x0.tm) (y2 := .int .i64 x0.tr) (y3 := .int .i64 x0.bm) (y4 := .int .i64 x0.br) (y5 := .slice A2.sa x0.sats.length A2.sc) (y6 := .slice A2.ca x0.cus.length A2.cc) (y7 := .slice A2.ka x0.cost.length A2.kc) (y8 := .slice A2.ta x0.time.length A2.tc) HO.out (by omega))
  refine bodyPost_ret (v := .agg (insC A2 x0)) ?_ rfl ⟨⟨A2, by rw [HX0.out], C, D, VK, VT, by rw [HX0.out]; exact ho9⟩, storeI_below HB2.out (Nat.le_refl _)⟩
  unfold insC
  clear ho9 n0 n1 n2 n3 n4 n5 n6 n7 n8 nf hb9
  simp only [results, Try.results29]
  simp [go_sem, z0, z1, z2, z3, z4, z5, z6, z7, z8]
theorem one_any (w : World) : Calls Try.prog 29 #[] w fun e w' => (∃ A2, e = .returned (.agg (insC A2 (makeI smallZ))) ∧ IsIns w'.heap.size w' A2 (makeI smallZ)) ∧ Below w.heap.size w w' :=
  (one_own w).mono fun _ _ ⟨⟨A2, h1, _, _, _, _, h2⟩, h3⟩ => ⟨⟨A2, h1, h2.is_⟩, h3⟩
end Go.Proofs.Ytmnbpnjakbihdaa

/- The fixed fact of chapter 9. -/
import Derived.Test.YtifhapmblofmkaaFlowMosts
import Derived.Test.YtifhapmblofmkaaLongsEq
namespace Go.Proofs.Ytifhapmblofmkaa
open Go.RowKit

section
variable {w w2 : World} {base1 base2 g1 g2 N c1 c2 : Nat} {f f2 : Nat → Bool}
theorem BoolRow.cell {base g cap : Nat} (h : BoolRow w base (.slice (some ⟨g, 0, none⟩) N cap) N f) {i : Nat} (hi : i < N) : w.cell? ⟨g, i, none⟩ = some (.bool (f i)) := by
  rw [World.ownsRow.cellAt h i (by omega)]
  exact boolF_get _ hi
theorem BoolRow.cap_ {base g cap : Nat} (h : BoolRow w base (.slice (some ⟨g, 0, none⟩) N cap) N f) (h0 : 0 < N) : N ≤ cap ∧ cap ≤ maxLen := by
  obtain ⟨_, _, e, _, _, h1, h2⟩ := owns_some h h0
  simp only [Value.slice.injEq] at e
  obtain ⟨_, _, rfl⟩ := e
  exact ⟨h1, h2⟩
theorem BoolRow.below {base : Nat} {v : Value} (h : BoolRow w base v N f) (hb : Below w.heap.size w w2) : BoolRow w2 base v N f := owns_below h hb
set_option maxHeartbeats 1000000 in
/-- slices.Equal of two rows of the same truth values. -/
theorem eqBoolRows (h1 : BoolRow w base1 (.slice (some ⟨g1, 0, none⟩) N c1) N f) (h2 : BoolRow w base2 (.slice (some ⟨g2, 0, none⟩) N c2) N f2) (h0 : 0 < N) (he : ∀ i, i < N → f i = f2 i) :
    Calls Try.prog 14 #[.slice (some ⟨g1, 0, none⟩) N c1, .slice (some ⟨g2, 0, none⟩) N c2] w fun e w' => e = .returned (.bool true) ∧ Below w.heap.size w w' := by
  have H1 := Lib.hid h1
  have H2 := Lib.hid h2
  have HE := Lib.hid he
  obtain ⟨hc1, hm1⟩ := h1.cap_ h0
  obtain ⟨hc2, hm2⟩ := h2.cap_ h0
  unfold maxLen at hm1 hm2
  clear h1 h2 he
  go_enter Try.func14, Try.ntmps14
  go_wp2_with fail
  go_loopw [13] (fun i wr => ∃ k m : Nat, i = .int .i64 k ∧ k ≤ N ∧ wr = w.drewN m) (fun i _ => N - (intOf i).toNat)
  case atStart => exact ⟨0, 0, rfl, Nat.zero_le _, rfl⟩
  case round =>
    obtain ⟨k, m, rfl, hk, rfl⟩ := hrel
    by_cases hlt : k < N
    · have q1 := H1.out.cell hlt
      have q2 := H2.out.cell hlt
      rw [← HE.out k hlt] at q2
      generalize f k = fk at q1 q2
      go_wp2_with fail
      go_quiet (fail)
      go_wp2_with fail
      go_roundw
      case rel => exact ⟨k + 1, _, by go_num, by omega, rfl⟩
      case measure => simp [intOf]; omega
    · go_wp2_with fail
      go_ret
      exact ⟨rfl, below_drewN (Below.refl _ _) _⟩
end

def pipesF : List Pi := [(0, 1, 3, 0), (1, 2, 2, 0), (0, 2, 1, 0)]
theorem checkF : checkP ((3 : Nat) : Int) pipesF = 0 := by decide
theorem endsF : endsP ((3 : Nat) : Int) pipesF ((0 : Nat) : Int) ((2 : Nat) : Int) = 0 := by decide
/-- The greatest flow is this one alone. -/
theorem mostF {fl : Nat → Int} {much : Int} (h : IsMost pipesF 3 fl 0 2 much) : much = 3 ∧ fl 0 = 2 ∧ fl 1 = 2 ∧ fl 2 = 1 := by
  have a0 := h.flow.cap 0 _ rfl
  have a1 := h.flow.cap 1 _ rfl
  have a2 := h.flow.cap 2 _ rfl
  have b1 := h.flow.cons 1 (by omega) (by omega) (by omega)
  have b2 := h.much
  obtain ⟨S, s0, s2, s3⟩ := h.cut
  have b1' : fl 0 + -fl 1 = 0 := by simpa [netTo, sumP, brings, pipesF] using b1
  have b2' : much = fl 1 + fl 2 := by simpa [netTo, sumP, brings, pipesF] using b2
  simp only at a0 a1 a2
  cases h1 : S 1 with
  | true =>
    have s3' : (2 : Int) + 1 = much := by simpa [capOut, sumP, outB, pipesF, s0, s2, h1] using s3
    omega
  | false =>
    have s3' : (3 : Int) + 1 = much := by simpa [capOut, sumP, outB, pipesF, s0, s2, h1] using s3
    omega
def cutF : Nat → Bool := fun i => decide (i < 2)
theorem resF {f : Nat → Int} (h0 : f 0 = 2) (h1 : f 1 = 2) (h2 : f 2 = 1) : ∀ i, i < 3 → (cutF i = true ↔ Res pipesF f 0 i) := fun i hi => by
  constructor
  · intro h
    match i, hi with
    | 0, _ => exact .here
    | 1, _ => exact Res.here.fwd (k := 0) (x := (0, 1, 3, 0)) rfl rfl rfl (by rw [h0]; decide)
    | 2, _ => exact absurd h (by decide)
  · intro h
    refine h.stays (S := cutF) (by decide) (fun k x hx => ?_)
    match k, hx with
    | 0, hx =>
      simp [pipesF] at hx
      subst hx
      exact ⟨fun a => absurd a (by decide), fun a => absurd a (by decide)⟩
    | 1, hx =>
      simp [pipesF] at hx
      subst hx
      exact ⟨fun _ => h1, fun a => absurd a (by decide)⟩
    | 2, hx =>
      simp [pipesF] at hx
      subst hx
      exact ⟨fun _ => h2, fun a => absurd a (by decide)⟩
    | k + 3, hx => simp [pipesF] at hx
theorem pipesF_at (w : World) (T : TypeId) (ob : Obj) : IsPipes (World.heap ((w.alloc (.cells #[.int .i64 0, .int .i64 1, .int .i64 3, .int .i64 0, .int .i64 1, .int .i64 2, .int .i64 2, .int .i64 0, .int .i64 0, .int .i64 2, .int .i64 1, .int .i64 0] T)).alloc ob)).size ((w.alloc (.cells #[.int .i64 0, .int .i64 1, .int .i64 3, .int .i64 0, .int .i64 1, .int .i64 2, .int .i64 2, .int .i64 0, .int .i64 0, .int .i64 2, .int .i64 1, .int .i64 0] T)).alloc ob) (some ⟨w.heap.size, 0, none⟩) 3 pipesF := by
  refine ⟨rfl, .inr ⟨w.heap.size, 0, rfl, by simp; omega, fun k x hk => ?_⟩⟩
  have hb : ((w.alloc (.cells #[.int .i64 0, .int .i64 1, .int .i64 3, .int .i64 0, .int .i64 1, .int .i64 2, .int .i64 2, .int .i64 0, .int .i64 0, .int .i64 2, .int .i64 1, .int .i64 0] T)).alloc ob).heap[w.heap.size]? = some (.cells #[.int .i64 0, .int .i64 1, .int .i64 3, .int .i64 0, .int .i64 1, .int .i64 2, .int .i64 2, .int .i64 0, .int .i64 0, .int .i64 2, .int .i64 1, .int .i64 0] T (0, 0)) := heap_alloc2_old _ _ _
  match k, hk with
  | 0, hk => simp [pipesF] at hk; subst hk; exact ⟨by simp [World.cell?, hb], by simp [World.cell?, hb], by simp [World.cell?, hb], by simp [World.cell?, hb]⟩
  | 1, hk => simp [pipesF] at hk; subst hk; exact ⟨by simp [World.cell?, hb], by simp [World.cell?, hb], by simp [World.cell?, hb], by simp [World.cell?, hb]⟩
  | 2, hk => simp [pipesF] at hk; subst hk; exact ⟨by simp [World.cell?, hb], by simp [World.cell?, hb], by simp [World.cell?, hb], by simp [World.cell?, hb]⟩
  | k + 3, hk => simp [pipesF] at hk
def flF : Nat → Int := fun i => if i = 0 then 2 else if i = 1 then 2 else 1
variable {w : World}
theorem FlowSpec.cutF (P : FlowSpec) {fl : Nat → Int} (h : fl 0 = 2 ∧ fl 1 = 2 ∧ fl 2 = 1) (cap c : Nat) (a b : Option Addr) (w : World) (hl : IsPipes w.heap.size w a 3 pipesF) (hi : IsNums w.heap.size w b 3 ((List.range 3).map fl)) :
    Calls Try.prog 15 #[.agg #[.int .i64 3, .slice a 3 cap], .slice b 3 c, .int .i64 0] w fun e w' => Below w.heap.size w w' ∧ ∃ g c2, e = .returned (.slice (some ⟨g, 0, none⟩) 3 c2) ∧ BoolRow w' w.heap.size (.slice (some ⟨g, 0, none⟩) 3 c2) 3 cutF :=
  (P.cut_ok 3 0 3 cap pipesF a c _ b w checkF (by omega) hl hi).mono fun e w' ⟨hb, v, d, he, hr, hd⟩ => ⟨hb, by
    obtain ⟨g, c2, hv, _⟩ := owns_some hr (by omega)
    subst hv
    refine ⟨g, c2, he, ?_⟩
    have e1 : boolF 3 d = boolF 3 Go.Proofs.Ytifhapmblofmkaa.cutF := by
      unfold boolF
      apply List.map_congr_left
      intro i hi
      have hi3 : i < 3 := List.mem_range.1 hi
      have h1 := hd i hi3
      have h2 := resF (f := flOf ((List.range 3).map fl)) (by rw [flOf_rowF rfl 0 (by omega)]; exact h.1) (by rw [flOf_rowF rfl 1 (by omega)]; exact h.2.1) (by rw [flOf_rowF rfl 2 (by omega)]; exact h.2.2) i hi3
      have : d i = Go.Proofs.Ytifhapmblofmkaa.cutF i := by
        cases h3 : d i <;> cases h4 : Go.Proofs.Ytifhapmblofmkaa.cutF i
        · rfl
        · exact absurd (h1.2 (h2.1 h4)) (by simp [h3])
        · exact absurd (h2.2 (h1.1 h3)) (by simp [h4])
        · rfl
      rw [this]
    unfold BoolRow at hr ⊢
    rw [← e1]
    exact hr⟩

set_option maxHeartbeats 4000000 in
set_option maxRecDepth 100000 in
theorem flow_awake (P : FlowSpec) (w : World) : Calls Try.prog 8 #[] w fun e w' => e = .returned (.bool true) ∧ Below w.heap.size w w' := by
  have HA := Lib.hid (pipesF_at w 40 (.cells #[.int .i64 3, .slice (some ⟨w.heap.size, 0, none⟩) 3 3] 26))
  have HB : Hid (NBox w ((w.alloc (.cells #[.int .i64 0, .int .i64 1, .int .i64 3, .int .i64 0, .int .i64 1, .int .i64 2, .int .i64 2, .int .i64 0, .int .i64 0, .int .i64 2, .int .i64 1, .int .i64 0] 40)).alloc (.cells #[.int .i64 3, .slice (some ⟨w.heap.size, 0, none⟩) 3 3] 26)) (w.heap.size + 1) ((3 : Nat) : Int) (some ⟨w.heap.size, 0, none⟩) 3 3) := Lib.hid (by
    have := NBox.make ((Below.refl _ w).alloc (Nat.le_refl _) (.cells #[.int .i64 0, .int .i64 1, .int .i64 3, .int .i64 0, .int .i64 1, .int .i64 2, .int .i64 2, .int .i64 0, .int .i64 0, .int .i64 2, .int .i64 1, .int .i64 0] 40)) 3 (some ⟨w.heap.size, 0, none⟩) 3 3
    simpa using this)
  have HX : Hid (NPA w ((w.alloc (.cells #[.int .i64 0, .int .i64 1, .int .i64 3, .int .i64 0, .int .i64 1, .int .i64 2, .int .i64 2, .int .i64 0, .int .i64 0, .int .i64 2, .int .i64 1, .int .i64 0] 40)).alloc (.cells #[.int .i64 3, .slice (some ⟨w.heap.size, 0, none⟩) 3 3] 26)) (w.heap.size + 1) 3 (some ⟨w.heap.size, 0, none⟩) 3 3 pipesF) := Lib.hid ⟨HB.out, HA.out⟩
  clear HA HB
  go_enter Try.func8, Try.ntmps8
  go_wp2_with (first
    | (go_at_call 11; refine (P.most_ok 3 0 2 3 3 pipesF (some ⟨w.heap.size, 0, none⟩) _ endsF HX.out.pipes).mono ?_; rintro e w4 ⟨hb4, v4, fl, much, rfl, hr4, hm4⟩; obtain ⟨hmu, hfl⟩ := mostF hm4; obtain ⟨gg, cg, hv4, _⟩ := hr4.some_ (by omega); subst hv4 hmu; have HX4 := Lib.hid (HX.out.later hb4); have HX4a := Lib.hid (HX4.out.later ((Below.refl _ w4).alloc (Nat.le_refl _) (.cells #[.int .i64 2, .int .i64 2, .int .i64 1] 2))); have HR4 := Lib.hid (hr4.below ((Below.refl _ w4).alloc (Nat.le_refl _) (.cells #[.int .i64 2, .int .i64 2, .int .i64 1] 2))); have HL4 : Hid (LongRow (w4.alloc (.cells #[.int .i64 2, .int .i64 2, .int .i64 1] 2)) w4.heap.size (.slice (some ⟨w4.heap.size, 0, none⟩) 3 3) 3 flF) := Lib.hid (World.ownsRow_lit (base := w4.heap.size) (e := 2) (size := 1) w4 #[.int .i64 2, .int .i64 2, .int .i64 1] 3 (Nat.le_refl _) (by decide) rfl); have HFL := Lib.hid hfl; have HSAME : Hid (sameN fl flF 3 = true) := Lib.hid (sameN_true.2 fun i hi => (by match i, hi with | 0, _ => exact hfl.1 | 1, _ => exact hfl.2.1 | 2, _ => exact hfl.2.2)); clear hb4 hr4 hm4 hfl)
    | (go_at_call 19; refine (eqRows HR4.out HL4.out (by omega)).mono ?_; rw [HSAME.out]; rintro e w5 ⟨rfl, hb5⟩; have HX5 := Lib.hid (HX4a.out.later hb5); have HR5 := Lib.hid (HR4.out.below hb5); have y0 := HX5.out.box.c0; have y1 := HX5.out.box.c1; clear hb5)
    | (go_at_call 15; refine (P.cutF HFL.out 3 cg (some ⟨w.heap.size, 0, none⟩) (some ⟨gg, 0, none⟩) _ HX5.out.pipes HR5.out.nums).mono ?_; rintro e w6 ⟨hb6, gc, cc, rfl, hr6⟩; have HX6 := Lib.hid (HX5.out.later hb6); have HR6 := Lib.hid (hr6.below ((Below.refl _ w6).alloc (Nat.le_refl _) (.cells #[.bool true, .bool true, .bool false] 4))); have HX6a := Lib.hid (HX6.out.later ((Below.refl _ w6).alloc (Nat.le_refl _) (.cells #[.bool true, .bool true, .bool false] 4))); have HL6 : Hid (BoolRow (w6.alloc (.cells #[.bool true, .bool true, .bool false] 4)) w6.heap.size (.slice (some ⟨w6.heap.size, 0, none⟩) 3 3) 3 cutF) := Lib.hid (World.ownsRow_lit (base := w6.heap.size) (e := 4) (size := 1) w6 #[.bool true, .bool true, .bool false] 3 (Nat.le_refl _) (by decide) rfl); clear hb6 hr6)
    | (go_at_call 14; refine (eqBoolRows HR6.out HL6.out (by omega) (fun i _ => rfl)).mono ?_; rintro e w7 ⟨rfl, hb7⟩; have HX7 := Lib.hid (HX6a.out.later hb7); clear hb7))
  go_ret
  exact ⟨rfl, HX7.out.box.below⟩
end Go.Proofs.Ytifhapmblofmkaa

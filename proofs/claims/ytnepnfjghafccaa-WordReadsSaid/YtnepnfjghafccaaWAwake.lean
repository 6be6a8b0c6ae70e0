/- The fixed fact of chapter 5. -/
import Derived.Test.YtnepnfjghafccaaRead
namespace Go.Proofs.Ytnepnfjghafccaa
open Go.RowKit

theorem body_awake : Body 25 := fun _ _ => by kernel_rfl
theorem awake_words : cutL [97, 32, 55, 32, 35, 32, 98] 0 = [([97], 0), ([55], 2)] := by
  simp [cutL_cons, cutL_nil, blankB, toN, lineB, sepB]

theorem awake_does (w : World) : Does 25 #[] w [([97], 0), ([55], 2)] 7 halted 1 2 2 (fun _ => False) (fun _ => True) := by
  intro R v Wd hR hr hb
  have HM := Lib.hid (must_yes hr (t := [97]) (a := 0) rfl)
  have hp : parseO [55] = some 7 := by decide
  go_enter Try.func25, Try.ntmps25
  go_wp2_with (first
    | (go_at_call 18; refine HM.out.mono ?_; rintro e w1 ⟨rfl, hr1, hm1⟩; have HN := Lib.hid (number_high hr1 (t := [55]) (a := 2) rfl (by decide) hp 0 5 (by decide) (by decide)); have HM1 := Lib.hid hm1; clear hr1 hm1)
    | (go_at_call 19; refine HN.out.mono ?_; rintro e w2 ⟨rfl, hr2, hm2⟩))
  exact ⟨rfl, rfl, hr2, (HM1.out.trans hm2).mono (fun i _ h => .inl h), trivial⟩

theorem word_awake (w : World) : Calls Try.prog 9 #[] w fun e w' => e = .returned (.bool true) ∧ Below w.heap.size w w' := by
  have HR : Hid (Calls Try.prog 13 #[.string ⟨#[97, 32, 55, 32, 35, 32, 98]⟩, .func (.func 25) #[] #[]] w fun e w' => e = .returned (.tuple #[.int .i64 2, .int .i64 2]) ∧ Below w.heap.size w w') := Lib.hid (by
    refine (read_halt ⟨#[97, 32, 55, 32, 35, 32, 98]⟩ w (by decide) (by decide) 25 body_awake #[] 1 2 2 (by decide) (fun _ => False) (fun _ h => h.elim) (fun _ => True) (fun _ _ _ _ => trivial) ?_).mono fun e w' ⟨h1, h2, _⟩ => ⟨h1, ?_⟩
    · have := awake_does w
      rw [← awake_words] at this
      exact this
    · exact h2.below (Nat.le_refl _) (fun _ h => h.elim))
  have HS : Hid (∀ w, Calls Try.prog 10 #[.string ⟨#[97, 9, 98]⟩] w fun e w' => e = .returned (.tuple #[.slice none 0 0, .int .i64 1, .int .i64 3]) ∧ w = w') := Lib.hid fun w => split_bad ⟨#[97, 9, 98]⟩ w (by decide) (by decide)
  go_enter Try.func9, Try.ntmps9
  go_wp2_with (first
    | (go_at_call 13; refine HR.out.mono ?_; rintro e w1 ⟨rfl, hb1⟩)
    | (go_at_call 10; refine (HS.out _).mono ?_; rintro e w2 ⟨rfl, rfl⟩))
  go_ret
  exact ⟨rfl, hb1⟩
end Go.Proofs.Ytnepnfjghafccaa

/- The fixed fact of layer 13. -/
import Derived.Test.YtnnddmojcaicbaaDoorShowSpec
import Derived.Test.YtnnddmojcaicbaaDoorPAwake
namespace Go.Proofs.YtnnddmojcaicbaaDoor
open Go.RowKit
open Go.Lib (itoa decDigits)

/-- Numbers just laid. -/
theorem nums_new (w : World) (l : List Int) (c : Array Value) (hc : c = (l.map (Value.int .i64)).toArray) : IsNums (w.alloc (.cells c 2)).heap.size (w.alloc (.cells c 2)) (some ⟨w.heap.size, 0, none⟩) l.length l := by
  subst hc
  refine ⟨rfl, .inr ⟨w.heap.size, 0, rfl, by simp, fun j x hx => ?_⟩⟩
  rw [Nat.zero_add]
  simp [hx]
theorem line_bikes : lineS [98, 105, 107, 101, 115] [3, 20] = [98, 105, 107, 101, 115, 32, 51, 32, 50, 48, 10] := by
  simp [lineS, lineW, spW, itoa, decDigits]
theorem line_seven : lineS [] [7] = [55, 10] := by
  simp [lineS, lineW, spW, itoa, decDigits]
set_option maxHeartbeats 2000000 in
theorem show_awake (H : ShowSpec) (w : World) (ht : Tab w) : Calls Tryd.prog 8 #[] w (Holds w) := by
  have HT := Lib.hid ht
  have h0 := (Below.refl w.heap.size w).alloc (Nat.le_refl _) (.cells #[.int .i64 3, .int .i64 20] 2)
  have HB0 := Lib.hid h0
  have HL1 : Hid (Calls Tryd.prog 10 #[.string ⟨#[98, 105, 107, 101, 115]⟩, .slice (some ⟨w.heap.size, 0, none⟩) 2 2] (w.alloc (.cells #[.int .i64 3, .int .i64 20] 2)) fun e w' => e = .returned (.string ⟨#[98, 105, 107, 101, 115, 32, 51, 32, 50, 48, 10]⟩) ∧ Below (w.alloc (.cells #[.int .i64 3, .int .i64 20] 2)).heap.size (w.alloc (.cells #[.int .i64 3, .int .i64 20] 2)) w') := Lib.hid (by
    have h := H.line ⟨#[98, 105, 107, 101, 115]⟩ (some ⟨w.heap.size, 0, none⟩) 2 2 [3, 20] (w.alloc (.cells #[.int .i64 3, .int .i64 20] 2)) (ht.later h0) (by decide) (by decide) (nums_new w [3, 20] _ rfl) (fun v hv => by simp at hv; rcases hv with rfl | rfl <;> decide)
    rw [show (⟨#[98, 105, 107, 101, 115]⟩ : ByteArray).data.toList = [98, 105, 107, 101, 115] from rfl, line_bikes] at h
    exact h)
  have HL2 : Hid (∀ W0 : World, Tab W0 → Calls Tryd.prog 10 #[.string ⟨#[]⟩, .slice (some ⟨W0.heap.size, 0, none⟩) 1 1] (W0.alloc (.cells #[.int .i64 7] 2)) fun e w' => e = .returned (.string ⟨#[55, 10]⟩) ∧ Below (W0.alloc (.cells #[.int .i64 7] 2)).heap.size (W0.alloc (.cells #[.int .i64 7] 2)) w') := Lib.hid (fun W0 hW => by
    have h1 := (Below.refl W0.heap.size W0).alloc (Nat.le_refl _) (.cells #[.int .i64 7] 2)
    have h := H.line ⟨#[]⟩ (some ⟨W0.heap.size, 0, none⟩) 1 1 [7] (W0.alloc (.cells #[.int .i64 7] 2)) (hW.later h1) (by decide) (by decide) (nums_new W0 [7] _ rfl) (fun v hv => by simp at hv; subst hv; decide)
    rw [show (⟨#[]⟩ : ByteArray).data.toList = [] from rfl, line_seven] at h
    exact h)
  unfold Holds
  clear ht h0 H
  go_enter Tryd.func8, Tryd.ntmps8
  go_wp2_with fail
  refine HL1.out.mono ?_
  rintro e w1 ⟨rfl, hb1⟩
  have HB1 := Lib.hid (HB0.out.trans (hb1.mono HB0.out.size))
  have HB2 := Lib.hid (HB1.out.alloc HB1.out.size (.cells #[.int .i64 7] 2))
  clear hb1 HL1
  go_wp2_with fail
  refine (HL2.out _ (HT.out.later HB1.out)).mono ?_
  rintro e w2 ⟨rfl, hb2⟩
  have HB3 := Lib.hid (HB2.out.trans (hb2.mono HB2.out.size))
  clear hb2 HL2
  go_wp2_with (go_at_call 18; refine (parse_awake _).mono ?_; rintro e w4 ⟨rfl, hb4⟩; have HB4 := Lib.hid (HB3.out.trans (hb4.mono HB3.out.size)); clear hb4)
  go_ret
  exact ⟨rfl, HB4.out⟩
end Go.Proofs.YtnnddmojcaicbaaDoor

/- What Text of package whole answers; a number's text, read. -/
import Derived.Test.YtnnddmojcaicbaaDoorRows
import Derived.Test.YtnnddmojcaicbaaDoorPlA
import Derived.Test.YtnnddmojcaicbaaDoorShelf
import Derived.WalkKit
import Derived.WalkLawsBesides
import Derived.Lib.Hide
import Derived.Lib.LaidTab
namespace Go.Proofs.YtnnddmojcaicbaaDoor
open Go.RowKit
open Go.Lib (decDigits itoa)

theorem below_grow {w : World} (k : Nat) (os : Array Obj) : Below w.heap.size w (Sort.grow (w.drewN k) os) :=
  ⟨rfl, rfl, rfl, by simp [Sort.grow, World.drewN], fun b hb => by simp [Sort.grow, World.drewN, Array.getElem?_append_left hb]⟩

theorem text_any (n : Int) (hn : Fits n) (w : World) (htab : Lib.TabIs Tryd.prog w "internal/strconv.uint64pow10" .u64 Lib.pow10Tab) : Calls Tryd.prog 22 #[.int .i64 n] w fun e w' => e = .returned (.string ⟨(itoa n).toArray⟩) ∧ Below w.heap.size w w' := by
  have HN := Lib.hid hn; clear hn
  have HT := Lib.hid htab; clear htab
  go_enter Tryd.func22, Tryd.ntmps22
  go_wp2_with (go_at_call 46; refine (Tryd.strconv_FormatInt_10 _ HN.out.1 HN.out.2 _ HT.out).mono ?_; rintro e w1 ⟨rfl, k, os, rfl⟩)
  go_ret
  exact ⟨rfl, below_grow _ _⟩

/-- A number's text, read. -/
theorem parse_itoa (n : Int) : parseO (itoa n) = if 0 ≤ n ∧ n ≤ 1000000000000000 then some n.toNat else none := by
  by_cases h : n < 0
  · rw [if_neg (by omega)]
    exact parse_bad _ 45 (by rw [itoa, if_pos h]; simp) (by decide)
  · rw [itoa, if_neg h, parse_ref, dec_val]
    by_cases h2 : n ≤ 1000000000000000
    · rw [if_pos ⟨dec_all _, by omega, rfl⟩, if_pos (by omega)]
    · rw [if_neg (by omega), if_neg (by omega)]
theorem itoa_len (n : Int) (hn : Fits n) : (itoa n).length ≤ 20 := by
  unfold Fits at hn
  have h1 := nDigits_le n.natAbs 19 (by omega) (by omega)
  rw [itoa]
  split
  · simp; omega
  · rw [show n.toNat = n.natAbs by omega]; omega
end Go.Proofs.YtnnddmojcaicbaaDoor

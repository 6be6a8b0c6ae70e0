/- Package word: Is. -/
import Derived.Test.YtoafmbjdchkahaaReader
namespace Go.Proofs.Ytoafmbjdchkahaa
open Go.RowKit
variable {base R n k : Nat} {v : Value} {ws : List W} {at_ code : Int} {w w' : World}

theorem str_ext {x y : ByteArray} (h : x.toList = y.toList) : x = y := by
  apply ByteArray.ext
  apply Array.ext'
  rwa [Go.Lib.toList_data, Go.Lib.toList_data] at h
theorem str_ne {x y : ByteArray} (h : x ≠ y) : (x.toList == y.toList) = false := by
  simp
  exact fun g => h (str_ext g)

theorem is_end (h : Rd base R v ws n k at_ code w) (hk : ¬ k < ws.length) (x : ByteArray) : Calls Try.prog 46 #[ptrR R, .string x] w fun e w' => e = .returned (.bool false) ∧ ∃ m, w' = w.drewN m := by
  have HM : Hid (∀ m, Calls Try.prog 44 #[ptrR R] (w.drewN m) fun e w' => e = .returned (.bool false) ∧ ∃ j, w' = (w.drewN m).drewN j) := Lib.hid fun m => by
    have hm := more_any (h.drewN m)
    rwa [show decide (k < ws.length) = false from decide_eq_false hk] at hm
  clear h
  go_enter Try.func46, Try.ntmps46
  go_wp2
  go_quiet ((go_at_call 44; exact Calls.quiet_of (HM.out _)))
  go_wp2
  go_ret
  exact ⟨rfl, _, rfl⟩

theorem is_no (h : Rd base R v ws n k at_ code w) {t : List UInt8} {a : Nat} (hk : ws[k]? = some (t, a)) (x : ByteArray) (hx : (⟨t.toArray⟩ : ByteArray) ≠ x) : Calls Try.prog 46 #[ptrR R, .string x] w fun e w' => e = .returned (.bool false) ∧ ∃ m, w' = w.drewN m := by
  have hlt : k < ws.length := (List.getElem?_eq_some_iff.1 hk).1
  have HM : Hid (∀ m, Calls Try.prog 44 #[ptrR R] (w.drewN m) fun e w' => e = .returned (.bool true) ∧ ∃ j, w' = (w.drewN m).drewN j) := Lib.hid fun m => by
    have hm := more_any (h.drewN m)
    rwa [show decide (k < ws.length) = true from decide_eq_true hlt] at hm
  obtain ⟨c0, c1, c2, c3, c4, hf, hR⟩ := h.cells
  obtain ⟨g, cap, hv, hcl, hcm, e0, e1⟩ := h.word hk
  have hl := h.len
  subst hv
  unfold maxLen at hcm
  have hb : ((⟨t.toArray⟩ : ByteArray).toList == x.toList) = false := str_ne hx
  clear h hf c2 c3 c4 hk e1 hx
  generalize (⟨t.toArray⟩ : ByteArray) = y at *
  go_enter Try.func46, Try.ntmps46
  go_wp2
  go_quiet ((go_at_call 44; exact Calls.quiet_of (HM.out _)))
  go_wp2
  go_ret
  exact ⟨rfl, _, rfl⟩

theorem is_yes (h : Rd base R v ws n k at_ code w) {t : List UInt8} {a : Nat} (hk : ws[k]? = some (t, a)) : Calls Try.prog 46 #[ptrR R, .string ⟨t.toArray⟩] w fun e w' => e = .returned (.bool true) ∧ ∃ m, w' = (w.drewN m).setCell ⟨R, 1, none⟩ (.int .i64 ((k : Int) + 1)) := by
  have hlt : k < ws.length := (List.getElem?_eq_some_iff.1 hk).1
  have HM : Hid (∀ m, Calls Try.prog 44 #[ptrR R] (w.drewN m) fun e w' => e = .returned (.bool true) ∧ ∃ j, w' = (w.drewN m).drewN j) := Lib.hid fun m => by
    have hm := more_any (h.drewN m)
    rwa [show decide (k < ws.length) = true from decide_eq_true hlt] at hm
  obtain ⟨c0, c1, c2, c3, c4, hf, hR⟩ := h.cells
  obtain ⟨g, cap, hv, hcl, hcm, e0, e1⟩ := h.word hk
  have hl := h.len
  subst hv
  unfold maxLen at hcm
  have f1 := hf 1
  clear h hf c2 c3 c4 hk e1
  generalize (⟨t.toArray⟩ : ByteArray) = y at *
  go_enter Try.func46, Try.ntmps46
  go_wp2
  go_quiet ((go_at_call 44; exact Calls.quiet_of (HM.out _)))
  go_wp2
  go_ret
  exact ⟨rfl, _, rfl⟩
end Go.Proofs.Ytoafmbjdchkahaa

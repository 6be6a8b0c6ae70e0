/- What Parse of package whole answers, of any text. -/
import Derived.Test.YtnnddmojcaicbaaDoorRows
import Derived.Test.YtnnddmojcaicbaaDoorPlA
import Derived.WalkKit
import Derived.WalkLawsBesides
import Derived.Lib.Hide
namespace Go.Proofs.YtnnddmojcaicbaaDoor
open Go.RowKit

theorem width_pos (s : ByteArray) (pos : Nat) (h : pos < s.size) : 1 ≤ (Utf8.decode s pos).2 := by
  by_cases ha : (s[pos]'h).toNat < 128
  · rw [decode_ascii s pos h ha]
    exact Nat.le_refl _
  · exact (decode_high s pos h (by omega)).2

theorem parse_leads (l : List UInt8) (h : leads l = true) : parseO l = none := by simp [parseO, h]
theorem parse_read (l : List UInt8) (h : leads l = false) : parseO l = readN l := by simp [parseO, h]
theorem readN_cut (l : List UInt8) (k : Nat) (h : readN (l.take (k + 1)) = none) : readN l = none := by
  have := readN_append_none _ (l.drop (k + 1)) h
  rwa [List.take_append_drop] at this
theorem getElem_data (s : ByteArray) (k : Nat) (h : k < s.size) : s.data.toList[k]'(by simpa using h) = s[k] := rfl

theorem parse_any (s : ByteArray) (hs : s.size ≤ maxLen) (w : World) : Calls Tryd.prog 53 #[.string s] w fun e w' => e = .returned (.tuple #[.int .i64 (((parseO s.data.toList).getD 0 : Nat) : Int), .bool (parseO s.data.toList).isSome]) ∧ Below w.heap.size w w' := by
  unfold maxLen at hs
  by_cases h0 : s.data.toList = []
  · have hv : Hid (parseO s.data.toList = none) := Lib.hid (parse_leads _ (by rw [h0]; rfl))
    have h1 : s.toList = [] := by rw [Go.Lib.toList_data, h0]
    have h2 : s.toList.isEmpty = true := by rw [h1]; rfl
    clear h0
    go_enter Tryd.func53, Tryd.ntmps53
    go_wp2
    go_ret2
    exact ⟨by rw [hv.out]; rfl, Below.refl _ _⟩
  · have h1 : s.toList.isEmpty = false := by rw [Go.Lib.toList_data]; simpa using h0
    have hpos : 0 < s.size := by
      rcases Nat.eq_zero_or_pos s.size with h | h
      · exact absurd (List.eq_nil_of_length_eq_zero (by simpa using h)) h0
      · exact h
    by_cases hl : leads s.data.toList = true
    · have hv : Hid (parseO s.data.toList = none) := Lib.hid (parse_leads _ hl)
      have hl' : 1 < s.size ∧ s[0] = 48 := by
        simp [leads] at hl
        rcases hl with hl | hl
        · exact absurd (by simpa using hl) h0
        · refine ⟨by simpa using hl.1, ?_⟩
          have := hl.2
          rw [List.head?_eq_getElem?, List.getElem?_eq_getElem (by simpa using hpos)] at this
          exact (by simpa using this : s.data[0] = 48)
      clear h0 hl
      obtain ⟨l1, l2⟩ := hl'
      have l3 : (s[0].toNat : Int) = 48 := by rw [l2]; rfl
      have l4 : (1 : Int) < (s.size : Int) := by omega
      clear l2
      go_enter Tryd.func53, Tryd.ntmps53
      go_wp2
      go_ret2
      exact ⟨by rw [hv.out]; rfl, Below.refl _ _⟩
    · have hr : Hid (parseO s.data.toList = readN s.data.toList) := Lib.hid (parse_read _ (by simpa using hl))
      have hl' : 1 < s.size → s[0] ≠ 48 := by
        intro h3 h4
        apply hl
        simp [leads]
        exact .inr ⟨h3, by rw [List.head?_eq_getElem?, List.getElem?_eq_getElem (by simpa using hpos)]; have h5 : s.data[0] = 48 := h4; simpa using h5⟩
      clear h0 hl
      by_cases c1 : 1 < s.size
      all_goals
        first
        | (have l3 : ((s[0].toNat : Int) == 48) = false := by
             have := hl' c1
             simp
             intro h5
             apply this
             apply UInt8.toNat_inj.1
             simp; omega
           have l4 : (1 : Int) < (s.size : Int) := by omega
           clear hl')
        | (clear hl'
           have l4 : (s.size : Int) ≤ 1 := by omega)
        go_enter Tryd.func53, Tryd.ntmps53
        go_wp2
        go_loopw [4] (fun n w' => ∃ pos m : Nat, pos ≤ s.size ∧ w' = w.iter s pos ∧ n = .int .i64 m ∧ readN (s.data.toList.take pos) = some m ∧ m ≤ 1000000000000000) (fun _ w' => s.size - w'.iterPos w.heap.size)
        case atStart => exact ⟨0, 0, Nat.zero_le _, rfl, rfl, rfl, by omega⟩
        case round =>
          obtain ⟨pos, m, hp, rfl, rfl, hm, hm1⟩ := hrel
          have HM := Lib.hid hm; clear hm
          have hm2 : (m : Int) ≤ 1000000000000000 := by omega
          by_cases hlt : pos < s.size
          · have hsn : Hid (s.data.toList.take (pos + 1) = s.data.toList.take pos ++ [s[pos]]) := Lib.hid (take_snoc s.data.toList pos (by simpa using hlt))
            have hst : Hid (readN (s.data.toList.take (pos + 1)) = step (some m) s[pos]) := Lib.hid (by rw [hsn.out, readN_snoc, HM.out])
            by_cases ha : s[pos].toNat < 128
            · have hnx : ∀ ty, (Instr.next (.pointer (some ⟨w.heap.size, 0, none⟩)) true ty).run Tryd.prog (w.iter s pos) = _ := fun ty => run_next_ascii w s pos ty hlt ha
              by_cases hd : isDig s[pos] = true
              · have hr : 48 ≤ s[pos].toNat ∧ s[pos].toNat ≤ 57 := by simpa [isDig] using hd
                have HD := Lib.hid hd; clear hd
                obtain ⟨r1, r2⟩ := hr
                have r3 : (48 : Int) ≤ (s[pos].toNat : Int) := by omega
                have r4 : (s[pos].toNat : Int) ≤ 57 := by omega
                by_cases hgt : 10 * m + (s[pos].toNat - 48) ≤ 1000000000000000
                · have hok : Hid (readN (s.data.toList.take (pos + 1)) = some (10 * m + (s[pos].toNat - 48))) := Lib.hid (by rw [hst.out]; simp only [step]; rw [if_pos ⟨HD.out, hgt⟩])
                  have g1 : (m : Int) * 10 + ((s[pos].toNat : Int) - 48) ≤ 1000000000000000 := by omega
                  go_wp2
                  go_roundw
                  case rel => exact ⟨pos + 1, _, by omega, rfl, by go_num, hok.out, hgt⟩
                  case measure => simp; omega
                · have hno : Hid (readN s.data.toList = none) := Lib.hid (readN_cut _ pos (by rw [hst.out]; simp only [step]; rw [if_neg (by simp [hgt])]))
                  have g1 : 1000000000000000 < (m : Int) * 10 + ((s[pos].toNat : Int) - 48) := by omega
                  go_wp2
                  go_ret2
                  exact ⟨by rw [hr.out, hno.out]; rfl, (Below.refl _ _).alloc (Nat.le_refl _) _⟩
              · have hno : Hid (readN s.data.toList = none) := Lib.hid (readN_cut _ pos (by rw [hst.out]; simp only [step]; rw [if_neg (by simp [hd])]))
                have hr' : ¬ (48 ≤ s[pos].toNat ∧ s[pos].toNat ≤ 57) := by simpa [isDig] using hd
                clear hd
                by_cases d1 : (s[pos].toNat : Int) < 48
                · clear hr'
                  go_wp2
                  go_ret2
                  exact ⟨by rw [hr.out, hno.out]; rfl, (Below.refl _ _).alloc (Nat.le_refl _) _⟩
                · have d2 : 57 < (s[pos].toNat : Int) := by omega
                  clear hr'
                  go_wp2
                  go_ret2
                  exact ⟨by rw [hr.out, hno.out]; rfl, (Below.refl _ _).alloc (Nat.le_refl _) _⟩
            · have hnx : ∀ ty, (Instr.next (.pointer (some ⟨w.heap.size, 0, none⟩)) true ty).run Tryd.prog (w.iter s pos) = _ := fun ty => run_next_any w s pos ty hlt
              have hno : Hid (readN s.data.toList = none) := Lib.hid (readN_cut _ pos (by rw [hst.out]; simp only [step]; rw [if_neg (by simp [isDig]; omega)]))
              have hhi : 57 < (Utf8.decode s pos).1 := by have := (decode_high s pos hlt (by omega)).1; omega
              have hhi2 : 48 ≤ (Utf8.decode s pos).1 := by omega
              go_wp2
              go_ret2
              exact ⟨by rw [hr.out, hno.out]; rfl, (Below.refl _ _).alloc (Nat.le_refl _) _⟩
          · obtain rfl : pos = s.size := by omega
            have hnx : ∀ ty, (Instr.next (.pointer (some ⟨w.heap.size, 0, none⟩)) true ty).run Tryd.prog (w.iter s s.size) = _ := fun ty => run_next_end w s s.size ty hlt
            have hall : Hid (readN s.data.toList = some m) := Lib.hid (by have := HM.out; rwa [List.take_of_length_le (by simp)] at this)
            go_wp2
            go_ret2
            exact ⟨by rw [hr.out, hall.out]; rfl, (Below.refl _ _).alloc (Nat.le_refl _) _⟩
end Go.Proofs.YtnnddmojcaicbaaDoor

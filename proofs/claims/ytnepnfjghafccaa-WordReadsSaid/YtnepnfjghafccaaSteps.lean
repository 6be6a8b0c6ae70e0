/- What a reader is asked, step by step, and what it tells: by definition. -/
import Derived.Test.YtnepnfjghafccaaRead
namespace Go.Proofs.Ytnepnfjghafccaa
open Go.RowKit

/-- A step: what is asked; a text; a number's bounds. -/
structure St where
  d : Nat
  t : ByteArray
  lo : Int
  hi : Int
instance : Inhabited St := ⟨⟨0, ⟨#[]⟩, 0, 0⟩⟩
/-- Is the next word this? -/
def isW (ws : List W) (k : Nat) (t : ByteArray) : Bool := match ws[k]? with | some x => x.1 == t.data.toList | none => false
/-- What is asked where the place stands at word k: where it stands then, and what is told; or why it gives up. -/
def stepO (ws : List W) (n : Nat) (x : St) (k : Nat) : (Nat × List Int) ⊕ Int :=
  match x.d % 5 with
  | 0 => .inl (k, [(placeN ws n k : Int)])
  | 1 => .inl (k, [if k < ws.length then 1 else 0])
  | 2 => if isW ws k x.t then .inl (k + 1, [1]) else .inl (k, [0])
  | 3 => if isW ws k x.t then .inl (k + 1, []) else .inr 5
  | _ => match ws[k]? with
    | none => .inr 3
    | some y => match parseO y.1 with
      | none => .inr 3
      | some q => if (q : Int) < x.lo ∨ x.hi < (q : Int) then .inr 2 else .inl (k + 1, [(q : Int)])
abbrev Fin3 := Nat × List Int × Option Int
def goes (ws : List W) (n : Nat) : List St → Nat → List Int → Fin3
  | [], k, t => (k, t, none)
  | x :: r, k, t => match stepO ws n x k with
    | .inl (k', a) => goes ws n r k' (t ++ a)
    | .inr c => (k, t, some c)
variable {ws : List W} {n k : Nat} {x : St} {l : List St} {t : List Int} {F : Fin3} {j : Nat}
theorem goes_on {k' : Nat} {a : List Int} (h : goes ws n (l.drop j) k t = F) (hx : l[j]? = some x) (hs : stepO ws n x k = .inl (k', a)) : goes ws n (l.drop (j + 1)) k' (t ++ a) = F := by
  obtain ⟨hj, rfl⟩ := List.getElem?_eq_some_iff.1 hx
  rw [List.drop_eq_getElem_cons hj, goes, hs] at h
  exact h
theorem goes_off {c : Int} (h : goes ws n (l.drop j) k t = F) (hx : l[j]? = some x) (hs : stepO ws n x k = .inr c) : F = (k, t, some c) := by
  obtain ⟨hj, rfl⟩ := List.getElem?_eq_some_iff.1 hx
  rw [List.drop_eq_getElem_cons hj, goes, hs] at h
  exact h.symm
theorem goes_end (h : goes ws n (l.drop j) k t = F) (hj : l.length ≤ j) : F = (k, t, none) := by
  rw [List.drop_of_length_le hj, goes] at h
  exact h.symm
theorem goes_told : ∀ (l : List St) (k : Nat) (t : List Int), (goes ws n l k t).2.1.length ≤ t.length + l.length
  | [], k, t => by simp [goes]
  | x :: r, k, t => by
    rw [goes]
    split
    · rename_i k' a h
      have := goes_told r k' (t ++ a)
      have ha : a.length ≤ 1 := by
        unfold stepO at h
        repeat' split at h
        all_goals first | (cases h; simp) | cases h
      simp at this ⊢
      omega
    · simp
theorem stepO_0 (h : x.d % 5 = 0) : stepO ws n x k = .inl (k, [(placeN ws n k : Int)]) := by simp [stepO, h]
theorem stepO_1 (h : x.d % 5 = 1) : stepO ws n x k = .inl (k, [if k < ws.length then 1 else 0]) := by simp [stepO, h]
theorem stepO_2 (h : x.d % 5 = 2) : stepO ws n x k = if isW ws k x.t then .inl (k + 1, [1]) else .inl (k, [0]) := by simp [stepO, h]
theorem stepO_3 (h : x.d % 5 = 3) : stepO ws n x k = if isW ws k x.t then .inl (k + 1, []) else .inr 5 := by simp [stepO, h]
theorem stepO_4 (h : x.d % 5 = 4) : stepO ws n x k = match ws[k]? with
    | none => .inr 3
    | some y => match parseO y.1 with
      | none => .inr 3
      | some q => if (q : Int) < x.lo ∨ x.hi < (q : Int) then .inr 2 else .inl (k + 1, [(q : Int)]) := by simp [stepO, h]
theorem isW_end (h : ¬ k < ws.length) (y : ByteArray) : isW ws k y = false := by
  have : ws[k]? = none := by simpa using h
  simp [isW, this]
theorem isW_at {u : List UInt8} {a : Nat} (h : ws[k]? = some (u, a)) (y : ByteArray) : isW ws k y = decide ((⟨u.toArray⟩ : ByteArray) = y) := by
  simp only [isW, h]
  rw [Bool.eq_iff_iff]
  simp only [beq_iff_eq, decide_eq_true_eq]
  constructor
  · intro e
    apply ByteArray.ext
    apply Array.ext'
    simpa using e
  · rintro rfl
    simp
/-- Where it ends, and why. -/
def finAt (ws : List W) (n : Nat) (F : Fin3) : Nat := match F.2.2 with | none => endAt ws n F.1 | some _ => placeN ws n F.1
def finCode (ws : List W) (F : Fin3) : Int := match F.2.2 with | none => endCode ws F.1 | some c => c
theorem code_ne (h : goes ws n l k t = F) {c : Int} (hc : F.2.2 = some c) : (c != 0) = true := by
  subst h
  induction l generalizing k t with
  | nil => simp [goes] at hc
  | cons x r ih =>
    rw [goes] at hc
    split at hc
    · exact ih hc
    · rename_i c' h
      simp at hc
      subst hc
      unfold stepO at h
      repeat' split at h
      all_goals first | (cases h; rfl) | cases h
/-- The steps of a slice that came in: at row a, len of them, four cells each. -/
def StRow (w : World) (p : Addr) (l : List St) : Prop := ∀ i x, l[i]? = some x →
  w.cell? (p.add (i * 4)) = some (.int .u8 (x.d : Int)) ∧ w.cell? (p.add (i * 4 + 1)) = some (.string x.t) ∧ w.cell? (p.add (i * 4 + 2)) = some (.int .i64 x.lo) ∧ w.cell? (p.add (i * 4 + 3)) = some (.int .i64 x.hi) ∧ x.d ≤ 255
def IsSteps (w : World) (a : Option Addr) (len : Nat) (l : List St) : Prop := l.length = len ∧ (len = 0 ∨ ∃ b off, a = some ⟨b, off, none⟩ ∧ b < w.heap.size ∧ StRow w ⟨b, off, none⟩ l)
theorem StRow.at_ {w : World} {b off : Nat} (h : StRow w ⟨b, off, none⟩ l) (hx : l[j]? = some x) :
    w.cell? ⟨b, off + j * 4, none⟩ = some (.int .u8 (x.d : Int)) ∧ w.cell? ⟨b, off + j * 4 + 1, none⟩ = some (.string x.t) ∧ w.cell? ⟨b, off + j * 4 + 2, none⟩ = some (.int .i64 x.lo) ∧ w.cell? ⟨b, off + j * 4 + 3, none⟩ = some (.int .i64 x.hi) ∧ x.d ≤ 255 := by
  have := h j x hx
  simp only [Addr.add_lit] at this
  exact this
end Go.Proofs.Ytnepnfjghafccaa

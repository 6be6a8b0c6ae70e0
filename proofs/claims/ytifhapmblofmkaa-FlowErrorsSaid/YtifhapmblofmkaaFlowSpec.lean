/- What the calls of package flow are to answer: for the laws' walks, whatever their text is. -/
import Derived.Test.YtifhapmblofmkaaFlowT
namespace Go.Proofs.Ytifhapmblofmkaa
open Go.RowKit

/-- Numbers, as what flows. -/
def flOf (xs : List Int) : Nat → Int := fun k => xs.getD k 0
/-- What Right answers. -/
noncomputable def rightV (n : Int) (l : List Pi) (xs : List Int) (s t : Int) : Int × Bool := open Classical in
  if endsP n l s t = 0 ∧ xs.length = l.length ∧ IsFlow l n.toNat (flOf xs) s.toNat t.toNat then (netTo l (flOf xs) t l.length, true) else (0, false)
/-- Truth values, as cells. -/
def boolF (N : Nat) (c : Nat → Bool) : List Value := (List.range N).map (fun i => .bool (c i))
theorem boolF_length (N : Nat) (c : Nat → Bool) : (boolF N c).length = N := by simp [boolF]
theorem boolF_get {N i : Nat} (c : Nat → Bool) (h : i < N) : (boolF N c)[i]? = some (.bool (c i)) := by simp [boolF, h]
/-- The slice v is a row of the call's own, from block base on, of these N truth values. -/
def BoolRow (w : World) (base : Nat) (v : Value) (N : Nat) (c : Nat → Bool) : Prop := w.ownsRow base 4 1 v N (boolF N c)
/-- What the calls of package flow are to answer. -/
structure FlowSpec : Prop where
  check_any : ∀ (n : Int) (len cap : Nat) (l : List Pi) (a : Option Addr) (w : World), IsPipes w.heap.size w a len l →
    Calls Try.prog 17 #[.agg #[.int .i64 n, .slice a len cap]] w fun e w' => e = .returned (.int .i64 (checkP n l)) ∧ Below w.heap.size w w'
  ends_any : ∀ (n s t : Int) (len cap : Nat) (l : List Pi) (a : Option Addr) (w : World), IsPipes w.heap.size w a len l →
    Calls Try.prog 18 #[.agg #[.int .i64 n, .slice a len cap], .int .i64 s, .int .i64 t] w fun e w' => e = .returned (.int .i64 (endsP n l s t)) ∧ Below w.heap.size w w'
  most_bad : ∀ (n s t : Int) (len cap : Nat) (l : List Pi) (a : Option Addr) (w : World), endsP n l s t ≠ 0 → IsPipes w.heap.size w a len l →
    Calls Try.prog 11 #[.agg #[.int .i64 n, .slice a len cap], .int .i64 s, .int .i64 t] w fun e w' => Below w.heap.size w w' ∧ ∃ a1 c1, e = .returned (.tuple #[.slice a1 0 c1, .int .i64 0, .int .i64 (endsP n l s t)])
  most_ok : ∀ (N s t len cap : Nat) (l : List Pi) (a : Option Addr) (w : World), endsP (N : Int) l (s : Int) (t : Int) = 0 → IsPipes w.heap.size w a len l →
    Calls Try.prog 11 #[.agg #[.int .i64 (N : Int), .slice a len cap], .int .i64 (s : Int), .int .i64 (t : Int)] w fun e w' => Below w.heap.size w w' ∧
      ∃ v fl much, e = .returned (.tuple #[v, .int .i64 much, .int .i64 0]) ∧ LongRow w' w.heap.size v len fl ∧ IsMost l N fl s t much
  cut_bad : ∀ (n s : Int) (len cap : Nat) (l : List Pi) (a : Option Addr) (m c : Nat) (xs : List Int) (b : Option Addr) (w : World), (checkP n l ≠ 0 ∨ m ≠ len ∨ ¬ (0 ≤ s ∧ s < n)) → m ≤ 9223372036854775807 → IsPipes w.heap.size w a len l → IsNums w.heap.size w b m xs →
    Calls Try.prog 15 #[.agg #[.int .i64 n, .slice a len cap], .slice b m c, .int .i64 s] w fun e w' => Below w.heap.size w w' ∧ ∃ a1 c1, e = .returned (.slice a1 0 c1)
  cut_ok : ∀ (N s len cap : Nat) (l : List Pi) (a : Option Addr) (c : Nat) (xs : List Int) (b : Option Addr) (w : World), checkP (N : Int) l = 0 → s < N → IsPipes w.heap.size w a len l → IsNums w.heap.size w b len xs →
    Calls Try.prog 15 #[.agg #[.int .i64 (N : Int), .slice a len cap], .slice b len c, .int .i64 (s : Int)] w fun e w' => Below w.heap.size w w' ∧
      ∃ v d, e = .returned v ∧ BoolRow w' w.heap.size v N d ∧ ∀ i, i < N → (d i = true ↔ Res l (flOf xs) s i)
  right_any : ∀ (n s t : Int) (len cap : Nat) (l : List Pi) (a : Option Addr) (m c : Nat) (xs : List Int) (b : Option Addr) (w : World), m ≤ 9223372036854775807 → len ≤ 9223372036854775807 → IsPipes w.heap.size w a len l → IsNums w.heap.size w b m xs →
    Calls Try.prog 16 #[.agg #[.int .i64 n, .slice a len cap], .slice b m c, .int .i64 s, .int .i64 t] w fun e w' => Below w.heap.size w w' ∧
      e = .returned (.tuple #[.int .i64 (rightV n l xs s t).1, .bool (rightV n l xs s t).2])
theorem flOf_rowF {xs : List Int} {N : Nat} {f : Nat → Int} (h : xs = (List.range N).map f) : ∀ k, k < N → flOf xs k = f k := fun k hk => by
  subst h
  simp [flOf, List.getD, hk]
/-- A row of the call's own, as numbers. -/
theorem LongRow.nums {w : World} {B N g cap : Nat} {f : Nat → Int} (h : LongRow w B (.slice (some ⟨g, 0, none⟩) N cap) N f) : IsNums w.heap.size w (some ⟨g, 0, none⟩) N ((List.range N).map f) := by
  refine ⟨by simp, .inr ⟨g, 0, rfl, h.base_.2, fun j x hx => ?_⟩⟩
  have hj : j < N := by have := (List.getElem?_eq_some_iff.1 hx).1; simpa using this
  simp [hj] at hx
  subst hx
  rw [Nat.zero_add]
  exact h.cell hj
theorem LongRow.nums0 {w : World} {B N cap : Nat} {a : Option Addr} {f : Nat → Int} (h : LongRow w B (.slice a N cap) N f) : IsNums w.heap.size w a N ((List.range N).map f) := by
  by_cases h0 : 0 < N
  · obtain ⟨g, c, e, _⟩ := h.some_ h0
    injection e with e1 _ e3
    subst e1 e3
    exact h.nums
  · obtain rfl : N = 0 := by omega
    exact ⟨by simp, .inl rfl⟩
/-- The same flow, by other names. -/
theorem sumP_fl {l : List Pi} {f1 f2 : Nat → Int} {i : Int} (h : ∀ k, k < l.length → f1 k = f2 k) : ∀ k, netTo l f1 i k = netTo l f2 i k := fun k =>
  sumP_congr (fun k x hx => by unfold brings; rw [h k (List.getElem?_eq_some_iff.1 hx).1]) k
theorem IsFlow.congr {l : List Pi} {N s t : Nat} {f1 f2 : Nat → Int} (h : IsFlow l N f1 s t) (e : ∀ k, k < l.length → f1 k = f2 k) : IsFlow l N f2 s t :=
  ⟨fun k x hx => by rw [← e k (List.getElem?_eq_some_iff.1 hx).1]; exact h.cap k x hx, fun i hi h1 h2 => by rw [← sumP_fl e]; exact h.cons i hi h1 h2, by rw [← sumP_fl e]; exact h.ge⟩
theorem Res.congr {l : List Pi} {s i : Nat} {f1 f2 : Nat → Int} (h : Res l f1 s i) (e : ∀ k, k < l.length → f1 k = f2 k) : Res l f2 s i := by
  induction h with
  | here => exact .here
  | fwd h hx h1 h2 hl ih => exact ih.fwd hx h1 h2 (by rw [← e _ (List.getElem?_eq_some_iff.1 hx).1]; exact hl)
  | back h hx h1 h2 hl ih => exact ih.back hx h1 h2 (by rw [← e _ (List.getElem?_eq_some_iff.1 hx).1]; exact hl)
end Go.Proofs.Ytifhapmblofmkaa

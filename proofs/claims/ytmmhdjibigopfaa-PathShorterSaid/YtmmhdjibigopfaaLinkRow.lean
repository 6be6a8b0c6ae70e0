/- Rows of links of the call's own; slices.Clone of links. -/
import Derived.Test.YtmmhdjibigopfaaLGraph
import Derived.Deep.AppendLies
import Derived.Lib.LazyBuf
namespace Go.Proofs.Ytmmhdjibigopfaa
open Go.RowKit

variable {w w2 wr w4 : World} {B base len cap g k : Nat} {l : List Ar} {a : Option Addr} {x : Ar} {v : Value}
def encL (x : Ar) : List Value := [.int .u8 x.1, .int .u8 x.2.1, .int .i16 x.2.2]
def flatL (l : List Ar) : List Value := l.flatMap encL
/-- A link's numbers are small. -/
def SmallL (x : Ar) : Prop := 0 ≤ x.1 ∧ x.1 ≤ 255 ∧ 0 ≤ x.2.1 ∧ x.2.1 ≤ 255 ∧ -32768 ≤ x.2.2 ∧ x.2.2 ≤ 32767
theorem flatL_length (l : List Ar) : (flatL l).length = l.length * 3 := by
  induction l with
  | nil => rfl
  | cons x r ih => unfold flatL at ih ⊢; rw [List.flatMap_cons, List.length_append, ih, List.length_cons]; show 3 + _ = _; omega
theorem flatL_snoc (l : List Ar) (x : Ar) : flatL (l ++ [x]) = flatL l ++ encL x := by simp [flatL]
theorem flatL_get : ∀ (l : List Ar) (k : Nat) (x : Ar), l[k]? = some x → (flatL l)[k * 3]? = some (.int .u8 x.1) ∧ (flatL l)[k * 3 + 1]? = some (.int .u8 x.2.1) ∧ (flatL l)[k * 3 + 2]? = some (.int .i16 x.2.2)
  | [], k, x, h => by simp at h
  | y :: r, 0, x, h => by
    simp at h
    subst h
    exact ⟨rfl, rfl, rfl⟩
  | y :: r, k + 1, x, h => by
    have ih := flatL_get r k x (by simpa using h)
    unfold flatL at ih ⊢
    rw [List.flatMap_cons]
    have e1 : (k + 1) * 3 = (k * 3) + 1 + 1 + 1 := by omega
    rw [e1]
    exact ih
theorem oneL (l : List Ar) : ∀ u ∈ flatL l, u.oneCell' = true := by
  intro u hu
  simp only [flatL, List.mem_flatMap, encL, List.mem_cons, List.not_mem_nil, or_false] at hu
  obtain ⟨x, _, rfl | rfl | rfl⟩ := hu <;> rfl
theorem oneL1 (x : Ar) : ∀ u ∈ encL x, u.oneCell' = true := by
  intro u hu
  simp [encL] at hu
  rcases hu with rfl | rfl | rfl <;> rfl
theorem owns_links {n : Nat} (h : w.ownsRow B 50 3 (.slice a n cap) l.length (flatL l)) (hs : ∀ x ∈ l, SmallL x) : n = l.length ∧ IsLinks w.heap.size w a n l := by
  rcases h.2 with ⟨e, h0⟩ | ⟨g, cap', cur, hv, hb, hg, _⟩
  · injection e with _ e2 _
    subst e2
    exact ⟨by omega, by omega, .inl rfl⟩
  · have hh := h
    injection hv with e1 e2 e3
    subst e1 e2 e3
    refine ⟨rfl, rfl, .inr ⟨g, 0, rfl, (Array.getElem?_eq_some_iff.1 hg).1, fun k x hk => ?_⟩⟩
    obtain ⟨q0, q1, q2⟩ := flatL_get l k x hk
    have c0 := World.ownsRow.cells hh (g := g) rfl _ _ q0
    have c1 := World.ownsRow.cells hh (g := g) rfl _ _ q1
    have c2 := World.ownsRow.cells hh (g := g) rfl _ _ q2
    simp only [Addr.add_lit, Nat.zero_add] at c0 c1 c2
    simp only [Nat.zero_add]
    exact ⟨c0, c1, c2, hs x (List.mem_of_getElem? hk)⟩
theorem IsLinks.smallAll (h : IsLinks B w a len l) : ∀ x ∈ l, SmallL x := by
  intro x hx
  rcases h.2 with h0 | ⟨b, off, _, _, hr⟩
  · have : l = [] := List.eq_nil_of_length_eq_zero (by rw [h.1]; exact h0)
    subst this
    cases hx
  · obtain ⟨k, hk⟩ := List.getElem?_of_mem hx
    exact (hr k x hk).2.2.2
/-- All cells of the links, from where they lie. -/
theorem LinkRow.flat : ∀ {l : List Ar} {b off : Nat}, LinkRow w b off l → ∀ (j : Nat) (u : Value), (flatL l)[j]? = some u → w.cell? ⟨b, off + j, none⟩ = some u := by
  intro l
  induction l with
  | nil => intro b off _ j u hu; simp [flatL] at hu
  | cons y r ih =>
    intro b off h j u hu
    have hr : LinkRow w b (off + 3) r := fun k x hk => by
      have := h (k + 1) x (by simpa using hk)
      have e : off + (k + 1) * 3 = off + 3 + k * 3 := by omega
      rw [e] at this
      exact this
    obtain ⟨c0, c1, c2, _⟩ := h 0 y rfl
    simp only [Nat.zero_mul, Nat.add_zero] at c0 c1 c2
    rw [flatL, List.flatMap_cons] at hu
    match j, hu with
    | 0, hu => simp [encL] at hu; subst hu; exact c0
    | 1, hu => simp [encL] at hu; subst hu; exact c1
    | 2, hu => simp [encL] at hu; subst hu; exact c2
    | j + 3, hu =>
      have := ih hr j u (by simpa [encL, flatL] using hu)
      have e : off + 3 + j = off + (j + 3) := by omega
      rw [e] at this
      exact this
theorem infoLink : (Try.prog.info? 50).map (fun i => (i.zero, i.size, i.bytes)) = some (some (.agg #[.int .u8 0, .int .u8 0, .int .i16 0]), 3, 4) := by kernel_rfl

set_option maxHeartbeats 1000000 in
theorem cloneLinks (hl : IsLinks w.heap.size w a len l) (hlen : len ≤ 1000000) (hcap : a = none → cap = 0) :
    Calls Try.prog 17 #[.slice a len cap] w fun e w' => ∃ v, e = .returned v ∧ w'.ownsRow w.heap.size 50 3 v l.length (flatL l) ∧ Below w.heap.size w w' := by
  obtain ⟨i0, hi, hz0, hz1, hz2⟩ := info_parts infoLink
  cases a with
  | none =>
    have h0 : l = [] := by
      rcases hl.2 with h0 | ⟨b, off, e, _⟩
      · exact List.eq_nil_of_length_eq_zero (by rw [hl.1]; exact h0)
      · cases e
    subst h0
    clear hl hcap
    have hnil : ∀ W, (binOp .eql 22 (.slice none len cap) (.slice none 0 0)).run Try.prog W = .ok (.bool true) W := fun W => run_eql_slice_nil W _ _ _ _ _ Try.underlying22
    go_enter Try.func17, Try.ntmps17
    go_wp2_with fail
    go_ret
    exact ⟨_, rfl, World.ownsRow_nil _ _ _ 3, Below.refl _ _⟩
  | some p =>
    have hnil : ∀ W, (binOp .eql 22 (.slice (some p) len cap) (.slice none 0 0)).run Try.prog W = .ok (.bool false) W := fun W => run_eql_slice_nil W _ _ _ _ _ Try.underlying22
    have HO : Hid ((w.alloc (.cells #[] 50)).ownsRow w.heap.size 50 3 (.slice (some ⟨w.heap.size, 0, none⟩) 0 0) 0 []) := Lib.hid (World.ownsRow_lit w #[] 0 (Nat.le_refl _) (by decide) rfl)
    have HLn : Hid (l.length = len) := Lib.hid hl.1
    by_cases h0 : len = 0
    · subst h0
      have hl0 : l = [] := List.eq_nil_of_length_eq_zero hl.1
      subst hl0
      clear hl hcap
      go_enter Try.func17, Try.ntmps17
      go_wp2_with fail
      go_ret
      exact ⟨_, rfl, HO.out, (Below.refl _ _).alloc (Nat.le_refl _) _⟩
    · obtain ⟨b, off, e, hb, hr⟩ : ∃ b off, some p = some (⟨b, off, none⟩ : Addr) ∧ b < w.heap.size ∧ LinkRow w b off l := by
        rcases hl.2 with h1 | ⟨b, off, e, h1, h2⟩
        · exact absurd h1 h0
        · exact ⟨b, off, e, h1, h2⟩
      cases e
      have HN : Hid (∀ (j : Nat) (u : Value), (flatL l)[j]? = some u → (w.alloc (.cells #[] 50)).cell? ((⟨b, off, none⟩ : Addr).add j) = some u) := Lib.hid fun j u hj => by
        rw [Addr.add_lit, World.cell?_alloc_past _ _ _ hb]
        exact hr.flat (b := b) (off := off) j u hj
      clear hl hr hcap
      go_enter Try.func17, Try.ntmps17
      go_wp2_with (at_builtin; refine wpList_append_lies _ rfl (.tmp 5) (.tmp 6) 22 rfl w.heap.size 50 i0 _ 3 4 Try.underlying22 hi hz0 hz1 hz2 (by decide) (by decide) (.slice (some ⟨w.heap.size, 0, none⟩) 0 0) 0 [] rfl HO.out ⟨b, off, none⟩ len cap (flatL l) rfl (by rw [flatL_length, HLn.out]) HN.out (oneL _) (by omega) (by unfold maxLen; omega) (by omega) (by simp) (w.heap.size + 1) (by simp) ?_; intro g' cap' w4 hown hgrow _ _; have HB : Hid (Below w.heap.size w w4) := Lib.hid (((Mod.refl (fun k => k = w.heap.size) w).alloc _ |>.grown hgrow (fun k hk => .inl (by cases hk; exact Nat.le_refl _))).below (Nat.le_refl _) (fun k hk => by omega)); have HR := Lib.hid hown; clear hown hgrow)
      go_ret
      exact ⟨_, rfl, by rw [HLn.out]; simpa using HR.out, HB.out⟩
end Go.Proofs.Ytmmhdjibigopfaa

/- Package path: a round, as its calls tell of it: which arcs are done, which node got nearer last. -/
import Derived.Test.YtmmhdjibigopfaaJac
import Derived.Test.YtmmhdjibigopfaaAdjK
namespace Go.Proofs.Ytmmhdjibigopfaa
open Go.RowKit

variable {l : List Ar} {N s i j k q r t f R : Nat} {d e p p0 W late : Int} {x : Ar} {snap far : Nat → Option Int} {by_ : Nat → Int} {ws : List Int} {T : Nat → Nat} {D D2 : Nat → Prop}
/-- Within a round: late is a node that got nearer in it; -1, if none did. -/
structure Rnd (l : List Ar) (s N : Nat) (snap far : Nat → Option Int) (by_ : Nat → Int) (T : Nat → Nat) (R : Nat) (D : Nat → Prop) (late : Int) : Prop where
  jac : Jac l s snap far by_ T R D
  end_ : (late = -1 ∧ ∀ i, far i = snap i) ∨ ∃ v : Nat, late = (v : Int) ∧ v < N ∧ T v = R + 1
theorem Rnd.sub (h : Rnd l s N snap far by_ T R D late) (hD : ∀ k, D2 k → D k) : Rnd l s N snap far by_ T R D2 late := ⟨h.jac.sub hD, h.end_⟩
theorem valI_set (t i : Nat) (d : Int) : (if i = t then d else valI far i) = valI (setO far t d) i := by
  by_cases e : i = t <;> simp [valI, setO, e]
theorem Rnd.no (h : Rnd l s N snap far by_ T R D late) (hok : ∀ x ∈ l, okA (N : Int) x = true) (hR : R ≤ 1000) (hx : l[q]? = some x) (h1 : x.1 = (f : Int)) (h2 : x.2.1 = (t : Int)) (hp : snap f = some p) (hge : ¬ p + x.2.2 < valI far t) :
    Rnd l s N snap far by_ T R (fun k => D k ∨ k = q) late := by
  have hs := h.jac.small2 hok hR hp
  have hw := okA_weight hok x (List.mem_of_getElem? hx)
  refine ⟨h.jac.skip hx h1 h2 hp ?_, h.end_⟩
  cases e : far t with
  | none => rw [valI_none e] at hge; omega
  | some dt => rw [valI_some e] at hge; exact ⟨dt, rfl, by omega⟩
theorem Rnd.yes (h : Rnd l s N snap far by_ T R D late) (hx : l[q]? = some x) (h1 : x.1 = (f : Int)) (h2 : x.2.1 = (t : Int)) (ht : t < N) (hp : snap f = some p) (hlt : p + x.2.2 < valI far t) :
    Rnd l s N snap (setO far t (p + x.2.2)) (setB by_ t q) (setT T t (R + 1)) R (fun k => D k ∨ k = q) (t : Int) := by
  refine ⟨h.jac.take hx h1 h2 hp (fun dt e => by rw [valI_some e] at hlt; exact hlt), .inr ⟨t, rfl, ht, by simp [setT]⟩⟩
/-- The arcs from the nodes below i. -/
def Upto (l : List Ar) (i : Nat) (k : Nat) : Prop := ∃ (x : Ar) (f : Nat), l[k]? = some x ∧ x.1 = (f : Int) ∧ f < i
theorem Upto.succ (h : Upto l (i + 1) k) : Upto l i k ∨ ∃ x, l[k]? = some x ∧ x.1 = (i : Int) := by
  obtain ⟨x, f, h1, h2, h3⟩ := h
  by_cases e : f < i
  · exact .inl ⟨x, f, h1, h2, e⟩
  · have : f = i := by omega
    subst this
    exact .inr ⟨x, h1, h2⟩
theorem Upto.all (hok : ∀ x ∈ l, okA (N : Int) x = true) : ∀ k, k < l.length → Upto l N k := fun k hk => by
  have hx : l[k]? = some l[k] := List.getElem?_eq_getElem hk
  have ho := okA_true.1 (hok _ (List.mem_of_getElem? hx))
  exact ⟨l[k], l[k].1.toNat, hx, by omega, by omega⟩
/-- .. and of those from node i the first j. -/
def UptoK (l : List Ar) (i j : Nat) (k : Nat) : Prop := Upto l i k ∨ (k : Int) ∈ (outK l i).take j
theorem UptoK.begin_ (h : UptoK l i 0 k) : Upto l i k := by
  rcases h with h | h
  · exact h
  · simp at h
theorem UptoK.succ (hq : (outK l i)[j]? = some (q : Int)) (h : UptoK l i (j + 1) k) : UptoK l i j k ∨ k = q := by
  rcases h with h | h
  · exact .inl (.inl h)
  · rw [List.take_add_one, hq] at h
    simp at h
    rcases h with h | h
    · exact .inl (.inr h)
    · exact .inr (by omega)
theorem UptoK.done (hj : (outK l i).length ≤ j) (h : Upto l (i + 1) k) : UptoK l i j k := by
  rcases h.succ with h | ⟨x, h1, h2⟩
  · exact .inl h
  · refine .inr ?_
    rw [List.take_of_length_le hj]
    exact mem_outK.2 ⟨k, x, rfl, h1, h2⟩
theorem Rnd.begin_ (h : Jac l s snap snap by_ T R (fun _ => False)) : Rnd l s N snap snap by_ T R (Upto l 0) (-1) := ⟨h.sub (fun k hk => by obtain ⟨x, f, _, _, h3⟩ := hk; omega), .inl ⟨rfl, fun _ => rfl⟩⟩
theorem Rnd.off (h : Rnd l s N snap far by_ T R (Upto l i) late) (hn : snap i = none) : Rnd l s N snap far by_ T R (Upto l (i + 1)) late :=
  ⟨(h.jac.off hn).sub (fun _ hk => hk.succ), h.end_⟩
/-- How it ends: a tree; or a node that got nearer in the last round of as many as there are nodes. -/
def Fin (l : List Ar) (s N : Nat) (far : Nat → Option Int) (by_ : Nat → Int) (late : Int) : Prop :=
  (late = -1 ∧ TreeOf l s far by_) ∨ ∃ (v : Nat) (T : Nat → Nat), late = (v : Int) ∧ v < N ∧ N ≤ T v ∧ Run l s far by_ T N l.length ∧ Neg l s
theorem Rnd.still (h : Rnd l s N snap far by_ T R (Upto l N) late) (hok : ∀ x ∈ l, okA (N : Int) x = true) (hl : late < 0) : Fin l s N far by_ (-1) := by
  rcases h.end_ with ⟨_, he⟩ | ⟨v, e, _⟩
  · have hd := h.jac.dist (Upto.all hok) he
    exact .inl ⟨rfl, h.jac.told hd.not_neg, h.jac.fixed (Upto.all hok) he⟩
  · omega
/-- Between two rounds: late is of the one behind. -/
structure Head (l : List Ar) (s N : Nat) (far : Nat → Option Int) (by_ : Nat → Int) (T : Nat → Nat) (R : Nat) (late : Int) : Prop where
  jac : Jac l s far far by_ T R (fun _ => False)
  end_ : R = 0 ∨ ∃ v : Nat, late = (v : Int) ∧ v < N ∧ T v = R
  fin : R = 0 ∨ Run l s far by_ T R l.length
theorem Head.begin_ (l : List Ar) (s N : Nat) : Head l s N (far0 s) (fun _ => -1) (fun _ => 0) 0 (-1) := ⟨Jac.begin_ l s, .inl rfl, .inl rfl⟩
theorem Rnd.next (h : Rnd l s N snap far by_ T R (Upto l N) late) (hok : ∀ x ∈ l, okA (N : Int) x = true) (hl : ¬ late < 0) : Head l s N far by_ T (R + 1) late := by
  refine ⟨h.jac.next (Upto.all hok), ?_, .inr (h.jac.run (Upto.all hok))⟩
  rcases h.end_ with ⟨e, _⟩ | ⟨v, e, h1, h2⟩
  · omega
  · exact .inr ⟨v, e, h1, h2⟩
theorem Head.last (h : Head l s N far by_ T N late) (hok : ∀ x ∈ l, okA (N : Int) x = true) (hs : s < N) : Fin l s N far by_ late := by
  rcases h.end_ with e | ⟨v, e, h1, h2⟩
  · omega
  · rcases h.fin with e2 | hr
    · omega
    · obtain ⟨ws, W, g1, g2, g3, g4⟩ := hr.cycle hok hs (v := v) (by omega)
      obtain ⟨k, d, hw⟩ := g4.walk
      exact .inr ⟨v, T, e, h1, by omega, hr, Neg.intro hw g1.walk g3⟩
theorem Fin.neg (h : Fin l s N far by_ late) : late < 0 ↔ ¬ Neg l s := by
  rcases h with ⟨e, ht⟩ | ⟨v, T, e, h1, h2, h3, h4⟩
  · exact ⟨fun _ => ht.dist.not_neg, fun _ => by omega⟩
  · exact ⟨fun _ => by omega, fun hn => absurd h4 hn⟩
end Go.Proofs.Ytmmhdjibigopfaa

/- A row of things, sorted by the library. -/
import Derived.Test.YtcgjebkinfokiaaPCmp
namespace Go.Proofs.Ytcgjebkinfokiaa
open Go.RowKit
open Go.Sort (swp HoldsK putRowK flatK grow SWO PermIn SortedIn)

/-- Each comes no later than those behind it. -/
def Rising (l : List It) : Prop := ∀ (i j : Nat) (y z : It), i < j → l[i]? = some y → l[j]? = some z → Le y z
theorem rising_head {hl pl l' : List It} {k : Nat} {x y : It} (hs : Rising hl) (hy : hl[k]? = some y) (hp : pl.Perm (hl.drop k)) (hx : pl.Perm (x :: l')) (hm : ∀ z ∈ pl, Le x z) : x = y ∧ l'.Perm (hl.drop (k + 1)) := by
  obtain ⟨hk, rfl⟩ := List.getElem?_eq_some_iff.1 hy
  have hd : hl.drop k = hl[k] :: hl.drop (k + 1) := (List.getElem_cons_drop hk).symm
  rw [hd] at hp
  have h1 : Le x hl[k] := hm _ (hp.mem_iff.2 List.mem_cons_self)
  have h2 : Le hl[k] x := by
    have hx' : x ∈ hl[k] :: hl.drop (k + 1) := hp.mem_iff.1 (hx.mem_iff.2 (by simp))
    rcases List.mem_cons.1 hx' with h | h
    · rw [h]; exact Le.refl _
    · obtain ⟨t, ht⟩ := List.mem_iff_getElem?.1 h
      rw [List.getElem?_drop] at ht
      exact hs k (k + 1 + t) _ _ (by omega) hy ht
  have e := h1.antisymm h2
  subst e
  exact ⟨rfl, (hx.symm.trans hp).cons_inv⟩

theorem Mod.grow {S : Nat → Prop} {a w : World} (h : Mod S a w) (os : Array Obj) : Mod S a (Sort.grow w os) := by
  refine ⟨h.os, h.tape, h.output, ?_, fun k hk hs => ?_⟩
  · have := h.size
    show a.heap.size ≤ (w.heap ++ os).size
    simp; omega
  · show (w.heap ++ os)[k]? = _
    rw [Array.getElem?_append_left (Nat.lt_of_lt_of_le hk h.size)]
    exact h.block k hk hs

theorem sort_any {base g n cap : Nat} {l : List It} {w : World} (hn : l.length = n + 1) (hbig : n ≤ 500) (hR : RowW w base (.slice (some ⟨g, 0, none⟩) (n + 1) cap) l.toArray) :
    Calls Try.prog 13 #[.slice (some ⟨g, 0, none⟩) (n + 1) cap, .func (.func 14) #[] #[]] w fun e w' =>
      e = .returned (.tuple #[]) ∧ ∃ l', l'.Perm l ∧ Rising l' ∧ RowW w' base (.slice (some ⟨g, 0, none⟩) (n + 1) cap) l'.toArray ∧ Mod (fun k => k = g) w w' := by
  have eg : ∀ args w, (callFunc 14 args).run Try.prog w = .ok (.enter 14 args) w := enters_of Try.func14 (by kernel_rfl) rfl
  have hsz : l.toArray.size = n + 1 := by simp [hn]
  obtain ⟨cur, hg, _⟩ := row_parts hR hn
  have hcon := AnyQ.slices_SortFunc Try.sortLaid 2 Try.isAgg31 Try.sizeOf31 encIt (fun _ => rfl) (fun x v hv => by simp [encIt] at hv; rcases hv with rfl | rfl <;> rfl) cmpIt swo_it 14 #[] g 0 cap l.toArray w eg
    (fun _ _ _ _ x y => closure_any x y _) hR.holds (Array.getElem?_eq_some_iff.1 hg).1 (by rw [hsz]; omega)
  rw [hsz] at hcon
  refine Calls.mono hcon ?_
  rintro e w' ⟨rfl, d', q, os, ⟨hs, _, hp⟩, hr, rfl⟩
  have hs' : d'.size = n + 1 := hs.trans hsz
  have e1 : d'.extract 0 (n + 1) = d' := by rw [← hs']; simp
  have e2 : l.toArray.extract 0 (n + 1) = l.toArray := by rw [← hsz]; simp
  rw [e1, e2] at hp
  refine ⟨rfl, d'.toList, hp, ?_, ?_, ?_⟩
  · intro i j y z hij hy hz
    obtain ⟨hi, rfl⟩ := List.getElem?_eq_some_iff.1 hy
    obtain ⟨hj, rfl⟩ := List.getElem?_eq_some_iff.1 hz
    have hj' : j < d'.size := by simpa using hj
    have h := hr i j (Nat.zero_le _) hij (by omega)
    rw [lt_it, lessB_false, getElem!_pos d' i (by omega), getElem!_pos d' j hj'] at h
    simpa using h
  · have h1 := hR.put (d' := d') (by rw [hs', hsz]) q
    exact h1.kept ((Mod.refl (fun _ => False) _).grow os) (fun _ _ h => h)
  · exact (Mod.put w g q d').grow os
theorem sort_none (a : Option Addr) (cap : Nat) (w : World) : Calls Try.prog 13 #[.slice a 0 cap, .func (.func 14) #[] #[]] w fun e w' => e = .returned (.tuple #[]) ∧ w = w' :=
  Calls.mono (AnyF.slices_SortFunc_none Try.sortLaid a cap _ w) fun _ _ ⟨he, hw⟩ => ⟨he, hw.symm⟩
theorem TR.rowedk {w w2 w' : World} {b k : Nat} {v hv : Value} {pl hl : List It} {x : It} {g cap : Nat} (h : TR w b v hv pl hl w2) (hk : hl.length = k)
    (hown : w'.ownsRow w.heap.size 31 2 (.slice (some ⟨g, 0, none⟩) (k + 1) cap) (k + 1) (flatL hl.toArray ++ [.int .i64 x.1, .int .i64 x.2])) (hgrow : w2.grownBy w' hv.ownBlock) (hfr : hv.ownBlock = some g ∨ g = w2.heap.size) :
    TR w b v (.slice (some ⟨g, 0, none⟩) (k + 1) cap) pl (hl ++ [x]) w' := by
  subst hk
  exact h.rowed hown hgrow hfr
end Go.Proofs.Ytcgjebkinfokiaa

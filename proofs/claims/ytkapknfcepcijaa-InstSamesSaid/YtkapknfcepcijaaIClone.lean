/- slices.Clone at satellites, customers, numbers, rows; a matrix, each row as one's own. -/
import Derived.Test.YtkapknfcepcijaaIMakeT
import Derived.Test.YtkapknfcepcijaaIChk
import Derived.Laws.AppendOwn
import Derived.Deep.LoopGhost
import Derived.LoopTactic
namespace Go.Proofs.Ytkapknfcepcijaa
open Go.RowKit

variable {w wr w2 : World} {a : Option Addr} {n c sz B g k : Nat} {vals : List Value} {v : Value}
/-- A slice's cells, as they came in. -/
structure Src (w : World) (a : Option Addr) (n sz : Nat) (vals : List Value) : Prop where
  len : vals.length = n * sz
  one : ∀ u ∈ vals, u.oneCell' = true
  nil_ : a = none → n = 0
  at_ : ∀ ad, a = some ad → ∀ j u, vals[j]? = some u → w.cell? (ad.add j) = some u
  lt_ : ∀ ad, a = some ad → n = 0 ∨ ad.block < w.heap.size
theorem Src.later (h : Src w a n sz vals) (hb : Below w.heap.size w w2) : Src w2 a n sz vals := ⟨h.len, h.one, h.nil_, fun ad e j u hj => by
  rcases h.lt_ ad e with h0 | h0
  · have := h.len
    rw [h0, Nat.zero_mul] at this
    rw [List.eq_nil_of_length_eq_zero this] at hj
    cases hj
  · exact (hb.cell (p := ad.add j) (by unfold Addr.add; split <;> exact h0)).trans (h.at_ ad e j u hj), fun ad e => by
  rcases h.lt_ ad e with h0 | h0
  · exact .inl h0
  · exact .inr (Nat.lt_of_lt_of_le h0 hb.size)⟩
theorem IsNums.src {l : List Int} (h : IsNums w.heap.size w a n l) : Src w a n 1 (numsV l) := by
  obtain ⟨h1, h2⟩ := h
  subst h1
  refine ⟨by simp [numsV], fun u hu => ?_, fun e => ?_, fun ad e j u hj => ?_, fun ad e => ?_⟩
  · simp only [numsV, List.mem_map] at hu
    obtain ⟨i, _, rfl⟩ := hu
    rfl
  · rcases h2 with h2 | ⟨b, off, e2, _⟩
    · exact h2
    · rw [e] at e2; cases e2
  · simp only [numsV, List.getElem?_map, Option.map_eq_some_iff] at hj
    obtain ⟨z, hz, rfl⟩ := hj
    rcases h2 with h2 | ⟨b, off, e2, _, hr⟩
    · have := (List.getElem?_eq_some_iff.1 hz).1; omega
    · rw [e] at e2; injection e2 with e2; subst e2
      rw [Addr.add_lit]
      exact hr j z hz
  · rcases h2 with h2 | ⟨b, off, e2, hb, _⟩
    · exact .inl h2
    · rw [e] at e2; injection e2 with e2; subst e2; exact .inr hb
theorem flatS_length (l : List (Int × Int)) : (flatS l).length = l.length * 2 := by
  induction l with
  | nil => rfl
  | cons x r ih => rw [flatS, List.flatMap_cons, List.length_append, ← flatS, ih]; simp [encS]; omega
theorem flatC_length (l : List Pi) : (flatC l).length = l.length * 4 := by
  induction l with
  | nil => rfl
  | cons x r ih => rw [flatC, List.flatMap_cons, List.length_append, ← flatC, ih]; simp [encP]; omega
theorem IsPairs.src {l : List (Int × Int)} (h : IsPairs w.heap.size w a n l) : Src w a n 2 (flatS l) := by
  obtain ⟨h1, h2⟩ := h
  subst h1
  refine ⟨flatS_length l, fun u hu => ?_, fun e => ?_, fun ad e j u hj => ?_, fun ad e => ?_⟩
  · simp only [flatS, List.mem_flatMap] at hu
    obtain ⟨x, _, hx⟩ := hu
    simp [encS] at hx
    rcases hx with rfl | rfl <;> rfl
  · rcases h2 with h2 | ⟨b, off, e2, _⟩
    · exact h2
    · rw [e] at e2; cases e2
  · have hjl : j < l.length * 2 := by rw [← flatS_length]; exact (List.getElem?_eq_some_iff.1 hj).1
    rcases h2 with h2 | ⟨b, off, e2, _, hr⟩
    · omega
    · rw [e] at e2; injection e2 with e2; subst e2
      rw [Addr.add_lit]
      have hk : j / 2 < l.length := by omega
      have hx := List.getElem?_eq_getElem hk
      obtain ⟨q0, q1⟩ := flatS_get l (j / 2) _ hx
      obtain ⟨c0, c1⟩ := hr (j / 2) _ hx
      rcases (show j = j / 2 * 2 ∨ j = j / 2 * 2 + 1 by omega) with e9 | e9
      · rw [e9, q0] at hj; rw [e9, ← hj]; exact c0
      · rw [e9, q1] at hj; rw [e9, ← hj]; exact c1
  · rcases h2 with h2 | ⟨b, off, e2, hb, _⟩
    · exact .inl h2
    · rw [e] at e2; injection e2 with e2; subst e2; exact .inr hb
theorem IsPipes.src {l : List Pi} (h : IsPipes w.heap.size w a n l) : Src w a n 4 (flatC l) := by
  obtain ⟨h1, h2⟩ := h
  subst h1
  refine ⟨flatC_length l, fun u hu => ?_, fun e => ?_, fun ad e j u hj => ?_, fun ad e => ?_⟩
  · simp only [flatC, List.mem_flatMap] at hu
    obtain ⟨x, _, hx⟩ := hu
    simp [encP] at hx
    rcases hx with rfl | rfl | rfl | rfl <;> rfl
  · rcases h2 with h2 | ⟨b, off, e2, _⟩
    · exact h2
    · rw [e] at e2; cases e2
  · have hjl : j < l.length * 4 := by rw [← flatC_length]; exact (List.getElem?_eq_some_iff.1 hj).1
    rcases h2 with h2 | ⟨b, off, e2, _, hr⟩
    · omega
    · rw [e] at e2; injection e2 with e2; subst e2
      rw [Addr.add_lit]
      have hk : j / 4 < l.length := by omega
      have hx := List.getElem?_eq_getElem hk
      obtain ⟨q0, q1, q2, q3⟩ := flatC_get l (j / 4) _ hx
      obtain ⟨c0, c1, c2, c3⟩ := hr (j / 4) _ hx
      rcases (show j = j / 4 * 4 ∨ j = j / 4 * 4 + 1 ∨ j = j / 4 * 4 + 2 ∨ j = j / 4 * 4 + 3 by omega) with e9 | e9 | e9 | e9
      · rw [e9, q0] at hj; rw [e9, ← hj]; exact c0
      · rw [e9, q1] at hj; rw [e9, ← hj]; exact c1
      · rw [e9, q2] at hj; rw [e9, ← hj]; exact c2
      · rw [e9, q3] at hj; rw [e9, ← hj]; exact c3
  · rcases h2 with h2 | ⟨b, off, e2, hb, _⟩
    · exact .inl h2
    · rw [e] at e2; injection e2 with e2; subst e2; exact .inr hb
theorem none_rowT (w : World) (T : TypeId) (sz : Nat) : (w.alloc (.cells #[] T)).ownsRow w.heap.size T sz (.slice (some ⟨w.heap.size, 0, none⟩) 0 0) 0 [] :=
  ⟨by simp, .inr ⟨w.heap.size, 0, #[], rfl, Nat.le_refl _, heap_alloc_new _ _, Nat.le_refl _, Nat.zero_le _, by simp, by simp⟩⟩
theorem infoSatXC : (Try.prog.info? 42).map (fun i => (i.zero, i.size, i.bytes)) = some (some (.agg #[.int .i64 0, .int .i64 0]), 2, 16) := by kernel_rfl
set_option maxHeartbeats 1000000 in
set_option maxRecDepth 100000 in
theorem cloneSat (a : Option Addr) (n c : Nat) (vals : List Value) (w : World) (hn : n ≤ 1000000) (hi : Src w a n 2 vals) :
    Calls Try.prog 34 #[.slice a n c] w fun e w' => Below w.heap.size w w' ∧ ∃ v, e = .returned v ∧ w'.ownsRow w.heap.size 42 2 v n vals := by
  cases a with
  | none =>
    obtain rfl : n = 0 := hi.nil_ rfl
    have hv : vals = [] := List.eq_nil_of_length_eq_zero (by have := hi.len; omega)
    have hnil : ∀ w, (binOp .eql 24 (.slice none 0 c) (.slice none 0 0)).run Try.prog w = .ok (.bool true) w := fun w => by kernel_rfl
    go_enter Try.func34, Try.ntmps34
    go_wp2_with fail
    go_ret
    subst hv
    exact ⟨Below.refl _ _, _, rfl, by simp, .inl ⟨rfl, rfl⟩⟩
  | some ad =>
    have hnil : ∀ w, (binOp .eql 24 (.slice (some ad) n c) (.slice none 0 0)).run Try.prog w = .ok (.bool false) w := fun w => by kernel_rfl
    go_enter Try.func34, Try.ntmps34
    obtain ⟨i0, hi0, hz0, hz1, hz2⟩ := info_parts infoSatXC
    have hl := hi.len
    have hone := hi.one
    have HS := Lib.hid ((hi.later ((Below.refl _ w).alloc (Nat.le_refl _) (.cells #[] 42))).at_ ad rfl)
    have HRW := Lib.hid (none_rowT w 42 2)
    have hsz : w.heap.size ≤ (w.alloc (.cells #[] 42)).heap.size := by simp
    clear hi
    go_wp2_with (at_builtin; refine wpList_append_own _ rfl (.tmp 5) (.tmp 6) 24 rfl w.heap.size 42 i0 _ 2 16 Try.underlying24 hi0 hz0 hz1 hz2 (by decide) (by decide) (.slice (some ⟨w.heap.size, 0, none⟩) 0 0) 0 [] rfl HRW.out ad n c vals rfl hl HS.out hone (by unfold maxLen; omega) (by omega) hsz ?_; intro v' w' hown hgrow _; have HOW := Lib.hid hown; have HGR := Lib.hid hgrow; clear hown hgrow)
    go_ret
    have h1 := HOW.out
    rw [List.nil_append, Nat.zero_add] at h1
    exact ⟨((((Mod.refl (fun k => w.heap.size ≤ k) w).alloc (.cells #[] 42)).grown HGR.out (fun k hk => .inl (by have e : w.heap.size = k := (by simpa [Value.ownBlock] using hk); omega)))).below (Nat.le_refl _) (fun k hk => hk), _, rfl, h1⟩
theorem infoCusXC : (Try.prog.info? 44).map (fun i => (i.zero, i.size, i.bytes)) = some (some (.agg #[.int .i64 0, .int .i64 0, .int .i64 0, .int .i64 0]), 4, 32) := by kernel_rfl
set_option maxHeartbeats 1000000 in
set_option maxRecDepth 100000 in
theorem cloneCus (a : Option Addr) (n c : Nat) (vals : List Value) (w : World) (hn : n ≤ 1000000) (hi : Src w a n 4 vals) :
    Calls Try.prog 35 #[.slice a n c] w fun e w' => Below w.heap.size w w' ∧ ∃ v, e = .returned v ∧ w'.ownsRow w.heap.size 44 4 v n vals := by
  cases a with
  | none =>
    obtain rfl : n = 0 := hi.nil_ rfl
    have hv : vals = [] := List.eq_nil_of_length_eq_zero (by have := hi.len; omega)
    have hnil : ∀ w, (binOp .eql 25 (.slice none 0 c) (.slice none 0 0)).run Try.prog w = .ok (.bool true) w := fun w => by kernel_rfl
    go_enter Try.func35, Try.ntmps35
    go_wp2_with fail
    go_ret
    subst hv
    exact ⟨Below.refl _ _, _, rfl, by simp, .inl ⟨rfl, rfl⟩⟩
  | some ad =>
    have hnil : ∀ w, (binOp .eql 25 (.slice (some ad) n c) (.slice none 0 0)).run Try.prog w = .ok (.bool false) w := fun w => by kernel_rfl
    go_enter Try.func35, Try.ntmps35
    obtain ⟨i0, hi0, hz0, hz1, hz2⟩ := info_parts infoCusXC
    have hl := hi.len
    have hone := hi.one
    have HS := Lib.hid ((hi.later ((Below.refl _ w).alloc (Nat.le_refl _) (.cells #[] 44))).at_ ad rfl)
    have HRW := Lib.hid (none_rowT w 44 4)
    have hsz : w.heap.size ≤ (w.alloc (.cells #[] 44)).heap.size := by simp
    clear hi
    go_wp2_with (at_builtin; refine wpList_append_own _ rfl (.tmp 5) (.tmp 6) 25 rfl w.heap.size 44 i0 _ 4 32 Try.underlying25 hi0 hz0 hz1 hz2 (by decide) (by decide) (.slice (some ⟨w.heap.size, 0, none⟩) 0 0) 0 [] rfl HRW.out ad n c vals rfl hl HS.out hone (by unfold maxLen; omega) (by omega) hsz ?_; intro v' w' hown hgrow _; have HOW := Lib.hid hown; have HGR := Lib.hid hgrow; clear hown hgrow)
    go_ret
    have h1 := HOW.out
    rw [List.nil_append, Nat.zero_add] at h1
    exact ⟨((((Mod.refl (fun k => w.heap.size ≤ k) w).alloc (.cells #[] 44)).grown HGR.out (fun k hk => .inl (by have e : w.heap.size = k := (by simpa [Value.ownBlock] using hk); omega)))).below (Nat.le_refl _) (fun k hk => hk), _, rfl, h1⟩
theorem infoRowsXC : (Try.prog.info? 45).map (fun i => (i.zero, i.size, i.bytes)) = some (some (.slice none 0 0), 1, 24) := by kernel_rfl
set_option maxHeartbeats 1000000 in
set_option maxRecDepth 100000 in
theorem cloneRows (a : Option Addr) (n c : Nat) (vals : List Value) (w : World) (hn : n ≤ 1000000) (hi : Src w a n 1 vals) :
    Calls Try.prog 38 #[.slice a n c] w fun e w' => Below w.heap.size w w' ∧ ∃ v, e = .returned v ∧ w'.ownsRow w.heap.size 45 1 v n vals := by
  cases a with
  | none =>
    obtain rfl : n = 0 := hi.nil_ rfl
    have hv : vals = [] := List.eq_nil_of_length_eq_zero (by have := hi.len; omega)
    have hnil : ∀ w, (binOp .eql 26 (.slice none 0 c) (.slice none 0 0)).run Try.prog w = .ok (.bool true) w := fun w => by kernel_rfl
    go_enter Try.func38, Try.ntmps38
    go_wp2_with fail
    go_ret
    subst hv
    exact ⟨Below.refl _ _, _, rfl, by simp, .inl ⟨rfl, rfl⟩⟩
  | some ad =>
    have hnil : ∀ w, (binOp .eql 26 (.slice (some ad) n c) (.slice none 0 0)).run Try.prog w = .ok (.bool false) w := fun w => by kernel_rfl
    go_enter Try.func38, Try.ntmps38
    obtain ⟨i0, hi0, hz0, hz1, hz2⟩ := info_parts infoRowsXC
    have hl := hi.len
    have hone := hi.one
    have HS := Lib.hid ((hi.later ((Below.refl _ w).alloc (Nat.le_refl _) (.cells #[] 45))).at_ ad rfl)
    have HRW := Lib.hid (none_rowT w 45 1)
    have hsz : w.heap.size ≤ (w.alloc (.cells #[] 45)).heap.size := by simp
    clear hi
    go_wp2_with (at_builtin; refine wpList_append_own _ rfl (.tmp 5) (.tmp 6) 26 rfl w.heap.size 45 i0 _ 1 24 Try.underlying26 hi0 hz0 hz1 hz2 (by decide) (by decide) (.slice (some ⟨w.heap.size, 0, none⟩) 0 0) 0 [] rfl HRW.out ad n c vals rfl hl HS.out hone (by unfold maxLen; omega) (by omega) hsz ?_; intro v' w' hown hgrow _; have HOW := Lib.hid hown; have HGR := Lib.hid hgrow; clear hown hgrow)
    go_ret
    have h1 := HOW.out
    rw [List.nil_append, Nat.zero_add] at h1
    exact ⟨((((Mod.refl (fun k => w.heap.size ≤ k) w).alloc (.cells #[] 45)).grown HGR.out (fun k hk => .inl (by have e : w.heap.size = k := (by simpa [Value.ownBlock] using hk); omega)))).below (Nat.le_refl _) (fun k hk => hk), _, rfl, h1⟩
theorem infoNumsXC : (Try.prog.info? 2).map (fun i => (i.zero, i.size, i.bytes)) = some (some (.int .i64 0), 1, 8) := by kernel_rfl
set_option maxHeartbeats 1000000 in
set_option maxRecDepth 100000 in
theorem cloneNums (a : Option Addr) (n c : Nat) (vals : List Value) (w : World) (hn : n ≤ 1000000) (hi : Src w a n 1 vals) :
    Calls Try.prog 39 #[.slice a n c] w fun e w' => Below w.heap.size w w' ∧ ∃ v, e = .returned v ∧ w'.ownsRow w.heap.size 2 1 v n vals := by
  cases a with
  | none =>
    obtain rfl : n = 0 := hi.nil_ rfl
    have hv : vals = [] := List.eq_nil_of_length_eq_zero (by have := hi.len; omega)
    have hnil : ∀ w, (binOp .eql 45 (.slice none 0 c) (.slice none 0 0)).run Try.prog w = .ok (.bool true) w := fun w => by kernel_rfl
    go_enter Try.func39, Try.ntmps39
    go_wp2_with fail
    go_ret
    subst hv
    exact ⟨Below.refl _ _, _, rfl, by simp, .inl ⟨rfl, rfl⟩⟩
  | some ad =>
    have hnil : ∀ w, (binOp .eql 45 (.slice (some ad) n c) (.slice none 0 0)).run Try.prog w = .ok (.bool false) w := fun w => by kernel_rfl
    go_enter Try.func39, Try.ntmps39
    obtain ⟨i0, hi0, hz0, hz1, hz2⟩ := info_parts infoNumsXC
    have hl := hi.len
    have hone := hi.one
    have HS := Lib.hid ((hi.later ((Below.refl _ w).alloc (Nat.le_refl _) (.cells #[] 2))).at_ ad rfl)
    have HRW := Lib.hid (none_rowT w 2 1)
    have hsz : w.heap.size ≤ (w.alloc (.cells #[] 2)).heap.size := by simp
    clear hi
    go_wp2_with (at_builtin; refine wpList_append_own _ rfl (.tmp 5) (.tmp 6) 45 rfl w.heap.size 2 i0 _ 1 8 Try.underlying45 hi0 hz0 hz1 hz2 (by decide) (by decide) (.slice (some ⟨w.heap.size, 0, none⟩) 0 0) 0 [] rfl HRW.out ad n c vals rfl hl HS.out hone (by unfold maxLen; omega) (by omega) hsz ?_; intro v' w' hown hgrow _; have HOW := Lib.hid hown; have HGR := Lib.hid hgrow; clear hown hgrow)
    go_ret
    have h1 := HOW.out
    rw [List.nil_append, Nat.zero_add] at h1
    exact ⟨((((Mod.refl (fun k => w.heap.size ≤ k) w).alloc (.cells #[] 2)).grown HGR.out (fun k hk => .inl (by have e : w.heap.size = k := (by simpa [Value.ownBlock] using hk); omega)))).below (Nat.le_refl _) (fun k hk => hk), _, rfl, h1⟩
/-! ### Rows -/
/-- Rows of the call's own: the outer row, in it each row of its own. -/
def RowsOwn (w : World) (B : Nat) (v : Value) (L : List (List Int)) : Prop := ∃ V : Nat → Value, w.ownsRow B 45 1 v L.length ((List.range L.length).map V) ∧ ∀ (i : Nat) (r : List Int), L[i]? = some r → w.ownsRow B 2 1 (V i) r.length (numsV r)
/-- Rows of different types lie in different blocks. -/
theorem own_types {T1 T2 : TypeId} {B1 B2 s1 s2 n1 n2 g : Nat} {v1 v2 : Value} {xs1 xs2 : List Value} (h1 : w.ownsRow B1 T1 s1 v1 n1 xs1) (h2 : w.ownsRow B2 T2 s2 v2 n2 xs2) (hT : ¬ T1 = T2) (hg : v1.ownBlock = some g) : ¬ v2.ownBlock = some g := by
  intro hg2
  rcases h1.2 with ⟨rfl, _⟩ | ⟨g1, c1, cur1, rfl, _, e1, _⟩
  · cases hg
  · rcases h2.2 with ⟨rfl, _⟩ | ⟨g2, c2, cur2, rfl, _, e2, _⟩
    · cases hg2
    · injection hg with hg
      injection hg2 with hg2
      change g1 = g at hg
      change g2 = g at hg2
      rw [hg] at e1
      rw [hg2, e1] at e2
      injection e2 with e2
      injection e2 with _ e2
      exact hT e2
theorem IsRows.src {L : List (List Int)} (h : IsRows w.heap.size w a n L) : ∃ O : Nat → Option Addr × Nat, Src w a n 1 ((List.range n).map (fun i => .slice (O i).1 (L.getD i []).length (O i).2)) ∧ ∀ (i : Nat) (r : List Int), L[i]? = some r → IsNums w.heap.size w (O i).1 r.length r := by
  obtain ⟨h1, h2⟩ := h
  subst h1
  by_cases h0 : L.length = 0
  · refine ⟨fun _ => (none, 0), ⟨by simp, fun u hu => by simp [h0] at hu, fun _ => h0, fun ad e j u hj => by simp [h0] at hj, fun _ _ => .inl h0⟩, fun i r hr => ?_⟩
    have := (List.getElem?_eq_some_iff.1 hr).1
    omega
  · rcases h2 with h2 | ⟨b, off, e, hb, hr⟩
    · exact absurd h2 h0
    · have each : ∀ i, i < L.length → ∃ o : Option Addr × Nat, w.cell? ⟨b, off + i, none⟩ = some (.slice o.1 (L.getD i []).length o.2) ∧ IsNums w.heap.size w o.1 (L.getD i []).length (L.getD i []) := fun i hi => by
        have hx := List.getElem?_eq_getElem hi
        obtain ⟨_, ra, rc, h3, h4⟩ := hr i _ hx
        rw [getD_ofN hx]
        exact ⟨(ra, rc), h3, h4⟩
      obtain ⟨O, hO⟩ := Go.Deep.choose_lt each
      refine ⟨O, ⟨by simp, fun u hu => ?_, fun e2 => (by rw [e] at e2; cases e2), fun ad e2 j u hj => ?_, fun ad e2 => ?_⟩, fun i r hir => ?_⟩
      · simp only [List.mem_map] at hu
        obtain ⟨i, _, rfl⟩ := hu
        rfl
      · rw [e] at e2; injection e2 with e2; subst e2
        have hjl : j < L.length := by have := (List.getElem?_eq_some_iff.1 hj).1; simpa using this
        simp only [List.getElem?_map, List.getElem?_range hjl, Option.map_some, Option.some.injEq] at hj
        subst hj
        rw [Addr.add_lit]
        exact (hO j hjl).1
      · rw [e] at e2; injection e2 with e2; subst e2; exact .inr hb
      · have := (hO i (List.getElem?_eq_some_iff.1 hir).1).2
        rw [getD_ofN hir] at this
        exact this
/-- The rows below k are cloned. -/
structure CloW (w wr : World) (v : Value) (L : List (List Int)) (O : Nat → Option Addr × Nat) (V : Nat → Value) (k : Nat) : Prop where
  below : Below w.heap.size w wr
  outer : wr.ownsRow w.heap.size 45 1 v L.length ((List.range L.length).map (fun i => if i < k then V i else .slice (O i).1 (L.getD i []).length (O i).2))
  rows : ∀ (i : Nat) (r : List Int), i < k → L[i]? = some r → wr.ownsRow w.heap.size 2 1 (V i) r.length (numsV r)
theorem CloW.at_ {L : List (List Int)} {O : Nat → Option Addr × Nat} {V : Nat → Value} {cap : Nat} {r : List Int} (h : CloW w wr (.slice (some ⟨g, 0, none⟩) L.length cap) L O V k) (hr : L[k]? = some r) : wr.cell? ⟨g, k, none⟩ = some (.slice (O k).1 r.length (O k).2) := by
  have hk := (List.getElem?_eq_some_iff.1 hr).1
  rw [World.ownsRow.cellAt h.outer k (by omega)]
  simp only [List.getElem?_map, List.getElem?_range hk, Option.map_some, Nat.lt_irrefl, if_false, getD_ofN hr]
theorem CloW.next {L : List (List Int)} {O : Nat → Option Addr × Nat} {V : Nat → Value} {cap : Nat} {r : List Int} {u : Value} (h : CloW w wr (.slice (some ⟨g, 0, none⟩) L.length cap) L O V k) (hr : L[k]? = some r) (hb : Below wr.heap.size wr w2) (hu : w2.ownsRow wr.heap.size 2 1 u r.length (numsV r)) :
    CloW w (w2.setCell ⟨g, k, none⟩ u) (.slice (some ⟨g, 0, none⟩) L.length cap) L O (fun i => if i = k then u else V i) (k + 1) ∧ w2.frozen? ⟨g, k, none⟩ = false ∧ (w2.cell? ⟨g, k, none⟩).isSome = true := by
  have hk := (List.getElem?_eq_some_iff.1 hr).1
  have ho := owns_below h.outer hb
  have hg := World.ownsRow.lt h.outer g rfl
  have hT : ¬ 45 = 2 := by decide
  refine ⟨⟨(h.below.trans (hb.mono h.below.size)).setCell (p := ⟨g, k, none⟩) (by simpa using hg.1) _, ?_, fun i r2 hi hr2 => ?_⟩, World.ownsRow.frozenAt ho k, ?_⟩
  · have := (World.ownsRow.stored ho k u).1
    have e : ((List.range L.length).map (fun i => if i < k then V i else .slice (O i).1 (L.getD i []).length (O i).2)).set k u = (List.range L.length).map (fun i => if i < k + 1 then (if i = k then u else V i) else .slice (O i).1 (L.getD i []).length (O i).2) := by
      apply List.ext_getElem?
      intro j
      rw [List.getElem?_set]
      by_cases hj : j < L.length
      · by_cases e : k = j
        · subst e
          simp [hk]
        · rw [if_neg e]
          simp only [List.getElem?_map, List.getElem?_range hj, Option.map_some]
          have e' : ¬ j = k := fun h => e h.symm
          by_cases h9 : j < k
          · simp [h9, e', show j < k + 1 by omega]
          · simp [h9, show ¬ j < k + 1 by omega]
      · rw [List.getElem?_eq_none (l := (List.range L.length).map _) (by simp; omega), if_neg (by omega), List.getElem?_eq_none (by simp; omega)]
    rw [e] at this
    exact this
  · by_cases e : i = k
    · subst e
      rw [hr] at hr2; injection hr2 with hr2; subst hr2
      simp only [if_true]
      exact ownsRow_setCell_other (a := ⟨g, i, none⟩) (owns_rebase hu h.below.size) (own_types ho hu hT rfl) _
    · simp only [e, if_false]
      have h9 := owns_below (h.rows i r2 (by omega) hr2) hb
      exact ownsRow_setCell_other (a := ⟨g, k, none⟩) h9 (own_types ho h9 hT rfl) _
  · rw [World.ownsRow.cellAt ho k (by omega)]
    simp [hk]
set_option maxHeartbeats 2000000 in
set_option maxRecDepth 100000 in
theorem cloned_any (a : Option Addr) (c : Nat) (L : List (List Int)) (w : World) (hn : L.length ≤ 1000) (hr : ∀ (i : Nat) (r : List Int), L[i]? = some r → r.length ≤ 1000) (hi : IsRows w.heap.size w a L.length L) :
    Calls Try.prog 33 #[.slice a L.length c] w fun e w' => Below w.heap.size w w' ∧ ∃ v, e = .returned v ∧ RowsOwn w' w.heap.size v L := by
  obtain ⟨O, hS, hO⟩ := hi.src
  have HS := Lib.hid hS
  have HO := Lib.hid hO
  have HR := Lib.hid hr
  clear hi hS hO hr
  go_enter Try.func33, Try.ntmps33
  go_wp2_with (go_at_call 38; refine (cloneRows _ _ _ _ _ (by omega) HS.out).mono ?_; rintro e w1 ⟨hb1, v, rfl, hown⟩; obtain ⟨va, vc, rfl⟩ := owns_shape hown; have HC0 : Hid (CloW w w1 (.slice va L.length vc) L O (fun _ => .nilFunc) 0) := Lib.hid ⟨hb1, by simpa using hown, fun i r hi => by omega⟩; clear hb1 hown)
  go_loopw [10] (fun iv wr => ∃ (k : Nat) (V : Nat → Value), iv = .int .i64 (k : Int) ∧ k ≤ L.length ∧ Hid (CloW w wr (.slice va L.length vc) L O V k)) (fun iv _ => L.length - (intOf iv).toNat)
  case atStart => exact ⟨0, _, rfl, Nat.zero_le _, HC0⟩
  case round =>
    obtain ⟨k, V, rfl, hk, HC⟩ := hrel
    clear HC0
    by_cases hlt : k < L.length
    · obtain ⟨g, cap, hva, _⟩ := owns_some HC.out.outer (by omega)
      injection hva with hva _ hvc
      subst hva hvc
      obtain ⟨r, hr⟩ : ∃ r, L[k]? = some r := ⟨_, List.getElem?_eq_getElem hlt⟩
      have HRR := Lib.hid hr
      have q1 := HC.out.at_ hr
      have hrl := HR.out k r hr
      have HNR := Lib.hid ((HO.out k r hr).later HC.out.below |>.mono HC.out.below.size)
      clear hr
      go_wp2_with (go_at_call 39; refine (cloneNums _ _ _ _ _ (by omega) HNR.out.src).mono ?_; rintro e w2 ⟨hb2, u, rfl, hu⟩; obtain ⟨ua, uc, rfl⟩ := owns_shape hu; obtain ⟨hn2, hf2, hc2⟩ := HC.out.next HRR.out hb2 hu; have HN2 := Lib.hid hn2; obtain ⟨c2, hc2⟩ := Option.isSome_iff_exists.1 hc2; clear hb2 hu hn2)
      go_roundw
      case rel => exact ⟨k + 1, _, by go_num, by omega, HN2⟩
      case measure => simp [intOf]; omega
    · obtain rfl : k = L.length := by omega
      go_wp2_with fail
      go_ret
      refine ⟨HC.out.below, _, rfl, V, ?_, fun i r hir => HC.out.rows i r (List.getElem?_eq_some_iff.1 hir).1 hir⟩
      have h9 := HC.out.outer
      have e : (List.range L.length).map (fun i => if i < L.length then V i else .slice (O i).1 (L.getD i []).length (O i).2) = (List.range L.length).map V := List.map_congr_left (fun i hi => by rw [if_pos (List.mem_range.1 hi)])
      rw [e] at h9
      exact h9
end Go.Proofs.Ytkapknfcepcijaa

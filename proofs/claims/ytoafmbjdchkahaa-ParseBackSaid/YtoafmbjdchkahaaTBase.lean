/- Joined: TTell, TRows, TBox. -/
import Derived.Test.YtoafmbjdchkahaaReadIs
import Derived.Test.YtoafmbjdchkahaaQProg
import Derived.Test.YtoafmbjdchkahaaRParse
import Derived.Test.YtoafmbjdchkahaaQBase
import Derived.Test.YtoafmbjdchkahaaPAppend
import Derived.Deep.LoopGhost
import Derived.LoopTactic
import Derived.Test.YtoafmbjdchkahaaIMake
section
/- The law's own reader: must, number, at. -/
namespace Go.Proofs.Ytoafmbjdchkahaa
open Go.RowKit

/-- The law's own reader at block T: its words, where it stands, the text's length, its error. -/
structure Tl (base T : Nat) (v : Value) (ws : List W) (n k : Nat) (c : Int) (w : World) : Prop where
  blk : w.heap[T]? = some (.cells #[v, .int .i64 (k : Int), .int .i64 (n : Int), .int .i64 c] 72 (0, 0))
  row : WRow 47 w base v ws
  apart : v.ownBlock ≠ some T
  kle : k ≤ ws.length
  len : ws.length ≤ 1000000
variable {base T n k : Nat} {v : Value} {ws : List W} {c : Int} {w w' : World} {F : Rr} {lo hi : Int}
theorem Tl.drewN (h : Tl base T v ws n k c w) (m : Nat) : Tl base T v ws n k c (w.drewN m) := ⟨h.blk, h.row, h.apart, h.kle, h.len⟩
theorem Tl.drew (h : Tl base T v ws n k c w) : Tl base T v ws n k c w.drew := ⟨h.blk, h.row, h.apart, h.kle, h.len⟩
theorem Tl.lt (h : Tl base T v ws n k c w) : T < w.heap.size := lt_of_block h.blk
theorem Tl.kept {S : Nat → Prop} (h : Tl base T v ws n k c w) (hm : Mod S w w') (hR : ¬ S T) (hv : ∀ b, v.ownBlock = some b → ¬ S b) : Tl base T v ws n k c w' :=
  ⟨(hm.block T h.lt hR).trans h.blk, h.row.kept hm hv, h.apart, h.kle, h.len⟩
theorem Tl.below (h : Tl base T v ws n k c w) (hb : Below w.heap.size w w') : Tl base T v ws n k c w' :=
  h.kept (Mod.of_below (fun _ => False) hb) (fun h => h) (fun _ _ h => h)
theorem Tl.next (h : Tl base T v ws n k c w) (hk : k < ws.length) : Tl base T v ws n (k + 1) c (w.setCell ⟨T, 1, none⟩ (.int .i64 ((k : Int) + 1))) := by
  refine ⟨?_, ?_, h.apart, hk, h.len⟩
  · rw [set_block h.blk]
    rfl
  · exact ownsRow_setCell_other h.row h.apart _
theorem Tl.stop (h : Tl base T v ws n k c w) (c2 : Int) : Tl base T v ws n k c2 (w.setCell ⟨T, 3, none⟩ (.int .i64 c2)) := by
  refine ⟨?_, ?_, h.apart, h.kle, h.len⟩
  · rw [set_block h.blk]
    rfl
  · exact ownsRow_setCell_other h.row h.apart _
theorem Tl.cells (h : Tl base T v ws n k c w) : w.cell? ⟨T, 0, none⟩ = some v ∧ w.cell? ⟨T, 1, none⟩ = some (.int .i64 (k : Int)) ∧ w.cell? ⟨T, 2, none⟩ = some (.int .i64 (n : Int)) ∧ w.cell? ⟨T, 3, none⟩ = some (.int .i64 c) ∧ (∀ o, w.frozen? ⟨T, o, none⟩ = false) := by
  simp [World.cell?, World.frozen?, h.blk]
theorem Tl.word (h : Tl base T v ws n k c w) {t : List UInt8} {a : Nat} (hk : ws[k]? = some (t, a)) :
    ∃ g cap, v = .slice (some ⟨g, 0, none⟩) ws.length cap ∧ ws.length ≤ cap ∧ cap ≤ maxLen ∧ w.cell? ⟨g, k * 2, none⟩ = some (.string ⟨t.toArray⟩) ∧ w.cell? ⟨g, k * 2 + 1, none⟩ = some (.int .i64 (a : Int)) := by
  have hlt : k < ws.length := (List.getElem?_eq_some_iff.1 hk).1
  obtain ⟨g, cap, rfl, _, _, h1, h2⟩ := h.row.some_ (by omega)
  have := h.row.cells hk
  exact ⟨g, cap, rfl, h1, h2, this.1, this.2⟩
theorem Tl.one (w : World) (T m o : Nat) (a : Value) : Mod (· = T) w ((w.drewN m).setCell ⟨T, o, none⟩ a) :=
  ((Mod.refl (· = T) w).drewN m).setCell (p := ⟨T, o, none⟩) (.inr rfl) a
theorem Tl.one0 (w : World) (T o : Nat) (a : Value) : Mod (· = T) w (w.setCell ⟨T, o, none⟩ a) := (Mod.refl (· = T) w).setCell (p := ⟨T, o, none⟩) (.inr rfl) a

/-- What is still to be read comes to F; an error stays. -/
def Flow (ws : List W) (c : Int) (k : Nat) (p : Rp) (F : Rr) : Prop := (c = 0 → runR ws p k = F) ∧ (c ≠ 0 → F = .no k c)
theorem Flow.bad {p : Rp} (hc : c ≠ 0) (h : F = .no k c) : Flow ws c k p F := ⟨fun e => absurd e hc, fun _ => h⟩
theorem Flow.good {p : Rp} (h : runR ws p k = F) : Flow ws 0 k p F := ⟨fun _ => h, fun e => absurd rfl e⟩
/-- What is known behind must. -/
def MustT (base T : Nat) (v : Value) (ws : List W) (n : Nat) (p : Rp) (F : Rr) (w : World) (e : Ending) (w' : World) : Prop :=
  e = .returned (.tuple #[]) ∧ Mod (· = T) w w' ∧ ∃ k2 c2, Tl base T v ws n k2 c2 w' ∧ Flow ws c2 k2 p F
set_option maxHeartbeats 2000000 in
theorem mustT (h : Tl base T v ws n k c w) (y : ByteArray) (t : List UInt8) (hy : (⟨t.toArray⟩ : ByteArray) = y) {p : Rp} (hF : Flow ws c k (.must t p) F) :
    Calls Try.prog 27 #[ptrR T, .string y] w (MustT base T v ws n p F w) := by
  obtain ⟨c0, c1, c2, c3, hf⟩ := h.cells
  have f1 := hf 1
  have f3 := hf 3
  have hl := h.len
  unfold MustT
  clear hf c2
  by_cases hc : c = 0
  · subst hc
    have hF0 := hF.1 rfl
    by_cases hk : k < ws.length
    · obtain ⟨⟨u, a⟩, hx⟩ : ∃ y, ws[k]? = some y := ⟨_, List.getElem?_eq_getElem hk⟩
      obtain ⟨g, cap, hv, hcl, hcm, e0, e1⟩ := h.word hx
      unfold maxLen at hcm
      by_cases hu : u = t
      · subst hu
        have em : mustK ws k u = true := by simp [mustK, hx]
        rw [runR, em] at hF0
        have HE := Lib.hid fun m => And.intro ((h.drewN m).next hk) (Tl.one w T m 1 (.int .i64 ((k : Int) + 1)))
        have HF := Lib.hid hF0
        subst hv
        subst hy
        clear h hF hF0 hx em e1
        generalize (⟨u.toArray⟩ : ByteArray) = y at *
        go_enter Try.func27, Try.ntmps27
        go_wp2
        go_quiet (fail)
        go_wp2
        go_end0
        exact ⟨rfl, (HE.out _).2, _, _, (HE.out _).1, .good HF.out⟩
      · have em : mustK ws k t = false := by simp [mustK, hx, hu]
        rw [runR, em] at hF0
        have HE := Lib.hid fun m => And.intro ((h.drewN m).stop 5) (Tl.one w T m 3 (.int .i64 5))
        have HF : Hid (F = .no k 5) := Lib.hid hF0.symm
        have hb : ((⟨u.toArray⟩ : ByteArray).toList == y.toList) = false := str_ne (by
          rw [← hy]
          intro e
          exact hu (by
            have := congrArg (fun z : ByteArray => z.data.toList) e
            simpa using this))
        subst hv
        clear h hF hF0 hx em e1 hy hu
        generalize (⟨u.toArray⟩ : ByteArray) = z at *
        go_enter Try.func27, Try.ntmps27
        go_wp2
        go_quiet (fail)
        go_wp2
        (try simp only [Exit.inBlock, Exit.then]); refine bodyPost_ret (results_none rfl _ _ _) rfl ?_
        exact ⟨rfl, (HE.out _).2, _, _, (HE.out _).1, .bad (by decide) HF.out⟩
    · have em : mustK ws k t = false := by simp [mustK, List.getElem?_eq_none (Nat.le_of_not_lt hk)]
      rw [runR, em] at hF0
      have HE := Lib.hid fun m => And.intro ((h.drewN m).stop 5) (Tl.one w T m 3 (.int .i64 5))
      have HF : Hid (F = .no k 5) := Lib.hid hF0.symm
      obtain ⟨va, vc, hv⟩ := h.row.shape
      subst hv
      clear h hF hF0 em hy
      go_enter Try.func27, Try.ntmps27
      go_wp2
      go_quiet (fail)
      go_wp2
      (try simp only [Exit.inBlock, Exit.then]); refine bodyPost_ret (results_none rfl _ _ _) rfl ?_
      exact ⟨rfl, (HE.out _).2, _, _, (HE.out _).1, .bad (by decide) HF.out⟩
  · have hd : (c != 0) = true := by simpa using hc
    have HF : Hid (F = .no k c) := Lib.hid (hF.2 hc)
    have HH := Lib.hid h
    have HC := Lib.hid hc
    clear h hF hy hc
    go_enter Try.func27, Try.ntmps27
    go_wp2
    (try simp only [Exit.inBlock, Exit.then]); refine bodyPost_ret (results_none rfl _ _ _) rfl ?_
    exact ⟨rfl, Mod.refl _ _, _, _, HH.out, .bad HC.out HF.out⟩
/-- What is known behind number. -/
def NumT (base T : Nat) (v : Value) (ws : List W) (n : Nat) (hi : Int) (f : Int → Rp) (F : Rr) (w : World) (e : Ending) (w' : World) : Prop :=
  ∃ q, e = .returned (.int .i64 q) ∧ (0 ≤ q ∧ q ≤ hi) ∧ Mod (· = T) w w' ∧ ∃ k2 c2, Tl base T v ws n k2 c2 w' ∧ Flow ws c2 k2 (f q) F
set_option maxHeartbeats 4000000 in
theorem numT (h : Tl base T v ws n k c w) (htx : ∀ x ∈ ws, x.1.length ≤ 1000000) (hhi : 0 ≤ hi) {f : Int → Rp} (hF : Flow ws c k (.num lo hi f) F) :
    Calls Try.prog 28 #[ptrR T, .int .i64 lo, .int .i64 hi] w (NumT base T v ws n hi f F w) := by
  obtain ⟨c0, c1, c2, c3, hf⟩ := h.cells
  have f1 := hf 1
  have f3 := hf 3
  have hl := h.len
  unfold NumT
  clear hf c2
  by_cases hc : c = 0
  · subst hc
    have hF0 := hF.1 rfl
    by_cases hk : k < ws.length
    · obtain ⟨⟨u, a⟩, hx⟩ : ∃ y, ws[k]? = some y := ⟨_, List.getElem?_eq_getElem hk⟩
      obtain ⟨g, cap, hv, hcl, hcm, e0, e1⟩ := h.word hx
      unfold maxLen at hcm
      have hu := htx _ (List.mem_of_getElem? hx)
      simp only at hu
      have HP : Hid (∀ W0, Calls Try.prog 49 #[.string ⟨u.toArray⟩] W0 fun e w' => e = .returned (.tuple #[.int .i64 (((parseO u).getD 0 : Nat) : Int), .bool (parseO u).isSome]) ∧ w' = W0) := Lib.hid fun W0 => by
        have := rparse_any ⟨u.toArray⟩ (by unfold maxLen; simp [ByteArray.size]; omega) W0
        exact this.mono fun e w' ⟨h1, h2⟩ => ⟨by simpa using h1, h2.symm⟩
      rw [runR] at hF0
      cases hp : parseO u with
      | none =>
        have em : numK ws k lo hi = .inr 3 := by simp [numK, hx, hp]
        rw [em] at hF0
        rw [hp] at HP
        simp only [Option.getD_none, Option.isSome_none] at HP
        have HE := Lib.hid fun m => And.intro ((h.drewN m).stop 3) (Tl.one w T m 3 (.int .i64 3))
        have HF : Hid (F = .no k 3) := Lib.hid hF0.symm
        subst hv
        clear h hF hF0 hx em e1 htx hp
        generalize (⟨u.toArray⟩ : ByteArray) = z at *
        go_enter Try.func28, Try.ntmps28
        go_wp2
        go_quiet (fail)
        go_wp2
        go_quiet ((go_at_call 49; exact (HP.out _).mono fun e w' ⟨h1, h2⟩ => ⟨h1, _, h2⟩))
        go_wp2
        go_ret
        exact ⟨0, rfl, ⟨Int.le_refl _, hhi⟩, (HE.out _).2, _, _, (HE.out _).1, .bad (by decide) HF.out⟩
      | some q =>
        rw [hp] at HP
        simp only [Option.getD_some, Option.isSome_some] at HP
        by_cases hq : (q : Int) < lo ∨ hi < (q : Int)
        · have em : numK ws k lo hi = .inr 2 := by simp [numK, hx, hp, hq]
          rw [em] at hF0
          have HE := Lib.hid fun m => And.intro ((h.drewN m).stop 2) (Tl.one w T m 3 (.int .i64 2))
          have HF : Hid (F = .no k 2) := Lib.hid hF0.symm
          subst hv
          clear h hF hF0 hx em e1 htx hp
          generalize (⟨u.toArray⟩ : ByteArray) = z at *
          by_cases h1 : (q : Int) < lo
          · clear hq
            go_enter Try.func28, Try.ntmps28
            go_wp2
            go_quiet (fail)
            go_wp2
            go_quiet ((go_at_call 49; exact (HP.out _).mono fun e w' ⟨h1, h2⟩ => ⟨h1, _, h2⟩))
            go_wp2
            go_ret
            exact ⟨0, rfl, ⟨Int.le_refl _, hhi⟩, (HE.out _).2, _, _, (HE.out _).1, .bad (by decide) HF.out⟩
          · have h2 : hi < (q : Int) := by omega
            clear hq
            go_enter Try.func28, Try.ntmps28
            go_wp2
            go_quiet (fail)
            go_wp2
            go_quiet ((go_at_call 49; exact (HP.out _).mono fun e w' ⟨h1, h2⟩ => ⟨h1, _, h2⟩))
            go_wp2
            go_ret
            exact ⟨0, rfl, ⟨Int.le_refl _, hhi⟩, (HE.out _).2, _, _, (HE.out _).1, .bad (by decide) HF.out⟩
        · have em : numK ws k lo hi = .inl (q : Int) := by simp [numK, hx, hp, hq]
          rw [em] at hF0
          have HE := Lib.hid fun m => And.intro ((h.drewN m).next hk) (Tl.one w T m 1 (.int .i64 ((k : Int) + 1)))
          have HF := Lib.hid hF0
          have h1 : ¬ (q : Int) < lo := by omega
          have h2 : ¬ hi < (q : Int) := by omega
          subst hv
          clear h hF hF0 hx em e1 htx hp hq
          generalize (⟨u.toArray⟩ : ByteArray) = z at *
          go_enter Try.func28, Try.ntmps28
          go_wp2
          go_quiet (fail)
          go_wp2
          go_quiet ((go_at_call 49; exact (HP.out _).mono fun e w' ⟨h1, h2⟩ => ⟨h1, _, h2⟩))
          go_wp2
          go_ret
          exact ⟨q, rfl, ⟨by omega, by omega⟩, (HE.out _).2, _, _, (HE.out _).1, .good HF.out⟩
    · have em : numK ws k lo hi = .inr 3 := by simp [numK, List.getElem?_eq_none (Nat.le_of_not_lt hk)]
      rw [runR, em] at hF0
      have HE := Lib.hid fun m => And.intro ((h.drewN m).stop 3) (Tl.one w T m 3 (.int .i64 3))
      have HF : Hid (F = .no k 3) := Lib.hid hF0.symm
      obtain ⟨va, vc, hv⟩ := h.row.shape
      subst hv
      clear h hF hF0 em htx
      go_enter Try.func28, Try.ntmps28
      go_wp2
      go_quiet (fail)
      go_wp2
      go_ret
      exact ⟨0, rfl, ⟨Int.le_refl _, hhi⟩, (HE.out _).2, _, _, (HE.out _).1, .bad (by decide) HF.out⟩
  · have hd : (c != 0) = true := by simpa using hc
    have HF : Hid (F = .no k c) := Lib.hid (hF.2 hc)
    have HH := Lib.hid h
    have HC := Lib.hid hc
    clear h hF hc htx
    go_enter Try.func28, Try.ntmps28
    go_wp2
    go_ret
    exact ⟨0, rfl, ⟨Int.le_refl _, hhi⟩, Mod.refl _ _, _, _, HH.out, .bad HC.out HF.out⟩
/-- Where it stands. -/
theorem atT (h : Tl base T v ws n k c w) : Calls Try.prog 30 #[ptrR T] w fun e w' => e = .returned (.int .i64 (placeK ws n k : Int)) ∧ Below w.heap.size w w' := by
  obtain ⟨c0, c1, c2, c3, hf⟩ := h.cells
  have hl := h.len
  clear hf c3
  by_cases hk : k < ws.length
  · obtain ⟨⟨u, a⟩, hx⟩ : ∃ y, ws[k]? = some y := ⟨_, List.getElem?_eq_getElem hk⟩
    obtain ⟨g, cap, hv, hcl, hcm, e0, e1⟩ := h.word hx
    unfold maxLen at hcm
    have HP : Hid (placeK ws n k = a) := Lib.hid (by simp [placeK, hx])
    subst hv
    clear h hx e0 c2
    go_enter Try.func30, Try.ntmps30
    go_wp2
    go_quiet (fail)
    go_wp2
    go_quiet (fail)
    go_wp2
    go_ret
    exact ⟨by rw [HP.out]; rfl, by first | exact below_drewN (Below.refl _ _) _ | exact below_drewN (below_drewN (Below.refl _ _) _) _⟩
  · have HP : Hid (placeK ws n k = n) := Lib.hid (by simp [placeK, List.getElem?_eq_none (Nat.le_of_not_lt hk)])
    obtain ⟨va, vc, hv⟩ := h.row.shape
    subst hv
    clear h
    go_enter Try.func30, Try.ntmps30
    go_wp2
    go_quiet (fail)
    go_wp2
    go_ret
    exact ⟨by rw [HP.out]; rfl, by first | exact below_drewN (Below.refl _ _) _ | exact below_drewN (below_drewN (Below.refl _ _) _) _⟩
end Go.Proofs.Ytoafmbjdchkahaa
end
section
/- The law's own reader: rows. -/
namespace Go.Proofs.Ytoafmbjdchkahaa
open Go.RowKit

variable {base T n k N i : Nat} {v : Value} {ws : List W} {c : Int} {w w2 : World} {F : Rr}
theorem infoLongT : (Try.prog.info? 2).map (fun i => (i.zero, i.size, i.bytes)) = some (some (.int .i64 0), 1, 8) := by kernel_rfl
theorem infoLongsT : (Try.prog.info? 67).map (fun i => (i.zero, i.size, i.bytes)) = some (some (.slice none 0 0), 1, 24) := by kernel_rfl
/-- What was known of the reader when w was there, and is kept. -/
structure TB (base T : Nat) (v : Value) (w : World) : Prop where
  lt : T < w.heap.size
  vlt : ∀ b, v.ownBlock = some b → b < w.heap.size
theorem Tl.tb (h : Tl base T v ws n k c w) : TB base T v w := ⟨h.lt, fun b hb => (World.ownsRow.lt h.row b hb).2⟩
theorem Tl.grown {row : Option Nat} (h : Tl base T v ws n k c w) {B : Nat} (hg : w.grownBy w2 row) (hr : ∀ k, row = some k → B ≤ k) (hT : T < B) (hv : ∀ b, v.ownBlock = some b → b < B) : Tl base T v ws n k c w2 :=
  h.kept ((Mod.refl (fun b => row = some b) w).grown hg (fun _ hk => .inr hk)) (fun e => by have := hr _ e; omega) (fun b hb e => by have := hr _ e; have := hv b hb; omega)
/-- What is known behind rows. -/
def RowsT (base T : Nat) (v : Value) (ws : List W) (n N : Nat) (K : List (List Int) → Rp) (F : Rr) (w : World) (e : Ending) (w' : World) : Prop :=
  ∃ v' vs L, e = .returned v' ∧ OwnRs w.heap.size w' v' vs L ∧ L.length = N ∧ (∀ r ∈ L, r.length = N) ∧ Mod (· = T) w w' ∧ ∃ k2 c2, Tl base T v ws n k2 c2 w' ∧ Flow ws c2 k2 (K L) F
set_option maxHeartbeats 8000000 in
set_option maxRecDepth 100000 in
theorem rowsT (h : Tl base T v ws n k c w) (htx : ∀ x ∈ ws, x.1.length ≤ 1000000) (y : ByteArray) (t : List UInt8) (hy : (⟨t.toArray⟩ : ByteArray) = y) (hN : N ≤ 100) (hN1 : 1 ≤ N) {K : List (List Int) → Rp} (hF : Flow ws c k (.must t (rowsP N N [] K)) F) :
    Calls Try.prog 29 #[ptrR T, .string y, .int .i64 (N : Int)] w (RowsT base T v ws n N K F w) := by
  obtain ⟨i0, hi0, hz0, hz1, hz2⟩ := info_parts infoLongT
  obtain ⟨i1, hi1, hy0, hy1, hy2⟩ := info_parts infoLongsT
  have HM := Lib.hid (mustT h y t hy hF)
  have HTB := Lib.hid h.tb
  have HTX := Lib.hid htx
  unfold RowsT
  clear h hF hy htx
  go_enter Try.func29, Try.ntmps29
  go_wp2_with fail
  refine HM.out.mono ?_
  rintro e w1 ⟨rfl, hm, k1, c1, ht, hF⟩
  have HT0 := Lib.hid ht
  have HM0 := Lib.hid hm
  have HF0 : Hid (Flow ws c1 k1 (rowsP N (N - 0) [] K) F) := Lib.hid hF
  clear HM ht hm hF
  go_wp2_with fail
  go_loopw [7, 15] (fun ov iv wr => ∃ (i k c : _) (vs : List Value) (L : List (List Int)), iv = .int .i64 ((i : Nat) : Int) ∧ i ≤ N ∧ Hid (L.length = i) ∧ Hid (vs.length = i) ∧ Hid (∀ r ∈ L, r.length = N) ∧ Hid (Tl base T v ws n k c wr) ∧ Hid (Mod (· = T) w wr) ∧ Hid (OwnRs w.heap.size wr ov vs L) ∧ Hid (Flow ws c k (rowsP N (N - i) L K) F)) (fun _ iv _ => N - (intOf iv).toNat)
  case atStart => exact ⟨0, k1, c1, [], [], rfl, Nat.zero_le _, Lib.hid rfl, Lib.hid rfl, Lib.hid (by simp), HT0, HM0, Lib.hid (OwnRs.nil _ _), HF0⟩
  case round =>
    obtain ⟨i, k, c, vs, L, rfl, hi, HL, HV, HN, HT, HMW, HS, HF⟩ := hrel
    clear HT0 HM0 HF0
    have hout := HS.out.outer
    rw [HV.out] at hout
    obtain ⟨oa, oc, hov⟩ := owns_shape hout
    subst hov
    have HO := Lib.hid hout
    clear hout
    by_cases hlt : i < N
    · have hF2 := HF.out
      rw [show N - i = (N - (i + 1)) + 1 by omega, rowsP, HL.out] at hF2
      have HF2 : Hid (Flow ws c k (rowP i (N - 0) [] fun r => rowsP N (N - (i + 1)) (L ++ [r]) K) F) := Lib.hid hF2
      obtain ⟨wi, hwi⟩ : ∃ z, z = wr := ⟨_, rfl⟩
      subst hwi
      have hws : w.heap.size ≤ wi.heap.size := HMW.out.size
      have HTBi := Lib.hid HT.out.tb
      have HR0 : Hid (wi.ownsRow wi.heap.size 2 1 (.slice none 0 0) 0 (numsV [])) := Lib.hid ⟨rfl, .inl ⟨rfl, rfl⟩⟩
      clear hF2 HF
      go_wp2_with fail
      go_loopw [9, 19] (fun rv jv wr => ∃ (j k c : _) (r : List Int), jv = .int .i64 ((j : Nat) : Int) ∧ j ≤ N ∧ Hid (r.length = j) ∧ Hid (Tl base T v ws n k c wr) ∧ Hid (Mod (· = T) wi wr) ∧ Hid (wr.ownsRow wi.heap.size 2 1 rv j (numsV r)) ∧ Hid (Flow ws c k (rowP i (N - j) r fun r => rowsP N (N - (i + 1)) (L ++ [r]) K) F)) (fun _ jv _ => N - (intOf jv).toNat)
      case atStart => exact ⟨0, k, c, [], rfl, Nat.zero_le _, Lib.hid rfl, HT, Lib.hid (Mod.refl _ _), HR0, HF2⟩
      case round =>
        obtain ⟨j, k3, c3, r, rfl, hj, HRL, HT3, HM3, HR3, HF3⟩ := hrel
        clear HR0 HF2
        obtain ⟨ra, rc, hrv⟩ := owns_shape HR3.out
        subst hrv
        by_cases hlj : j < N
        · have hF4 := HF3.out
          rw [show N - j = (N - (j + 1)) + 1 by omega, rowP, HRL.out] at hF4
          by_cases hij : i = j
          · have hd : ((i : Int) == (j : Int)) = true := by simp; omega
            rw [if_pos hij.symm] at hF4
            have HC := Lib.hid (numT HT3.out HTX.out (by omega) hF4)
            clear hF4 HF3 hij
            go_wp2_with fail
            refine HC.out.mono ?_
            rintro e w4 ⟨q, rfl, hq, hm4, k5, c5, ht4, hF5⟩
            have HT4 := Lib.hid (ht4.below ((Below.refl w4.heap.size w4).alloc (Nat.le_refl _) (.cells #[.int .i64 q] 2)))
            have HR4 : Hid ((w4.alloc (.cells #[.int .i64 q] 2)).ownsRow wi.heap.size 2 1 (.slice ra j rc) j (numsV r)) := Lib.hid (owns_below (owns_kept HR3.out hm4 (fun b hb e => by have := (World.ownsRow.lt HR3.out b hb).1; have := HTBi.out.lt; omega)) ((Below.refl _ _).alloc (Nat.le_refl _) _))
            have HM4 := Lib.hid ((HM3.out.trans hm4).alloc (.cells #[.int .i64 q] 2))
            have HF5 := Lib.hid hF5
            have hs4 : wi.heap.size ≤ (w4.alloc (.cells #[.int .i64 q] 2)).heap.size := HM4.out.size
            clear HC hm4 ht4 hF5
            go_wp2_with (at_builtin; refine wpList_append_fresh rfl (.tmp 25) (.tmp 28) 67 rfl wi.heap.size 2 i0 _ 1 8 Try.underlying67 hi0 hz0 hz1 hz2 (by decide) (.slice ra j rc) j _ rfl HR4.out ⟨w4.heap.size, 0, none⟩ 1 [.int .i64 q] rfl rfl (news_at _ _ _ _ rfl) (one_int _) (by unfold maxLen; omega) (by omega) hs4 ?_; intro g4 cap4 w6 hown hgrow hfr; have HT6 := Lib.hid (HT4.out.grown (B := wi.heap.size) hgrow (fun k hk => (World.ownsRow.lt HR4.out k hk).1) HTBi.out.lt HTBi.out.vlt); have HM6 := Lib.hid (HM4.out.grown hgrow (fun k hk => .inl (World.ownsRow.lt HR4.out k hk).1)); have HR6 : Hid (w6.ownsRow wi.heap.size 2 1 (.slice (some ⟨g4, 0, none⟩) (j + 1) cap4) (j + 1) (numsV (r ++ [q]))) := Lib.hid (by rw [numsV_snoc]; exact hown); clear hown hgrow hfr)
            go_roundw
            case rel => exact ⟨j + 1, k5, c5, r ++ [q], by go_num, by omega, Lib.hid (by simp [HRL.out]), HT6, HM6, HR6, HF5⟩
            case measure => simp [intOf]; omega
          · have hd : ((i : Int) == (j : Int)) = false := by simp; omega
            rw [if_neg (Ne.symm hij)] at hF4
            have HC := Lib.hid (numT HT3.out HTX.out (by omega) hF4)
            clear hF4 HF3 hij
            go_wp2_with fail
            refine HC.out.mono ?_
            rintro e w4 ⟨q, rfl, hq, hm4, k5, c5, ht4, hF5⟩
            have HT4 := Lib.hid (ht4.below ((Below.refl w4.heap.size w4).alloc (Nat.le_refl _) (.cells #[.int .i64 q] 2)))
            have HR4 : Hid ((w4.alloc (.cells #[.int .i64 q] 2)).ownsRow wi.heap.size 2 1 (.slice ra j rc) j (numsV r)) := Lib.hid (owns_below (owns_kept HR3.out hm4 (fun b hb e => by have := (World.ownsRow.lt HR3.out b hb).1; have := HTBi.out.lt; omega)) ((Below.refl _ _).alloc (Nat.le_refl _) _))
            have HM4 := Lib.hid ((HM3.out.trans hm4).alloc (.cells #[.int .i64 q] 2))
            have HF5 := Lib.hid hF5
            have hs4 : wi.heap.size ≤ (w4.alloc (.cells #[.int .i64 q] 2)).heap.size := HM4.out.size
            clear HC hm4 ht4 hF5
            go_wp2_with (at_builtin; refine wpList_append_fresh rfl (.tmp 30) (.tmp 33) 67 rfl wi.heap.size 2 i0 _ 1 8 Try.underlying67 hi0 hz0 hz1 hz2 (by decide) (.slice ra j rc) j _ rfl HR4.out ⟨w4.heap.size, 0, none⟩ 1 [.int .i64 q] rfl rfl (news_at _ _ _ _ rfl) (one_int _) (by unfold maxLen; omega) (by omega) hs4 ?_; intro g4 cap4 w6 hown hgrow hfr; have HT6 := Lib.hid (HT4.out.grown (B := wi.heap.size) hgrow (fun k hk => (World.ownsRow.lt HR4.out k hk).1) HTBi.out.lt HTBi.out.vlt); have HM6 := Lib.hid (HM4.out.grown hgrow (fun k hk => .inl (World.ownsRow.lt HR4.out k hk).1)); have HR6 : Hid (w6.ownsRow wi.heap.size 2 1 (.slice (some ⟨g4, 0, none⟩) (j + 1) cap4) (j + 1) (numsV (r ++ [q]))) := Lib.hid (by rw [numsV_snoc]; exact hown); clear hown hgrow hfr)
            go_roundw
            case rel => exact ⟨j + 1, k5, c5, r ++ [q], by go_num, by omega, Lib.hid (by simp [HRL.out]), HT6, HM6, HR6, HF5⟩
            case measure => simp [intOf]; omega
        · obtain rfl : N = j := by omega
          have hF4 := HF3.out
          rw [Nat.sub_self, rowP] at hF4
          have HF4 := Lib.hid hF4
          have hA := (Below.refl wr.heap.size wr).alloc (Nat.le_refl _) (.cells #[.slice ra N rc] 67)
          have hs3 := HM3.out.size
          have HT5 := Lib.hid (HT3.out.below hA)
          have HM5 := Lib.hid ((HMW.out.then_ HM3.out (fun _ _ e => e)).alloc (.cells #[.slice ra N rc] 67))
          have HS5 := Lib.hid ((HS.out.kept HM3.out (fun b hb _ e => by have := HTB.out.lt; omega)).later hA)
          have HRV : Hid (RowV w.heap.size (wr.alloc (.cells #[.slice ra N rc] 67)) (.slice ra N rc) r) := Lib.hid (RowV.grew (by rw [HRL.out]; exact owns_below (owns_rebase HR3.out hws) hA) (by rw [HRL.out]; omega))
          have HRX : Hid (∀ b, Value.ownBlock (.slice ra N rc) = some b → ¬ Value.ownBlock (.slice oa i oc) = some b) := Lib.hid (fun b h1 h2 => by have h3 := (World.ownsRow.lt HR3.out b h1).1; have h4 := (World.ownsRow.lt HO.out b h2).2; omega)
          have HO5 : Hid ((wr.alloc (.cells #[.slice ra N rc] 67)).ownsRow w.heap.size 67 1 (.slice oa i oc) i vs) := Lib.hid (by have h := HS5.out.outer; rwa [HV.out] at h)
          have hs5 : w.heap.size ≤ (wr.alloc (.cells #[.slice ra N rc] 67)).heap.size := HM5.out.size
          clear hF4 HF3 hA
          go_wp2_with (at_builtin; refine wpList_append_fresh rfl (.tmp 36) (.tmp 38) 27 rfl w.heap.size 67 i1 _ 1 24 Try.underlying27 hi1 hy0 hy1 hy2 (by decide) (.slice oa i oc) i _ rfl HO5.out ⟨wr.heap.size, 0, none⟩ 1 [.slice ra N rc] rfl rfl (news_at _ _ _ _ rfl) (by intro u hu; simp at hu; subst hu; rfl) (by unfold maxLen; omega) (by omega) hs5 ?_; intro g4 cap4 w6 hown hgrow hfr; have HS6 := Lib.hid (HS5.out.push HRV.out HRX.out HV.out hown hgrow); have HT6 := Lib.hid (HT5.out.grown (B := w.heap.size) hgrow (fun k hk => (World.ownsRow.lt HO5.out k hk).1) HTB.out.lt HTB.out.vlt); have HM6 := Lib.hid (HM5.out.grown hgrow (fun k hk => .inl (World.ownsRow.lt HO5.out k hk).1)); clear hown hgrow hfr)
          go_roundw
          case rel => exact ⟨i + 1, k3, c3, _, L ++ [r], by go_num, by omega, Lib.hid (by simp [HL.out]), Lib.hid (by simp [HV.out]), Lib.hid (fun q hq => (List.mem_append.1 hq).elim (HN.out q) (fun h => by simp at h; subst h; exact HRL.out)), HT6, HM6, HS6, HF4⟩
          case measure => simp [intOf]; omega
    · obtain rfl : N = i := by omega
      have hF2 := HF.out
      rw [Nat.sub_self, rowsP] at hF2
      have HF2 := Lib.hid hF2
      clear hF2
      go_wp2_with fail
      go_ret
      exact ⟨_, vs, L, rfl, HS.out, HL.out, HN.out, HMW.out, k, c, HT.out, HF2.out⟩
end Go.Proofs.Ytoafmbjdchkahaa
end
section
/- The law's own reading: the reader, the instance's box. -/
namespace Go.Proofs.Ytoafmbjdchkahaa
open Go.RowKit

variable {base T n k k2 bx : Nat} {v : Value} {ws : List W} {c c2 : Int} {W0 w w2 w4 : World} {en tm tr bm br : Int} {sv cv kv tv : Value} {F : Rr} {B : Nat}
structure BoxL (base T : Nat) (v : Value) (ws : List W) (n k : Nat) (c : Int) (bx : Nat) (W0 w : World) (en tm tr bm br : Int) (sv cv kv tv : Value) : Prop where
  rd : Tl base T v ws n k c w
  box : w.heap[bx]? = some (.cells #[.int .i64 en, .int .i64 tm, .int .i64 tr, .int .i64 bm, .int .i64 br, sv, cv, kv, tv] 29 (0, 0))
  mod : Mod (fun b => b = T ∨ b = bx) W0 w
  ne : bx ≠ T
  vne : ∀ b, v.ownBlock = some b → b ≠ bx ∧ b < W0.heap.size
  Tlt : T < W0.heap.size
  bxlt : bx < W0.heap.size
theorem BoxL.restart (h : BoxL base T v ws n k c bx W0 w en tm tr bm br sv cv kv tv) : BoxL base T v ws n k c bx w w en tm tr bm br sv cv kv tv := by
  have := h.mod.size
  exact ⟨h.rd, h.box, Mod.refl _ _, h.ne, fun b hb => ⟨(h.vne b hb).1, by have := (h.vne b hb).2; omega⟩, h.rd.lt, lt_of_block h.box⟩
theorem BoxL.read (h : BoxL base T v ws n k c bx W0 w en tm tr bm br sv cv kv tv) (hm : Mod (· = T) w w2) (hr : Tl base T v ws n k2 c2 w2) : BoxL base T v ws n k2 c2 bx W0 w2 en tm tr bm br sv cv kv tv :=
  ⟨hr, (hm.block bx (lt_of_block h.box) h.ne).trans h.box, h.mod.trans (hm.mono fun _ _ e => .inl e), h.ne, h.vne, h.Tlt, h.bxlt⟩
theorem BoxL.later (h : BoxL base T v ws n k c bx W0 w en tm tr bm br sv cv kv tv) (hb : Below w.heap.size w w2) : BoxL base T v ws n k c bx W0 w2 en tm tr bm br sv cv kv tv :=
  h.read (Mod.of_below _ hb) (h.rd.below hb)
theorem BoxL.grown {row : Option Nat} (h : BoxL base T v ws n k c bx W0 w en tm tr bm br sv cv kv tv) (hg : w.grownBy w4 row) (hr : ∀ k, row = some k → W0.heap.size ≤ k) : BoxL base T v ws n k c bx W0 w4 en tm tr bm br sv cv kv tv := by
  have hm : Mod (fun b => row = some b) w w4 := (Mod.refl (fun b => row = some b) w).grown hg (fun _ hk => .inr hk)
  refine ⟨h.rd.grown (B := W0.heap.size) hg hr h.Tlt (fun b hb => (h.vne b hb).2), (hm.block bx (lt_of_block h.box) (fun e => by have := hr _ e; have := h.bxlt; omega)).trans h.box, ?_, h.ne, h.vne, h.Tlt, h.bxlt⟩
  exact h.mod.then_ hm (fun i hi e => absurd (hr i e) (by omega))
theorem BoxL.set_ {o : Nat} {u : Value} {en' tm' tr' bm' br' : Int} {sv' cv' kv' tv' : Value} (h : BoxL base T v ws n k c bx W0 w en tm tr bm br sv cv kv tv)
    (e : (#[.int .i64 en, .int .i64 tm, .int .i64 tr, .int .i64 bm, .int .i64 br, sv, cv, kv, tv] : Array Value).setIfInBounds o u = #[.int .i64 en', .int .i64 tm', .int .i64 tr', .int .i64 bm', .int .i64 br', sv', cv', kv', tv']) :
    BoxL base T v ws n k c bx W0 (w.setCell ⟨bx, o, none⟩ u) en' tm' tr' bm' br' sv' cv' kv' tv' := by
  refine ⟨h.rd.kept (S := fun b => b = bx) ((Mod.refl (fun b => b = bx) w).setCell (p := ⟨bx, o, none⟩) (.inr rfl) u) (fun e => h.ne e.symm) (fun b hb e => (h.vne b hb).1 e), ?_, h.mod.setCell (p := ⟨bx, o, none⟩) (.inr (.inr rfl)) u, h.ne, h.vne, h.Tlt, h.bxlt⟩
  rw [← e]
  exact set_block h.box u
/-- Something else of the call's own is written. -/
theorem BoxL.side {p : Addr} {u : Value} (h : BoxL base T v ws n k c bx W0 w en tm tr bm br sv cv kv tv) (hp : W0.heap.size ≤ p.block) : BoxL base T v ws n k c bx W0 (w.setCell p u) en tm tr bm br sv cv kv tv := by
  have hm : Mod (fun b => b = p.block) w (w.setCell p u) := (Mod.refl (fun b => b = p.block) w).setCell (p := p) (.inr rfl) u
  refine ⟨h.rd.kept hm (fun e => by have := h.Tlt; omega) (fun b hb e => by have := (h.vne b hb).2; omega), (hm.block bx (lt_of_block h.box) (fun e => by have := h.bxlt; omega)).trans h.box, h.mod.setCell (.inl hp) u, h.ne, h.vne, h.Tlt, h.bxlt⟩
theorem BoxL.cells (h : BoxL base T v ws n k c bx W0 w en tm tr bm br sv cv kv tv) : w.cell? ⟨bx, 0, none⟩ = some (.int .i64 en) ∧ w.cell? ⟨bx, 1, none⟩ = some (.int .i64 tm) ∧ w.cell? ⟨bx, 2, none⟩ = some (.int .i64 tr) ∧ w.cell? ⟨bx, 3, none⟩ = some (.int .i64 bm) ∧ w.cell? ⟨bx, 4, none⟩ = some (.int .i64 br) ∧
    w.cell? ⟨bx, 5, none⟩ = some sv ∧ w.cell? ⟨bx, 6, none⟩ = some cv ∧ w.cell? ⟨bx, 7, none⟩ = some kv ∧ w.cell? ⟨bx, 8, none⟩ = some tv ∧ ∀ o, w.frozen? ⟨bx, o, none⟩ = false := by simp [World.cell?, World.frozen?, h.box]
theorem BoxL.drew (h : BoxL base T v ws n k c bx W0 w en tm tr bm br sv cv kv tv) : BoxL base T v ws n k c bx W0 w.drew en tm tr bm br sv cv kv tv := ⟨h.rd.drew, h.box, h.mod.drew, h.ne, h.vne, h.Tlt, h.bxlt⟩
/-- What is of the call's own, and apart, stays. -/
theorem BoxL.owns {T' : TypeId} {sz m : Nat} {u : Value} {xs : List Value} (h : BoxL base T v ws n k c bx W0 w en tm tr bm br sv cv kv tv) (hT : T < B) (hb : bx < B) (ho : W0.ownsRow B T' sz u m xs) : w.ownsRow B T' sz u m xs :=
  owns_kept ho h.mod (fun b hb' e => by
    have h1 := (World.ownsRow.lt ho b hb').1
    rcases e with e | e <;> omega)
theorem BoxL.rows {u : Value} {vs : List Value} {L : List (List Int)} (h : BoxL base T v ws n k c bx W0 w en tm tr bm br sv cv kv tv) (hT : T < B) (hb : bx < B) (ho : OwnRs B W0 u vs L) : OwnRs B w u vs L :=
  ho.kept h.mod (fun b hb' _ e => by rcases e with e | e <;> omega)
end Go.Proofs.Ytoafmbjdchkahaa
end

/- Package order: Late: the walk. -/
import Derived.Test.YtgoegkajfhhcjaaOLateErr
import Derived.Test.YtgoegkajfhhcjaaOBack
import Derived.Laws.CopyOwn
import Derived.Laws.IdiomCopy
import Derived.Test.YtgoegkajfhhcjaaTurnedDo
import Derived.Deep.LoopGhost
import Derived.Deep.RegionHeld3
import Derived.StillTailTactics
namespace Go.Proofs.Ytgoegkajfhhcjaa
section part
open Go.RowKit

variable {l : List Ar} {N c q k f : Nat} {o out : List Nat} {beg got : Nat → Int} {x : Ar} {xs : List Int}
theorem Seq.closed (h : Seq l N o) : ∀ x ∈ l, ∀ j : Nat, x.2.1 = (j : Int) → j ∈ o → ∃ f : Nat, x.1 = (f : Int) ∧ f ∈ o := by
  induction h with
  | nil => intro x _ j _ hj; cases hj
  | snoc h hi hf hm ih =>
    rename_i o i
    intro x hx j hxj hj
    simp at hj
    rcases hj with hj | hj
    · obtain ⟨f, h1, h2⟩ := ih x hx j hxj hj
      exact ⟨f, h1, by simp [h2]⟩
    · subst hj
      obtain ⟨f, h1, h2⟩ := hf.2 x hx hxj
      exact ⟨f, h1, by simp [h2]⟩
/-- Of the nodes in o all is told; of node c the first q arcs to it are. -/
structure LateQ (l : List Ar) (N : Nat) (beg got : Nat → Int) (o : List Nat) (c q : Nat) : Prop where
  rest : ∀ i, i < N → i ∉ o → i ≠ c → got i = beg i
  lo : ∀ i, i < N → beg i ≤ got i
  arc : ∀ x ∈ l, ∀ i j : Nat, x.1 = (i : Int) → x.2.1 = (j : Int) → j ∈ o → got i + x.2.2 ≤ got j
  carc : ∀ j, j < q → ∀ (k : Nat) (x : Ar) (i : Nat), (outK (turned l) c)[j]? = some (k : Int) → l[k]? = some x → x.1 = (i : Int) → got i + x.2.2 ≤ got c
  att : ∀ i, i < N → got i = beg i ∨ ∃ x ∈ l, ∃ f : Nat, f ∈ o ∧ x.1 = (f : Int) ∧ x.2.1 = (i : Int) ∧ got i = got f + x.2.2
  hi : ∀ i, i < N → i ≠ c → got i ≤ 1125899906842624 + (o.length : Int) * 1099511627776
  hic : got c ≤ 1125899906842624 + (o.length : Int) * 1099511627776 + 1099511627776
/-- Of the nodes in o all is told. -/
structure LateO (l : List Ar) (N : Nat) (beg got : Nat → Int) (o : List Nat) : Prop where
  rest : ∀ i, i < N → i ∉ o → got i = beg i
  lo : ∀ i, i < N → beg i ≤ got i
  arc : ∀ x ∈ l, ∀ i j : Nat, x.1 = (i : Int) → x.2.1 = (j : Int) → j ∈ o → got i + x.2.2 ≤ got j
  att : ∀ i, i < N → got i = beg i ∨ ∃ x ∈ l, ∃ f : Nat, f ∈ o ∧ x.1 = (f : Int) ∧ x.2.1 = (i : Int) ∧ got i = got f + x.2.2
  hi : ∀ i, i < N → got i ≤ 1125899906842624 + (o.length : Int) * 1099511627776
theorem LateO.start (hb : ∀ i, i < N → beg i ≤ 1125899906842624) : LateO l N beg beg [] :=
  ⟨fun _ _ _ => rfl, fun _ _ => Int.le_refl _, fun _ _ _ _ _ _ h => (by cases h), fun _ _ => .inl rfl, fun i hi => (by have := hb i hi; simp; omega)⟩
theorem LateO.begin_ (h : LateO l N beg got o) (hc : c < N) : LateQ l N beg got o c 0 :=
  ⟨fun i hi h1 _ => h.rest i hi h1, h.lo, h.arc, fun j hj => by omega, h.att, fun i hi _ => h.hi i hi, by have := h.hi c hc; omega⟩
/-- The new number at c. -/
def lateAt (got : Nat → Int) (c : Nat) (d : Int) : Nat → Int := fun i => if i = c then d else got i
theorem LateQ.step {d : Int} (h : LateQ l N beg got o c q) (hcl : ∀ x ∈ l, ∀ j : Nat, x.2.1 = (j : Int) → j ∈ o → ∃ f : Nat, x.1 = (f : Int) ∧ f ∈ o) (hfr : Free l o c) (hq : (outK (turned l) c)[q]? = some (k : Int)) (hx : l[k]? = some x) (hxc : x.2.1 = (c : Int)) (hxf : x.1 = (f : Int)) (hw : x.2.2 ≤ 1099511627776) (hfN : f < N)
    (hd : (d = got c ∧ got f + x.2.2 ≤ d) ∨ (d = got f + x.2.2 ∧ got c ≤ d)) : LateQ l N beg (lateAt got c d) o c (q + 1) := by
  have hxl := List.mem_of_getElem? hx
  have hfo : f ∈ o := by
    obtain ⟨f2, h1, h2⟩ := hfr.2 x hxl hxc
    have : f = f2 := by omega
    rw [this]; exact h2
  have ne : ∀ i, i ≠ c → lateAt got c d i = got i := fun i hi => by simp [lateAt, hi]
  have at_ : lateAt got c d c = d := by simp [lateAt]
  have hoc : ∀ i, i ∈ o → i ≠ c := fun i hi e => hfr.1 (e ▸ hi)
  have hge : got c ≤ d := by rcases hd with ⟨e, _⟩ | ⟨_, e⟩ <;> omega
  have hge2 : got f + x.2.2 ≤ d := by rcases hd with ⟨_, e⟩ | ⟨e, _⟩ <;> omega
  have hfhi := h.hi f hfN (hoc f hfo)
  have hcc := h.hic
  refine ⟨fun i hi h1 h2 => by rw [ne i h2]; exact h.rest i hi h1 h2, fun i hi => ?_, fun y hy i j h1 h2 hj => ?_, fun j hj k2 y i h1 h2 h3 => ?_, fun i hi => ?_, fun i hi h1 => by rw [ne i h1]; exact h.hi i hi h1, ?_⟩
  · by_cases e : i = c
    · subst e; rw [at_]; have := h.lo i hi; omega
    · rw [ne i e]; exact h.lo i hi
  · obtain ⟨f2, h4, h5⟩ := hcl y hy j h2 hj
    have : i = f2 := by omega
    subst this
    rw [ne i (hoc i h5), ne j (hoc j hj)]
    exact h.arc y hy i j h1 h2 hj
  · have hyc : y.2.1 = (c : Int) := by
      obtain ⟨k3, y3, e1, e2, e3⟩ := mem_into.1 (List.mem_of_getElem? h1)
      have : k2 = k3 := by omega
      subst this
      rw [h2] at e2
      cases e2
      exact e3
    obtain ⟨f2, h4, h5⟩ := hfr.2 y (List.mem_of_getElem? h2) hyc
    have : i = f2 := by omega
    subst this
    rw [ne i (hoc i h5), at_]
    by_cases e : j = q
    · subst e
      rw [hq] at h1
      have : k = k2 := by injection h1 with h1; omega
      subst this
      rw [hx] at h2
      cases h2
      have : f = i := by omega
      subst this
      exact hge2
    · have := h.carc j (by omega) k2 y i h1 h2 h3
      omega
  · by_cases e : i = c
    · subst e
      rcases hd with ⟨e, _⟩ | ⟨e, _⟩
      · rcases h.att i hi with h1 | ⟨y, hy, f2, h1, h2, h3, h4⟩
        · exact .inl (by rw [at_, e]; exact h1)
        · exact .inr ⟨y, hy, f2, h1, h2, h3, by rw [at_, ne f2 (hoc f2 h1), e]; exact h4⟩
      · exact .inr ⟨x, hxl, f, hfo, hxf, hxc, by rw [at_, ne f (hoc f hfo)]; exact e⟩
    · rw [ne i e]
      rcases h.att i hi with h1 | ⟨y, hy, f2, h1, h2, h3, h4⟩
      · exact .inl h1
      · exact .inr ⟨y, hy, f2, h1, h2, h3, by rw [ne f2 (hoc f2 h1)]; exact h4⟩
  · rw [at_]
    rcases hd with ⟨e, _⟩ | ⟨e, _⟩ <;> omega
theorem LateQ.done_ (h : LateQ l N beg got o c q) (hq : (outK (turned l) c).length ≤ q) : LateO l N beg got (o ++ [c]) := by
  refine ⟨fun i hi h1 => ?_, h.lo, fun x hx i j h1 h2 hj => ?_, fun i hi => ?_, fun i hi => ?_⟩
  · simp at h1
    exact h.rest i hi h1.1 h1.2
  · simp at hj
    rcases hj with hj | hj
    · exact h.arc x hx i j h1 h2 hj
    · subst hj
      obtain ⟨k, hk⟩ := List.getElem?_of_mem hx
      obtain ⟨m, hm⟩ := List.getElem?_of_mem (mem_into.2 ⟨k, x, rfl, hk, h2⟩)
      have := (List.getElem?_eq_some_iff.1 hm).1
      exact h.carc m (by omega) k x i hm hk h1
  · rcases h.att i hi with h1 | ⟨y, hy, f2, h1, h2, h3, h4⟩
    · exact .inl h1
    · exact .inr ⟨y, hy, f2, by simp [h1], h2, h3, h4⟩
  · simp only [List.length_append, List.length_singleton]
    by_cases e : i = c
    · subst e; have := h.hic; omega
    · have := h.hi i hi e; omega
theorem LateO.all_ (h : LateO l N beg got o) (hw : Whole l N o) (hok : ∀ x ∈ l, okA (N : Int) x = true) : LateIs l N beg got := by
  refine ⟨h.lo, fun x hx i j h1 h2 => ?_, fun i hi => ?_⟩
  · have := okA_true.1 (hok x hx)
    exact h.arc x hx i j h1 h2 (hw.all (by omega))
  · rcases h.att i hi with h1 | ⟨y, hy, f2, h1, h2, h3, h4⟩
    · exact .inl h1
    · exact .inr ⟨y, hy, f2, h2, h3, h4⟩
theorem lateErr_zero (h : lateErr (N : Int) l xs = 0) : xs.length = N ∧ checkV (N : Int) l = 0 ∧ (∀ x ∈ xs, farB x = false) ∧ ∃ o, Whole l N o := by
  unfold lateErr at h
  by_cases h1 : (xs.length : Int) ≠ (N : Int)
  · rw [if_pos h1] at h; cases h
  · rw [if_neg h1] at h
    by_cases h2 : checkV (N : Int) l = 0
    · rw [if_neg (by simp [h2])] at h
      by_cases h3 : ∃ x ∈ xs, x < -1125899906842624 ∨ 1125899906842624 < x
      · rw [if_pos h3] at h; cases h
      · rw [if_neg h3] at h
        refine ⟨by omega, h2, fun x hx => ?_, ?_⟩
        · cases hb : farB x with
          | false => rfl
          | true => exact absurd ⟨x, hx, farB_true.1 hb⟩ h3
        · obtain ⟨o, ho⟩ := whole_or_stuck l N
          rcases ho with ho | ho
          · exact ⟨o, ho⟩
          · rw [if_pos ⟨o, by simpa using ho⟩] at h; cases h
    · rw [if_pos h2] at h; exact absurd h h2

/-! ### The row in memory -/
variable {w wa wr w2 : World} {gb g : Nat} {b : Option Addr} {got2 : Nat → Int}
theorem infoLongZ : (Try.prog.info? 2).map (·.size) = some 1 := by kernel_rfl
/-- copy of what came in into a row that was just made. -/
theorem copy_ints {sT ty : TypeId} {c : Nat} (hi : IsInts w.heap.size w b N xs) (hg : w.heap[g]? = some (.cells (madeCells #[.int .i64 0] N) 2 (0, 0))) :
    ∃ w4, (Builtin.copy_ #[39, sT] ty #[.slice (some ⟨g, 0, none⟩) N N, .slice b N c]).run Try.prog w = .ok (.int .i64 (N : Int)) w4 ∧ w4.rowIs g 2 N (fun i => .int .i64 (xs.getD i 0)) ∧ Below g w w4 := by
  by_cases h0 : N = 0
  · subst h0
    exact ⟨w, run_copy_none w _ _ _ 2 _ _ _ _ _ _ Try.underlying39 infoLongZ rfl, ⟨_, hg, size_madeCells _ _, fun i hi => by omega⟩, Below.refl _ _⟩
  · obtain ⟨hl, hr⟩ := hi
    rcases hr with hr | ⟨bb, off, rfl, hb, hr⟩
    · exact absurd hr h0
    · have hc := run_copy_row (P := Try.prog) w 39 sT ty 2 g 0 N N ⟨bb, off, none⟩ N c _ 2 (xs.map (Value.int .i64)) Try.underlying39 infoLongZ hg (by simp [hl]) (fun j v hj => by
        rw [List.getElem?_map] at hj
        cases hx : xs[j]? with
        | none => rw [hx] at hj; cases hj
        | some x =>
          rw [hx] at hj
          injection hj with hj
          subst hj
          rw [Addr.add_lit]
          exact hr j x hx) (by simp [size_madeCells, hl]) (fun v hv => by
        rw [List.mem_map] at hv
        obtain ⟨y, _, rfl⟩ := hv
        rfl)
      rw [show (xs.map (Value.int .i64)).length = N from by simp [hl]] at hc
      refine ⟨_, hc, ⟨_, setRow_heap _ _ _ _ _ _ hg, ?_, fun i hi => ?_⟩, below_setRow (Below.refl _ _) (Nat.le_refl _) _⟩
      · simp [size_madeCells, hl]
      · have hx : xs[i]? = some (xs[i]'(by omega)) := List.getElem?_eq_getElem (by omega)
        simp [List.getElem?_append, hl, hi, List.getD]
/-- The numbers lie in block gb; nothing else is written. -/
structure GW (wa wr : World) (gb N : Nat) (got : Nat → Int) : Prop where
  mod : Mod (fun k => k = gb) wa wr
  row : wr.rowIs gb 2 N (fun i => .int .i64 (got i))
theorem GW.later (h : GW wa wr gb N got) (hb : Below wr.heap.size wr w2) : GW wa w2 gb N got := ⟨h.mod.trans (Mod.of_below (fun k => k = gb) hb), rowIs_below h.row hb⟩
theorem GW.set_ (h : GW wa wr gb N got) (c : Nat) (d : Int) : GW wa (wr.setCell ⟨gb, c, none⟩ (.int .i64 d)) gb N (lateAt got c d) :=
  ⟨h.mod.setCell (p := ⟨gb, c, none⟩) (.inr rfl) _, (h.row.set c (.int .i64 d)).congr (fun i _ => by by_cases e : i = c <;> simp [e, lateAt])⟩
end part
section part
open Go.RowKit

variable {len N : Nat} {l : List Ar} {xs : List Int} {o : List Nat}
set_option maxHeartbeats 4000000 in
set_option maxRecDepth 100000 in
theorem late_whole (cap c0 : Nat) (a b : Option Addr) (w : World) (hxl : xs.length = N) (hc : checkV (N : Int) l = 0) (hf : ∀ x ∈ xs, farB x = false) (ho : Whole l N o) (hl : IsArcs w.heap.size w a len l) (hi : IsInts w.heap.size w b N xs) :
    Calls Try.prog 16 #[.agg #[.int .i64 (N : Int), .slice a len cap], .slice b N c0] w fun e w' => Below w.heap.size w w' ∧
      ∃ gb got, e = .returned (.tuple #[.slice (some ⟨gb, 0, none⟩) N N, .int .i64 0]) ∧ w'.rowIs gb 2 N (fun i => .int .i64 (got i)) ∧ w.heap.size ≤ gb ∧ LateIs l N (fun i => xs.getD i 0) got := by
  have HG := Lib.hid (Box.make (Below.refl _ w) (N : Int) a len cap)
  obtain ⟨⟨_, hN, hll⟩, hok⟩ := checkV_zero.1 hc
  have hN2 : N ≤ 1000 := by omega
  have hlen : len ≤ 20000 := by have := hl.1; omega
  have hmk := run_make_row' (P := Try.prog) 39 2 (.int .i64 0) 8 Try.underlying39 infoLong rfl .i64 .i64 N (by omega) (by omega)
  have HLn : Hid (l.length = len) := Lib.hid hl.1
  have HL := Lib.hid hl
  have HI := Lib.hid hi
  have HF := Lib.hid hf
  have HC := Lib.hid hc
  have HO := Lib.hid ho
  have HOK := Lib.hid hok
  have HOKT : Hid (∀ x ∈ turned l, 0 ≤ x.1 ∧ x.1 < (N : Int)) := Lib.hid (fun x hx => by
    rw [turned, List.mem_map] at hx
    obtain ⟨y, hy, rfl⟩ := hx
    exact (okA_true.1 (hok y hy)).2.1)
  have HBG : Hid (∀ i : Nat, -1125899906842624 ≤ xs.getD i 0 ∧ xs.getD i 0 ≤ 1125899906842624) := Lib.hid (fun i => by
    cases hx : xs[i]? with
    | none => simp [List.getD, hx]
    | some x =>
      have h1 := hf x (List.mem_of_getElem? hx)
      have h2 : ¬ (x < -1125899906842624 ∨ 1125899906842624 < x) := fun h => by rw [farB_true.2 h] at h1; cases h1
      simp only [List.getD, hx, Option.getD_some]
      omega)
  have HCK := Lib.hid (check_any (N : Int) cap a _ (HG.out.arcsHere HL.out))
  rw [hc] at HCK
  clear hxl hc hf ho hl hi hN hll hok
  go_enter Try.func16, Try.ntmps16
  go_wp2_with (first
    | (go_at_call 19; refine HCK.out.mono ?_; rintro e w1 ⟨rfl, hb1⟩; have HG1 := Lib.hid (HG.out.later hb1); have HI1 := Lib.hid (IsInts.to_ HI.out HG1.out.below); have x0 := HG1.out.c0; have x1 := HG1.out.c1; clear hb1)
    | (go_at_call 24; refine (contains_near b c0 _ (by omega) HI1.out HF.out).mono ?_; rintro e w2 ⟨rfl, rfl⟩)
    | (go_at_call 10; refine (osort_yes HC.out HO.out cap a _ (HG1.out.arcsHere HL.out)).mono ?_; rintro e w3 ⟨hb3, va, vc, rfl, hr3⟩; have HG3 := Lib.hid ((HG1.out.later hb3).alloc (.cells (madeCells #[.int .i64 0] N) 2)); have HZ3 : Hid (w.heap.size < w3.heap.size) := Lib.hid (HG1.out.later hb3).lt; have HLT := Lib.hid (fun k hk => (World.ownsRow.lt hr3 k hk).2); have y0 := (HG1.out.later hb3).c0; obtain ⟨w4, hcp, hrow4, hb4⟩ := copy_ints (c := c0) (sT := 39) (ty := 3) (IsInts.to_ (IsInts.to_ HI1.out hb3) ((Below.refl _ w3).alloc (Nat.le_refl _) (.cells (madeCells #[.int .i64 0] N) 2))) (heap_alloc_new _ _); have HROW4 := Lib.hid hrow4; have HR4 := Lib.hid (owns_below hr3 (((Below.refl _ w3).alloc (Nat.le_refl _) (.cells (madeCells #[.int .i64 0] N) 2)).trans hb4)); have HG4 : Hid (Box w w4 w.heap.size (N : Int) a len cap) := Lib.hid ⟨HG3.out.below.trans (hb4.mono (Nat.le_of_lt HZ3.out)), Nat.le_refl _, (hb4.block _ HZ3.out).trans HG3.out.blk⟩; have z0 := HG4.out.c0; have z1 := HG4.out.c1; clear hrow4 hb4 hb3 hr3)
    | (go_at_call 27; refine (turned_any (N : Int) (by omega) a cap _ (HG4.out.arcsHere HL.out)).mono ?_; rintro e w5 ⟨T, rfl, hta, _, hb5⟩; have HG5 := Lib.hid (HG4.out.later hb5); have HROW5 := Lib.hid (rowIs_below HROW4.out hb5); have HR5 := Lib.hid (owns_below HR4.out hb5); have HTA := Lib.hid hta; clear hta hb5)
    | (go_at_call 26; refine (byfrom_any N hN2 hlen HOKT.out (some ⟨T, 0, none⟩) len _ HTA.out).mono ?_; rintro e w6 ⟨L, V, rfl, hadj, hb6⟩; have HG6 := Lib.hid (HG5.out.later hb6); have HAD := Lib.hid hadj; have HROW6 := Lib.hid (rowIs_below HROW5.out hb6); have HR6 := Lib.hid (owns_below HR5.out hb6); have HZ6 : Hid (w3.heap.size < L) := Lib.hid (Nat.lt_of_lt_of_le HROW5.out.lt hadj.ge); clear hadj hb6))
  obtain ⟨gb, hgb⟩ : ∃ gb, w3.heap.size = gb := ⟨_, rfl⟩
  have HRB : Hid (∀ k, Value.ownBlock (.slice va N vc) = some k → k < gb) := Lib.hid (fun k hk => by rw [← hgb]; exact HLT.out k hk)
  have hgw : w.heap.size < gb := by rw [← hgb]; exact HZ3.out
  rw [hgb] at HROW6 HZ6 ⊢
  have HGW0 : Hid (GW w6 w6 gb N (fun i => xs.getD i 0)) := Lib.hid ⟨Mod.refl _ _, HROW6.out⟩
  have HLO0 : Hid (LateO l N (fun i => xs.getD i 0) (fun i => xs.getD i 0) (o.take 0)) := Lib.hid (LateO.start (fun i _ => (HBG.out i).2))
  have HBX : Hid (∀ wr, Mod (fun k => k = gb) w6 wr → Box w wr w.heap.size (N : Int) a len cap) := Lib.hid (fun wr hm => HG6.out.kept hm (fun k hk => by omega) (by omega))
  have HAX : Hid (∀ wr, Mod (fun k => k = gb) w6 wr → Adj w5.heap.size wr L N V (outK (turned l))) := Lib.hid (fun wr hm => HAD.out.kept hm (fun k hk _ e => by have := HZ6.out; omega))
  have HRX : Hid (∀ wr, Mod (fun k => k = gb) w6 wr → wr.ownsRow 0 3 1 (.slice va N vc) (nodesV o).length (numsV (nodesV o))) := Lib.hid (fun wr hm => owns_rebase (owns_kept HR6.out hm (fun k hk e => by have := HRB.out k hk; omega)) (Nat.zero_le _))
  clear hmk hcp x0 x1 y0 z0 z1 hgb HROW6 HAD HR6 HG6 HROW5 HR5 HG5 HROW4 HR4 HG4 HLT HZ3 HTA
  go_loopw [46] (fun iv wr => ∃ (p : Nat) (got : Nat → Int), iv = .int .i64 p ∧ p ≤ N ∧ Hid (GW w6 wr gb N got) ∧ Hid (LateO l N (fun i => xs.getD i 0) got (o.take p))) (fun iv _ => N - (intOf iv).toNat)
  case atStart => exact ⟨0, _, rfl, Nat.zero_le _, HGW0, HLO0⟩
  case round =>
    obtain ⟨p, got, rfl, hp, HW, HP⟩ := hrel
    clear HGW0 HLO0
    by_cases hlt : p < N
    · have hol : o.length = N := HO.out.2
      have hop : o[p]? = some (o[p]'(by omega)) := List.getElem?_eq_getElem (by omega)
      obtain ⟨c, hc⟩ : ∃ c, o[p]'(by omega) = c := ⟨_, rfl⟩
      rw [hc] at hop
      have htk : o.take (p + 1) = o.take p ++ [c] := by rw [List.take_add_one, hop]; rfl
      have hsq := HO.out.1.take (p + 1)
      rw [htk] at hsq
      obtain ⟨hsq1, hcN, hfr, _⟩ := hsq.back
      have HFR := Lib.hid hfr
      have HCL := Lib.hid hsq1.closed
      have HTK := Lib.hid htk
      have hpl : (o.take p).length = p := by rw [List.length_take]; omega
      have HPLN := Lib.hid hpl
      have hc1 : (0 : Int) ≤ (c : Int) := by omega
      have hc2 : (c : Int) < (N : Int) := by omega
      have hnl : (nodesV o).length = N := by rw [nodesV_length]; exact hol
      have hvv : (nodesV o)[p]? = some (c : Int) := by simp [nodesV, hop]
      have hrow := HRX.out wr HW.out.mod
      obtain ⟨G, cp, hv2, _, _, hcp, hcm⟩ := owns_some hrow (by omega)
      rw [hnl] at hv2 hcp
      injection hv2 with ea _ ec
      subst ea ec
      unfold maxLen at hcm
      have c2 := nums_cell hrow hvv
      obtain ⟨va2, vc2, hv3⟩ := owns_shape ((HAX.out wr HW.out.mod).row c hcN)
      obtain ⟨M, hM⟩ : ∃ M, (outK (turned l) c).length = M := ⟨_, rfl⟩
      rw [hM] at hv3
      have HV := Lib.hid hv3
      have HM := Lib.hid hM
      have hMl : M ≤ 20000 := by have h1 := outK_le (turned l) c; have h2 := HLn.out; rw [show (turned l).length = l.length from by simp [turned]] at h1; omega
      have r2 := (HAX.out wr HW.out.mod).out.cell hcN
      rw [hv3] at r2
      have HQ0 := Lib.hid (HP.out.begin_ hcN)
      clear hol hop hc htk hsq hsq1 hfr hpl hnl hvv hrow hv3 hM
      go_wp2_with fail
      clear c2 r2
      go_loopw [55] (fun qv wr => ∃ (q : Nat) (got : Nat → Int), qv = .int .i64 q ∧ q ≤ M ∧ Hid (GW w6 wr gb N got) ∧ Hid (LateQ l N (fun i => xs.getD i 0) got (o.take p) c q)) (fun qv _ => M - (intOf qv).toNat)
      case atStart => exact ⟨0, _, rfl, Nat.zero_le _, HW, HQ0⟩
      case round =>
        clear HW HQ0 HP
        obtain ⟨q, got, rfl, hq, HW, HQ⟩ := hrel
        by_cases hltq : q < M
        · obtain ⟨vv, hvv⟩ : ∃ vv, (outK (turned l) c)[q]? = some vv := ⟨_, List.getElem?_eq_getElem (by rw [HM.out]; exact hltq)⟩
          obtain ⟨k, x, rfl, hx, hxc⟩ := mem_into.1 (List.mem_of_getElem? hvv)
          have hxok := okA_true.1 (HOK.out x (List.mem_of_getElem? hx))
          have hkl : k < len := by have := (List.getElem?_eq_some_iff.1 hx).1; have := HLn.out; omega
          obtain ⟨b1, off, x', rfl, hbb, hx', e0, e1, e2⟩ := ((HBX.out wr HW.out.mod).arcs HL.out).at_ hkl
          rw [hx] at hx'
          cases hx'
          obtain ⟨f0, t0, d⟩ := x
          simp only at e0 e1 e2 hxok hxc
          subst hxc
          obtain ⟨f, rfl⟩ : ∃ f : Nat, f0 = (f : Int) := ⟨f0.toNat, by omega⟩
          have hf : f < N := by omega
          have hf1 : (0 : Int) ≤ (f : Int) := by omega
          have hf2 : (f : Int) < (N : Int) := by omega
          have hk1 : (0 : Int) ≤ (k : Int) := by omega
          have hk2 : (k : Int) < (len : Int) := by omega
          have hdl : -1099511627776 ≤ d := hxok.2.2.1
          have hdu : d ≤ 1099511627776 := hxok.2.2.2
          have hrow := (HAX.out wr HW.out.mod).row c hcN
          rw [HV.out, HM.out] at hrow
          obtain ⟨G2, cp2, hvv2, _, _, hcp2, hcm2⟩ := owns_some hrow (by omega)
          injection hvv2 with ea2 _ ec2
          subst ea2 ec2
          unfold maxLen at hcm2
          have c2 := nums_cell hrow hvv
          have y1 := (HBX.out wr HW.out.mod).c1
          have hfc : f ≠ c := by
            obtain ⟨f2, h1, h2⟩ := HFR.out.2 _ (List.mem_of_getElem? hx) rfl
            have h3 : (f : Int) = (f2 : Int) := h1
            have h4 : f = f2 := by omega
            intro e
            exact HFR.out.1 (by rw [← e, h4]; exact h2)
          have hvf : -1125899906842624 ≤ got f ∧ got f ≤ 2300000000000000 := by
            have h1 := HQ.out.lo f hf
            have h2 := HQ.out.hi f hf hfc
            have h3 := (HBG.out f).1
            have h4 := HPLN.out
            rw [h4] at h2
            omega
          have hvc : -1125899906842624 ≤ got c ∧ got c ≤ 2300000000000000 := by
            have h1 := HQ.out.lo c hcN
            have h2 := HQ.out.hic
            have h3 := (HBG.out c).1
            have h4 := HPLN.out
            rw [h4] at h2
            omega
          have HVV := Lib.hid hvv
          have HXX := Lib.hid hx
          clear hrow hbb hxok hvv hx
          go_wp2_with fail
          obtain ⟨w7, hw7⟩ : ∃ w7, w7 = World.drew (wr.alloc (.cells #[.int .i64 (f : Int), .int .i64 (c : Int), .int .i64 d] 35)) := ⟨_, rfl⟩
          have HW7 : Hid (GW w6 w7 gb N got) := Lib.hid (by rw [hw7]; exact HW.out.later ((Below.refl wr.heap.size wr).alloc (Nat.le_refl _) (.cells #[.int .i64 (f : Int), .int .i64 (c : Int), .int .i64 d] 35)).drew)
          have d0 : w7.cell? ⟨wr.heap.size, 0, none⟩ = some (.int .i64 (f : Int)) := by rw [hw7]; simp
          have d1 : w7.cell? ⟨wr.heap.size, 1, none⟩ = some (.int .i64 (c : Int)) := by rw [hw7]; simp
          have d2 : w7.cell? ⟨wr.heap.size, 2, none⟩ = some (.int .i64 d) := by rw [hw7]; simp
          have cf := HW7.out.row.cell hf
          have ct := HW7.out.row.cell hcN
          have ft := HW7.out.row.frozen c
          clear c2 y1 e0 e1 e2
          refine wp_region_still_tail 16 (by kernel_rfl) (by kernel_rfl) ?_
          simp only [List.take_succ_cons, List.take_zero, List.drop_succ_cons, List.drop_zero]
          change wpStill _ _ (World.drew (wr.alloc (.cells #[.int .i64 (f : Int), .int .i64 (c : Int), .int .i64 d] 35))) (fun a' => wpList _ _ _ _ a' (World.drew (wr.alloc (.cells #[.int .i64 (f : Int), .int .i64 (c : Int), .int .i64 d] 35)))) _ _
          rw [← hw7]
          clear hw7 HW
          have hw1 : IntKind.i64.wrap (got f + d) = got f + d := by rw [IntKind.wrap_i64]; omega
          have HN := Lib.hid (HQ.out.step (d := max (got c) (got f + d)) HCL.out HFR.out HVV.out HXX.out rfl rfl hdu hf (by simp only; omega))
          have HS := Lib.hid (HW7.out.set_ c (max (got c) (got f + d)))
          generalize hvt2 : got c = vt at ct hvc HS HN
          generalize hvf2 : got f = vf at cf hw1 hvf HS HN
          clear hvt2 hvf2
          repeat still_step
          refine wpStill_nil ?_
          go_wp2_with fail
          go_roundw
          case rel => exact ⟨q + 1, _, by go_num, by omega, HS, HN⟩
          case measure => simp [intOf]; omega
        · have HN := Lib.hid (HQ.out.done_ (by have := HM.out; omega))
          rw [← HTK.out] at HN
          go_wp2_with fail
          go_roundw
          case rel => exact ⟨p + 1, got, by go_num, by omega, HW, HN⟩
          case measure => simp [intOf]; omega
    · have hop : o.take p = o := List.take_of_length_le (by have := HO.out.2; omega)
      have HD : Hid (LateIs l N (fun i => xs.getD i 0) got) := Lib.hid (by have h := HP.out; rw [hop] at h; exact h.all_ HO.out HOK.out)
      clear hop
      go_wp2_with fail
      go_ret2
      exact ⟨(HBX.out wr HW.out.mod).below, gb, got, rfl, HW.out.row, by omega, HD.out⟩
end part
end Go.Proofs.Ytgoegkajfhhcjaa

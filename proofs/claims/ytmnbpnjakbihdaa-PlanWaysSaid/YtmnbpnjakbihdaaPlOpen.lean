/- What the laws of package plan are handed: a plan, a bike, a truck, a wish, by value. -/
import Derived.Test.YtmnbpnjakbihdaaIOpen
import Derived.Test.YtmnbpnjakbihdaaRowN
import Derived.Test.YtmnbpnjakbihdaaPlT
namespace Go.Proofs.Ytmnbpnjakbihdaa
open Go.ChangeShapes Go.WideShapes Go.ChangeAt Go.RowKit

theorem cellsStopP : Try.prog.cellsOf 63 = 2 := by kernel_rfl
theorem cellsTruckP : Try.prog.cellsOf 58 = 1 := by kernel_rfl
theorem cellsBikeP : Try.prog.cellsOf 55 = 2 := by kernel_rfl
theorem cellsPlanP : Try.prog.cellsOf 42 = 2 := by kernel_rfl
theorem cellsWishP : Try.prog.cellsOf 28 = 3 := by kernel_rfl
theorem cellsSStop : Try.prog.cellsOf 56 = 1 := by kernel_rfl
theorem cellsSTruck : Try.prog.cellsOf 39 = 1 := by kernel_rfl
theorem cellsSBike : Try.prog.cellsOf 40 = 1 := by kernel_rfl
theorem cellsSInt : Try.prog.cellsOf 53 = 1 := by kernel_rfl
/-- A law's wish: satellites, order, cuts. -/
structure Wi where
  (sats : List Int) (order : List Int) (cuts : List Int)
structure WiA where
  (sa : Option Addr) (sc : Nat) (oa : Option Addr) (oc : Nat) (ca : Option Addr) (cc : Nat)
abbrev wiC (A : WiA) (y : Wi) : Array Value := #[.slice A.sa y.sats.length A.sc, .slice A.oa y.order.length A.oc, .slice A.ca y.cuts.length A.cc]
structure IsWi (B : Nat) (w : World) (A : WiA) (y : Wi) : Prop where
  sats : IsU8 B w A.sa y.sats.length y.sats
  order : IsU8 B w A.oa y.order.length y.order
  cuts : IsU8 B w A.ca y.cuts.length y.cuts
  ls : y.sats.length ≤ 9223372036854775807
  lo : y.order.length ≤ 9223372036854775807
  lc : y.cuts.length ≤ 9223372036854775807
section
variable {H : Type} {enc : TypeId × Value → H} {w : World} {base : Nat} {spare : Nat → Bool} {held : Bool}
set_option maxRecDepth 100000 in
theorem stopP_of {fuel : Nat} {cs : List Value} {x : DataW H × List MemPlace} (h : DataW.trod enc Try.prog w base spare held fuel 63 cs = some x) :
    ∃ c : Int × Int, cs = [.int .i64 c.1, .int .i64 c.2] := by
  obtain ⟨xs, n, _, _, hlen, hxl, hf⟩ := DataW.trod_struct Try.underlying63 h
  rw [cellsStopP] at hlen
  match cs, hlen with
  | [v0, v1], _ =>
    match xs, hxl with
    | [y0, y1], _ =>
      have g0 := hf 0 _ rfl
      simp [cellsInt] at g0
      have g1 := hf 1 _ rfl
      simp [cellsI64] at g1
      obtain ⟨t0, ht0, _, wt0⟩ := DataW.trod_int Try.underlying3 g0
      obtain ⟨t1, ht1, _, wt1⟩ := DataW.trod_int Try.underlying2 g1
      simp only [List.cons.injEq, and_true] at ht0 ht1
      subst ht0 ht1
      exact ⟨(t0, t1), rfl⟩
set_option maxRecDepth 100000 in
theorem stopsP_of {fuel : Nat} {a : Option Addr} {len cap : Nat} {x : DataW H × List MemPlace} (h : DataW.trod enc Try.prog w base spare held fuel 56 [.slice a len cap] = some x) :
    len ≤ maxLen ∧ len ≤ cap ∧ ∃ l, IsPairs w.heap.size w a len l := by
  rcases Go.Deep.open_slice Try.underlying56 h with ⟨hcs, _⟩ | ⟨p, len', cap', m, n, D, Pl, hcs, _, hl, hm, hmm, _, hi⟩
  · simp only [List.cons.injEq, Value.slice.injEq, and_true] at hcs
    obtain ⟨rfl, rfl, rfl⟩ := hcs
    exact ⟨by unfold maxLen; omega, Nat.le_refl _, [], rfl, .inl rfl⟩
  · simp only [List.cons.injEq, Value.slice.injEq, and_true] at hcs
    obtain ⟨rfl, rfl, rfl⟩ := hcs
    refine ⟨by omega, by omega, ?_⟩
    have hlm : len ≤ m := by rw [hmm]; split <;> omega
    have each : ∀ i, i < len → ∃ c : Int × Int, (w.cell? (p.add (i * 2)) = some (.int .i64 c.1) ∧ w.cell? (p.add (i * 2 + 1)) = some (.int .i64 c.2)) := fun i hil => by
      obtain ⟨cs', h1, h2⟩ := hi i (by omega)
      obtain ⟨c, rfl⟩ := stopP_of h2
      rw [cellsStopP] at h1
      obtain ⟨_, _, hat⟩ := World.cells?_some h1
      have a0 := hat 0 (by omega)
      have a1 := hat 1 (by omega)
      rw [Go.Deep.add_add] at a0 a1
      exact ⟨c, by simpa using a0, by simpa using a1⟩
    obtain ⟨f, hf⟩ := Go.Deep.choose_lt each
    refine ⟨(List.range len).map f, by simp, ?_⟩
    by_cases h0 : len = 0
    · exact .inl h0
    · obtain ⟨b, off, spot⟩ := p
      have hspot : spot = none := by simpa [Addr.add] using World.cell?_spot (hf 0 (by omega)).1
      subst hspot
      have hrow : PairRow w b off ((List.range len).map f) := fun i c hc => by
        have hil : i < len := by have := (List.getElem?_eq_some_iff.1 hc).1; simpa using this
        simp only [List.getElem?_map, List.getElem?_range hil, Option.map_some, Option.some.injEq] at hc
        subst hc
        have := (hf i hil)
        simp only [Addr.add_lit] at this
        exact this
      exact .inr ⟨b, off, rfl, World.block_lt_of_cell? w _ (hf 0 (by omega)).1, hrow⟩
set_option maxRecDepth 100000 in
theorem truckP_of {fuel : Nat} {cs : List Value} {x : DataW H × List MemPlace} (h : DataW.trod enc Try.prog w base spare held fuel 58 cs = some x) :
    ∃ (r : List (Int × Int)) (ra : Option Addr) (rc : Nat), cs = [.slice ra r.length rc] ∧ r.length ≤ 9223372036854775807 ∧ IsPairs w.heap.size w ra r.length r ∧ r.length ≤ rc := by
  obtain ⟨xs, n, _, _, hlen, hxl, hf⟩ := DataW.trod_struct Try.underlying58 h
  rw [cellsTruckP] at hlen
  match cs, hlen with
  | [v0], _ =>
    match xs, hxl with
    | [y0], _ =>
      have g0 := hf 0 _ rfl
      simp [cellsSStop] at g0
      obtain ⟨ra, rl, rc, e⟩ := Joins.slice_form Try.underlying56 g0
      simp only [List.cons.injEq, and_true] at e
      subst e
      obtain ⟨hb, hc, r, hr⟩ := stopsP_of g0
      have hrl := hr.1
      subst hrl
      exact ⟨r, ra, rc, rfl, by unfold maxLen at hb; omega, hr, hc⟩
set_option maxRecDepth 100000 in
theorem bikeP_of {fuel : Nat} {cs : List Value} {x : DataW H × List MemPlace} (h : DataW.trod enc Try.prog w base spare held fuel 55 cs = some x) :
    ∃ (r : Int × List Int) (ra : Option Addr) (rc : Nat), cs = [.int .i64 r.1, .slice ra r.2.length rc] ∧ r.2.length ≤ 9223372036854775807 ∧ IsNums w.heap.size w ra r.2.length r.2 := by
  obtain ⟨xs, n, _, _, hlen, hxl, hf⟩ := DataW.trod_struct Try.underlying55 h
  rw [cellsBikeP] at hlen
  match cs, hlen with
  | [v0, v1], _ =>
    match xs, hxl with
    | [y0, y1], _ =>
      have g0 := hf 0 _ rfl
      have g1 := hf 1 _ rfl
      simp [cellsInt] at g0
      simp [cellsSInt] at g1
      obtain ⟨t0, ht0, _, wt0⟩ := DataW.trod_int Try.underlying3 g0
      obtain ⟨ra, rl, rc, e⟩ := Joins.slice_form Try.underlying53 g1
      simp only [List.cons.injEq, and_true] at e ht0
      subst e ht0
      obtain ⟨hb, r, hr⟩ := rowN_of Try.underlying53 Try.underlying3 (by kernel_rfl) g1
      have hrl := hr.1
      subst hrl
      exact ⟨(t0, r), ra, rc, rfl, by unfold maxLen at hb; simpa using hb, hr⟩
set_option maxRecDepth 100000 in
theorem trucksP_of {fuel : Nat} {a : Option Addr} {len cap : Nat} {x : DataW H × List MemPlace} (h : DataW.trod enc Try.prog w base spare held fuel 39 [.slice a len cap] = some x) :
    len ≤ maxLen ∧ ∃ L, IsTrucks w.heap.size w a len L := by
  rcases Go.Deep.open_slice Try.underlying39 h with ⟨hcs, _⟩ | ⟨p, len', cap', m, n, D, Pl, hcs, _, hl, hm, hmm, _, hi⟩
  · simp only [List.cons.injEq, Value.slice.injEq, and_true] at hcs
    obtain ⟨rfl, rfl, rfl⟩ := hcs
    exact ⟨by unfold maxLen; omega, [], rfl, .inl rfl⟩
  · simp only [List.cons.injEq, Value.slice.injEq, and_true] at hcs
    obtain ⟨rfl, rfl, rfl⟩ := hcs
    refine ⟨by omega, ?_⟩
    have hlm : len ≤ m := by rw [hmm]; split <;> omega
    have each : ∀ i, i < len → ∃ r : List (Int × Int), r.length ≤ 9223372036854775807 ∧ ∃ ra rc, w.cell? (p.add i) = some (.slice ra r.length rc) ∧ IsPairs w.heap.size w ra r.length r ∧ r.length ≤ rc := fun i hil => by
      obtain ⟨cs', h1, h2⟩ := hi i (by omega)
      obtain ⟨r, ra, rc, rfl, hrl, hr, hcp⟩ := truckP_of h2
      rw [cellsTruckP] at h1
      obtain ⟨_, _, hat⟩ := World.cells?_some h1
      have a0 := hat 0 (by omega)
      rw [Go.Deep.add_add] at a0
      exact ⟨r, hrl, ra, rc, by simpa using a0, hr, hcp⟩
    obtain ⟨f, hf⟩ := Go.Deep.choose_lt each
    refine ⟨(List.range len).map f, by simp, ?_⟩
    by_cases h0 : len = 0
    · exact .inl h0
    · obtain ⟨b, off, spot⟩ := p
      obtain ⟨_, ra0, rc0, hc0, _⟩ := hf 0 (by omega)
      have hspot : spot = none := by simpa [Addr.add] using World.cell?_spot hc0
      subst hspot
      refine .inr ⟨b, off, rfl, World.block_lt_of_cell? w _ hc0, fun i c hc => ?_⟩
      have hil : i < len := by have := (List.getElem?_eq_some_iff.1 hc).1; simpa using this
      simp only [List.getElem?_map, List.getElem?_range hil, Option.map_some, Option.some.injEq] at hc
      subst hc
      have := hf i hil
      simp only [Addr.add_lit] at this
      exact this
set_option maxRecDepth 100000 in
theorem bikesP_of {fuel : Nat} {a : Option Addr} {len cap : Nat} {x : DataW H × List MemPlace} (h : DataW.trod enc Try.prog w base spare held fuel 40 [.slice a len cap] = some x) :
    len ≤ maxLen ∧ ∃ L, IsBikes w.heap.size w a len L := by
  rcases Go.Deep.open_slice Try.underlying40 h with ⟨hcs, _⟩ | ⟨p, len', cap', m, n, D, Pl, hcs, _, hl, hm, hmm, _, hi⟩
  · simp only [List.cons.injEq, Value.slice.injEq, and_true] at hcs
    obtain ⟨rfl, rfl, rfl⟩ := hcs
    exact ⟨by unfold maxLen; omega, [], rfl, .inl rfl⟩
  · simp only [List.cons.injEq, Value.slice.injEq, and_true] at hcs
    obtain ⟨rfl, rfl, rfl⟩ := hcs
    refine ⟨by omega, ?_⟩
    have hlm : len ≤ m := by rw [hmm]; split <;> omega
    have each : ∀ i, i < len → ∃ r : Int × List Int, r.2.length ≤ 9223372036854775807 ∧ ∃ ra rc, w.cell? (p.add (i * 2)) = some (.int .i64 r.1) ∧ w.cell? (p.add (i * 2 + 1)) = some (.slice ra r.2.length rc) ∧ IsNums w.heap.size w ra r.2.length r.2 := fun i hil => by
      obtain ⟨cs', h1, h2⟩ := hi i (by omega)
      obtain ⟨r, ra, rc, rfl, hrl, hr⟩ := bikeP_of h2
      rw [cellsBikeP] at h1
      obtain ⟨_, _, hat⟩ := World.cells?_some h1
      have a0 := hat 0 (by omega)
      have a1 := hat 1 (by omega)
      rw [Go.Deep.add_add] at a0 a1
      exact ⟨r, hrl, ra, rc, by simpa using a0, by simpa using a1, hr⟩
    obtain ⟨f, hf⟩ := Go.Deep.choose_lt each
    refine ⟨(List.range len).map f, by simp, ?_⟩
    by_cases h0 : len = 0
    · exact .inl h0
    · obtain ⟨b, off, spot⟩ := p
      obtain ⟨_, ra0, rc0, hc0, _⟩ := hf 0 (by omega)
      have hspot : spot = none := by simpa [Addr.add] using World.cell?_spot hc0
      subst hspot
      refine .inr ⟨b, off, rfl, World.block_lt_of_cell? w _ hc0, fun i c hc => ?_⟩
      have hil : i < len := by have := (List.getElem?_eq_some_iff.1 hc).1; simpa using this
      simp only [List.getElem?_map, List.getElem?_range hil, Option.map_some, Option.some.injEq] at hc
      subst hc
      have := hf i hil
      simp only [Addr.add_lit] at this
      exact this
theorem intsP_of {fuel : Nat} {a : Option Addr} {len cap : Nat} {x : DataW H × List MemPlace} (h : DataW.trod enc Try.prog w base spare held fuel 53 [.slice a len cap] = some x) :
    len ≤ maxLen ∧ ∃ xs, IsNums w.heap.size w a len xs := rowN_of Try.underlying53 Try.underlying3 (by kernel_rfl) h
set_option maxRecDepth 100000 in
/-- Ints by value: where none lie there is no room. -/
theorem intsA_of {r : Reach} {b0 : Nat} {v : Value} {d : DataW H} {p : List MemPlace} (hv : Value.okWide Try.prog w r b0 53 v) (h : DataW.Trod enc Try.prog w base spare held 53 v d p) :
    ∃ (a : Option Addr) (len cap : Nat) (z : List Int), v = .slice a len cap ∧ len ≤ 9223372036854775807 ∧ IsNums w.heap.size w a len z ∧ (a = none → cap = 0) := by
  obtain ⟨a, len, cap, rfl⟩ := okWide_slice Try.underlying53 hv
  obtain ⟨fuel, hf⟩ := h
  have hf2 : DataW.trod enc Try.prog w base spare held fuel 53 [.slice a len cap] = some (d, p) := by simpa [Value.cells] using hf
  obtain ⟨m, z, hz⟩ := intsP_of hf2
  refine ⟨a, len, cap, z, rfl, by unfold maxLen at m; simpa using m, hz, fun e => ?_⟩
  rcases open_ints Try.underlying53 Try.underlying3 (by kernel_rfl) hf2 with ⟨hcs, _⟩ | ⟨q, l, c, zs, hcs, _⟩
  · simp only [List.cons.injEq, Value.slice.injEq, and_true] at hcs
    exact hcs.2.2
  · simp only [List.cons.injEq, Value.slice.injEq, and_true] at hcs
    rw [e] at hcs
    cases hcs.1
set_option maxRecDepth 100000 in
/-- A plan by value. -/
theorem plan_of {r : Reach} {b0 : Nat} {v : Value} {d : DataW H} {p : List MemPlace} (hv : Value.okWide Try.prog w r b0 42 v) (h : DataW.Trod enc Try.prog w base spare held 42 v d p) :
    ∃ (A : PlA) (q : Pl), v = .agg (plC A q) ∧ IsPl w.heap.size w A q := by
  obtain ⟨cs, rfl, hsz⟩ := okWide_struct Try.underlying42 hv
  obtain ⟨fuel, hf0⟩ := h
  obtain ⟨xs, n, _, _, hlen, hxl, hf⟩ := DataW.trod_struct Try.underlying42 hf0
  obtain ⟨l⟩ := cs
  have hll : l.length = 2 := by simpa [cellsPlanP] using hsz
  match l, hll with
  | [v0, v1], _ =>
    match xs, hxl with
    | [y0, y1], _ =>
      have g0 := hf 0 _ rfl
      have g1 := hf 1 _ rfl
      simp [cellsSTruck, Value.cells] at g0
      simp [cellsSBike, Value.cells] at g1
      obtain ⟨ta, tl, tc, e0⟩ := Joins.slice_form Try.underlying39 g0
      obtain ⟨ba, bl, bc, e1⟩ := Joins.slice_form Try.underlying40 g1
      simp only [List.cons.injEq, and_true] at e0 e1
      subst e0 e1
      obtain ⟨m0, T, h0⟩ := trucksP_of g0
      obtain ⟨m1, K, h1⟩ := bikesP_of g1
      have l0 := h0.1
      have l1 := h1.1
      subst l0 l1
      unfold maxLen at m0 m1
      exact ⟨⟨ta, tc, ba, bc⟩, ⟨T, K⟩, rfl, ⟨h0, h1, by simpa using m0, by simpa using m1⟩⟩
set_option maxRecDepth 100000 in
/-- A law's wish by value. -/
theorem wish_of {r : Reach} {b0 : Nat} {v : Value} {d : DataW H} {p : List MemPlace} (hv : Value.okWide Try.prog w r b0 28 v) (h : DataW.Trod enc Try.prog w base spare held 28 v d p) :
    ∃ (A : WiA) (q : Wi), v = .agg (wiC A q) ∧ IsWi w.heap.size w A q := by
  obtain ⟨cs, rfl, hsz⟩ := okWide_struct Try.underlying28 hv
  obtain ⟨fuel, hf0⟩ := h
  obtain ⟨xs, n, _, _, hlen, hxl, hf⟩ := DataW.trod_struct Try.underlying28 hf0
  obtain ⟨l⟩ := cs
  have hll : l.length = 3 := by simpa [cellsWishP] using hsz
  match l, hll with
  | [v0, v1, v2], _ =>
    match xs, hxl with
    | [y0, y1, y2], _ =>
      have g0 := hf 0 _ rfl
      have g1 := hf 1 _ rfl
      have g2 := hf 2 _ rfl
      simp [cellsSU, Value.cells] at g0 g1 g2
      obtain ⟨a0, l0, c0, e0⟩ := Joins.slice_form Try.underlying24 g0
      obtain ⟨a1, l1, c1, e1⟩ := Joins.slice_form Try.underlying24 g1
      obtain ⟨a2, l2, c2, e2⟩ := Joins.slice_form Try.underlying24 g2
      simp only [List.cons.injEq, and_true] at e0 e1 e2
      subst e0 e1 e2
      obtain ⟨m0, S, h0⟩ := u8s_of g0
      obtain ⟨m1, O, h1⟩ := u8s_of g1
      obtain ⟨m2, K, h2⟩ := u8s_of g2
      have q0 := h0.1
      have q1 := h1.1
      have q2 := h2.1
      subst q0 q1 q2
      unfold maxLen at m0 m1 m2
      exact ⟨⟨a0, c0, a1, c1, a2, c2⟩, ⟨S, O, K⟩, rfl, ⟨h0, h1, h2, by simpa using m0, by simpa using m1, by simpa using m2⟩⟩
set_option maxRecDepth 100000 in
/-- A truck by value; a bike. -/
theorem truckA_of {r : Reach} {b0 : Nat} {v : Value} {d : DataW H} {p : List MemPlace} (hv : Value.okWide Try.prog w r b0 58 v) (h : DataW.Trod enc Try.prog w base spare held 58 v d p) :
    ∃ (ra : Option Addr) (rc : Nat) (q : List (Int × Int)), v = .agg #[.slice ra q.length rc] ∧ q.length ≤ 9223372036854775807 ∧ IsPairs w.heap.size w ra q.length q := by
  obtain ⟨cs, rfl, hsz⟩ := okWide_struct Try.underlying58 hv
  obtain ⟨fuel, hf0⟩ := h
  obtain ⟨l⟩ := cs
  have hll : l.length = 1 := by simpa [cellsTruckP] using hsz
  match l, hll with
  | [v0], _ =>
    obtain ⟨q, ra, rc, e, hq, hn, _⟩ := truckP_of hf0
    simp [Value.cells] at e
    subst e
    exact ⟨ra, rc, q, rfl, hq, hn⟩
set_option maxRecDepth 100000 in
theorem bikeA_of {r : Reach} {b0 : Nat} {v : Value} {d : DataW H} {p : List MemPlace} (hv : Value.okWide Try.prog w r b0 55 v) (h : DataW.Trod enc Try.prog w base spare held 55 v d p) :
    ∃ (s : Int) (ra : Option Addr) (rc : Nat) (q : List Int), v = .agg #[.int .i64 s, .slice ra q.length rc] ∧ q.length ≤ 9223372036854775807 ∧ IsNums w.heap.size w ra q.length q := by
  obtain ⟨cs, rfl, hsz⟩ := okWide_struct Try.underlying55 hv
  obtain ⟨fuel, hf0⟩ := h
  obtain ⟨l⟩ := cs
  have hll : l.length = 2 := by simpa [cellsBikeP] using hsz
  match l, hll with
  | [v0, v1], _ =>
    obtain ⟨q, ra, rc, e, hq, hn⟩ := bikeP_of hf0
    simp [Value.cells] at e
    obtain ⟨e1, e2⟩ := e
    subst e1 e2
    exact ⟨q.1, ra, rc, q.2, rfl, hq, hn⟩
end
end Go.Proofs.Ytmnbpnjakbihdaa

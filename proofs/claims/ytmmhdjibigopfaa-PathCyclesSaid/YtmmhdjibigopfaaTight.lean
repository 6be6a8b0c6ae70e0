/- The law's own test of a tree: by the nearest arcs, back to a node. -/
import Derived.Test.YtmmhdjibigopfaaFars
import Derived.Test.YtmmhdjibigopfaaJoined
namespace Go.Proofs.Ytmmhdjibigopfaa
open Go.RowKit

variable {w wr w2 : World} {base N g cap i k m len : Nat} {a : Option Addr} {f by_ : Nat → Int} {v vf vb : Value} {u d : Int} {ws : List Int} {l : List Ar} {s : Nat} {far : Nat → Option Int}
/-- The slice v is a row of the call's own, from block base on, of these N numbers (int). -/
def IntRow (w : World) (base : Nat) (v : Value) (N : Nat) (f : Nat → Int) : Prop := w.ownsRow base 3 1 v N (rowF N f)
theorem IntRow.cell (h : IntRow w base (.slice (some ⟨g, 0, none⟩) N cap) N f) (hi : i < N) : w.cell? ⟨g, i, none⟩ = some (.int .i64 (f i)) := by
  rw [World.ownsRow.cellAt h i (by omega)]
  exact rowF_get _ hi
theorem IntRow.frozen (h : IntRow w base (.slice (some ⟨g, 0, none⟩) N cap) N f) (i : Nat) : w.frozen? ⟨g, i, none⟩ = false := World.ownsRow.frozenAt h i
theorem IntRow.below (h : IntRow w base v N f) (hb : Below w.heap.size w w2) : IntRow w2 base v N f := owns_below h hb
theorem IntRow.some_ (h : IntRow w base v N f) (h0 : 0 < N) : ∃ g cap, v = .slice (some ⟨g, 0, none⟩) N cap ∧ base ≤ g ∧ g < w.heap.size ∧ N ≤ cap ∧ cap ≤ maxLen := owns_some h h0
/-- A row of numbers of the call's own, as a way. -/
theorem owns_ints (h : w.ownsRow base 3 1 (.slice a m cap) ws.length (numsV ws)) : m = ws.length ∧ IsInts w.heap.size w a m ws := by
  rcases h.2 with ⟨e, h0⟩ | ⟨g, cap', cur, hv, hb, hg, _⟩
  · injection e with _ e2 _
    subst e2
    exact ⟨by omega, by omega, .inl rfl⟩
  · have hh := h
    injection hv with e1 e2 e3
    subst e1 e2 e3
    refine ⟨rfl, rfl, .inr ⟨g, 0, rfl, (Array.getElem?_eq_some_iff.1 hg).1, fun k x hk => ?_⟩⟩
    rw [Nat.zero_add]
    exact nums_cell hh hk

/-- By each node's arc one comes to it by the nearest way. -/
structure Tight (l : List Ar) (N s : Nat) (far : Nat → Option Int) (by_ : Nat → Int) : Prop where
  root : by_ s = -1
  off : ∀ i, i < N → far i = none → by_ i = -1
  arc : ∀ i d, i < N → i ≠ s → far i = some d → ∃ (k : Nat) (x : Ar) (f : Nat) (p : Int), by_ i = (k : Int) ∧ l[k]? = some x ∧ x.2.1 = (i : Int) ∧ x.1 = (f : Int) ∧ far f = some p ∧ p + x.2.2 = d
/-- What Way is to answer. -/
structure WayTo (l : List Ar) (s : Nat) (far : Nat → Option Int) (by_ : Nat → Int) (i : Nat) (ws : List Int) : Prop where
  none_ : far i = none ∨ i = s → ws = []
  some_ : ∀ d, i ≠ s → far i = some d → joinO l ws (s : Int) 0 = some ((i : Int), d) ∧ ∃ r, ws = r ++ [by_ i]

theorem IsArcs.get {B b off : Nat} {x : Ar} (h : IsArcs B w (some ⟨b, off, none⟩) len l) (hx : l[k]? = some x) :
    w.cell? ⟨b, off + k * 3, none⟩ = some (.int .i64 x.1) ∧ w.cell? ⟨b, off + k * 3 + 1, none⟩ = some (.int .i64 x.2.1) ∧ w.cell? ⟨b, off + k * 3 + 2, none⟩ = some (.int .i64 x.2.2) := by
  have hk : k < len := by have := (List.getElem?_eq_some_iff.1 hx).1; have := h.1; omega
  rcases h.2 with h0 | ⟨b', off', e, _, hr⟩
  · omega
  · simp only [Option.some.injEq, Addr.mk.injEq, and_true] at e
    obtain ⟨e1, e2⟩ := e
    subst e1 e2
    exact hr k x hx
theorem join_tuple {to : Int} {p d : Int} (h : p = to) : joinV (some (p, d)) to = .tuple #[.int .i64 d, .bool true] := by simp [joinV, h]

/-- The graph's box, the tree's. -/
structure TreeW (w wr : World) (g N : Nat) (a : Option Addr) (len cap : Nat) (vf vb : Value) : Prop where
  box : Box w wr g (N : Int) a len cap
  tb : wr.heap[g + 1]? = some (.cells #[vf, vb] 31 (0, 0))
theorem TreeW.later (h : TreeW w wr g N a len cap vf vb) (hb : Below wr.heap.size wr w2) : TreeW w w2 g N a len cap vf vb :=
  ⟨h.box.later hb, (hb.block (g + 1) (Array.getElem?_eq_some_iff.1 h.tb).1).trans h.tb⟩
theorem TreeW.t0 (h : TreeW w wr g N a len cap vf vb) : wr.cell? ⟨g + 1, 0, none⟩ = some vf := by simp [World.cell?, h.tb]
theorem TreeW.t1 (h : TreeW w wr g N a len cap vf vb) : wr.cell? ⟨g + 1, 1, none⟩ = some vb := by simp [World.cell?, h.tb]
theorem TreeW.make (w : World) (N : Nat) (a : Option Addr) (len cap : Nat) (vf vb : Value) : TreeW w ((w.alloc (.cells #[.int .i64 (N : Int), .slice a len cap] 26)).alloc (.cells #[vf, vb] 31)) w.heap.size N a len cap vf vb :=
  ⟨(Box.make (Below.refl _ w) (N : Int) a len cap).alloc _, heap_alloc2_new _ _ _⟩

set_option maxHeartbeats 4000000 in
set_option maxRecDepth 100000 in
theorem tight_any (N s : Nat) (hs : s < N) (hN : N ≤ 1000) (_hlen : len ≤ 20000) (hsm : Small far) (hpast : ∀ i, ¬ i < N → far i = none) (ht : Tight l N s far by_) (a : Option Addr) (cap : Nat) (w : World) (hl : IsArcs w.heap.size w a len l) (hwt : ∀ x ∈ l, -1099511627776 ≤ x.2.2 ∧ x.2.2 ≤ 1099511627776)
    (gf cf gb cb gr cr : Nat) (hf : LongRow w 0 (.slice (some ⟨gf, 0, none⟩) N cf) N (valI far)) (hb : IntRow w 0 (.slice (some ⟨gb, 0, none⟩) N cb) N by_) (hr : LongRow w 0 (.slice (some ⟨gr, 0, none⟩) N cr) N (valI far))
    (hway : ∀ (i : Nat) (W : World), i < N → IsArcs W.heap.size W a len l → LongRow W 0 (.slice (some ⟨gf, 0, none⟩) N cf) N (valI far) → IntRow W 0 (.slice (some ⟨gb, 0, none⟩) N cb) N by_ →
      Calls Try.prog 19 #[.agg #[.slice (some ⟨gf, 0, none⟩) N cf, .slice (some ⟨gb, 0, none⟩) N cb], .agg #[.int .i64 (N : Int), .slice a len cap], .int .i64 (i : Int)] W fun e w' =>
        ∃ v ws, e = .returned v ∧ w'.ownsRow W.heap.size 3 1 v ws.length (numsV ws) ∧ WayTo l s far by_ i ws ∧ ws.length ≤ 1000000 ∧ Below W.heap.size W w') :
    Calls Try.prog 11 #[.agg #[.int .i64 (N : Int), .slice a len cap], .agg #[.slice (some ⟨gf, 0, none⟩) N cf, .slice (some ⟨gb, 0, none⟩) N cb], .int .i64 (s : Int), .slice (some ⟨gr, 0, none⟩) N cr] w fun e w' =>
      e = .returned (.bool true) ∧ Below w.heap.size w w' := by
  have HT := Lib.hid ht; clear ht
  have HSM := Lib.hid hsm; clear hsm
  have HWT := Lib.hid hwt; clear hwt
  have HPAST := Lib.hid hpast; clear hpast
  have HL := Lib.hid hl; clear hl
  have HF := Lib.hid hf; clear hf
  have HB := Lib.hid hb; clear hb
  have HRR := Lib.hid hr; clear hr
  have HWAY := Lib.hid hway; clear hway
  have hs1 : (0 : Int) ≤ (s : Int) := by omega
  have hs2 : (s : Int) < (N : Int) := by omega
  have HX0 := Lib.hid (TreeW.make w N a len cap (.slice (some ⟨gf, 0, none⟩) N cf) (.slice (some ⟨gb, 0, none⟩) N cb))
  have x0 := HX0.out.box.c0
  have x1 := HX0.out.t0
  have x2 := HX0.out.t1
  have HE : Hid (sameN (valI far) (valI far) N = true) := Lib.hid (sameN_true.2 fun _ _ => rfl)
  go_enter Try.func11, Try.ntmps11
  go_wp2_with (go_at_call 23; refine (eqRows (HF.out.below HX0.out.box.below) (HRR.out.below HX0.out.box.below) (by omega)).mono ?_; rw [HE.out]; rintro e w1 ⟨rfl, hb1⟩; have HX1 := Lib.hid (HX0.out.later hb1); have y0 := HX1.out.box.c0; have y1 := HX1.out.t1; have y2 := (HB.out.below HX1.out.box.below).cell hs; rw [HT.out.root] at y2; clear hb1)
  clear x0 x1 x2 y0 y1 y2 HX0
  go_loopw [37] (fun j wr => ∃ (i : Nat), j = .int .i64 i ∧ i ≤ N ∧ Hid (TreeW w wr w.heap.size N a len cap (.slice (some ⟨gf, 0, none⟩) N cf) (.slice (some ⟨gb, 0, none⟩) N cb))) (fun j _ => N - (intOf j).toNat)
  case atStart => exact ⟨0, rfl, Nat.zero_le _, HX1⟩
  case round =>
    obtain ⟨i, rfl, hi, HX⟩ := hrel
    clear HX1
    by_cases hlt : i < N
    · have i1 : (0 : Int) ≤ (i : Int) := by omega
      have i2 : (i : Int) < (N : Int) := by omega
      have x0 := HX.out.box.c0
      have x1 := HX.out.box.c1
      have x2 := HX.out.t0
      have x3 := HX.out.t1
      have HCW := Lib.hid (HWAY.out i wr hlt (HX.out.box.arcsHere HL.out) (HF.out.below HX.out.box.below) (HB.out.below HX.out.box.below))
      cases hfar : far i with
      | none =>
        have hbi := HT.out.off i hlt hfar
        have HWN : Hid (∀ ws, WayTo l s far by_ i ws → ws = []) := Lib.hid (fun ws h => h.none_ (.inl hfar))
        have hval := valI_none hfar
        clear hfar
        go_wp2_with (go_at_call 19; refine HCW.out.mono ?_; rintro e w2 ⟨v, ws, rfl, hrow, hwy, _, hb2⟩; have hnil := HWN.out ws hwy; subst hnil; obtain ⟨va, vc, hv⟩ := owns_shape hrow; simp only [List.length_nil] at hv; subst hv; have HX2 := Lib.hid (HX.out.later hb2); have y0 := HX2.out.t1; have y1 := (HB.out.below HX2.out.box.below).cell hlt; have y2 := (HRR.out.below HX2.out.box.below).cell hlt; rw [hbi] at y1; rw [hval] at y2; clear hrow hwy hb2)
        go_roundw
        case rel => exact ⟨i + 1, by go_num, by omega, HX2⟩
        case measure => simp [intOf]; omega
      | some d =>
        by_cases his : i = s
        · have hbi := HT.out.root
          rw [← his] at hbi
          have HWN : Hid (∀ ws, WayTo l s far by_ i ws → ws = []) := Lib.hid (fun ws h => h.none_ (.inr his))
          have hval := valI_some hfar
          have hd := HSM.out i d hfar
          have hd2 : (d == 1152921504606846976) = false := by simp; omega
          clear hd
          subst his
          clear hfar
          go_wp2_with (go_at_call 19; refine HCW.out.mono ?_; rintro e w2 ⟨v, ws, rfl, hrow, hwy, _, hb2⟩; have hnil := HWN.out ws hwy; subst hnil; obtain ⟨va, vc, hv⟩ := owns_shape hrow; simp only [List.length_nil] at hv; subst hv; have HX2 := Lib.hid (HX.out.later hb2); have y0 := HX2.out.t1; have y1 := (HB.out.below HX2.out.box.below).cell hlt; have y2 := (HRR.out.below HX2.out.box.below).cell hlt; rw [hbi] at y1; rw [hval] at y2; clear hrow hwy hb2)
          go_roundw
          case rel => exact ⟨i + 1, by go_num, by omega, HX2⟩
          case measure => simp [intOf]; omega
        · obtain ⟨k, x, f, p, hby, hxk, hto, hfr, hp, hsum⟩ := HT.out.arc i d hlt his hfar
          have hf : f < N := by
            by_cases hh : f < N
            · exact hh
            · exact absurd hp (by rw [HPAST.out f hh]; simp)
          have hk : k < len := by have := (List.getElem?_eq_some_iff.1 hxk).1; have := HL.out.1; omega
          have hd := HSM.out i d hfar
          have hpd := HSM.out f p hp
          have hcd := HWT.out x (List.mem_of_getElem? hxk)
          have hd2 : (d == 1152921504606846976) = false := by simp; omega
          have his2 : ((i : Int) == (s : Int)) = false := by simp; omega
          have HWN : Hid (∀ ws, WayTo l s far by_ i ws → joinO l ws (s : Int) 0 = some ((i : Int), d) ∧ ∃ r, ws = r ++ [(k : Int)]) := Lib.hid (fun ws h => by rw [← hby]; exact h.some_ d his hfar)
          have hvi := valI_some hfar
          have hvf := valI_some hp
          have HXK := Lib.hid hxk
          obtain ⟨b, off, _, rfl, _⟩ := (HX.out.box.arcs HL.out).at_ hk
          obtain ⟨x1', x2', c⟩ := x
          simp only at hto hfr hsum hcd
          subst hto hfr
          have hk0 : ¬ (k : Int) < 0 := by omega
          have hk1 : (0 : Int) ≤ (k : Int) := by omega
          have hk2 : (k : Int) < (len : Int) := by omega
          have hf1 : (0 : Int) ≤ (f : Int) := by omega
          have hf2 : (f : Int) < (N : Int) := by omega
          have hw1 : IntKind.i64.wrap (p + c) = d := by rw [IntKind.wrap_i64]; omega
          have HC1 := Lib.hid hcd
          clear hfar hp hxk hd hpd hcd hsum
          go_wp2_with (go_at_call 19; refine HCW.out.mono ?_; rintro e w2 ⟨v, ws, rfl, hrow, hwy, hwl, hb2⟩; obtain ⟨hj, r, hws⟩ := HWN.out ws hwy; subst hws; obtain ⟨gw, cw, hv, _, _, hcw, hcm⟩ := owns_some hrow (by simp); simp only [List.length_append, List.length_singleton] at hv hwl hcw; subst hv; have HJ := Lib.hid hj; have HROW := Lib.hid hrow; have HX2 := Lib.hid (HX.out.later hb2); have y0 := HX2.out.t1; have y1 := (HB.out.below HX2.out.box.below).cell hlt; have y2 := (HRR.out.below HX2.out.box.below).cell hlt; have y3 := (HRR.out.below HX2.out.box.below).cell hf; obtain ⟨e0, e1, e2⟩ := (HX2.out.box.arcs HL.out).get HXK.out; have y4 := HX2.out.box.c1; have y5 := HX2.out.box.c0; rw [hby] at y1; rw [hvi] at y2; rw [hvf] at y3; clear hrow hwy hb2 hj)
          go_quiet (fail)
          have HX3 := Lib.hid (HX2.out.later (below_drewN (Below.refl w2.heap.size w2) nq))
          have HR3 := Lib.hid (owns_below HROW.out (below_drewN (Below.refl w2.heap.size w2) nq))
          have HI3 := Lib.hid (owns_ints HR3.out).2
          have HBX := Lib.hid (HX3.out.box.arcsHere HL.out)
          obtain ⟨rn, hrn⟩ : ∃ rn, r.length = rn := ⟨_, rfl⟩
          have HRN := Lib.hid hrn
          rw [hrn] at HI3 HROW HR3 hwl hcw
          simp only [hrn]
          clear hrn y0 y1 y2 y3 e0 e1 e2 hw1
          go_wp2_with (go_at_call 13; refine (joined_any (N : Int) cap _ _ _ _ _ _ _ HBX.out HI3.out (by omega)).mono ?_; rw [HJ.out, join_tuple rfl]; rintro e w4 ⟨rfl, hb4⟩; have HX4 := Lib.hid (HX3.out.later hb4); have z2 := (HRR.out.below HX4.out.box.below).cell hlt; rw [hvi] at z2; have z3 := nums_cell (owns_below HR3.out hb4) (k := rn) (x := (k : Int)) (by rw [← HRN.out]; simp); clear hb4)
          go_roundw
          case rel => exact ⟨i + 1, by go_num, by omega, HX4⟩
          case measure => simp [intOf]; omega
    · go_wp2_with fail
      go_ret
      exact ⟨rfl, HX.out.box.below⟩
end Go.Proofs.Ytmmhdjibigopfaa

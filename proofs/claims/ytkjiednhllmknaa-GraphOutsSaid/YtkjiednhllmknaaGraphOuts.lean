/- The walk of the law on Out and Turned. -/
import Derived.Test.YtkjiednhllmknaaGAwake
import Derived.Test.YtkjiednhllmknaaTurnedDo
import Derived.Test.YtkjiednhllmknaaEqRows
namespace Go.Proofs.Ytkjiednhllmknaa
open Go.RowKit

variable {w wr w2 : World} {a : Option Addr} {len cap g g8 T k : Nat} {l : List Ar} {n : Int} {x : Ar}
/-- The graph's box, and that of the graph turned round, whose arcs lie at block T. -/
structure TwoG (w wr : World) (g g8 : Nat) (n : Int) (a : Option Addr) (len cap T : Nat) (l : List Ar) : Prop where
  box : Box w wr g n a len cap
  tb : wr.heap[g8]? = some (.cells #[.int .i64 n, .slice (some ⟨T, 0, none⟩) len len] 24 (0, 0))
  ta : IsArcs wr.heap.size wr (some ⟨T, 0, none⟩) len (turned l)
theorem TwoG.later (h : TwoG w wr g g8 n a len cap T l) (hb : Below wr.heap.size wr w2) : TwoG w w2 g g8 n a len cap T l :=
  ⟨h.box.later hb, (hb.block g8 (Array.getElem?_eq_some_iff.1 h.tb).1).trans h.tb, (h.ta.later hb).mono hb.size⟩
theorem TwoG.make (h : Box w wr g n a len cap) (ht : IsArcs wr.heap.size wr (some ⟨T, 0, none⟩) len (turned l)) :
    TwoG w (wr.alloc (.cells #[.int .i64 n, .slice (some ⟨T, 0, none⟩) len len] 24)) g wr.heap.size n a len cap T l :=
  ⟨h.alloc _, heap_alloc_new _ _, (ht.later ((Below.refl _ wr).alloc (Nat.le_refl _) _)).mono (by simp)⟩
theorem TwoG.t0 (h : TwoG w wr g g8 n a len cap T l) : wr.cell? ⟨g8, 0, none⟩ = some (.int .i64 n) := by simp [World.cell?, h.tb]
theorem TwoG.t1 (h : TwoG w wr g g8 n a len cap T l) : wr.cell? ⟨g8, 1, none⟩ = some (.slice (some ⟨T, 0, none⟩) len len) := by simp [World.cell?, h.tb]
theorem TwoG.cells (h : TwoG w wr g g8 n a len cap T l) (hx : l[k]? = some x) (hk : k < len) :
    wr.cell? ⟨T, k * 3, none⟩ = some (.int .i64 x.2.1) ∧ wr.cell? ⟨T, k * 3 + 1, none⟩ = some (.int .i64 x.1) ∧ wr.cell? ⟨T, k * 3 + 2, none⟩ = some (.int .i64 x.2.2) := by
  rcases h.ta.2 with h0 | ⟨b, off, e, hb, hr⟩
  · omega
  · simp only [Option.some.injEq, Addr.mk.injEq, and_true] at e
    obtain ⟨e1, e2⟩ := e
    subst e1 e2
    have := hr k (x.2.1, x.1, x.2.2) (by simp [turned, hx])
    simpa using this

set_option maxHeartbeats 2000000 in
set_option maxRecDepth 100000 in
theorem graphOuts_walk (n : Int) (a : Option Addr) (cap : Nat) (i : Int) (w : World) (hbig : len ≤ maxLen) (hl : IsArcs w.heap.size w a len l) :
    Calls Try.prog 4 #[.agg #[.int .i64 n, .slice a len cap], .int .i64 i] w fun e w' => e = .returned (.bool true) ∧ Below w.heap.size w w' := by
  obtain ⟨i0, hi, hz0, hz1, hz2⟩ := info_parts infoIntO
  unfold maxLen at hbig
  have HG := Lib.hid (Box.make (Below.refl _ w) n a len cap)
  have HL := Lib.hid hl; clear hl
  by_cases h1 : (100 : Int) < (len : Int)
  · go_enter Try.func4, Try.ntmps4
    go_wp2_with (go_at_call 7; refine (graph_awake _).mono ?_; rintro e w1 ⟨rfl, hb1⟩; have HG1 := Lib.hid (HG.out.later hb1); have x0 := HG1.out.c0; have x1 := HG1.out.c1; clear hb1)
    go_ret
    exact ⟨rfl, HG1.out.below⟩
  · have h2 : (len : Int) ≤ 100 := by omega
    have h3 : len ≤ 1000000 := by omega
    go_enter Try.func4, Try.ntmps4
    go_wp2_with (go_at_call 7; refine (graph_awake _).mono ?_; rintro e w1 ⟨rfl, hb1⟩; have HG1 := Lib.hid (HG.out.later hb1); have x0 := HG1.out.c0; have x1 := HG1.out.c1; clear hb1)
    have HX0 : Hid (OutW w w1 w.heap.size n a len cap (.slice none 0 0) (outNo l i 0)) := Lib.hid (OutW.start HG1.out)
    clear x0 x1 HG1 HG
    go_loopw [5, 20] (fun lv j wr => ∃ (k : Nat), j = .int .i64 k ∧ k ≤ len ∧ Hid (OutW w wr w.heap.size n a len cap lv (outNo l i k))) (fun _ j _ => len - (intOf j).toNat)
    case atStart => exact ⟨0, rfl, Nat.zero_le _, HX0⟩
    case round =>
      obtain ⟨k, rfl, hk, HX⟩ := hrel
      clear HX0
      by_cases hlt : k < len
      · obtain ⟨b, off, x, rfl, hb, hx, e0, e1, e2⟩ := (HX.out.box.arcs HL.out).at_ hlt
        have HXX := Lib.hid hx
        clear hx hb
        obtain ⟨f, t, c⟩ := x
        simp only at e0 e1 e2
        have HX1 := Lib.hid (HX.out.later ((Below.refl wr.heap.size wr).alloc (Nat.le_refl _) (.cells #[.int .i64 f, .int .i64 t, .int .i64 c] 28)))
        have hol : (outNo l i k).length ≤ k := outNo_le l i k
        have HSZ : Hid (w.heap.size + 1 ≤ wr.heap.size) := Lib.hid HX.out.box.lt
        obtain ⟨la, lc, hv⟩ := owns_shape HX.out.row
        subst hv
        clear HX
        by_cases hf : f = i
        · have HN := Lib.hid (outNo_yes HXX.out hf)
          subst hf
          go_wp2_with (at_builtin; refine wpList_append_fresh rfl (.tmp 29) (.tmp 31) 32 rfl (w.heap.size + 1) 3 i0 _ 1 8 Try.underlying32 hi hz0 hz1 hz2 (by decide) (.slice la (outNo l f k).length lc) (outNo l f k).length (numsV (outNo l f k)) rfl (HX1.out.row.alloc _) ⟨wr.heap.size + 1, 0, none⟩ 1 [.int .i64 (k : Int)] rfl rfl (news_at _ _ _ _ (by simp)) (one_int _) (by unfold maxLen; omega) (by omega) (by have := HSZ.out; simp; omega) ?_; intro g' cap' w5 hown hgrow hfr; have HP := Lib.hid (HX1.out.push hown hgrow); clear hown hgrow hfr)
          go_roundw
          case rel => exact ⟨k + 1, by go_num, by omega, by rw [← HN.out]; exact HP⟩
          case measure => simp [intOf]; omega
        · have HN := Lib.hid (outNo_no HXX.out hf)
          have hf2 : (f == i) = false := by simpa using hf
          clear hf
          go_wp2_with fail
          go_roundw
          case rel => exact ⟨k + 1, by go_num, by omega, by rw [← HN.out]; exact HX1⟩
          case measure => simp [intOf]; omega
      · obtain rfl : k = len := by omega
        obtain ⟨la, lc, hv⟩ := owns_shape HX.out.row
        subst hv
        have x0 := HX.out.box.c0
        have x1 := HX.out.box.c1
        have HOL : Hid ((outNo l i k).length ≤ 1000000) := Lib.hid (Nat.le_trans (outNo_le l i k) h3)
        obtain ⟨m, hm⟩ : ∃ m, (outNo l i k).length = m := ⟨_, rfl⟩
        have HM := Lib.hid hm
        rw [hm] at HX ⊢
        clear hm
        go_wp2_with (first
          | (go_at_call 10; refine (turned_any n h3 a cap _ (HX.out.box.arcsHere HL.out)).mono ?_; rintro e w2 ⟨T, rfl, hta, _, hb2⟩; have HX2 := Lib.hid (HX.out.later hb2); have HT3 := Lib.hid (TwoG.make HX2.out.box hta); have HX3 := Lib.hid (HX2.out.later ((Below.refl _ w2).alloc (Nat.le_refl _) (.cells #[.int .i64 n, .slice (some ⟨T, 0, none⟩) k k] 24))); have y0 := HT3.out.box.c0; have y1 := HT3.out.box.c1; clear hta hb2)
          | (go_at_call 12; refine (out_any n i h3 a cap _ (HT3.out.box.arcsHere HL.out)).mono ?_; rintro e w4 ⟨v4, rfl, ho4, hb4⟩; rw [HM.out] at ho4; obtain ⟨oa, oc, hv4⟩ := owns_shape ho4; subst hv4; have HO4 : Hid (w4.ownsRow _ 3 1 (.slice oa m oc) (outNo l i k).length (numsV (outNo l i k))) := Lib.hid (by rw [HM.out]; exact ho4); have HT4 := Lib.hid (HT3.out.later hb4); have HX4 := Lib.hid (HX3.out.later hb4); clear ho4 hb4)
          | (go_at_call 11; refine (eqIntsAt HM.out HO4.out HX4.out.row HOL.out).mono ?_; rintro e w5 ⟨rfl, hb5⟩; have HT5 := Lib.hid (HT4.out.later hb5); have z0 := HT5.out.box.c0; have z1 := HT5.out.box.c1; have z2 := HT5.out.t0; have z3 := HT5.out.t1; clear hb5))
        have HT0 : Hid (TwoG w w5 w.heap.size w2.heap.size n a k cap T l) := HT5
        clear z0 z1 z2 z3 HT5 HT4 HX4 HO4 HX3 HT3 y0 y1 HX2 HX x0 x1
        generalize w2.heap.size = g8 at HT0 ⊢
        go_loopw [61] (fun j wr => ∃ (q : Nat), j = .int .i64 q ∧ q ≤ k ∧ Hid (TwoG w wr w.heap.size g8 n a k cap T l)) (fun j _ => k - (intOf j).toNat)
        case atStart => exact ⟨0, rfl, Nat.zero_le _, HT0⟩
        case round =>
          obtain ⟨q, rfl, hq, HT⟩ := hrel
          clear HT0
          by_cases hlt : q < k
          · obtain ⟨b, off, x, rfl, hb, hx, e0, e1, e2⟩ := (HT.out.box.arcs HL.out).at_ hlt
            have HT1 := Lib.hid (HT.out.later ((Below.refl wr.heap.size wr).alloc (Nat.le_refl _) (.cells #[.int .i64 x.1, .int .i64 x.2.1, .int .i64 x.2.2] 28)))
            obtain ⟨r0, r1, r2⟩ := HT1.out.cells hx hlt
            have y1 := HT1.out.t1
            obtain ⟨f, t, c⟩ := x
            simp only at e0 e1 e2 r0 r1 r2 y1 HT1
            have q1 : (0 : Int) ≤ (q : Int) := by omega
            have q2 : (q : Int) < (k : Int) := by omega
            clear hx hb HT
            go_wp2_with fail
            go_quiet (fail)
            go_wp2_with fail
            go_roundw
            case rel => exact ⟨q + 1, by go_num, by omega, Lib.hid (HT1.out.later (below_drewN (Below.refl _ _) _))⟩
            case measure => simp [intOf]; omega
          · go_wp2_with fail
            go_ret
            exact ⟨rfl, HT.out.box.below⟩
end Go.Proofs.Ytkjiednhllmknaa

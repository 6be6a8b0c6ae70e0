/- The walk of the law on Late. -/
import Derived.Test.YtgoegkajfhhcjaaForward
import Derived.Test.YtgoegkajfhhcjaaOrderErrs
import Derived.Test.YtgoegkajfhhcjaaLongsEq
import Derived.StillTailTactics
namespace Go.Proofs.Ytgoegkajfhhcjaa
open Go.RowKit

variable {len cap N g gb cb gw cw gg cg mf k f t r q : Nat} {l ys : List Ar} {w wr w2 : World} {a la b : Option Addr} {lc : Nat} {xs : List Int} {cur got : Nat → Int} {x : Int}
/-- Numbers of 32 bits that came in. -/
def IsI32 (B : Nat) (w : World) (a : Option Addr) (m : Nat) (xs : List Int) : Prop := xs.length = m ∧ (m = 0 ∨ ∃ b off, a = some ⟨b, off, none⟩ ∧ b < B ∧ ∀ (j : Nat) (x : Int), xs[j]? = some x → w.cell? ⟨b, off + j, none⟩ = some (.int .i32 x) ∧ -2147483648 ≤ x ∧ x ≤ 2147483647)
theorem IsI32.later {B : Nat} (h : IsI32 B w a mf xs) (hb : Below B w w2) : IsI32 B w2 a mf xs := ⟨h.1, by
  rcases h.2 with h | ⟨b, off, e, h1, h2⟩
  · exact .inl h
  · exact .inr ⟨b, off, e, h1, fun j x hx => ⟨(hb.cell (p := ⟨b, off + j, none⟩) h1).trans (h2 j x hx).1, (h2 j x hx).2⟩⟩⟩
theorem IsI32.at_ {B : Nat} (h : IsI32 B w a mf xs) (hk : k < mf) : ∃ b off x, a = some ⟨b, off, none⟩ ∧ xs[k]? = some x ∧ w.cell? ⟨b, off + k, none⟩ = some (.int .i32 x) ∧ -2147483648 ≤ x ∧ x ≤ 2147483647 := by
  obtain ⟨h1, h2⟩ := h
  subst h1
  rcases h2 with h2 | ⟨b, off, e, hb, hr⟩
  · omega
  · exact ⟨b, off, _, e, List.getElem?_eq_getElem hk, hr k _ (List.getElem?_eq_getElem hk)⟩
theorem IsI32.small {B : Nat} (h : IsI32 B w a mf xs) (i : Nat) : -2147483648 ≤ xs.getD i 0 ∧ xs.getD i 0 ≤ 2147483647 := by
  by_cases hi : i < mf
  · obtain ⟨_, _, x, _, hx, _, h1, h2⟩ := h.at_ hi
    simp [List.getD, hx, h1, h2]
  · have : xs[i]? = none := List.getElem?_eq_none (by rw [h.1]; omega)
    simp [List.getD, this]
/-- The graph's box, its arcs; what came in; a row of numbers. -/
structure LatM (w wr : World) (g N : Nat) (la : Option Addr) (lc : Nat) (ys : List Ar) (b : Option Addr) (mf : Nat) (xs : List Int) (gb cb : Nat) (f : Nat → Int) : Prop where
  box : Box w wr g (N : Int) la ys.length lc
  arcs : IsArcs g wr la ys.length ys
  ints : IsI32 w.heap.size wr b mf xs
  row : LongRow wr (g + 1) (.slice (some ⟨gb, 0, none⟩) N cb) N f
theorem LatM.later (h : LatM w wr g N la lc ys b mf xs gb cb cur) (hb : Below wr.heap.size wr w2) : LatM w w2 g N la lc ys b mf xs gb cb cur :=
  ⟨h.box.later hb, h.arcs.later (hb.mono (Nat.le_of_lt h.box.lt)), h.ints.later (hb.mono h.box.below.size), h.row.below hb⟩
theorem LatM.set_ (h : LatM w wr g N la lc ys b mf xs gb cb cur) (hk : k < N) (u : Int) : LatM w (wr.setCell ⟨gb, k, none⟩ (.int .i64 u)) g N la lc ys b mf xs gb cb (fun i => if i = k then u else cur i) := by
  have hb := h.row.base_
  have hg := h.box.ge
  have hlt := h.box.lt
  have hm : Mod (fun x => x = gb) wr (wr.setCell ⟨gb, k, none⟩ (.int .i64 u)) := (Mod.refl (fun x => x = gb) wr).setCell (p := ⟨gb, k, none⟩) (.inr rfl) _
  exact ⟨h.box.set_ (by omega) (by omega) _ _, h.arcs.later (hm.below (by omega) (fun k hk => by omega)), h.ints.later (hm.below h.box.below.size (fun k hk => by omega)), h.row.set_ hk u⟩
theorem LatM.congr {f2 : Nat → Int} (h : LatM w wr g N la lc ys b mf xs gb cb cur) (e : ∀ i, i < N → cur i = f2 i) : LatM w wr g N la lc ys b mf xs gb cb f2 := ⟨h.box, h.arcs, h.ints, h.row.congr e⟩
theorem LatM.made (hb : Box w wr g (N : Int) la ys.length lc) (ha : IsArcs g wr la ys.length ys) (hi : IsI32 w.heap.size wr b mf xs) (hg : wr.heap.size = gb) (hN : N ≤ 1000000) :
    LatM w (wr.alloc (.cells (madeCells #[.int .i64 0] N) 2)) g N la lc ys b mf xs gb N (fun i => if i < 0 then xs.getD i 0 else 0) := by
  subst hg
  have hba := (Below.refl wr.heap.size wr).alloc (Nat.le_refl _) (.cells (madeCells #[.int .i64 0] N) 2)
  refine ⟨hb.later hba, ha.later (hba.mono (Nat.le_of_lt hb.lt)), hi.later (hba.mono hb.below.size), ?_⟩
  have := World.ownsRow_lit (base := g + 1) (e := 2) (size := 1) wr (madeCells #[.int .i64 0] N) N hb.lt (by unfold maxLen; omega) (by rw [size_madeCells]; omega)
  rw [toList_madeCells_one] at this
  have e : List.replicate N (Value.int .i64 0) = rowF N (fun i => if i < 0 then xs.getD i 0 else 0) := by
    simp only [Nat.not_lt_zero, if_false, rowF]
    rw [List.map_const', List.length_range]
  rw [e] at this
  exact this
/-- A row of numbers, as a list. -/
theorem LongRow.ints {B : Nat} (h : LongRow w B (.slice (some ⟨gb, 0, none⟩) N cb) N cur) : IsInts w.heap.size w (some ⟨gb, 0, none⟩) N ((List.range N).map cur) := by
  refine ⟨by simp, .inr ⟨gb, 0, rfl, h.base_.2, fun j x hx => ?_⟩⟩
  have hj : j < N := by have := (List.getElem?_eq_some_iff.1 hx).1; simpa using this
  simp [hj] at hx
  subst hx
  rw [Nat.zero_add]
  exact h.cell hj
theorem beg_ok (hc : checkV (N : Int) ys = 0) (hf : Forward ys) (hs : ∀ i, -2147483648 ≤ xs.getD i 0 ∧ xs.getD i 0 ≤ 2147483647) : lateErr (N : Int) ys ((List.range N).map (fun i => xs.getD i 0)) = 0 :=
  lateErr_ok (o := List.range N) (by simp) hc (by
    cases e : outB ((List.range N).map (fun i => xs.getD i 0)) with
    | false => rfl
    | true =>
      obtain ⟨y, hy, h1⟩ := outB_true.1 e
      obtain ⟨i, _, rfl⟩ := List.mem_map.1 hy
      have := hs i
      omega) (by simpa using hf.whole N)
theorem LateIs.beg {beg beg2 : Nat → Int} (h : LateIs l N beg got) (e : ∀ i, i < N → beg i = beg2 i) : LateIs l N beg2 got :=
  ⟨fun i hi => by rw [← e i hi]; exact h.lo i hi, h.arc, fun i hi => by rw [← e i hi]; exact h.att i hi⟩
/-- How great the numbers are at most, behind so many steps. -/
def Bnd (cur : Nat → Int) (s : Nat) : Prop := ∀ i, -2147483648 ≤ cur i ∧ cur i ≤ 2147483647 + (s : Int) * 1099511627776
theorem Bnd.next {s : Nat} {c : Int} (h : Bnd cur s) (hc : c ≤ 1099511627776) (hlt : cur t < cur f + c) : Bnd (setN cur t (cur f + c)) (s + 1) := fun i => by
  have h1 := h i
  have h2 := h f
  have h3 := h t
  have e : ((s + 1 : Nat) : Int) * 1099511627776 = (s : Int) * 1099511627776 + 1099511627776 := by rw [Int.natCast_add, Int.add_mul]; simp
  unfold setN
  split
  · omega
  · omega
theorem Bnd.up {s s2 : Nat} (h : Bnd cur s) (hs : s ≤ s2) : Bnd cur s2 := fun i => by
  have h1 := h i
  have : (s : Int) * 1099511627776 ≤ (s2 : Int) * 1099511627776 := Int.mul_le_mul_of_nonneg_right (by omega) (by omega)
  omega
/-- .. and a second row. -/
structure LatI (w wr : World) (g N : Nat) (la : Option Addr) (lc : Nat) (ys : List Ar) (b : Option Addr) (mf : Nat) (xs : List Int) (gw cw : Nat) (cur : Nat → Int) (gg cg : Nat) (got : Nat → Int) : Prop where
  one : LatM w wr g N la lc ys b mf xs gw cw cur
  two : LongRow wr (g + 1) (.slice (some ⟨gg, 0, none⟩) N cg) N got
  ne : gg ≠ gw
theorem LatI.later (h : LatI w wr g N la lc ys b mf xs gw cw cur gg cg got) (hb : Below wr.heap.size wr w2) : LatI w w2 g N la lc ys b mf xs gw cw cur gg cg got := ⟨h.one.later hb, h.two.below hb, h.ne⟩
theorem LatI.set_ (h : LatI w wr g N la lc ys b mf xs gw cw cur gg cg got) (hk : k < N) (u : Int) : LatI w (wr.setCell ⟨gw, k, none⟩ (.int .i64 u)) g N la lc ys b mf xs gw cw (setN cur k u) gg cg got := by
  have hm : Mod (fun x => x = gw) wr (wr.setCell ⟨gw, k, none⟩ (.int .i64 u)) := (Mod.refl (fun x => x = gw) wr).setCell (p := ⟨gw, k, none⟩) (.inr rfl) _
  exact ⟨(h.one.set_ hk u).congr (fun _ _ => rfl), h.two.kept hm (fun k hk (e : k = gw) => h.ne ((Option.some.inj hk).trans e)), h.ne⟩
theorem LatI.same (h : LatI w wr g N la lc ys b mf xs gw cw cur gg cg got) (hk : k < N) {u : Int} (hu : cur k = u) : LatI w (wr.setCell ⟨gw, k, none⟩ (.int .i64 u)) g N la lc ys b mf xs gw cw cur gg cg got := by
  have h2 := h.set_ hk u
  refine ⟨h2.one.congr (fun i _ => ?_), h2.two, h2.ne⟩
  unfold setN
  split
  · rename_i e; rw [e]; exact hu.symm
  · rfl

set_option maxHeartbeats 8000000 in
set_option maxRecDepth 100000 in
theorem orderLates_walk (P : OrderSpec) (hawake : ∀ w, Calls Try.prog 8 #[] w fun e w' => e = .returned (.bool true) ∧ Below w.heap.size w w')
    (n : Int) (hn : (Lit.int .u8 n).wf = true) (a : Option Addr) (cap : Nat) (b : Option Addr) (cf : Nat) (w : World) (hbig : len ≤ maxLen) (hl : IsLinks w.heap.size w a len l) (hbm : mf ≤ maxLen) (hi : IsI32 w.heap.size w b mf xs) :
    Calls Try.prog 5 #[.int .u8 n, .slice a len cap, .slice b mf cf] w fun e w' => e = .returned (.bool true) ∧ Below w.heap.size w w' := by
  unfold maxLen at hbig hbm
  obtain ⟨⟨hn1, hn2⟩, _, N, _, hN, hN1, hN8, _, _⟩ := law_starts hn hn
  clear hn
  have hmk := run_make_row' (P := Try.prog) 39 2 (.int .i64 0) 8 Try.underlying39 infoLong rfl .i64 .i64 N (by omega) (by omega)
  have HM := Lib.hid (fun W (h : IsLinks W.heap.size W a len l) => forward_any n hn1 (by omega) hN a cap W hbig h (arcs_check7 hN1 hN8 hl.small7 len))
  have HC := Lib.hid (forwardL_check (arcs_check7 hN1 hN8 hl.small7 len))
  have HFW := Lib.hid (forwardL_ok (checkV_zero.1 (arcs_check7 hN1 hN8 hl.small7 len)).2).2
  have hyl : (forwardL (arcsTo (N : Int) l len)).length ≤ 24 := Nat.le_trans (forwardL_le _) (arcsTo_len _ _ _)
  have HSM := Lib.hid hi.small
  have HLn : Hid (xs.length = mf) := Lib.hid hi.1
  have HL := Lib.hid hl; clear hl
  have HI := Lib.hid hi; clear hi
  clear hN hn1 hn2
  generalize forwardL (arcsTo (N : Int) l len) = ys at HM HC HFW hyl
  have HOK := Lib.hid (checkV_zero.1 HC.out).2
  have HE := Lib.hid (beg_ok HC.out HFW.out HSM.out)
  go_enter Try.func5, Try.ntmps5
  go_wp2_with (first
    | (go_at_call 8; refine (hawake _).mono ?_; rintro e w1 ⟨rfl, hb1⟩; have HB1 := Lib.hid hb1; clear hb1)
    | (go_at_call 15; refine (HM.out _ ((HL.out.later HB1.out).mono HB1.out.size)).mono ?_; rintro e w2 ⟨lv, rfl, hrow, hb2⟩; obtain ⟨la, lc, hv⟩ := owns_shape hrow; subst hv; have HA2 := Lib.hid (owns_arcs hrow).2; have HB2 := Lib.hid (HB1.out.trans (hb2.mono HB1.out.size)); have HG3 := Lib.hid (Box.make HB2.out (N : Int) la ys.length lc); have x0 := HG3.out.c0; have HM3 := Lib.hid (LatM.made (b := b) (mf := mf) (xs := xs) HG3.out (HA2.out.later ((Below.refl _ w2).alloc (Nat.le_refl _) (.cells #[.int .i64 (N : Int), .slice la ys.length lc] 26))) (HI.out.later HG3.out.below) (gb := w2.heap.size + 1) (by simp) (by omega)); clear hrow hb2))
  clear hmk x0
  obtain ⟨g, hg⟩ : ∃ g, w2.heap.size = g := ⟨_, rfl⟩
  obtain ⟨gb, hgb⟩ : ∃ gb, g + 1 = gb := ⟨_, rfl⟩
  rw [hg, hgb] at HM3 ⊢
  clear hg hgb
  go_loopw [25] (fun kv wr => ∃ k : Nat, kv = .int .i64 k ∧ k ≤ N ∧ Hid (LatM w wr g N la lc ys b mf xs gb N (fun i => if i < k then xs.getD i 0 else 0))) (fun kv _ => N - (intOf kv).toNat)
  case atStart => exact ⟨0, rfl, Nat.zero_le _, HM3⟩
  case round =>
    obtain ⟨k, rfl, hk, HX⟩ := hrel
    clear HM3
    by_cases hlt : k < N
    · have k1 : (k : Int) < (N : Int) := by omega
      by_cases hkm : k < mf
      · obtain ⟨b0, off, x, rfl, hx, e0, _, _⟩ := HX.out.ints.at_ hkm
        have q0 := HX.out.row.cell hlt
        have q1 := HX.out.row.frozen k
        have HN := Lib.hid ((HX.out.set_ hlt x).congr (f2 := fun i => if i < k + 1 then xs.getD i 0 else 0) (fun i _ => by
          by_cases e : i = k
          · subst e; simp [List.getD, hx]
          · have : (i < k + 1) = (i < k) := by apply propext; omega
            simp only [e, if_false, this]))
        clear hx
        simp only [Nat.lt_irrefl, if_false] at q0
        go_wp2_with fail
        go_roundw
        case rel => exact ⟨k + 1, by go_num, by omega, HN⟩
        case measure => simp [intOf]; omega
      · have HN := Lib.hid (HX.out.congr (f2 := fun i => if i < k + 1 then xs.getD i 0 else 0) (fun i _ => by
          by_cases e : i = k
          · subst e
            have : xs[i]? = none := List.getElem?_eq_none (by rw [HLn.out]; omega)
            simp [List.getD, this]
          · have : (i < k + 1) = (i < k) := by apply propext; omega
            simp only [this]))
        go_wp2_with fail
        go_roundw
        case rel => exact ⟨k + 1, by go_num, by omega, HN⟩
        case measure => simp [intOf]; omega
    · obtain rfl : k = N := by omega
      have HX1 := Lib.hid (HX.out.congr (f2 := fun i => xs.getD i 0) (fun i hi => by simp [hi]))
      clear HX
      have x0 := HX1.out.box.c0
      have x1 := HX1.out.box.c1
      go_wp2_with (first
        | (go_at_call 16; refine (P.late_ok k ys.length lc ys la k _ (some ⟨gb, 0, none⟩) _ HE.out (HX1.out.arcs.mono (Nat.le_of_lt HX1.out.box.lt)) HX1.out.row.ints).mono ?_; rintro e w4 ⟨hb4, v4, got, rfl, hr4, hlate⟩; obtain ⟨gg, cg, hv4, hgg, _, _, _⟩ := hr4.some_ (by omega); subst hv4; have HX4 := Lib.hid (HX1.out.later hb4); have HR4 := Lib.hid (hr4.rebase (base' := g + 1) HX1.out.box.lt); have HLT := Lib.hid hlate; clear hb4 hr4 hlate x0 x1)
        | (go_at_call 17; refine (cloneLongs HX4.out.row (by omega) (by omega)).mono ?_; rintro e w5 ⟨v5, rfl, hc5, hb5⟩; obtain ⟨gw, cw, hv5, hgw, _, _, _⟩ := hc5.some_ (by omega); subst hv5; have hx5 := HX4.out.later hb5; have HX5 := Lib.hid (LatI.mk ⟨hx5.box, hx5.arcs, hx5.ints, hc5.rebase (base' := g + 1) HX4.out.box.lt⟩ (HR4.out.below hb5) (by have := HR4.out.base_.2; omega)); have y0 := HX5.out.one.box.c0; clear hc5 hb5 hx5))
      have HR0 := Lib.hid (LateR.begin_ (N := k) HFW.out (fun i => xs.getD i 0))
      have HB0 : Hid (Bnd (fun i => xs.getD i 0) (25 * 0)) := Lib.hid (fun i => ⟨(HSM.out i).1, by have h := (HSM.out i).2; show xs.getD i 0 ≤ 2147483647 + ((25 * 0 : Nat) : Int) * 1099511627776; omega⟩)
      clear y0 HX1 HX4 HR4
      go_loopw [51] (fun rv wr => ∃ (r : Nat) (cur : Nat → Int), rv = .int .i64 r ∧ r ≤ k ∧ Hid (LatI w wr g k la lc ys b mf xs gw cw cur gg cg got) ∧ Hid (LateR ys k (fun i => xs.getD i 0) cur r 0) ∧ Hid (Bnd cur (25 * r))) (fun rv _ => k - (intOf rv).toNat)
      case atStart => exact ⟨0, _, rfl, Nat.zero_le _, HX5, HR0, HB0⟩
      case round =>
        obtain ⟨r, cur, rfl, hr, HX, HR, HB⟩ := hrel
        clear HX5 HR0 HB0
        by_cases hltr : r < k
        · have x1 := HX.out.one.box.c1
          have HB1 : Hid (Bnd cur (25 * r + 0)) := Lib.hid HB.out
          go_wp2_with fail
          clear x1 HB
          go_loopw [56] (fun qv wr => ∃ (q : Nat) (cur : Nat → Int), qv = .int .i64 q ∧ q ≤ ys.length ∧ Hid (LatI w wr g k la lc ys b mf xs gw cw cur gg cg got) ∧ Hid (LateR ys k (fun i => xs.getD i 0) cur r q) ∧ Hid (Bnd cur (25 * r + q))) (fun qv _ => ys.length - (intOf qv).toNat)
          case atStart => exact ⟨0, _, rfl, Nat.zero_le _, HX, HR, HB1⟩
          case round =>
            clear HX HR HB1
            obtain ⟨q, cur, rfl, hq, HX, HR, HB⟩ := hrel
            by_cases hltq : q < ys.length
            · obtain ⟨b1, off, x, rfl, hb, hx, e0, e1, e2⟩ := HX.out.one.arcs.at_ hltq
              have hxok := okA_true.1 (HOK.out x (List.mem_of_getElem? hx))
              have HXX := Lib.hid hx
              clear hx hb
              obtain ⟨f0, t0, c⟩ := x
              simp only at e0 e1 e2 hxok
              obtain ⟨f, rfl⟩ : ∃ f : Nat, f0 = (f : Int) := ⟨f0.toNat, by omega⟩
              obtain ⟨t, rfl⟩ : ∃ t : Nat, t0 = (t : Int) := ⟨t0.toNat, by omega⟩
              have hf : f < k := by omega
              have ht : t < k := by omega
              have f1 : (0 : Int) ≤ (f : Int) := by omega
              have f2 : (f : Int) < (k : Int) := by omega
              have t1 : (0 : Int) ≤ (t : Int) := by omega
              have t2 : (t : Int) < (k : Int) := by omega
              have hcl : -1099511627776 ≤ c := hxok.2.2.1
              have hcu : c ≤ 1099511627776 := hxok.2.2.2
              clear hxok
              have hbf := HB.out f
              have hbt := HB.out t
              have hpos : ((25 * r + q : Nat) : Int) * 1099511627776 ≤ 1000 * 1099511627776 := Int.mul_le_mul_of_nonneg_right (by omega) (by omega)
              have hvf : -2147483648 ≤ cur f ∧ cur f ≤ 1100000000000000 := by omega
              have hvt : -2147483648 ≤ cur t ∧ cur t ≤ 1100000000000000 := by omega
              clear hbf hbt hpos
              go_wp2_with fail
              obtain ⟨w2, hw2⟩ : ∃ w2, w2 = World.drew (wr.alloc (.cells #[.int .i64 (f : Int), .int .i64 (t : Int), .int .i64 c] 35)) := ⟨_, rfl⟩
              have HX2 : Hid (LatI w w2 g k (some ⟨b1, off, none⟩) lc ys b mf xs gw cw cur gg cg got) := Lib.hid (by rw [hw2]; exact HX.out.later ((Below.refl wr.heap.size wr).alloc (Nat.le_refl _) (.cells #[.int .i64 (f : Int), .int .i64 (t : Int), .int .i64 c] 35)).drew)
              have d0 : w2.cell? ⟨wr.heap.size, 0, none⟩ = some (.int .i64 (f : Int)) := by rw [hw2]; simp
              have d1 : w2.cell? ⟨wr.heap.size, 1, none⟩ = some (.int .i64 (t : Int)) := by rw [hw2]; simp
              have d2 : w2.cell? ⟨wr.heap.size, 2, none⟩ = some (.int .i64 c) := by rw [hw2]; simp
              have cf := HX2.out.one.row.cell hf
              have ct := HX2.out.one.row.cell ht
              have ft := HX2.out.one.row.frozen t
              refine wp_region_still_tail 17 (by kernel_rfl) (by kernel_rfl) ?_
              simp only [List.take_succ_cons, List.take_zero, List.drop_succ_cons, List.drop_zero]
              change wpStill _ _ (World.drew (wr.alloc (.cells #[.int .i64 (f : Int), .int .i64 (t : Int), .int .i64 c] 35))) (fun a' => wpList _ _ _ _ a' (World.drew (wr.alloc (.cells #[.int .i64 (f : Int), .int .i64 (t : Int), .int .i64 c] 35)))) _ _
              rw [← hw2]
              clear hw2 HX
              have hw1 : IntKind.i64.wrap (cur f + c) = cur f + c := by rw [IntKind.wrap_i64]; omega
              by_cases hlt3 : cur t < cur f + c
              · have HN := Lib.hid (HR.out.take HFW.out HXX.out rfl rfl hlt3)
                have HS := Lib.hid (HX2.out.set_ ht (cur f + c))
                have HB2 : Hid (Bnd (setN cur t (cur f + c)) (25 * r + (q + 1))) := Lib.hid (HB.out.next hcu hlt3)
                have hge3 : ¬ cur f + c < cur t := by omega
                have hle3 : cur t ≤ cur f + c := by omega
                have hle4 : ¬ cur f + c ≤ cur t := by omega
                generalize hvt2 : cur t = vt at ct hlt3 hge3 hle3 hle4 hvt
                generalize hvf2 : cur f = vf at cf hlt3 hge3 hle3 hle4 hw1 hvf HS HN HB2
                clear hvt2 hvf2
                repeat still_step
                refine wpStill_nil ?_
                go_wp2_with fail
                go_roundw
                case rel => exact ⟨q + 1, _, by go_num, by omega, HS, HN, HB2⟩
                case measure => simp [intOf]; omega
              · have HN := Lib.hid (HR.out.skip HXX.out rfl rfl (by simp only; omega))
                have HS := Lib.hid (HX2.out.same ht rfl)
                have HB2 : Hid (Bnd cur (25 * r + (q + 1))) := Lib.hid (HB.out.up (by omega))
                have hge3 : cur f + c ≤ cur t := by omega
                generalize hvt2 : cur t = vt at ct hlt3 hge3 hvt HS
                generalize hvf2 : cur f = vf at cf hlt3 hge3 hw1 hvf
                clear hvt2 hvf2
                repeat still_step
                refine wpStill_nil ?_
                go_wp2_with fail
                go_roundw
                case rel => exact ⟨q + 1, cur, by go_num, by omega, HS, HN, HB2⟩
                case measure => simp [intOf]; omega
            · have HR2 := Lib.hid (HR.out.next (by omega))
              have HB2 : Hid (Bnd cur (25 * (r + 1))) := Lib.hid (HB.out.up (by omega))
              go_wp2_with fail
              go_roundw
              case rel => exact ⟨r + 1, cur, by go_num, by omega, HX, HR2, HB2⟩
              case measure => simp [intOf]; omega
        · have hrk : k = r := by omega
          subst hrk
          have HD := Lib.hid (HR.out.done HOK.out (by omega))
          have HSAME : Hid (sameN got cur k = true) := Lib.hid (sameN_true.2 fun i hi => (HLT.out.beg (beg2 := fun i => xs.getD i 0) (fun j hj => by simp [List.getD, hj])).unique HD.out (HFW.out.whole k) i hi)
          go_wp2_with (go_at_call 18; refine (eqRows HX.out.two HX.out.one.row (by omega)).mono ?_; rw [HSAME.out]; rintro e w9 ⟨rfl, hb9⟩; have HX9 := Lib.hid (HX.out.later hb9); clear hb9)
          go_ret
          exact ⟨rfl, HX9.out.one.box.below⟩
end Go.Proofs.Ytgoegkajfhhcjaa

/- Layer 17: what it costs to go round; which nodes a bike, and a truck, goes to. -/
import Derived.Test.YtmnbpnjakbihdaaPlLi
import Derived.Test.YtmnbpnjakbihdaaEqI
import Derived.Laws.AppendOwnNone
import Derived.Test.YtmnbpnjakbihdaaSrc
import Derived.Deep.CutBlock
import Derived.Deep.Cut
namespace Go.Proofs.Ytmnbpnjakbihdaa
open Go.RowKit

variable {w wr w2 w4 : World} {A A2 : InA} {X : Ins} {gx g' cap' n k : Nat} {bs : Int} {ba ta : Option Addr} {bl bc tl tc : Nat} {lv v1 v2 : Value} {xs x1 x2 : List Int} {t : Int} {o : Obj} {sC : Array Value}
theorem blk_on {o : Obj} {B g : Nat} (h : w.heap[g]? = some o) (hb : Below B w w2) (hg : g < B) : w2.heap[g]? = some o := (hb.block g hg).trans h
/-- The three boxes. -/
structure W3B (w wr : World) (sC : Array Value) (bs : Int) (ba : Option Addr) (bl bc : Nat) (ta : Option Addr) (tl tc : Nat) : Prop where
  below : Below w.heap.size w wr
  small : wr.heap[w.heap.size]? = some (.cells sC 26 (0, 0))
  bike : wr.heap[w.heap.size + 1]? = some (.cells #[.int .i64 bs, .slice ba bl bc] 55 (0, 0))
  truck : wr.heap[w.heap.size + 2]? = some (.cells #[.slice ta tl tc] 58 (0, 0))
  lt : w.heap.size + 2 < wr.heap.size
theorem W3B.make (w : World) (sC : Array Value) (bs : Int) (ba : Option Addr) (bl bc : Nat) (ta : Option Addr) (tl tc : Nat) : W3B w (((w.alloc (.cells sC 26)).alloc (.cells #[.int .i64 bs, .slice ba bl bc] 55)).alloc (.cells #[.slice ta tl tc] 58)) sC bs ba bl bc ta tl tc := by
  have h1 := CBox.make (Below.refl _ w) sC 26
  have h2 := CBox.make h1.below #[.int .i64 bs, .slice ba bl bc] 55
  have z1 : (w.alloc (.cells sC 26)).heap.size = w.heap.size + 1 := by simp
  have h3 := CBox.make h2.below #[.slice ta tl tc] 58
  have z2 : ((w.alloc (.cells sC 26)).alloc (.cells #[.int .i64 bs, .slice ba bl bc] 55)).heap.size = w.heap.size + 2 := by simp
  rw [z1] at h2
  rw [z2] at h3
  exact ⟨h3.below, ((h1.alloc _).alloc _).blk, (h2.alloc _).blk, h3.blk, h3.lt⟩
theorem W3B.later (h : W3B w wr sC bs ba bl bc ta tl tc) (hb : Below wr.heap.size wr w2) : W3B w w2 sC bs ba bl bc ta tl tc :=
  ⟨h.below.trans (hb.mono h.below.size), blk_on h.small hb (by have := h.lt; omega), blk_on h.bike hb (by have := h.lt; omega), blk_on h.truck hb h.lt, by have := h.lt; have := hb.size; omega⟩
/-- The boxes, and the instance's. -/
structure Wy (w wr : World) (gx : Nat) (A2 : InA) (X : Ins) (bs : Int) (ba : Option Addr) (bl bc : Nat) (ta : Option Addr) (tl tc : Nat) : Prop where
  below : Below w.heap.size w wr
  bike : wr.heap[w.heap.size + 1]? = some (.cells #[.int .i64 bs, .slice ba bl bc] 55 (0, 0))
  truck : wr.heap[w.heap.size + 2]? = some (.cells #[.slice ta tl tc] 58 (0, 0))
  inst : wr.heap[gx]? = some (.cells (insC A2 X) 37 (0, 0))
  ins : IsIns gx wr A2 X
  ge : w.heap.size + 2 < gx
  lt : gx < wr.heap.size
theorem Wy.on (h : Wy w wr gx A2 X bs ba bl bc ta tl tc) (hb : Below (gx + 1) wr w2) : Wy w w2 gx A2 X bs ba bl bc ta tl tc := by
  have hg := h.ge
  exact ⟨h.below.trans (hb.mono (by omega)), blk_on h.bike hb (by omega), blk_on h.truck hb (by omega), blk_on h.inst hb (by omega), h.ins.later (hb.mono (by omega)), hg, by have := h.lt; have := hb.size; omega⟩
theorem Wy.later (h : Wy w wr gx A2 X bs ba bl bc ta tl tc) (hb : Below wr.heap.size wr w2) : Wy w w2 gx A2 X bs ba bl bc ta tl tc := h.on (hb.mono h.lt)
theorem Wy.here (h : Wy w wr gx A2 X bs ba bl bc ta tl tc) : IsIns wr.heap.size wr A2 X := h.ins.mono (Nat.le_of_lt h.lt)
theorem Wy.cells (h : Wy w wr gx A2 X bs ba bl bc ta tl tc) : wr.cell? ⟨gx, 0, none⟩ = some (.int .i64 X.en) ∧ wr.cell? ⟨gx, 1, none⟩ = some (.int .i64 X.tm) ∧ wr.cell? ⟨gx, 2, none⟩ = some (.int .i64 X.tr) ∧ wr.cell? ⟨gx, 3, none⟩ = some (.int .i64 X.bm) ∧ wr.cell? ⟨gx, 4, none⟩ = some (.int .i64 X.br) ∧
    wr.cell? ⟨gx, 5, none⟩ = some (.slice A2.sa X.sats.length A2.sc) ∧ wr.cell? ⟨gx, 6, none⟩ = some (.slice A2.ca X.cus.length A2.cc) ∧ wr.cell? ⟨gx, 7, none⟩ = some (.slice A2.ka X.cost.length A2.kc) ∧ wr.cell? ⟨gx, 8, none⟩ = some (.slice A2.ta X.time.length A2.tc) :=
  CBox.inst (A := A2) (x := X) (w := w) ⟨h.below, by have := h.ge; omega, h.inst⟩
/-- And a row of nodes. -/
structure WyR (w wr : World) (gx : Nat) (A2 : InA) (X : Ins) (bs : Int) (ba : Option Addr) (bl bc : Nat) (ta : Option Addr) (tl tc : Nat) (lv : Value) (xs : List Int) : Prop where
  wy : Wy w wr gx A2 X bs ba bl bc ta tl tc
  row : wr.ownsRow (gx + 1) 3 1 lv xs.length (numsV xs)
theorem WyR.later (h : WyR w wr gx A2 X bs ba bl bc ta tl tc lv xs) (hb : Below wr.heap.size wr w2) : WyR w w2 gx A2 X bs ba bl bc ta tl tc lv xs := ⟨h.wy.later hb, owns_below h.row hb⟩
theorem WyR.grow {v : Value} {ys : List Int} {m : Nat} (h : WyR w wr gx A2 X bs ba bl bc ta tl tc lv xs) (hown : w4.ownsRow (gx + 1) 3 1 v (xs.length + m) (numsV xs ++ numsV ys)) (hm : ys.length = m) (hgrow : wr.grownBy w4 lv.ownBlock) : WyR w w4 gx A2 X bs ba bl bc ta tl tc v (xs ++ ys) := by
  have hm2 : Mod (fun k => lv.ownBlock = some k) wr w4 := (Mod.refl _ wr).grown hgrow (fun k hk => .inr hk)
  refine ⟨h.wy.on (hm2.below h.wy.lt (fun k hk => (World.ownsRow.lt h.row k hk).1)), ?_⟩
  have e : numsV (xs ++ ys) = numsV xs ++ numsV ys := by simp [numsV]
  rw [e, List.length_append, hm]
  exact hown
theorem WyR.push (h : WyR w wr gx A2 X bs ba bl bc ta tl tc lv xs) (hown : w4.ownsRow (gx + 1) 3 1 (.slice (some ⟨g', 0, none⟩) (xs.length + 1) cap') (xs.length + 1) (numsV xs ++ [.int .i64 t])) (hgrow : (wr.alloc o).grownBy w4 lv.ownBlock) :
    WyR w w4 gx A2 X bs ba bl bc ta tl tc (.slice (some ⟨g', 0, none⟩) (xs.length + 1) cap') (xs ++ [t]) :=
  (h.later ((Below.refl _ _).alloc (Nat.le_refl _) o)).grow (ys := [t]) hown rfl hgrow
/-- Two rows. -/
structure W2R (w wr : World) (gx : Nat) (A2 : InA) (X : Ins) (bs : Int) (ba : Option Addr) (bl bc : Nat) (ta : Option Addr) (tl tc : Nat) (v1 : Value) (x1 : List Int) (v2 : Value) (x2 : List Int) : Prop where
  one : WyR w wr gx A2 X bs ba bl bc ta tl tc v1 x1
  two : WyR w wr gx A2 X bs ba bl bc ta tl tc v2 x2
  ne : ∀ k, v1.ownBlock = some k → ¬ v2.ownBlock = some k
theorem W2R.later (h : W2R w wr gx A2 X bs ba bl bc ta tl tc v1 x1 v2 x2) (hb : Below wr.heap.size wr w2) : W2R w w2 gx A2 X bs ba bl bc ta tl tc v1 x1 v2 x2 := ⟨h.one.later hb, h.two.later hb, h.ne⟩
theorem W2R.swap (h : W2R w wr gx A2 X bs ba bl bc ta tl tc v1 x1 v2 x2) : W2R w wr gx A2 X bs ba bl bc ta tl tc v2 x2 v1 x1 := ⟨h.two, h.one, fun k h1 h2 => h.ne k h2 h1⟩
theorem W2R.push (h : W2R w wr gx A2 X bs ba bl bc ta tl tc v1 x1 v2 x2) (hown : w4.ownsRow (gx + 1) 3 1 (.slice (some ⟨g', 0, none⟩) (x1.length + 1) cap') (x1.length + 1) (numsV x1 ++ [.int .i64 t])) (hgrow : (wr.alloc o).grownBy w4 v1.ownBlock) (hfr : v1.ownBlock = some g' ∨ g' = (wr.alloc o).heap.size) :
    W2R w w4 gx A2 X bs ba bl bc ta tl tc (.slice (some ⟨g', 0, none⟩) (x1.length + 1) cap') (x1 ++ [t]) v2 x2 := by
  have hm : Mod (fun k => v1.ownBlock = some k) wr w4 := ((Mod.refl _ wr).alloc o).grown hgrow (fun k hk => .inr hk)
  have h1 := h.one.push hown hgrow
  refine ⟨h1, ⟨h1.wy, owns_kept h.two.row hm (fun k hk hS => h.ne k hS hk)⟩, fun k hk h2 => ?_⟩
  have e : g' = k := by simpa [Value.ownBlock] using hk
  subst e
  rcases hfr with hf | hf
  · exact h.ne _ hf h2
  · have := (World.ownsRow.lt h.two.row _ h2).2
    simp at hf
    omega
theorem WyR.nums {a : Option Addr} {m c : Nat} (h : WyR w wr gx A2 X bs ba bl bc ta tl tc (.slice a m c) xs) : IsNums wr.heap.size wr a xs.length xs := by
  obtain ⟨a2, c2, e, hn⟩ := owns_nums h.row
  injection e with e1 _ _
  rw [e1]
  exact hn
set_option maxHeartbeats 8000000 in
set_option maxRecDepth 100000 in
theorem planWays_walk (A : SmA) (s : Sm) (la : Option Addr) (n1 c1 : Nat) (l : List Int) (ra : Option Addr) (n2 c2 : Nat) (raw : List Int) (bs : Int) (ba : Option Addr) (bc : Nat) (bq : List Int) (ta : Option Addr) (tc : Nat) (tq : List (Int × Int)) (w : World) (hs : IsSm w.heap.size w A s) (hl : IsU8 w.heap.size w la n1 l) (hr : IsNums w.heap.size w ra n2 raw) (hrn : ra = none → c2 = 0) (hb : IsNums w.heap.size w ba bq.length bq) (ht : IsPairs w.heap.size w ta tq.length tq) (hn1 : n1 ≤ 9223372036854775807) (hn2 : n2 ≤ 9223372036854775807) (hbl : bq.length ≤ 9223372036854775807) (htl : tq.length ≤ 9223372036854775807) :
    Calls Try.prog 5 #[.agg (smC A s), .slice la n1 c1, .slice ra n2 c2, .agg #[.int .i64 bs, .slice ba bq.length bc], .agg #[.slice ta tq.length tc]] w fun e w' => e = .returned (.bool true) ∧ Below w.heap.size w w' := by
  have H0 := Lib.hid (W3B.make w (smC A s) bs ba bq.length bc ta tq.length tc)
  have HS := Lib.hid hs
  have HL := Lib.hid hl
  have HR := Lib.hid hr
  have HRN := Lib.hid hrn
  have HB := Lib.hid hb
  have HT := Lib.hid ht
  have hok := hs.okl
  have HM := Lib.hid (may_make hok)
  clear hs hl hr hrn hb ht hok
  obtain ⟨W0, hW0⟩ : ∃ W0, (((w.alloc (.cells (smC A s) 26)).alloc (.cells #[.int .i64 bs, .slice ba bq.length bc] 55)).alloc (.cells #[.slice ta tq.length tc] 58)) = W0 := ⟨_, rfl⟩
  rw [hW0] at H0
  obtain ⟨nb, hnb⟩ : ∃ nb, bq.length = nb := ⟨_, rfl⟩
  obtain ⟨nt, hnt⟩ : ∃ nt, tq.length = nt := ⟨_, rfl⟩
  have HNB := Lib.hid hnb
  have HNT := Lib.hid hnt
  rw [hnb] at hbl HB
  rw [hnt] at htl HT
  rw [hnb, hnt] at H0 hW0 ⊢
  clear hnb hnt
  obtain ⟨z0, z1⟩ := cells2r H0.out.bike
  have z2 : W0.cell? ⟨w.heap.size + 2, 0, none⟩ = some (.slice ta nt tc) := by simp [World.cell?, H0.out.truck]
  unfold smC at *
  by_cases h1 : (n1 : Int) > 30
  · have eh1 : decide ((n1 : Int) > 30) = true := decide_eq_true h1
    clear h1
    go_enter Try.func5, Try.ntmps5
    go_wp2_with (go_at_call 9; refine (plan_awake _).mono ?_; rintro e w1 ⟨rfl, hb1⟩; have H1 := Lib.hid (H0.out.later hb1); clear z0 z1 z2 hb1; obtain ⟨z0, z1⟩ := cells2r H1.out.bike; have z2 : w1.cell? ⟨w.heap.size + 2, 0, none⟩ = some (.slice ta nt tc) := (by simp [World.cell?, H1.out.truck]))
    go_ret
    exact ⟨rfl, H1.out.below⟩
  have eh1 : decide ((n1 : Int) > 30) = false := decide_eq_false h1
  have bh1 : ¬ ((n1 : Int) > 30) := h1
  clear h1
  by_cases h2 : (n2 : Int) > 30
  · have eh2 : decide ((n2 : Int) > 30) = true := decide_eq_true h2
    clear h2
    go_enter Try.func5, Try.ntmps5
    go_wp2_with (go_at_call 9; refine (plan_awake _).mono ?_; rintro e w1 ⟨rfl, hb1⟩; have H1 := Lib.hid (H0.out.later hb1); clear z0 z1 z2 hb1; obtain ⟨z0, z1⟩ := cells2r H1.out.bike; have z2 : w1.cell? ⟨w.heap.size + 2, 0, none⟩ = some (.slice ta nt tc) := (by simp [World.cell?, H1.out.truck]))
    go_ret
    exact ⟨rfl, H1.out.below⟩
  have eh2 : decide ((n2 : Int) > 30) = false := decide_eq_false h2
  have bh2 : ¬ ((n2 : Int) > 30) := h2
  clear h2
  by_cases h3 : (nb : Int) > 60
  · have eh3 : decide ((nb : Int) > 60) = true := decide_eq_true h3
    clear h3
    go_enter Try.func5, Try.ntmps5
    go_wp2_with (go_at_call 9; refine (plan_awake _).mono ?_; rintro e w1 ⟨rfl, hb1⟩; have H1 := Lib.hid (H0.out.later hb1); clear z0 z1 z2 hb1; obtain ⟨z0, z1⟩ := cells2r H1.out.bike; have z2 : w1.cell? ⟨w.heap.size + 2, 0, none⟩ = some (.slice ta nt tc) := (by simp [World.cell?, H1.out.truck]))
    go_ret
    exact ⟨rfl, H1.out.below⟩
  have eh3 : decide ((nb : Int) > 60) = false := decide_eq_false h3
  have bh3 : ¬ ((nb : Int) > 60) := h3
  clear h3
  by_cases h4 : (nt : Int) > 60
  · have eh4 : decide ((nt : Int) > 60) = true := decide_eq_true h4
    clear h4
    go_enter Try.func5, Try.ntmps5
    go_wp2_with (go_at_call 9; refine (plan_awake _).mono ?_; rintro e w1 ⟨rfl, hb1⟩; have H1 := Lib.hid (H0.out.later hb1); clear z0 z1 z2 hb1; obtain ⟨z0, z1⟩ := cells2r H1.out.bike; have z2 : w1.cell? ⟨w.heap.size + 2, 0, none⟩ = some (.slice ta nt tc) := (by simp [World.cell?, H1.out.truck]))
    go_ret
    exact ⟨rfl, H1.out.below⟩
  have eh4 : decide ((nt : Int) > 60) = false := decide_eq_false h4
  have bh4 : ¬ ((nt : Int) > 60) := h4
  clear h4
  have hn30 : n1 ≤ 30 := by omega
  have hm30 : n2 ≤ 30 := by omega
  have hb60 : nb ≤ 60 := by omega
  have ht60 : nt ≤ 60 := by omega
  clear bh1 bh2 bh3 bh4
  go_enter Try.func5, Try.ntmps5
  go_upto_region 5 with (go_at_call 9; refine (plan_awake _).mono ?_; rintro e w1 ⟨rfl, hb1⟩; have H1 := Lib.hid (H0.out.later hb1); clear z0 z1 z2 hb1; obtain ⟨z0, z1⟩ := cells2r H1.out.bike; have z2 : w1.cell? ⟨w.heap.size + 2, 0, none⟩ = some (.slice ta nt tc) := (by simp [World.cell?, H1.out.truck]))
  clear z0 z1 z2 H0 hW0 eh1 eh2 eh3 eh4
  have hsm : ∀ k u, (smC A s)[k]? = some u → w1.cell? ⟨w.heap.size, k, none⟩ = some u := fun k u hk => by
    have hb := H1.out.small
    simp only [World.cell?, hb]
    exact hk
  have k0 := hsm 0 _ rfl
  have k1 := hsm 1 _ rfl
  have k2 := hsm 2 _ rfl
  have k3 := hsm 3 _ rfl
  have k4 := hsm 4 _ rfl
  have k5 := hsm 5 _ rfl
  have k6 := hsm 6 _ rfl
  have k7 := hsm 7 _ rfl
  have k8 := hsm 8 _ rfl
  have k9 := hsm 9 _ rfl
  have k10 := hsm 10 _ rfl
  have HMK := Lib.hid (make_any A s w1 ((HS.out.later H1.out.below).mono H1.out.below.size))
  unfold smC at HMK
  clear hsm
  go_upto_region 6 with (go_at_call 10; refine HMK.out.mono ?_; rintro e w3 ⟨⟨A2, rfl, C, D, VK, VT, hown⟩, hb3⟩; have HI3 := Lib.hid hown.is_; have H3 := Lib.hid (H1.out.later hb3); clear hown hb3)
  clear k0 k1 k2 k3 k4 k5 k6 k7 k8 k9 k10 HMK
  obtain ⟨X, hX⟩ : ∃ X, makeI s = X := ⟨_, rfl⟩
  rw [hX] at HI3 HM ⊢
  clear hX
  have hns := HM.out.ns
  have hnc := HM.out.nc
  have HY4 : Hid (Wy w (w3.alloc (.cells (insC A2 X) 37)) w3.heap.size A2 X bs ba nb bc ta nt tc) := Lib.hid (by
    have hb : Below w3.heap.size w3 (w3.alloc (.cells (insC A2 X) 37)) := (Below.refl _ _).alloc (Nat.le_refl _) _
    have h4 := H3.out.later hb
    exact ⟨h4.below, h4.bike, h4.truck, heap_alloc_new _ _, HI3.out.later hb, H3.out.lt, by simp⟩)
  obtain ⟨gx, hgx⟩ : ∃ g, w3.heap.size = g := ⟨_, rfl⟩
  obtain ⟨W4, hW4⟩ : ∃ W, w3.alloc (.cells (insC A2 X) 37) = W := ⟨_, rfl⟩
  rw [hgx, hW4] at HY4
  unfold insC at hW4
  rw [hgx]
  first | rw [hW4] | skip
  clear hW4 hgx H3 HI3 H1
  have HND : Hid (∀ W, Calls Try.prog 18 #[.agg (insC A2 X)] W fun e w' => e = .returned (.int .i64 (X.nodes : Int)) ∧ Below W.heap.size W w') := Lib.hid (fun W => nodes_law X.en X.tm X.tr X.bm X.br A2.sa X.sats.length A2.sc A2.ca X.cus.length A2.cc A2.ka A2.ta X.cost.length A2.kc X.time.length A2.tc W (by omega))
  have hnod : X.nodes = 1 + X.sats.length + X.cus.length := rfl
  obtain ⟨N, hN⟩ : ∃ N, X.nodes = N := ⟨_, rfl⟩
  have HN := Lib.hid hN
  rw [hN] at HND hnod
  have hN61 : N ≤ 61 := by omega
  have hN1 : 1 ≤ N := by omega
  clear hN hnod
  unfold insC at HND
  obtain ⟨i0, hi0, hz0, hz1, hz2⟩ := info_parts infoIntPl
  have HR0 : Hid (WyR w W4 gx A2 X bs ba nb bc ta nt tc (.slice none 0 0) ((l.take 0).map (fun z => z % (N : Int)))) := Lib.hid ⟨HY4.out, by rw [List.take_zero]; exact World.ownsRow_nil _ _ _ 1⟩
  have HLN := Lib.hid HL.out.1
  go_wp2_with fail
  go_loopw [12, 51] (fun lv iv wr => ∃ i : Nat, iv = .int .i64 (i : Int) ∧ i ≤ n1 ∧ Hid (WyR w wr gx A2 X bs ba nb bc ta nt tc lv ((l.take i).map (fun z => z % (N : Int))))) (fun _ iv _ => n1 - (intOf iv).toNat)
  case atStart => exact ⟨0, rfl, Nat.zero_le _, HR0⟩
  case round =>
    obtain ⟨i, rfl, hi, HWR⟩ := hrel
    clear HR0 HY4
    obtain ⟨d0, d1, d2, d3, d4, d5, d6, d7, d8⟩ := HWR.out.wy.cells
    by_cases hlt : i < n1
    · obtain ⟨b, off, v, rfl, hg, hv, q0⟩ := (HL.out.later HWR.out.wy.below).at_ hlt
      have HE := Lib.hid (take_map_snoc (f := fun z => z % (N : Int)) hg)
      have hbl : ((l.take i).map (fun z => z % (N : Int))).length = i := by rw [List.length_map, List.length_take, HLN.out]; omega
      obtain ⟨la', lc', hv'⟩ := owns_shape HWR.out.row
      subst hv'
      rw [hbl]
      have HBL := Lib.hid hbl
      have HZ := Lib.hid (show gx + 1 ≤ wr.heap.size from HWR.out.wy.lt)
      obtain ⟨z, hz⟩ : ∃ z, v % (N : Int) = z := ⟨_, rfl⟩
      have HZZ := Lib.hid hz
      clear hg hbl
      have hvv : 0 ≤ v ∧ v ≤ 255 := hv
      have hN0 : (0 : Int) < (N : Int) := by omega
      go_wp2_with (first
        | (go_at_call 18; refine (HND.out _).mono ?_; rintro e w5 ⟨rfl, hb5⟩; have HW5 := Lib.hid (HWR.out.later hb5); have HZ5 : Hid (gx + 1 ≤ w5.heap.size) := Lib.hid (Nat.le_trans HZ.out hb5.size); clear hb5)
        | (at_builtin; refine wpList_append_fresh rfl (.tmp 55) (.tmp 61) 53 rfl (gx + 1) 3 i0 _ 1 8 Try.underlying53 hi0 hz0 hz1 hz2 (by decide) (.slice la' i lc') i (numsV ((l.take i).map (fun z => z % (N : Int)))) rfl (by have := HW5.out.row.alloc (.cells #[.int .i64 z] 3); rwa [HBL.out] at this) ⟨w5.heap.size, 0, none⟩ 1 [.int .i64 z] rfl rfl (news_at _ _ _ _ rfl) (one_int _) (by unfold maxLen; omega) (by omega) (by have := HZ5.out; simp; omega) ?_; intro g' cap' w6 hown hgrow hfr; have HP := Lib.hid (HW5.out.push (by rw [HBL.out]; exact hown) (by rw [HBL.out]; exact hgrow)); clear hown hgrow hfr))
      rw [HBL.out] at HP
      go_roundw
      case rel => exact ⟨i + 1, by go_num, by omega, by rw [HE.out, HZZ.out]; exact HP⟩
      case measure => simp [intOf]; omega
    · obtain rfl : n1 = i := by omega
      have HTK : Hid (l.take n1 = l) := Lib.hid (List.take_of_length_le (by rw [HLN.out]; exact Nat.le_refl _))
      rw [HTK.out] at HWR
      obtain ⟨L1, hL1⟩ : ∃ L, l.map (fun z => z % (N : Int)) = L := ⟨_, rfl⟩
      have HL1 : Hid (L1.length = n1) := Lib.hid (by rw [← hL1, List.length_map]; exact HLN.out)
      rw [hL1] at HWR
      have HRL := Lib.hid HR.out.1
      have HSR := Lib.hid (IsNums.src ((HR.out.later HWR.out.wy.below).mono HWR.out.wy.below.size))
      clear hL1 d0 d1 d2 d3 d4 d5 d6 d7 d8
      go_upto_region 12 with fail
      go_cut [12] from 64 to 66 (fun lv wx => ∃ la lc, lv = .slice la (n1 + n2) lc ∧ WyR w wx gx A2 X bs ba nb bc ta nt tc (.slice la (n1 + n2) lc) (L1 ++ raw))
      case first =>
        obtain ⟨la', lc', hv'⟩ := owns_shape HWR.out.row
        subst hv'
        rw [HL1.out]
        have hge : gx + 1 ≤ wr.heap.size := HWR.out.wy.lt
        cases ra with
        | none =>
          obtain rfl : n2 = 0 := HSR.out.nil_ rfl
          obtain rfl : c2 = 0 := HRN.out rfl
          have hraw : raw = [] := List.eq_nil_of_length_eq_zero HRL.out
          go_wp2_with (at_builtin; refine wpList_append_own_none rfl (.tmp 64) (.tmp 65) 53 rfl (gx + 1) 3 i0 1 Try.underlying53 hi0 (.slice la' n1 lc') n1 (numsV L1) rfl (by have := HWR.out.row; rwa [HL1.out] at this) rfl ?_)
          go_meet
          exact ⟨_, _, rfl, by have := HWR.out; rw [HL1.out] at this; rw [hraw, List.append_nil]; exact this⟩
        | some ad =>
          go_wp2_with (at_builtin; refine wpList_append_own _ rfl (.tmp 64) (.tmp 65) 53 rfl (gx + 1) 3 i0 _ 1 8 Try.underlying53 hi0 hz0 hz1 hz2 (by decide) (by decide) (.slice la' n1 lc') n1 (numsV L1) rfl (by have := HWR.out.row; rwa [HL1.out] at this) ad n2 c2 (numsV raw) rfl HSR.out.len (HSR.out.at_ ad rfl) HSR.out.one (by unfold maxLen; omega) (by omega) hge ?_; intro v' w' hown hgrow _; have HOW := Lib.hid hown; have HGR := Lib.hid hgrow; clear hown hgrow)
          go_meet
          obtain ⟨la2, lc2, rfl⟩ := owns_shape HOW.out
          exact ⟨la2, lc2, rfl, HWR.out.grow (m := n2) (by rw [HL1.out]; exact HOW.out) HRL.out (by rw [HL1.out]; exact HGR.out)⟩
      case rest =>
      obtain ⟨la2, lc2, rfl, hw⟩ := hcut
      have HW := Lib.hid hw
      clear hw HWR HSR
      obtain ⟨nL, hnL⟩ : ∃ nL, n1 + n2 = nL := ⟨_, rfl⟩
      have hnL60 : nL ≤ 60 := by omega
      obtain ⟨L, hL⟩ : ∃ L, L1 ++ raw = L := ⟨_, rfl⟩
      have HLL : Hid (L.length = nL) := Lib.hid (by rw [← hL, List.length_append, HL1.out, HRL.out, hnL])
      rw [hL] at HW
      rw [hnL] at HW ⊢
      clear hnL hL
      go_upto_block 2 with fail
      go_cut [15] from 69 to 110 (fun uv wx => uv = .int .i64 (wayV X L) ∧ WyR w wx gx A2 X bs ba nb bc ta nt tc (.slice la2 nL lc2) L)
      case first =>
        have HU0 : Hid (sumF (stepW X L) (List.range 0) = 0) := Lib.hid rfl
        have HA0 : Hid (∀ (j : Nat) (c : Int), j < 0 → L[j]? = some c → amB c N = true) := Lib.hid (fun j c h => by omega)
        go_wp2_with fail
        go_loopw [15, 69] (fun uv iv wr => ∃ (i : Nat) (u : Int), iv = .int .i64 (i : Int) ∧ uv = .int .i64 u ∧ i ≤ nL ∧ Hid (0 ≤ u ∧ u ≤ (i : Int) * 1000000000) ∧ Hid (sumF (stepW X L) (List.range i) = u) ∧ Hid (∀ (j : Nat) (c : Int), j < i → L[j]? = some c → amB c N = true) ∧ Hid (WyR w wr gx A2 X bs ba nb bc ta nt tc (.slice la2 nL lc2) L)) (fun _ iv _ => nL - (intOf iv).toNat)
        case atStart => exact ⟨0, 0, rfl, rfl, Nat.zero_le _, Lib.hid (by omega), HU0, HA0, HW⟩
        case round =>
          obtain ⟨i, u, rfl, rfl, hi, HBU, HU, HA, HWS⟩ := hrel
          clear HW HU0 HA0
          by_cases hlt : i < nL
          · obtain ⟨j, hj⟩ : ∃ j, (i + 1) % nL = j := ⟨_, rfl⟩
            have hjn : j < nL := by rw [← hj]; exact Nat.mod_lt _ (by omega)
            have hji : ((i : Int) + 1) % (nL : Int) = (j : Int) := by rw [← hj]; exact_mod_cast (Int.natCast_emod (i + 1) nL).symm
            have HJ := Lib.hid hj
            have hnum := HWS.out.nums
            rw [HLL.out] at hnum
            obtain ⟨lb, lo, v1, hra, hg1, q0⟩ := hnum.at_ hlt
            obtain ⟨lb2, lo2, v2, hra2, hg2, q1⟩ := hnum.at_ hjn
            rw [hra] at hra2
            injection hra2 with hra2
            injection hra2 with e1 e2
            subst e1 e2
            have HRA := Lib.hid hra
            rw [hra]
            have HG1 := Lib.hid hg1
            have HG2 := Lib.hid hg2
            obtain ⟨d0, d1, d2, d3, d4, d5, d6, d7, d8⟩ := HWS.out.wy.cells
            clear hj hnum hg1 hg2 hra
            by_cases g1 : v1 < 0
            · have eg1 : decide (v1 < 0) = true := decide_eq_true g1
              have HE : Hid (wayV X L = 0) := Lib.hid (wayV_no (List.mem_of_getElem? HG1.out) (by rw [HN.out]; exact amB_false.2 (by omega)))
              clear g1
              go_wp2_with (first | (go_at_call 18; refine (HND.out _).mono ?_; rintro e w5 ⟨rfl, hb5⟩; have HWS := Lib.hid (HWS.out.later hb5); clear d0 d1 d2 d3 d4 d5 d6 d7 d8 hb5; obtain ⟨d0, d1, d2, d3, d4, d5, d6, d7, d8⟩ := HWS.out.wy.cells))
              rw [← HRA.out]
              go_meet
              exact ⟨by rw [HE.out], HWS.out⟩
            have eg1 : decide (v1 < 0) = false := decide_eq_false g1
            by_cases g2 : v1 ≥ (N : Int)
            · have eg2 : decide (v1 ≥ (N : Int)) = true := decide_eq_true g2
              have HE : Hid (wayV X L = 0) := Lib.hid (wayV_no (List.mem_of_getElem? HG1.out) (by rw [HN.out]; exact amB_false.2 (by omega)))
              clear g2
              go_wp2_with (first | (go_at_call 18; refine (HND.out _).mono ?_; rintro e w5 ⟨rfl, hb5⟩; have HWS := Lib.hid (HWS.out.later hb5); clear d0 d1 d2 d3 d4 d5 d6 d7 d8 hb5; obtain ⟨d0, d1, d2, d3, d4, d5, d6, d7, d8⟩ := HWS.out.wy.cells))
              rw [← HRA.out]
              go_meet
              exact ⟨by rw [HE.out], HWS.out⟩
            have eg2 : decide (v1 ≥ (N : Int)) = false := decide_eq_false g2
            by_cases g3 : v2 < 0
            · have eg3 : decide (v2 < 0) = true := decide_eq_true g3
              have HE : Hid (wayV X L = 0) := Lib.hid (wayV_no (List.mem_of_getElem? HG2.out) (by rw [HN.out]; exact amB_false.2 (by omega)))
              clear g3
              go_wp2_with (first | (go_at_call 18; refine (HND.out _).mono ?_; rintro e w5 ⟨rfl, hb5⟩; have HWS := Lib.hid (HWS.out.later hb5); clear d0 d1 d2 d3 d4 d5 d6 d7 d8 hb5; obtain ⟨d0, d1, d2, d3, d4, d5, d6, d7, d8⟩ := HWS.out.wy.cells))
              rw [← HRA.out]
              go_meet
              exact ⟨by rw [HE.out], HWS.out⟩
            have eg3 : decide (v2 < 0) = false := decide_eq_false g3
            by_cases g4 : v2 ≥ (N : Int)
            · have eg4 : decide (v2 ≥ (N : Int)) = true := decide_eq_true g4
              have HE : Hid (wayV X L = 0) := Lib.hid (wayV_no (List.mem_of_getElem? HG2.out) (by rw [HN.out]; exact amB_false.2 (by omega)))
              clear g4
              go_wp2_with (first | (go_at_call 18; refine (HND.out _).mono ?_; rintro e w5 ⟨rfl, hb5⟩; have HWS := Lib.hid (HWS.out.later hb5); clear d0 d1 d2 d3 d4 d5 d6 d7 d8 hb5; obtain ⟨d0, d1, d2, d3, d4, d5, d6, d7, d8⟩ := HWS.out.wy.cells))
              rw [← HRA.out]
              go_meet
              exact ⟨by rw [HE.out], HWS.out⟩
            have eg4 : decide (v2 ≥ (N : Int)) = false := decide_eq_false g4
            obtain ⟨a, rfl⟩ : ∃ a : Nat, v1 = (a : Int) := ⟨v1.toNat, by omega⟩
            obtain ⟨b, rfl⟩ : ∃ b : Nat, v2 = (b : Int) := ⟨v2.toNat, by omega⟩
            have haN : a < N := by omega
            have hbN : b < N := by omega
            have HAN : Hid (∀ (j : Nat) (c : Int), j < i + 1 → L[j]? = some c → amB c N = true) := Lib.hid (all_next (q := fun c : Int => amB c N = true) HA.out HG1.out (amB_true.2 ⟨by omega, by omega⟩))
            have hub := HBU.out
            go_upto_region 20 with (first | (go_at_call 18; refine (HND.out _).mono ?_; rintro e w5 ⟨rfl, hb5⟩; have HWS := Lib.hid (HWS.out.later hb5); clear d0 d1 d2 d3 d4 d5 d6 d7 d8 hb5; obtain ⟨d0, d1, d2, d3, d4, d5, d6, d7, d8⟩ := HWS.out.wy.cells))
            obtain ⟨kb, ko, rb, ro, rc2, hka, k0, k1⟩ := cost_cell HWS.out.wy.here HM.out (a := a) (b := b) (by rw [HN.out]; exact haN) (by rw [HN.out]; exact hbN)
            rw [HN.out] at k0
            have hvb := ctN_in HM.out (a := a) (b := b) (by rw [HN.out]; exact haN) (by rw [HN.out]; exact hbN)
            have hlc : X.cost.length = N := by rw [← HN.out]; exact HM.out.lc
            have HSN : Hid (sumF (stepW X L) (List.range (i + 1)) = u + ctN X a b) := Lib.hid (by
              rw [List.range_succ, sumF_snoc, HU.out]
              unfold stepW ctZ
              rw [show L.getD i 0 = (a : Int) by rw [List.getD, HG1.out]; rfl, HLL.out, HJ.out, show L.getD j 0 = (b : Int) by rw [List.getD, HG2.out]; rfl]
              simp)
            obtain ⟨v, hv⟩ : ∃ v, ctN X a b = v := ⟨_, rfl⟩
            rw [hv] at k1 hvb HSN
            rw [hka, hlc] at d7
            have w1' : IntKind.i64.wrap (u + v) = u + v := by rw [IntKind.wrap_i64]; omega
            clear hv hka g1 g2 g3 g4 hlc
            go_wp2_with fail
            rw [← HRA.out]
            go_roundw
            case rel => exact ⟨i + 1, u + v, by go_num, rfl, by omega, Lib.hid (by omega), HSN, HAN, HWS⟩
            case measure => simp [intOf]; omega
          · obtain rfl : nL = i := by omega
            have HALL : Hid (∀ c ∈ L, amB c X.nodes = true) := Lib.hid (by rw [HN.out]; exact all_all (q := fun c : Int => amB c N = true) HA.out (by rw [HLL.out]; exact Nat.le_refl _))
            have HE : Hid (wayV X L = u) := Lib.hid (by rw [wayV_ok HALL.out]; unfold wayS; rw [HLL.out, HU.out])
            go_wp2_with fail
            go_meet
            exact ⟨by rw [HE.out], HWS.out⟩
      case rest =>
      obtain ⟨rfl, hw⟩ := hcut
      have HWZ := Lib.hid hw
      have HNUM : Hid (IsNums wc.heap.size wc la2 nL L) := Lib.hid (by have := HWZ.out.nums; rwa [HLL.out] at this)
      obtain ⟨v, hv⟩ : ∃ v, wayV X L = v := ⟨_, rfl⟩
      have HWAY := Lib.hid (wayOf_ok A2 X la2 nL lc2 L wc HWZ.out.wy.here HM.out HNUM.out (by omega))
      rw [hv] at HWAY ⊢
      have hvv : (v != v) = false := by simp
      obtain ⟨d0, d1, d2, d3, d4, d5, d6, d7, d8⟩ := HWZ.out.wy.cells
      unfold insC at HWAY
      clear hv hw HW
      go_upto_region 24 with (go_at_call 19; refine HWAY.out.mono ?_; rintro e w8 ⟨rfl, hb8⟩; have HY8 := Lib.hid (HWZ.out.wy.later hb8); clear hb8)
      clear d0 d1 d2 d3 d4 d5 d6 d7 d8 hvv HWAY HNUM HWZ
      obtain ⟨z0, z1⟩ := cells2r HY8.out.bike
      obtain ⟨q1, hq1⟩ : ∃ q1, IntKind.i64.wrap (1 + bs) = q1 := ⟨_, rfl⟩
      have HQ1 : Hid (satZ bs = q1) := Lib.hid (by rw [← hq1]; unfold satZ wrap64; rw [IntKind.wrap_i64])
      obtain ⟨gb, hgb⟩ : ∃ g, w8.heap.size = g := ⟨_, rfl⟩
      have hgxb : gx + 1 ≤ gb := by have := HY8.out.lt; omega
      have o1 := one_owned w8 (gx + 1) (by omega) q1
      obtain ⟨V1, hV1⟩ : ∃ V, w8.alloc (.cells #[.int .i64 q1] 3) = V := ⟨_, rfl⟩
      have b1 : Below w8.heap.size w8 V1 := by rw [← hV1]; exact (Below.refl _ _).alloc (Nat.le_refl _) _
      have s1 : V1.heap.size = gb + 1 := by rw [← hV1]; simp [hgb]
      rw [hV1, hgb] at o1
      have o2 := one_owned V1 (gx + 1) (by omega) 0
      rw [s1] at o2
      have b2 : Below V1.heap.size V1 (V1.alloc (.cells #[.int .i64 0] 3)) := (Below.refl _ _).alloc (Nat.le_refl _) _
      have HST : Hid (W2R w (V1.alloc (.cells #[.int .i64 0] 3)) gx A2 X bs ba nb bc ta nt tc (.slice (some ⟨gb, 0, none⟩) 1 1) (bikeN X bs (bq.take 0)) (.slice (some ⟨gb + 1, 0, none⟩) 1 1) (truckN (tq.take 0))) := Lib.hid (by
        have hy := (HY8.out.later b1).later b2
        refine ⟨⟨hy, ?_⟩, ⟨hy, o2⟩, fun k h1 h2 => ?_⟩
        · have := owns_below o1 b2
          unfold bikeN
          rw [List.take_zero, HQ1.out]
          exact this
        · simp [Value.ownBlock] at h1 h2
          omega)
      have z9 := (cells2r HST.out.one.wy.bike).2
      clear o1 o2 b1 b2
      go_wp2_with fail
      obtain ⟨gt, hgt⟩ : ∃ g, gb + 1 = g := ⟨_, rfl⟩
      obtain ⟨V2, hV2⟩ : ∃ V, V1.alloc (.cells #[.int .i64 0] 3) = V := ⟨_, rfl⟩
      rw [hV2] at HST
      rw [hgt] at HST
      first | rw [hV1] | skip
      first | rw [hgb] | skip
      first | rw [s1] | skip
      first | rw [hV2] | skip
      first | rw [hgt] | skip
      clear hV1 hV2 hgt hgb s1 z0 z1 z9 hq1 HY8
      go_loopw [19, 124] (fun lv iv wr => ∃ i : Nat, iv = .int .i64 (i : Int) ∧ i ≤ nb ∧ Hid (W2R w wr gx A2 X bs ba nb bc ta nt tc lv (bikeN X bs (bq.take i)) (.slice (some ⟨gt, 0, none⟩) 1 1) (truckN (tq.take 0)))) (fun _ iv _ => nb - (intOf iv).toNat)
      case atStart => exact ⟨0, rfl, Nat.zero_le _, HST⟩
      case round =>
        obtain ⟨i, rfl, hi, HWR⟩ := hrel
        clear HST
        by_cases hlt : i < nb
        · obtain ⟨b, off, c, rfl, hg, q0⟩ := (HB.out.later HWR.out.one.wy.below).at_ hlt
          obtain ⟨d0, d1, d2, d3, d4, d5, d6, d7, d8⟩ := HWR.out.one.wy.cells
          have HE := Lib.hid (bikeN_next (x := X) (s := bs) hg)
          have hbl : (bikeN X bs (bq.take i)).length = i + 1 := by rw [bikeN_len, List.length_take, HNB.out]; omega
          obtain ⟨la', lc', hv'⟩ := owns_shape HWR.out.one.row
          subst hv'
          rw [hbl]
          have HBL := Lib.hid hbl
          have HZ : Hid (gx + 1 ≤ wr.heap.size) := Lib.hid HWR.out.one.wy.lt
          have hn1' : IntKind.i64.wrap (1 + (X.sats.length : Int)) = 1 + (X.sats.length : Int) := by rw [IntKind.wrap_i64]; omega
          obtain ⟨z, hz⟩ : ∃ z, IntKind.i64.wrap (1 + (X.sats.length : Int) + c) = z := ⟨_, rfl⟩
          have HZZ : Hid (cusZ X c = z) := Lib.hid (by rw [← hz]; unfold cusZ wrap64; rw [IntKind.wrap_i64])
          clear hg hbl
          go_wp2_with (at_builtin; refine wpList_append_fresh rfl (.tmp 128) (.tmp 135) 53 rfl (gx + 1) 3 i0 _ 1 8 Try.underlying53 hi0 hz0 hz1 hz2 (by decide) (.slice la' (i + 1) lc') (i + 1) (numsV (bikeN X bs (bq.take i))) rfl (by have := HWR.out.one.row.alloc (.cells #[.int .i64 z] 3); rwa [HBL.out] at this) ⟨wr.heap.size, 0, none⟩ 1 [.int .i64 z] rfl rfl (news_at _ _ _ _ (by simp)) (one_int _) (by unfold maxLen; omega) (by omega) (by have := HZ.out; simp at *; omega) ?_; intro g' cap' w6 hown hgrow hfr; have HP := Lib.hid (HWR.out.push (by rw [HBL.out]; exact hown) (by rw [HBL.out]; exact hgrow) (by rw [HBL.out]; exact hfr)); clear hown hgrow hfr)
          rw [HBL.out] at HP
          go_roundw
          case rel => exact ⟨i + 1, by go_num, by omega, by rw [HE.out, HZZ.out]; exact HP⟩
          case measure => simp [intOf]; omega
        · obtain rfl : nb = i := by omega
          have z2 : wr.cell? ⟨w.heap.size + 2, 0, none⟩ = some (.slice ta nt tc) := by simp [World.cell?, HWR.out.one.wy.truck]
          have HTB : Hid (bq.take nb = bq) := Lib.hid (List.take_of_length_le (by rw [HNB.out]; exact Nat.le_refl _))
          rw [HTB.out] at HWR
          have hbl : (bikeN X bs bq).length = nb + 1 := by rw [bikeN_len, HNB.out]
          obtain ⟨a1, e1, hv'⟩ := owns_shape HWR.out.one.row
          rw [hbl] at hv'
          subst hv'
          have HST := Lib.hid HWR.out.swap
          have HBL1 := Lib.hid hbl
          clear hbl HWR
          go_wp2_with fail
          clear z2
          go_loopw [20, 141] (fun lv iv wr => ∃ i : Nat, iv = .int .i64 (i : Int) ∧ i ≤ nt ∧ Hid (W2R w wr gx A2 X bs ba nb bc ta nt tc lv (truckN (tq.take i)) (.slice a1 (nb + 1) e1) (bikeN X bs bq))) (fun _ iv _ => nt - (intOf iv).toNat)
          case atStart => exact ⟨0, rfl, Nat.zero_le _, HST⟩
          case round =>
            obtain ⟨i, rfl, hi, HWR⟩ := hrel
            clear HST
            by_cases hlt : i < nt
            · obtain ⟨b, off, c, rfl, hbb, hg, q0, q1⟩ := (HT.out.later HWR.out.one.wy.below).at_ hlt
              have HWA := Lib.hid (HWR.out.later ((Below.refl wr.heap.size wr).alloc (Nat.le_refl _) (.cells #[.int .i64 c.1, .int .i64 c.2] 63)))
              obtain ⟨d0, d1, d2, d3, d4, d5, d6, d7, d8⟩ := HWA.out.one.wy.cells
              have HE := Lib.hid (truckN_next hg)
              have hbl : (truckN (tq.take i)).length = i + 1 := by rw [truckN_len, List.length_take, HNT.out]; omega
              obtain ⟨la', lc', hv'⟩ := owns_shape HWR.out.one.row
              subst hv'
              rw [hbl]
              have HBL := Lib.hid hbl
              have HZ : Hid (gx + 1 ≤ (wr.alloc (.cells #[.int .i64 c.1, .int .i64 c.2] 63)).heap.size) := Lib.hid HWA.out.one.wy.lt
              have hn1' : IntKind.i64.wrap (1 + (X.sats.length : Int)) = 1 + (X.sats.length : Int) := by rw [IntKind.wrap_i64]; omega
              obtain ⟨z, hz⟩ : ∃ z, IntKind.i64.wrap (1 + c.1) = z := ⟨_, rfl⟩
              have HZZ : Hid (satZ c.1 = z) := Lib.hid (by rw [← hz]; unfold satZ wrap64; rw [IntKind.wrap_i64])
              clear hg hbl
              go_wp2_with (at_builtin; refine wpList_append_fresh rfl (.tmp 145) (.tmp 149) 53 rfl (gx + 1) 3 i0 _ 1 8 Try.underlying53 hi0 hz0 hz1 hz2 (by decide) (.slice la' (i + 1) lc') (i + 1) (numsV (truckN (tq.take i))) rfl (by have := HWA.out.one.row.alloc (.cells #[.int .i64 z] 3); rwa [HBL.out] at this) ⟨wr.heap.size + 1, 0, none⟩ 1 [.int .i64 z] rfl rfl (news_at _ _ _ _ (by simp)) (one_int _) (by unfold maxLen; omega) (by omega) (by have := HZ.out; simp at *; omega) ?_; intro g' cap' w6 hown hgrow hfr; have HP := Lib.hid (HWA.out.push (by rw [HBL.out]; exact hown) (by rw [HBL.out]; exact hgrow) (by rw [HBL.out]; exact hfr)); clear hown hgrow hfr)
              rw [HBL.out] at HP
              go_roundw
              case rel => exact ⟨i + 1, by go_num, by omega, by rw [HE.out, HZZ.out]; exact HP⟩
              case measure => simp [intOf]; omega
            · obtain rfl : nt = i := by omega
              have HTT : Hid (tq.take nt = tq) := Lib.hid (List.take_of_length_le (by rw [HNT.out]; exact Nat.le_refl _))
              rw [HTT.out] at HWR
              have hbl : (truckN tq).length = nt + 1 := by rw [truckN_len, HNT.out]
              obtain ⟨a2, e2, hv'⟩ := owns_shape HWR.out.one.row
              rw [hbl] at hv'
              subst hv'
              have HBL2 := Lib.hid hbl
              have HN1 : Hid (∀ W, Below wr.heap.size wr W → IsNums W.heap.size W a1 (nb + 1) (bikeN X bs bq)) := Lib.hid (fun W hb => by
                have := (HWR.out.two.later hb).nums
                rwa [HBL1.out] at this)
              have HN2 : Hid (∀ W, Below wr.heap.size wr W → IsNums W.heap.size W a2 (nt + 1) (truckN tq)) := Lib.hid (fun W hb => by
                have := (HWR.out.one.later hb).nums
                rwa [HBL2.out] at this)
              have HEQ1 : Hid (∀ W a c, Below wr.heap.size wr W → IsNums W.heap.size W a (bikeN X bs bq).length (bikeN X bs bq) → Calls Try.prog 20 #[.slice a (bikeN X bs bq).length c, .slice a1 (nb + 1) e1] W fun e w' => e = .returned (.bool true) ∧ Below W.heap.size W w') := Lib.hid (fun W a c hb hn => eqI_same W hn (HN1.out W hb) (by rw [HBL1.out]; omega) rfl)
              have HEQ2 : Hid (∀ W a c, Below wr.heap.size wr W → IsNums W.heap.size W a (truckN tq).length (truckN tq) → Calls Try.prog 20 #[.slice a (truckN tq).length c, .slice a2 (nt + 1) e2] W fun e w' => e = .returned (.bool true) ∧ Below W.heap.size W w') := Lib.hid (fun W a c hb hn => eqI_same W hn (HN2.out W hb) (by rw [HBL2.out]; omega) rfl)
              have HBN := Lib.hid (bnodes_any A2 X bs ba bc bq wr (by have := (HB.out.later HWR.out.one.wy.below).mono HWR.out.one.wy.below.size; rwa [← HNB.out] at this) (by rw [HNB.out]; omega) (by omega))
              have HTN : Hid (∀ W, Below w.heap.size w W → Calls Try.prog 22 #[.agg #[.slice ta nt tc], .agg (insC A2 X)] W fun e w' => ∃ v, e = .returned v ∧ w'.ownsRow W.heap.size 3 1 v (truckN tq).length (numsV (truckN tq)) ∧ Below W.heap.size W w') := Lib.hid (fun W hb => by
                have := tnodes_any A2 X ta tc tq W (by have := (HT.out.later hb).mono hb.size; rwa [← HNT.out] at this) (by rw [HNT.out]; omega)
                rwa [HNT.out] at this)
              rw [HNB.out] at HBN
              unfold insC at HBN HTN
              obtain ⟨z0, z1⟩ := cells2r HWR.out.one.wy.bike
              have z2 : wr.cell? ⟨w.heap.size + 2, 0, none⟩ = some (.slice ta nt tc) := by simp [World.cell?, HWR.out.one.wy.truck]
              obtain ⟨d0, d1, d2, d3, d4, d5, d6, d7, d8⟩ := HWR.out.one.wy.cells
              have HY0 := Lib.hid HWR.out.one.wy
              clear hbl
              go_wp2_with (go_at_call 21; refine HBN.out.mono ?_; rintro e w5 ⟨v5, rfl, hown, hb5⟩; obtain ⟨a5, c5', rfl, hnum⟩ := owns_nums hown; have HM5 := Lib.hid hnum; have HB5 := Lib.hid hb5; have HY5 := Lib.hid (HY0.out.later hb5); clear hown hnum hb5)
              refine (HEQ1.out _ _ _ HB5.out HM5.out).mono ?_
              rintro e w6 ⟨rfl, hb6⟩
              have HB6 := Lib.hid (HB5.out.trans (hb6.mono HB5.out.size))
              have HY6 := Lib.hid (HY5.out.later hb6)
              clear hb6 z0 z1 z2 d0 d1 d2 d3 d4 d5 d6 d7 d8
              obtain ⟨d0, d1, d2, d3, d4, d5, d6, d7, d8⟩ := HY6.out.cells
              have z2 : w6.cell? ⟨w.heap.size + 2, 0, none⟩ = some (.slice ta nt tc) := by simp [World.cell?, HY6.out.truck]
              go_wp2_with (go_at_call 22; refine (HTN.out _ HY6.out.below).mono ?_; rintro e w7 ⟨v7, rfl, hown, hb7⟩; obtain ⟨a7, c7', rfl, hnum⟩ := owns_nums hown; have HM7 := Lib.hid hnum; have HB7 := Lib.hid (HB6.out.trans (hb7.mono HB6.out.size)); have HY7 := Lib.hid (HY6.out.later hb7); clear hown hnum hb7)
              refine (HEQ2.out _ _ _ HB7.out HM7.out).mono ?_
              rintro e w9 ⟨rfl, hb9⟩
              have HY9 := Lib.hid (HY7.out.later hb9)
              clear hb9
              go_wp2_with fail
              go_ret
              exact ⟨rfl, HY9.out.below⟩
end Go.Proofs.Ytmnbpnjakbihdaa

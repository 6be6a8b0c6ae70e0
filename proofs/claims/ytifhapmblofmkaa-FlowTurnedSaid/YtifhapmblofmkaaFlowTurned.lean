/- The walk of the law on the other way round (of package flow). -/
import Derived.Test.YtifhapmblofmkaaFlowMosts
import Derived.Deep.RegionWith
import Derived.Deep.RegionHeld3
namespace Go.Proofs.Ytifhapmblofmkaa
open Go.RowKit

variable {len cap N g s t yb g' cap' k : Nat} {l ys : List Pi} {w wa wr w2 w4 : World} {a : Option Addr} {much : Int} {fl : Nat → Int} {lv : Value} {y x : Pi}
/-- The other net, that grows. -/
structure YW (wa wr : World) (yb : Nat) (N : Int) (lv : Value) (ys : List Pi) : Prop where
  below : Below wa.heap.size wa wr
  base : wa.heap.size = yb
  blk : wr.heap[yb]? = some (.cells #[.int .i64 N, lv] 26 (0, 0))
  row : wr.ownsRow (yb + 1) 40 4 lv ys.length (flatP ys)
theorem YW.lt {N : Int} (h : YW wa wr yb N lv ys) : yb < wr.heap.size := (Array.getElem?_eq_some_iff.1 h.blk).1
theorem YW.later {N : Int} (h : YW wa wr yb N lv ys) (hb : Below wr.heap.size wr w2) : YW wa w2 yb N lv ys :=
  ⟨h.below.trans (hb.mono h.below.size), h.base, (hb.block yb h.lt).trans h.blk, owns_below h.row hb⟩
theorem YW.c0 {N : Int} (h : YW wa wr yb N lv ys) : wr.cell? ⟨yb, 0, none⟩ = some (.int .i64 N) := by simp [World.cell?, h.blk]
theorem YW.c1 {N : Int} (h : YW wa wr yb N lv ys) : wr.cell? ⟨yb, 1, none⟩ = some lv := by simp [World.cell?, h.blk]
theorem YW.start (wa : World) (N : Int) : YW wa (wa.alloc (.cells #[.int .i64 N, .slice none 0 0] 26)) wa.heap.size N (.slice none 0 0) (turnP (l.take 0)) :=
  ⟨(Below.refl _ _).alloc (Nat.le_refl _) _, rfl, heap_alloc_new _ _, World.ownsRow_nil _ _ _ 4⟩
/-- One pipe more. -/
theorem YW.push {N : Int} (h : YW wa wr yb N lv ys) (hown : w4.ownsRow (yb + 1) 40 4 (.slice (some ⟨g', 0, none⟩) (ys.length + 1) cap') (ys.length + 1) (flatP ys ++ encP y)) (hgrow : wr.grownBy w4 lv.ownBlock) :
    YW wa (w4.setCell ⟨yb, 1, none⟩ (.slice (some ⟨g', 0, none⟩) (ys.length + 1) cap')) yb N (.slice (some ⟨g', 0, none⟩) (ys.length + 1) cap') (ys ++ [y]) ∧ w4.cell? ⟨yb, 1, none⟩ = some lv ∧ w4.frozen? ⟨yb, 1, none⟩ = false := by
  have hm : Mod (fun k => lv.ownBlock = some k) wr w4 := (Mod.refl _ wr).grown hgrow (fun k hk => .inr hk)
  have hC : ∀ k, lv.ownBlock = some k → yb + 1 ≤ k := fun k hk => (World.ownsRow.lt h.row k hk).1
  have hba := h.base
  have hb4 : w4.heap[yb]? = some (.cells #[.int .i64 N, lv] 26 (0, 0)) := (hm.block yb h.lt (fun e => by have := hC _ e; omega)).trans h.blk
  have hbe : Below wa.heap.size wa w4 := ((Mod.of_below (fun k => lv.ownBlock = some k) h.below).trans hm).below (Nat.le_refl _) (fun k hk => by have := hC k hk; omega)
  refine ⟨⟨hbe.setCell (show wa.heap.size ≤ yb by omega) _, h.base, heap_setCell_same _ _ _ _ _ _ hb4, ?_⟩, by simp [World.cell?, hb4], frozen_of_row _ _ 1 _ _ hb4⟩
  rw [flatP_snoc, List.length_append]
  exact ownsRow_setCell_other hown (fun e => by have := (World.ownsRow.lt hown _ e).1; simp at this; omega) _
theorem turn_on (hx : l[k]? = some x) : turnP (l.take (k + 1)) = turnP (l.take k) ++ [(x.2.1, x.1, x.2.2.1, 0)] := by
  rw [List.take_add_one, hx]
  simp [turnP]
theorem turn_len (hk : k ≤ l.length) : (turnP (l.take k)).length = k := by rw [turnP_length, List.length_take]; omega
theorem YW.turn {N : Int} {ys2 : List Pi} (h : YW wa wr yb N lv ys) (e : ys = ys2) : YW wa wr yb N lv ys2 := e ▸ h
theorem turn_check (hc : checkP (N : Int) l = 0) : checkP (N : Int) (turnP l) = 0 := by
  obtain ⟨h1, h2⟩ := checkP_zero.1 hc
  exact checkP_zero.2 ⟨by rw [turnP_length]; exact h1, turnP_ok h2⟩

set_option maxHeartbeats 4000000 in
set_option maxRecDepth 100000 in
theorem flowTurned_walk (P : FlowSpec) (hawake : ∀ w, Calls Try.prog 8 #[] w fun e w' => e = .returned (.bool true) ∧ Below w.heap.size w w')
    (n : Int) (hn : (Lit.int .u8 n).wf = true) (a : Option Addr) (cap : Nat) (p : Int) (hp : (Lit.int .u8 p).wf = true) (q : Int) (hq : (Lit.int .u8 q).wf = true) (w : World) (hbig : len ≤ maxLen) (hl : IsLP w.heap.size w a len l) :
    Calls Try.prog 7 #[.int .u8 n, .slice a len cap, .int .u8 p, .int .u8 q] w fun e w' => e = .returned (.bool true) ∧ Below w.heap.size w w' := by
  unfold maxLen at hbig
  obtain ⟨i0, hi0, hz0, hz1, hz2⟩ := info_parts infoPipeL
  obtain ⟨⟨hn1, hn2⟩, N, hN, hN1, hN6⟩ := law_net hn
  have hp2 := law_u8 hp
  have hq2 := law_u8 hq
  clear hn hp hq
  have HM := Lib.hid (fun W (h : IsLP W.heap.size W a len l) => net_any n hn1 (by omega) a cap W hbig h)
  have HO := Lib.hid (net_ok (N := N) (by omega) hN6 hl.small len)
  have HL := Lib.hid hl; clear hl
  rw [hN] at HM
  clear hN hn1 hn2
  generalize pipesTo (N : Int) l len = xs at HM HO
  have hxl := HO.out.short
  have HP := Lib.hid hp2
  have HQ := Lib.hid hq2
  clear hp2 hq2
  go_enter Try.func7, Try.ntmps7
  go_wp2_with (first
    | (go_at_call 8; refine (hawake _).mono ?_; rintro e w1 ⟨rfl, hb1⟩; have HB1 := Lib.hid hb1; clear hb1)
    | (go_at_call 9; refine (HM.out _ ((HL.out.later HB1.out).mono HB1.out.size)).mono ?_; rintro e w2 ⟨lv, rfl, hrow, hb2⟩; obtain ⟨la, lc, hv⟩ := owns_shape hrow; subst hv; have HB2 := Lib.hid (HB1.out.trans (hb2.mono HB1.out.size)); have HX3 : Hid (NPA w (w2.alloc (.cells #[.int .i64 (N : Int), .slice la xs.length lc] 26)) w2.heap.size N la xs.length lc xs) := Lib.hid ⟨NBox.make HB2.out (N : Int) la xs.length lc, ((owns_pipes hrow).2.later ((Below.refl _ w2).alloc (Nat.le_refl _) (.cells #[.int .i64 (N : Int), .slice la xs.length lc] 26))).mono (by simp)⟩; clear hrow hb2)
    | (go_at_call 10; refine (ends_law N hN1 hN6 p q HP.out HQ.out la xs.length lc _).mono ?_; rintro e w4 ⟨hb4, s, t, rfl, hs, ht, hst⟩; have HX4 := Lib.hid (HX3.out.later hb4); have x0 := HX4.out.box.c0; have x1 := (HX4.out.box.alloc (.cells #[.int .i64 (N : Int), .slice none 0 0] 26)).c1; have HST := Lib.hid hst; clear hb4 hst))
  have HY0 := Lib.hid (YW.start (l := xs) w4 (N : Int))
  obtain ⟨yb, hyb⟩ : ∃ yb, w4.heap.size = yb := ⟨_, rfl⟩
  rw [hyb] at HY0 ⊢
  obtain ⟨xl, hxll⟩ : ∃ xl, xs.length = xl := ⟨_, rfl⟩
  rw [hxll] at HX3 HX4 hxl ⊢
  have HXL := Lib.hid hxll
  clear x0 x1 hyb hxll
  go_loopw [39] (fun kv wr => ∃ (k : Nat) (lv : Value), kv = .int .i64 k ∧ k ≤ xl ∧ Hid (YW w4 wr yb (N : Int) lv (turnP (xs.take k)))) (fun kv _ => xl - (intOf kv).toNat)
  case atStart => exact ⟨0, _, rfl, Nat.zero_le _, HY0⟩
  case round =>
    obtain ⟨k, lv, rfl, hk, HY⟩ := hrel
    clear HY0
    by_cases hlt : k < xl
    · obtain ⟨bp, op, x, rfl, _, hx, e0, e1, e2, e3⟩ := ((HX4.out.later HY.out.below).pipes).at_ hlt
      have HN := Lib.hid (turn_on hx)
      have htl := turn_len (l := xs) (k := k) (by have := HXL.out; omega)
      have HY1 := Lib.hid (HY.out.later ((Below.refl wr.heap.size wr).alloc (Nat.le_refl _) (.cells #[.int .i64 x.1, .int .i64 x.2.1, .int .i64 x.2.2.1, .int .i64 x.2.2.2] 40)))
      obtain ⟨f, u, r, d⟩ := x
      simp only at e0 e1 e2 e3 HY1 HN
      obtain ⟨va, vc, hv⟩ := owns_shape HY.out.row
      rw [htl] at hv
      subst hv
      have y1 := HY1.out.c1
      have HYB : Hid (yb + 1 ≤ wr.heap.size) := Lib.hid HY.out.lt
      have HRW : Hid (((wr.alloc (.cells #[.int .i64 f, .int .i64 u, .int .i64 r, .int .i64 d] 40)).alloc (.cells #[.int .i64 u, .int .i64 f, .int .i64 r, .int .i64 0] 40)).ownsRow (yb + 1) 40 4 (.slice va k vc) k (flatP (turnP (xs.take k)))) := Lib.hid (by have := (HY1.out.later ((Below.refl _ (wr.alloc (.cells #[.int .i64 f, .int .i64 u, .int .i64 r, .int .i64 d] 40))).alloc (Nat.le_refl _) (.cells #[.int .i64 u, .int .i64 f, .int .i64 r, .int .i64 0] 40))).row; rw [htl] at this; exact this)
      have HY2 := Lib.hid (HY1.out.later ((Below.refl _ (wr.alloc (.cells #[.int .i64 f, .int .i64 u, .int .i64 r, .int .i64 d] 40))).alloc (Nat.le_refl _) (.cells #[.int .i64 u, .int .i64 f, .int .i64 r, .int .i64 0] 40)))
      have HTL := Lib.hid htl
      clear hx HY htl
      go_wp2_with (at_builtin; refine wpList_append_fresh rfl (.tmp 44) (.tmp 52) 24 rfl (yb + 1) 40 i0 _ 4 32 Try.underlying24 hi0 hz0 hz1 hz2 (by decide) (.slice va k vc) k (flatP (turnP (xs.take k))) rfl HRW.out ⟨wr.heap.size + 1, 0, none⟩ 1 (encP (u, f, r, 0)) rfl rfl (newsP_at _ (u, f, r, 0) _ _ (by simp)) (oneP _) (by unfold maxLen; omega) (by omega) (by have := HYB.out; simp; omega) ?_; intro g' cap' w5 hown hgrow hfr; obtain ⟨hp, c4, d4⟩ := HY2.out.push (y := (u, f, r, 0)) (g' := g') (cap' := cap') (by rw [HTL.out]; exact hown) hgrow; rw [HTL.out] at hp; have HP5 := Lib.hid hp; clear hown hgrow hfr hp)
      go_roundw
      case rel => exact ⟨k + 1, _, by go_num, by omega, Lib.hid (HP5.out.turn HN.out.symm)⟩
      case measure => simp [intOf]; omega
    · have hkx : k = xl := by omega
      have htk : turnP (xs.take k) = turnP xs := by rw [List.take_of_length_le (by have := HXL.out; omega)]
      have hyl : (turnP xs).length = xl := by rw [turnP_length]; exact HXL.out
      rw [htk] at HY
      obtain ⟨va, vc, hv⟩ := owns_shape HY.out.row
      rw [hyl] at hv
      subst hv
      have HXA := Lib.hid (HX4.out.later HY.out.below)
      have HYP : Hid (IsPipes wr.heap.size wr va xl (turnP xs)) := Lib.hid (by have h := HY.out.row; rw [hyl] at h; have h2 := owns_pipes (n := xl) (cap := vc) (xs := turnP xs) (B := yb + 1) (by rw [hyl]; exact h); exact h2.2)
      have x0 := HXA.out.box.c0
      have x1 := HXA.out.box.c1
      clear htk hyl
      go_wp2_with (first
        | (go_at_call_of 11 (Value.agg #[Value.int .i64 (N : Int), Value.slice la xl lc]); refine (P.most_ok N s t xl lc xs la _ (HO.out.ends hs ht HST.out) HXA.out.pipes).mono ?_; rintro e w5 ⟨hb5, v5, fl, much, rfl, hr5, hm5⟩; have HXB := Lib.hid (HXA.out.later hb5); have HYB := Lib.hid (HY.out.later hb5); have HYP5 := Lib.hid ((HYP.out.later hb5).mono hb5.size); have y0 := HYB.out.c0; have y1 := HYB.out.c1; have HM5 := Lib.hid hm5; clear hb5 hr5 hm5)
        | (go_at_call 11; refine (P.most_ok N t s xl vc (turnP xs) va _ (endsP_zero.2 ⟨turn_check HO.out.check, by omega, by omega, fun e => HST.out (by omega)⟩) HYP5.out).mono ?_; rintro e w6 ⟨hb6, v6, fl2, much2, rfl, hr6, hm6⟩; have HXC := Lib.hid (HXB.out.later hb6); have hmm := HM5.out.turned hm6 HO.out.ok hs ht HST.out; subst hmm; clear hb6 hr6 hm6))
      go_ret
      exact ⟨rfl, HXC.out.box.below⟩
end Go.Proofs.Ytifhapmblofmkaa

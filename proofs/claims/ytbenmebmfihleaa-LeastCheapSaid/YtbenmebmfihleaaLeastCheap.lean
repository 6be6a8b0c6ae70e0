/- The walk of the law on what is cheapest (of package least). -/
import Derived.Test.YtbenmebmfihleaaMLaws
import Derived.Test.YtbenmebmfihleaaMCopy
import Derived.Test.YtbenmebmfihleaaMLane
namespace Go.Proofs.Ytbenmebmfihleaa
open Go.RowKit

variable {len cap N g s t k m : Nat} {l : List Pi} {w wr w2 : World} {a b : Option Addr} {much want : Int} {fl : Nat → Int} {zs ys : List Int}
/-- What the law's own flows cost stays small. -/
theorem NetOk.dues (h : NetOk N l) (hf : ∀ (k : Nat) (x : Pi), l[k]? = some x → 0 ≤ fl k ∧ fl k ≤ x.2.2.1) : Dues l fl := fun k x hx => by
  have a := h.rooms x (List.mem_of_getElem? hx)
  have b := h.costs x (List.mem_of_getElem? hx)
  have c := hf k x hx
  have e1 := Int.mul_nonneg c.1 b.1
  have e2 : fl k * x.2.2.2 ≤ 255 * 255 := Int.le_trans (Int.mul_le_mul_of_nonneg_right (show fl k ≤ 255 by omega) b.1) (Int.mul_le_mul_of_nonneg_left b.2 (by omega))
  omega
/-- Least, where such a flow is at hand. -/
theorem LeastSpec.least_flow (P : LeastSpec) (N s t len cap : Nat) (want : Int) (f2 : Nat → Int) (l : List Pi) (a : Option Addr) (w : World) (he : endsP (N : Int) l (s : Int) (t : Int) = 0) (hr : RangeL l want) (hf : IsFlow l N f2 s t) (hm : netTo l f2 (t : Int) l.length = want) (hl : IsPipes w.heap.size w a len l) :
    Calls Try.prog 12 #[.agg #[.int .i64 (N : Int), .slice a len cap], .int .i64 (s : Int), .int .i64 (t : Int), .int .i64 want] w fun e w' => Below w.heap.size w w' ∧
      ∃ a1 c1 a2 c2 c, e = .returned (.tuple #[.agg #[.slice a1 len c1, .int .i64 c, .slice a2 N c2], .int .i64 0]) ∧ c ≤ costP l f2 l.length := by
  obtain ⟨hc, h1, h2, h3⟩ := endsP_zero.1 he
  have hok := (checkP_zero.1 hc).2
  refine (P.least_any N s t len cap want l a w he hr hl).mono ?_
  rintro e w' ⟨hb, ⟨a1, c1, a2, c2, rfl, S, s1, s2, hlt⟩ | ⟨v, u, f, h, c, rfl, hv, hu, hle, _, _⟩⟩
  · have := hf.weak hok (by omega) (by omega) (by omega) s1 s2
    omega
  · obtain ⟨a1, c1, rfl⟩ := owns_shape hv
    obtain ⟨a2, c2, rfl⟩ := owns_shape hu
    exact ⟨hb, a1, c1, a2, c2, c, rfl, hle.cheap hf hm hok (by omega) (by omega) (by omega)⟩
set_option maxHeartbeats 8000000 in
set_option maxRecDepth 100000 in
theorem leastCheap_walk (P : LeastSpec) (hawake : ∀ w, Calls Try.prog 8 #[] w fun e w' => e = .returned (.bool true) ∧ Below w.heap.size w w')
    (n : Int) (hn : (Lit.int .u8 n).wf = true) (a : Option Addr) (cap : Nat) (p : Int) (hp : (Lit.int .u8 p).wf = true) (q : Int) (hq : (Lit.int .u8 q).wf = true) (b : Option Addr) (cb : Nat) (mb : Bool) (w : World) (hbig : len ≤ maxLen) (hl : IsLP w.heap.size w a len l) (_hbm : m ≤ maxLen) (hi : IsNums w.heap.size w b m zs) :
    Calls Try.prog 5 #[.int .u8 n, .slice a len cap, .int .u8 p, .int .u8 q, .slice b m cb, .bool mb] w fun e w' => e = .returned (.bool true) ∧ Below w.heap.size w w' := by
  unfold maxLen at hbig
  obtain ⟨⟨hn1, hn2⟩, N, hN, hN1, hN6⟩ := law_net hn
  have hp2 := law_u8 hp
  have hq2 := law_u8 hq
  clear hn hp hq
  have HM := Lib.hid (fun W (h : IsLP W.heap.size W a len l) => net_any n hn1 (by omega) a cap W hbig h)
  have HO := Lib.hid (net_ok (N := N) (by omega) hN6 hl.small len)
  have HL := Lib.hid hl; clear hl
  have HI := Lib.hid hi; clear hi
  rw [hN] at HM
  clear hN hn1 hn2
  generalize pipesTo (N : Int) l len = xs at HM HO
  have hxl := HO.out.short
  have HP := Lib.hid hp2
  have HQ := Lib.hid hq2
  have hmk := run_make_row' (P := Try.prog) 31 2 (.int .i64 0) 8 Try.underlying31 infoLong rfl .i64 .i64 xs.length (by omega) (by omega)
  clear hp2 hq2
  go_enter Try.func5, Try.ntmps5
  cases mb with
  | true =>
    go_wp2_with (first
      | (go_at_call 8; refine (hawake _).mono ?_; rintro e w1 ⟨rfl, hb1⟩; have HB1 := Lib.hid hb1; clear hb1)
      | (go_at_call 9; refine (HM.out _ ((HL.out.later HB1.out).mono HB1.out.size)).mono ?_; rintro e w2 ⟨lv, rfl, hrow, hb2⟩; obtain ⟨la, lc, hv⟩ := owns_shape hrow; subst hv; have HB2 := Lib.hid (HB1.out.trans (hb2.mono HB1.out.size)); have HX3 : Hid (NPA w (w2.alloc (.cells #[.int .i64 (N : Int), .slice la xs.length lc] 27)) w2.heap.size N la xs.length lc xs) := Lib.hid ⟨NBox.make HB2.out (N : Int) la xs.length lc, ((owns_pipes hrow).2.later ((Below.refl _ w2).alloc (Nat.le_refl _) (.cells #[.int .i64 (N : Int), .slice la xs.length lc] 27))).mono (by simp)⟩; clear hrow hb2)
      | (go_at_call 10; refine (ends_law N hN1 hN6 p q HP.out HQ.out la xs.length lc _).mono ?_; rintro e w3 ⟨hb3, s, t, rfl, hs, ht, hst⟩; have HX4 := Lib.hid ((HX3.out.later hb3).later ((Below.refl _ w3).alloc (Nat.le_refl _) (.cells (madeCells #[.int .i64 0] xs.length) 2))); have x1 := (HX3.out.later hb3).box.c1; have HST := Lib.hid hst; obtain ⟨kc, w4, hcp, hrow4, hb4⟩ := copy_nums (b := b) (m := m) (zs := zs) (cc := cb) (sT := 31) (ty := 3) ((HI.out.later HX4.out.box.below).mono HX4.out.box.below.size) (heap_alloc_new w3 (.cells (madeCells #[.int .i64 0] xs.length) 2)); have HF4 := Lib.hid hrow4; have HX5 : Hid (NPA w w4 w2.heap.size N la xs.length lc xs) := Lib.hid (by
          have hlt := (HX3.out.later hb3).box.lt
          have hbl := HX4.out.box.below
          refine ⟨⟨hbl.trans (hb4.mono (Nat.le_trans (HX3.out.later hb3).box.below.size (Nat.le_refl _))), HX4.out.box.ge, (hb4.block _ hlt).trans HX4.out.box.blk⟩, ?_⟩
          exact (((HX3.out.later hb3).pipes.later (((Below.refl _ w3).alloc (Nat.le_refl _) (.cells (madeCells #[.int .i64 0] xs.length) 2)).trans hb4)).mono (Nat.le_trans (by simp) hb4.size))); have y0 := HX5.out.box.c0; have y1 := HX5.out.box.c1; clear hb3 hst hrow4 hb4)
      | (go_at_call 11; refine (P.most_ok N s t xs.length lc xs la _ (HO.out.ends hs ht HST.out) HX5.out.pipes).mono ?_; rintro e w5 ⟨hb5, v5, fl5, most5, rfl, hr5, hm5⟩; obtain ⟨fa, fc, hv5⟩ := owns_shape hr5; subst hv5; have HX6 := Lib.hid (HX5.out.later hb5); have HY6 := Lib.hid hr5.nums0; clear y0 y1; have y0 := HX6.out.box.c0; have y1 := HX6.out.box.c1; clear hb5 hr5 hm5)
      )
    obtain ⟨ys, hys⟩ : ∃ ys, (List.range xs.length).map fl5 = ys := ⟨_, rfl⟩
    rw [hys] at HY6
    clear hys hcp HX5 HX3 HX4 HF4 hmk x1
    have HW := Lib.hid (flows_any (N := N) (l := xs) (xs := ys) (s := s) (t := t) (by omega) (by omega) (fun x hx => by have := HO.out.rooms x hx; omega) hs ht xs.length fc fa la lc _ (by omega) HX6.out.pipes HY6.out)
    by_cases hF : ys.length = xs.length ∧ IsFlow xs N (flOf ys) s t
    · rw [flowsV_yes hF] at HW
      have HFF := Lib.hid hF.2
      clear hF
      obtain ⟨much, hmu⟩ : ∃ z, netTo xs (flOf ys) (t : Int) xs.length = z := ⟨_, rfl⟩
      have HMU := Lib.hid hmu
      have HGE : Hid (0 ≤ much) := Lib.hid (by rw [← hmu]; exact HFF.out.ge)
      rw [hmu] at HW
      clear hmu
      by_cases hgr : 10000 < much
      · go_wp2_with (go_at_call 16; refine HW.out.mono ?_; rintro e w6 ⟨rfl, hb6⟩; have HX7 := Lib.hid (HX6.out.later hb6); clear hb6)
        go_ret
        exact ⟨rfl, HX7.out.box.below⟩
      · have hgb : decide (10000 < much) = false := by simp; omega
        go_wp2_with (go_at_call 16; refine HW.out.mono ?_; rintro e w6 ⟨rfl, hb6⟩; have HX7 := Lib.hid (HX6.out.later hb6); have HY7 := Lib.hid ((HY6.out.later hb6).mono hb6.size); clear y0 y1; have y0 := HX7.out.box.c0; have y1 := HX7.out.box.c1; clear hb6)
        have HB0 := Lib.hid (Below.refl w6.heap.size w6)
        have HDU := Lib.hid (HO.out.dues HFF.out.cap)
        clear y0 y1
        go_loopw [19, 69] (fun sv iv wr => ∃ k : Nat, iv = .int .i64 (k : Int) ∧ sv = .int .i64 (costP xs (flOf ys) k) ∧ k ≤ xs.length ∧ Hid (Below w6.heap.size w6 wr)) (fun _ iv _ => xs.length - (intOf iv).toNat)
        case atStart => exact ⟨0, rfl, rfl, Nat.zero_le _, HB0⟩
        case round =>
          obtain ⟨k, rfl, rfl, hk, HB⟩ := hrel
          clear HB0
          by_cases hlt : k < xs.length
          · obtain ⟨pb, off, x, rfl, hpb, hx, p0, p1, p2, p3⟩ := (HX7.out.later HB.out).pipes.at_ hlt
            have HX := Lib.hid hx
            have HB1 := Lib.hid ((Below.refl wr.heap.size wr).alloc (Nat.le_refl _) (.cells #[.int .i64 x.1, .int .i64 x.2.1, .int .i64 x.2.2.1, .int .i64 x.2.2.2] 47))
            have HB2 := Lib.hid (HB.out.trans (HB1.out.mono HB.out.size))
            obtain ⟨fb, fo, u, rfl, hu, q1⟩ := (HY7.out.later HB2.out).at_ hlt
            have hfu : flOf ys k = u := by simp [flOf, List.getD, hu]
            obtain ⟨d1, d2⟩ := HDU.out k x hx
            obtain ⟨s1, s2⟩ := dues_sum HDU.out (by omega) (k := k) (by omega)
            have hst := costP_step (fl := flOf ys) hx
            have hr0 := HO.out.rooms x (List.mem_of_getElem? hx)
            have hc0 := HO.out.costs x (List.mem_of_getElem? hx)
            have hf0 := HFF.out.cap k x hx
            rw [hfu] at d1 d2 hst hf0
            obtain ⟨y, hy⟩ : ∃ y, costP xs (flOf ys) k = y := ⟨_, rfl⟩
            obtain ⟨z, hz⟩ : ∃ z, u * x.2.2.2 = z := ⟨_, rfl⟩
            rw [hy, hz] at hst
            have HST := Lib.hid hst
            rw [hz] at d1 d2
            rw [hy] at s1 s2 ⊢
            obtain ⟨x1, x2, x3, x4⟩ := x
            simp only at *
            have hw : IntKind.i64.wrap (u * x4) = z := by rw [hz, IntKind.wrap_i64]; omega
            have hw2 : IntKind.i64.wrap (y + z) = y + z := by rw [IntKind.wrap_i64]; omega
            clear hx hst hy hz hu hfu hr0 hc0 hf0
            go_wp2_with fail
            go_quiet (fail)
            go_wp2_with fail
            go_roundw
            case rel => exact ⟨k + 1, by go_num, by rw [HST.out], by omega, Lib.hid (below_drewN HB2.out _)⟩
            case measure => simp [intOf]; omega
          · obtain rfl : k = xs.length := by omega
            have HX8 := Lib.hid (HX7.out.later HB.out)
            have y0 := HX8.out.box.c0
            have y1 := HX8.out.box.c1
            have HLS := Lib.hid (P.least_flow N s t xs.length lc much (flOf ys) xs la _ (HO.out.ends hs ht HST.out) (HO.out.range HGE.out (by omega)) HFF.out HMU.out HX8.out.pipes)
            obtain ⟨cz, hcz⟩ : ∃ z, costP xs (flOf ys) xs.length = z := ⟨_, rfl⟩
            rw [hcz] at HLS ⊢
            clear hcz
            go_wp2_with fail
            go_at_call 12
            refine HLS.out.mono ?_
            rintro e w9 ⟨hb9, a1, c1, a2, c2, c, rfl, hle⟩
            have hgc : decide (c ≤ cz) = true := by simpa using hle
            have HX9 := Lib.hid (HX8.out.later hb9)
            clear hb9
            go_wp2_with fail
            go_ret
            exact ⟨rfl, by first | exact HX9.out.box.below | exact HX9.out.box.below.alloc HX9.out.box.below.size _⟩
    · rw [flowsV_no hF] at HW
      clear hF
      go_wp2_with (go_at_call 16; refine HW.out.mono ?_; rintro e w6 ⟨rfl, hb6⟩; have HX7 := Lib.hid (HX6.out.later hb6); clear hb6)
      go_ret
      exact ⟨rfl, HX7.out.box.below⟩
  | false =>
    go_wp2_with (first
      | (go_at_call 8; refine (hawake _).mono ?_; rintro e w1 ⟨rfl, hb1⟩; have HB1 := Lib.hid hb1; clear hb1)
      | (go_at_call 9; refine (HM.out _ ((HL.out.later HB1.out).mono HB1.out.size)).mono ?_; rintro e w2 ⟨lv, rfl, hrow, hb2⟩; obtain ⟨la, lc, hv⟩ := owns_shape hrow; subst hv; have HB2 := Lib.hid (HB1.out.trans (hb2.mono HB1.out.size)); have HX3 : Hid (NPA w (w2.alloc (.cells #[.int .i64 (N : Int), .slice la xs.length lc] 27)) w2.heap.size N la xs.length lc xs) := Lib.hid ⟨NBox.make HB2.out (N : Int) la xs.length lc, ((owns_pipes hrow).2.later ((Below.refl _ w2).alloc (Nat.le_refl _) (.cells #[.int .i64 (N : Int), .slice la xs.length lc] 27))).mono (by simp)⟩; clear hrow hb2)
      | (go_at_call 10; refine (ends_law N hN1 hN6 p q HP.out HQ.out la xs.length lc _).mono ?_; rintro e w3 ⟨hb3, s, t, rfl, hs, ht, hst⟩; have HX4 := Lib.hid ((HX3.out.later hb3).later ((Below.refl _ w3).alloc (Nat.le_refl _) (.cells (madeCells #[.int .i64 0] xs.length) 2))); have x1 := (HX3.out.later hb3).box.c1; have HST := Lib.hid hst; obtain ⟨kc, w4, hcp, hrow4, hb4⟩ := copy_nums (b := b) (m := m) (zs := zs) (cc := cb) (sT := 31) (ty := 3) ((HI.out.later HX4.out.box.below).mono HX4.out.box.below.size) (heap_alloc_new w3 (.cells (madeCells #[.int .i64 0] xs.length) 2)); have HF4 := Lib.hid hrow4; have HX5 : Hid (NPA w w4 w2.heap.size N la xs.length lc xs) := Lib.hid (by
          have hlt := (HX3.out.later hb3).box.lt
          have hbl := HX4.out.box.below
          refine ⟨⟨hbl.trans (hb4.mono (Nat.le_trans (HX3.out.later hb3).box.below.size (Nat.le_refl _))), HX4.out.box.ge, (hb4.block _ hlt).trans HX4.out.box.blk⟩, ?_⟩
          exact (((HX3.out.later hb3).pipes.later (((Below.refl _ w3).alloc (Nat.le_refl _) (.cells (madeCells #[.int .i64 0] xs.length) 2)).trans hb4)).mono (Nat.le_trans (by simp) hb4.size))); have y0 := HX5.out.box.c0; have y1 := HX5.out.box.c1; clear hb3 hst hrow4 hb4)
      | (go_at_call 11; refine (P.most_ok N s t xs.length lc xs la _ (HO.out.ends hs ht HST.out) HX5.out.pipes).mono ?_; rintro e w5 ⟨hb5, v5, fl5, most5, rfl, hr5, hm5⟩; obtain ⟨fa, fc, hv5⟩ := owns_shape hr5; subst hv5; have HX6 := Lib.hid (HX5.out.later hb5); have HY6 := Lib.hid hr5.nums0; clear y0 y1; have y0 := HX6.out.box.c0; have y1 := HX6.out.box.c1; clear hb5 hr5 hm5)
      )
    obtain ⟨ys, hys⟩ : ∃ ys, (List.range xs.length).map (fun i => zs.getD i 0) = ys := ⟨_, rfl⟩
    have HY6 : Hid (IsNums w4.heap.size w4 (some ⟨w3.heap.size, 0, none⟩) xs.length ys) := Lib.hid (by rw [← hys]; exact nums_of HF4.out)
    have HX6 := HX5
    obtain ⟨fa, hfa⟩ : ∃ fa, some (⟨w3.heap.size, 0, none⟩ : Addr) = fa := ⟨_, rfl⟩
    rw [hfa] at HY6 ⊢
    clear hys hfa hcp HX5 HX3 HX4 HF4 hmk x1
    have HW := Lib.hid (flows_any (N := N) (l := xs) (xs := ys) (s := s) (t := t) (by omega) (by omega) (fun x hx => by have := HO.out.rooms x hx; omega) hs ht xs.length xs.length fa la lc _ (by omega) HX6.out.pipes HY6.out)
    by_cases hF : ys.length = xs.length ∧ IsFlow xs N (flOf ys) s t
    · rw [flowsV_yes hF] at HW
      have HFF := Lib.hid hF.2
      clear hF
      obtain ⟨much, hmu⟩ : ∃ z, netTo xs (flOf ys) (t : Int) xs.length = z := ⟨_, rfl⟩
      have HMU := Lib.hid hmu
      have HGE : Hid (0 ≤ much) := Lib.hid (by rw [← hmu]; exact HFF.out.ge)
      rw [hmu] at HW
      clear hmu
      by_cases hgr : 10000 < much
      · go_wp2_with (go_at_call 16; refine HW.out.mono ?_; rintro e w6 ⟨rfl, hb6⟩; have HX7 := Lib.hid (HX6.out.later hb6); clear hb6)
        go_ret
        exact ⟨rfl, HX7.out.box.below⟩
      · have hgb : decide (10000 < much) = false := by simp; omega
        go_wp2_with (go_at_call 16; refine HW.out.mono ?_; rintro e w6 ⟨rfl, hb6⟩; have HX7 := Lib.hid (HX6.out.later hb6); have HY7 := Lib.hid ((HY6.out.later hb6).mono hb6.size); clear y0 y1; have y0 := HX7.out.box.c0; have y1 := HX7.out.box.c1; clear hb6)
        have HB0 := Lib.hid (Below.refl w6.heap.size w6)
        have HDU := Lib.hid (HO.out.dues HFF.out.cap)
        clear y0 y1
        go_loopw [19, 69] (fun sv iv wr => ∃ k : Nat, iv = .int .i64 (k : Int) ∧ sv = .int .i64 (costP xs (flOf ys) k) ∧ k ≤ xs.length ∧ Hid (Below w6.heap.size w6 wr)) (fun _ iv _ => xs.length - (intOf iv).toNat)
        case atStart => exact ⟨0, rfl, rfl, Nat.zero_le _, HB0⟩
        case round =>
          obtain ⟨k, rfl, rfl, hk, HB⟩ := hrel
          clear HB0
          by_cases hlt : k < xs.length
          · obtain ⟨pb, off, x, rfl, hpb, hx, p0, p1, p2, p3⟩ := (HX7.out.later HB.out).pipes.at_ hlt
            have HX := Lib.hid hx
            have HB1 := Lib.hid ((Below.refl wr.heap.size wr).alloc (Nat.le_refl _) (.cells #[.int .i64 x.1, .int .i64 x.2.1, .int .i64 x.2.2.1, .int .i64 x.2.2.2] 47))
            have HB2 := Lib.hid (HB.out.trans (HB1.out.mono HB.out.size))
            obtain ⟨fb, fo, u, rfl, hu, q1⟩ := (HY7.out.later HB2.out).at_ hlt
            have hfu : flOf ys k = u := by simp [flOf, List.getD, hu]
            obtain ⟨d1, d2⟩ := HDU.out k x hx
            obtain ⟨s1, s2⟩ := dues_sum HDU.out (by omega) (k := k) (by omega)
            have hst := costP_step (fl := flOf ys) hx
            have hr0 := HO.out.rooms x (List.mem_of_getElem? hx)
            have hc0 := HO.out.costs x (List.mem_of_getElem? hx)
            have hf0 := HFF.out.cap k x hx
            rw [hfu] at d1 d2 hst hf0
            obtain ⟨y, hy⟩ : ∃ y, costP xs (flOf ys) k = y := ⟨_, rfl⟩
            obtain ⟨z, hz⟩ : ∃ z, u * x.2.2.2 = z := ⟨_, rfl⟩
            rw [hy, hz] at hst
            have HST := Lib.hid hst
            rw [hz] at d1 d2
            rw [hy] at s1 s2 ⊢
            obtain ⟨x1, x2, x3, x4⟩ := x
            simp only at *
            have hw : IntKind.i64.wrap (u * x4) = z := by rw [hz, IntKind.wrap_i64]; omega
            have hw2 : IntKind.i64.wrap (y + z) = y + z := by rw [IntKind.wrap_i64]; omega
            clear hx hst hy hz hu hfu hr0 hc0 hf0
            go_wp2_with fail
            go_quiet (fail)
            go_wp2_with fail
            go_roundw
            case rel => exact ⟨k + 1, by go_num, by rw [HST.out], by omega, Lib.hid (below_drewN HB2.out _)⟩
            case measure => simp [intOf]; omega
          · obtain rfl : k = xs.length := by omega
            have HX8 := Lib.hid (HX7.out.later HB.out)
            have y0 := HX8.out.box.c0
            have y1 := HX8.out.box.c1
            have HLS := Lib.hid (P.least_flow N s t xs.length lc much (flOf ys) xs la _ (HO.out.ends hs ht HST.out) (HO.out.range HGE.out (by omega)) HFF.out HMU.out HX8.out.pipes)
            obtain ⟨cz, hcz⟩ : ∃ z, costP xs (flOf ys) xs.length = z := ⟨_, rfl⟩
            rw [hcz] at HLS ⊢
            clear hcz
            go_wp2_with fail
            go_at_call 12
            refine HLS.out.mono ?_
            rintro e w9 ⟨hb9, a1, c1, a2, c2, c, rfl, hle⟩
            have hgc : decide (c ≤ cz) = true := by simpa using hle
            have HX9 := Lib.hid (HX8.out.later hb9)
            clear hb9
            go_wp2_with fail
            go_ret
            exact ⟨rfl, by first | exact HX9.out.box.below | exact HX9.out.box.below.alloc HX9.out.box.below.size _⟩
    · rw [flowsV_no hF] at HW
      clear hF
      go_wp2_with (go_at_call 16; refine HW.out.mono ?_; rintro e w6 ⟨rfl, hb6⟩; have HX7 := Lib.hid (HX6.out.later hb6); clear hb6)
      go_ret
      exact ⟨rfl, HX7.out.box.below⟩
end Go.Proofs.Ytbenmebmfihleaa

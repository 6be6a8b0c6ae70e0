/- Joined: LeastFlows, LeastMore, LAwake. -/
import Derived.Test.YtbenmebmfihleaaMSpec
import Derived.Test.YtbenmebmfihleaaMBase
section
/- The walk of the law on Least (of package least). -/
namespace Go.Proofs.Ytbenmebmfihleaa
open Go.RowKit

variable {len cap N g s t : Nat} {l : List Pi} {w wr w2 : World} {a : Option Addr} {much : Int} {fl : Nat → Int}
theorem law_u16 {n : Int} (hn : (Lit.int .u16 n).wf = true) : 0 ≤ n ∧ n ≤ 65535 := by
  simp [Lit.wf, IntKind.min, IntKind.max, IntKind.signed, IntKind.bits] at hn
  exact hn
theorem NetOk.range {want : Int} (h : NetOk N l) (h1 : 0 ≤ want) (h2 : want ≤ 10000) : RangeL l want := ⟨⟨h1, h2⟩, fun x hx => by have := h.costs x hx; omega⟩
theorem right_yes {xs hs : List Int} {want c : Int} (h1 : endsP (N : Int) l (s : Int) (t : Int) = 0) (h2 : RangeL l want) (h3 : RightIs l N xs hs s t want c) : rightLV (N : Int) l xs hs (s : Int) (t : Int) want c = true := by
  simp only [rightLV, Int.toNat_natCast, decide_eq_true_eq]
  exact ⟨h1, h2, h3⟩
set_option maxHeartbeats 4000000 in
set_option maxRecDepth 100000 in
theorem leastFlows_walk (P : LeastSpec) (hawake : ∀ w, Calls Try.prog 8 #[] w fun e w' => e = .returned (.bool true) ∧ Below w.heap.size w w')
    (n : Int) (hn : (Lit.int .u8 n).wf = true) (a : Option Addr) (cap : Nat) (p : Int) (hp : (Lit.int .u8 p).wf = true) (q : Int) (hq : (Lit.int .u8 q).wf = true) (z : Int) (hz : (Lit.int .u16 z).wf = true) (w : World) (hbig : len ≤ maxLen) (hl : IsLP w.heap.size w a len l) :
    Calls Try.prog 3 #[.int .u8 n, .slice a len cap, .int .u8 p, .int .u8 q, .int .u16 z] w fun e w' => e = .returned (.bool true) ∧ Below w.heap.size w w' := by
  unfold maxLen at hbig
  obtain ⟨⟨hn1, hn2⟩, N, hN, hN1, hN6⟩ := law_net hn
  have hp2 := law_u8 hp
  have hq2 := law_u8 hq
  have hz2 := law_u16 hz
  clear hn hp hq hz
  have HM := Lib.hid (fun W (h : IsLP W.heap.size W a len l) => net_any n hn1 (by omega) a cap W hbig h)
  have HO := Lib.hid (net_ok (N := N) (by omega) hN6 hl.small len)
  have HL := Lib.hid hl; clear hl
  rw [hN] at HM
  clear hN hn1 hn2
  generalize pipesTo (N : Int) l len = xs at HM HO
  have hxl := HO.out.short
  have HP := Lib.hid hp2
  have HQ := Lib.hid hq2
  clear hp2 hq2
  obtain ⟨hz1, hz3⟩ := hz2
  go_enter Try.func3, Try.ntmps3
  go_wp2_with (first
    | (go_at_call 8; refine (hawake _).mono ?_; rintro e w1 ⟨rfl, hb1⟩; have HB1 := Lib.hid hb1; clear hb1)
    | (go_at_call 9; refine (HM.out _ ((HL.out.later HB1.out).mono HB1.out.size)).mono ?_; rintro e w2 ⟨lv, rfl, hrow, hb2⟩; obtain ⟨la, lc, hv⟩ := owns_shape hrow; subst hv; have HB2 := Lib.hid (HB1.out.trans (hb2.mono HB1.out.size)); have HX3 : Hid (NPA w (w2.alloc (.cells #[.int .i64 (N : Int), .slice la xs.length lc] 27)) w2.heap.size N la xs.length lc xs) := Lib.hid ⟨NBox.make HB2.out (N : Int) la xs.length lc, ((owns_pipes hrow).2.later ((Below.refl _ w2).alloc (Nat.le_refl _) (.cells #[.int .i64 (N : Int), .slice la xs.length lc] 27))).mono (by simp)⟩; clear hrow hb2)
    | (go_at_call 10; refine (ends_law N hN1 hN6 p q HP.out HQ.out la xs.length lc _).mono ?_; rintro e w4 ⟨hb4, s, t, rfl, hs, ht, hst⟩; have HX4 := Lib.hid (HX3.out.later hb4); have x0 := HX4.out.box.c0; have x1 := HX4.out.box.c1; have HST := Lib.hid hst; clear hb4 hst)
    | (go_at_call 11; refine (P.most_ok N s t xs.length lc xs la _ (HO.out.ends hs ht HST.out) HX4.out.pipes).mono ?_; rintro e w5 ⟨hb5, v5, fl, most, rfl, hr5, hm5⟩; have HX5 := Lib.hid (HX4.out.later hb5); have y0 := HX5.out.box.c0; have y1 := HX5.out.box.c1; obtain ⟨va, vc, hv5⟩ := owns_shape hr5; subst hv5; have HM5 := Lib.hid hm5; clear hb5 hr5 hm5))
  have hW1 : 0 ≤ z % 1200 := by omega
  have hW2 : z % 1200 ≤ 1199 := by omega
  generalize z % 1200 = W at hW1 hW2 ⊢
  by_cases hle : W ≤ most
  · have hgb : decide (most < W) = false := by simp; omega
    go_wp2_with (first
      | (go_at_call 12; refine (P.least_ok N s t xs.length lc W most fl xs la _ (HO.out.ends hs ht HST.out) (HO.out.range hW1 (by omega)) HM5.out hle HX5.out.pipes).mono ?_; rintro e w6 ⟨hb6, v6, u6, f, h, c, rfl, hf6, hu6, hl6, h06, ht6⟩; have HX6 := Lib.hid (HX5.out.later hb6); obtain ⟨fa, fc, hv6⟩ := owns_shape hf6; subst hv6; obtain ⟨hg, hc, hv7, _, hg2, hc1, hc2⟩ := hu6.some_ (by omega); subst hv7; have hba : Below w6.heap.size w6 (w6.alloc (.cells #[.slice fa xs.length fc, .int .i64 c, .slice (some ⟨hg, 0, none⟩) N hc] 36)) := (Below.refl _ w6).alloc (Nat.le_refl _) _; have HX7 := Lib.hid (HX6.out.later hba); have HB7 := Lib.hid (RBox.make (B := w6.heap.size) (wr := w6) (Nat.le_refl _) fa xs.length fc c (some ⟨hg, 0, none⟩) N hc); have HF7 := Lib.hid ((hf6.nums0.later hba).mono hba.size); have HU7 := Lib.hid ((hu6.nums0.later hba).mono hba.size); have HUR := Lib.hid (hu6.below hba); have HLE := Lib.hid (hl6.rows HO.out.ok); have H06 := Lib.hid h06; have HT6 := Lib.hid ht6; have z0 := HX7.out.box.c0; have z1 := HX7.out.box.c1; have q0 := HB7.out.c0; have q1 := HB7.out.c1; have q2 := HB7.out.c2; unfold maxLen at hc2; clear hb6 hf6 hu6 hl6 h06 ht6 hba)
      | (go_at_call 13; refine (lawRight_any (by omega) (by omega) HO.out.ok hs ht (safe_small (fun x hx => (HO.out.rooms x hx).2) HO.out.costs) (by omega) (by omega) la lc W c fa fc _ hc _ HX7.out.pipes HF7.out HU7.out).mono ?_; rw [rightL_yes HLE.out]; rintro e w8 ⟨rfl, hb8⟩; have HX8 := Lib.hid (HX7.out.later hb8); have HB8 := Lib.hid (HB7.out.later hb8); have HF8 := Lib.hid ((HF7.out.later hb8).mono hb8.size); have HU8 := Lib.hid ((HU7.out.later hb8).mono hb8.size); have HUR8 := Lib.hid (HUR.out.below hb8); clear z0 z1 q0 q1 q2 hb8; have z0 := HX8.out.box.c0; have z1 := HX8.out.box.c1; have q0 := HB8.out.c0; have q1 := HB8.out.c1; have q2 := HB8.out.c2)
      | (go_at_call 14; refine (P.right_any (N : Int) s t W c xs.length lc xs la xs.length fc _ fa N hc _ _ _ (by omega) (by omega) (by omega) HX8.out.pipes HF8.out HU8.out).mono ?_; rw [right_yes (HO.out.ends hs ht HST.out) (HO.out.range hW1 (by omega)) HLE.out]; rintro e w9 ⟨hb9, rfl⟩; have HX9 := Lib.hid (HX8.out.later hb9); have HB9 := Lib.hid (HB8.out.later hb9); have HUR9 := Lib.hid (HUR8.out.below hb9); clear z0 z1 q0 q1 q2 hb9; have q2 := HB9.out.c2; have es := HUR9.out.cell hs; rw [H06.out] at es))
    clear q2
    have q2 := HB9.out.c2
    go_loopw [104] (fun kv wr => ∃ i m : Nat, kv = .int .i64 i ∧ i ≤ N ∧ wr = w9.drewN m) (fun kv _ => N - (intOf kv).toNat)
    case atStart => exact ⟨0, 0, rfl, Nat.zero_le _, rfl⟩
    case round =>
      obtain ⟨i, m, rfl, hi, rfl⟩ := hrel
      by_cases hlt : i < N
      · have ei := HUR9.out.cell hlt
        have et := HUR9.out.cell ht
        have hge := HT6.out i hlt
        clear es
        generalize h i = hi0 at ei hge
        generalize h t = ht0 at et hge
        have hgb2 : decide (ht0 < hi0) = false := by simp; omega
        go_wp2_with fail
        go_roundw
        case rel => exact ⟨i + 1, _, by go_num, by omega, rfl⟩
        case measure => simp [intOf]; omega
      · go_wp2_with fail
        go_ret
        exact ⟨rfl, below_drewN HX9.out.box.below _⟩
  · have hgb : decide (most < W) = true := by simp; omega
    go_wp2_with (first
      | (go_at_call 12; refine (P.least_none N s t xs.length lc W most fl xs la _ (HO.out.ends hs ht HST.out) (HO.out.range hW1 (by omega)) HM5.out (by omega) HX5.out.pipes).mono ?_; rintro e w6 ⟨hb6, a1, c1, a2, c2, rfl⟩; have HX6 := Lib.hid (HX5.out.later hb6); clear hb6))
    go_ret
    exact ⟨rfl, by first | exact HX6.out.box.below | exact HX6.out.box.below.alloc HX6.out.box.below.size _⟩
end Go.Proofs.Ytbenmebmfihleaa
end
section
/- The walk of the law on what a unit more costs. -/
namespace Go.Proofs.Ytbenmebmfihleaa
open Go.RowKit

variable {len cap N g s t k : Nat} {l : List Pi} {w wr w2 : World} {a : Option Addr} {d e c : Int} {f h : Nat → Int}
/-- What is known ahead of round k: what the last cost, and by how much more than the one ahead of it. -/
structure MoreTo (l : List Pi) (N s t : Nat) (k : Nat) (last step : Int) : Prop where
  zero : k < 2 → last = 0 ∧ step = 0
  one : 0 < k → ∃ f h, IsLeast l N f h s t ((k : Int) - 1) last
  two : 2 ≤ k → ∃ f h c, IsLeast l N f h s t ((k : Int) - 1 - 1) c ∧ step = last - c
  fit : (0 ≤ last ∧ last ≤ 910350) ∧ -910350 ≤ step ∧ step ≤ 910350
theorem NetOk.cost (ho : NetOk N l) {m : Int} (hl : IsLeast l N f h s t m c) : 0 ≤ c ∧ c ≤ 910350 := by
  have e := cost_bound (l := l) (fl := f) (R := 255) (D := 255) (by omega) (by omega) (fun k x hx => by have := hl.flow.cap k x hx; have := ho.rooms x (List.mem_of_getElem? hx); omega) ho.costs l.length
  have := hl.cost
  have := ho.short
  omega
theorem MoreTo.zero_ (l : List Pi) (N s t : Nat) : MoreTo l N s t 0 0 0 := ⟨fun _ => ⟨rfl, rfl⟩, fun h => by omega, fun h => by omega, by omega⟩
theorem MoreTo.ge (hm : MoreTo l N s t k d e) (ho : NetOk N l) (hs : s < N) (ht : t < N) (hst : s ≠ t) (hl : IsLeast l N f h s t (k : Int) c) : e ≤ c - d := by
  have hc := ho.cost hl
  by_cases h2 : 2 ≤ k
  · obtain ⟨f0, h0, c0, l0, rfl⟩ := hm.two h2
    obtain ⟨f1, h1, l1⟩ := hm.one (by omega)
    have e1 : (k : Int) = (k : Int) - 1 + 1 := by omega
    rw [e1] at hl
    exact IsLeast.more l0 l1 hl ho.ok hs ht hst
  · obtain ⟨rfl, rfl⟩ := hm.zero (by omega)
    omega
theorem MoreTo.on (hm : MoreTo l N s t k d e) (ho : NetOk N l) (hs : s < N) (ht : t < N) (hst : s ≠ t) (hl : IsLeast l N f h s t (k : Int) c) : MoreTo l N s t (k + 1) c (c - d) := by
  have hc := ho.cost hl
  have hf := hm.fit
  have e1 : ((k + 1 : Nat) : Int) - 1 = (k : Int) := by omega
  refine ⟨fun hk => ?_, fun _ => ⟨f, h, by rw [e1]; exact hl⟩, fun hk => ?_, by omega⟩
  · obtain rfl : k = 0 := by omega
    obtain ⟨rfl, _⟩ := hm.zero (by omega)
    have := hl.none (fun x hx => (ho.costs x hx).1) ho.ok hs ht hst
    omega
  · obtain ⟨f1, h1, l1⟩ := hm.one (by omega)
    exact ⟨f1, h1, d, by rw [e1]; exact l1, rfl⟩
theorem none_pos (hn : NetOk N l) (hm : Short l s t (k : Int)) : 0 < k := by
  obtain ⟨S, _, _, hlt⟩ := hm
  have : 0 ≤ capOut l S l.length := sumP_nonneg (fun k x hx => by have := hn.rooms x (List.mem_of_getElem? hx); split <;> omega) _
  omega
/-- What Least answers, but for the rows. -/
theorem LeastSpec.least_shape (P : LeastSpec) (N s t len cap : Nat) (want : Int) (l : List Pi) (a : Option Addr) (w : World) (he : endsP (N : Int) l (s : Int) (t : Int) = 0) (hr : RangeL l want) (hl : IsPipes w.heap.size w a len l) :
    Calls Try.prog 12 #[.agg #[.int .i64 (N : Int), .slice a len cap], .int .i64 (s : Int), .int .i64 (t : Int), .int .i64 want] w fun e w' => Below w.heap.size w w' ∧
      ((∃ a1 c1 a2 c2, e = .returned (.tuple #[.agg #[.slice a1 0 c1, .int .i64 0, .slice a2 0 c2], .int .i64 8]) ∧ Short l s t want) ∨
       ∃ fa fc ha hc f h c, e = .returned (.tuple #[.agg #[.slice fa len fc, .int .i64 c, .slice ha N hc], .int .i64 0]) ∧ IsLeast l N f h s t want c) := by
  refine (P.least_any N s t len cap want l a w he hr hl).mono ?_
  rintro e w' ⟨hb, h | ⟨v, u, f, h, c, rfl, hf, hu, hle, _, _⟩⟩
  · exact ⟨hb, .inl h⟩
  · obtain ⟨fa, fc, hv⟩ := owns_shape hf
    subst hv
    obtain ⟨ha, hc, hv⟩ := owns_shape hu
    subst hv
    exact ⟨hb, .inr ⟨fa, fc, ha, hc, f, h, c, rfl, hle⟩⟩
set_option maxHeartbeats 4000000 in
set_option maxRecDepth 100000 in
theorem leastMore_walk (P : LeastSpec) (hawake : ∀ w, Calls Try.prog 8 #[] w fun e w' => e = .returned (.bool true) ∧ Below w.heap.size w w')
    (n : Int) (hn : (Lit.int .u8 n).wf = true) (a : Option Addr) (cap : Nat) (p : Int) (hp : (Lit.int .u8 p).wf = true) (q : Int) (hq : (Lit.int .u8 q).wf = true) (w : World) (hbig : len ≤ maxLen) (hl : IsLP w.heap.size w a len l) :
    Calls Try.prog 6 #[.int .u8 n, .slice a len cap, .int .u8 p, .int .u8 q] w fun e w' => e = .returned (.bool true) ∧ Below w.heap.size w w' := by
  unfold maxLen at hbig
  obtain ⟨⟨hn1, hn2⟩, N, hN, hN1, hN6⟩ := law_net hn
  have hp2 := law_u8 hp
  have hq2 := law_u8 hq
  clear hn hp hq
  have HM := Lib.hid (fun W (h : IsLP W.heap.size W a len l) => net_any n hn1 (by omega) a cap W hbig h)
  have HO := Lib.hid (net_ok (N := N) (by omega) hN6 hl.small len)
  have HL := Lib.hid hl; clear hl
  rw [hN] at HM
  clear hN hn1 hn2
  generalize pipesTo (N : Int) l len = xs at HM HO
  have hxl := HO.out.short
  have HP := Lib.hid hp2
  have HQ := Lib.hid hq2
  clear hp2 hq2
  go_enter Try.func6, Try.ntmps6
  go_wp2_with (first
    | (go_at_call 8; refine (hawake _).mono ?_; rintro e w1 ⟨rfl, hb1⟩; have HB1 := Lib.hid hb1; clear hb1)
    | (go_at_call 9; refine (HM.out _ ((HL.out.later HB1.out).mono HB1.out.size)).mono ?_; rintro e w2 ⟨lv, rfl, hrow, hb2⟩; obtain ⟨la, lc, hv⟩ := owns_shape hrow; subst hv; have HB2 := Lib.hid (HB1.out.trans (hb2.mono HB1.out.size)); have HX3 : Hid (NPA w (w2.alloc (.cells #[.int .i64 (N : Int), .slice la xs.length lc] 27)) w2.heap.size N la xs.length lc xs) := Lib.hid ⟨NBox.make HB2.out (N : Int) la xs.length lc, ((owns_pipes hrow).2.later ((Below.refl _ w2).alloc (Nat.le_refl _) (.cells #[.int .i64 (N : Int), .slice la xs.length lc] 27))).mono (by simp)⟩; clear hrow hb2)
    | (go_at_call 10; refine (ends_law N hN1 hN6 p q HP.out HQ.out la xs.length lc _).mono ?_; rintro e w4 ⟨hb4, s, t, rfl, hs, ht, hst⟩; have HX4 := Lib.hid (HX3.out.later hb4); have x0 := HX4.out.box.c0; have x1 := HX4.out.box.c1; have HST := Lib.hid hst; clear hb4 hst))
  have HMT0 := Lib.hid (MoreTo.zero_ xs N s t)
  clear x0 x1
  go_loopw [12, 13, 29] (fun dv ev kv wr => ∃ (k : Nat) (d e : Int), kv = .int .i64 k ∧ dv = .int .i64 d ∧ ev = .int .i64 e ∧ k ≤ 12 ∧ Hid (MoreTo xs N s t k d e) ∧ Hid (NPA w wr w2.heap.size N la xs.length lc xs)) (fun _ _ kv _ => 12 - (intOf kv).toNat)
  case atStart => exact ⟨0, 0, 0, rfl, rfl, rfl, by omega, HMT0, HX4⟩
  case round =>
    obtain ⟨k, d, e, rfl, rfl, rfl, hk, HMT, HX⟩ := hrel
    clear HMT0 HX4 HX3
    by_cases hlt : k < 12
    · have x0 := HX.out.box.c0
      have x1 := HX.out.box.c1
      obtain ⟨⟨hd1, hd2⟩, he1, he2⟩ := HMT.out.fit
      go_wp2_with fail
      go_at_call 12
      refine (P.least_shape N s t xs.length lc (k : Int) xs la _ (HO.out.ends hs ht HST.out) (HO.out.range (by omega) (by omega)) HX.out.pipes).mono ?_
      rintro e2 w6 ⟨hb6, hcase⟩
      have HX6 := Lib.hid (HX.out.later hb6)
      clear hb6
      rcases hcase with ⟨a1, c1, a2, c2, rfl, hm6⟩ | ⟨fa, fc, ha, hc, f, h, c, rfl, hl6⟩
      · have hk0 := none_pos HO.out hm6
        have hkb : decide (0 < k) = true := by simpa using hk0
        go_wp2_with fail
        go_ret
        exact ⟨rfl, by first | exact HX6.out.box.below | exact HX6.out.box.below.alloc HX6.out.box.below.size _⟩
      · have hge := HMT.out.ge HO.out hs ht HST.out hl6
        obtain ⟨hcc1, hcc2⟩ := HO.out.cost hl6
        have HN := Lib.hid (HMT.out.on HO.out hs ht HST.out hl6)
        have hgb : decide (c - d < e) = false := by simp; omega
        clear hl6
        go_wp2_with fail
        go_quiet (fail)
        go_wp2_with fail
        go_roundw
        case rel => exact ⟨k + 1, _, _, by go_num, rfl, rfl, by omega, HN, Lib.hid (HX6.out.later (below_drewN ((Below.refl _ _).alloc (Nat.le_refl _) _) _))⟩
        case measure => simp [intOf]; omega
    · go_wp2_with fail
      go_ret
      exact ⟨rfl, HX.out.box.below⟩
end Go.Proofs.Ytbenmebmfihleaa
end
section
/- The fixed fact of chapter 10. -/
namespace Go.Proofs.Ytbenmebmfihleaa
open Go.RowKit

variable {w : World} {f h : Nat → Int} {c much : Int} {fl : Nat → Int}
def pipesL : List Pi := [(0, 1, 2, 1), (0, 1, 2, 5)]
theorem endsL : endsP ((2 : Nat) : Int) pipesL ((0 : Nat) : Int) ((1 : Nat) : Int) = 0 := by decide
theorem rangeL : RangeL pipesL 3 := ⟨by omega, by simp [pipesL]⟩
/-- Three can flow. -/
theorem mostL (h : Short pipesL 0 1 3) : False := by
  obtain ⟨S, s0, s1, s3⟩ := h
  simp [capOut, sumP, outB, pipesL, s0, s1] at s3
/-- This result alone holds. -/
theorem onlyL (hl : IsLeast pipesL 2 f h 0 1 3 c) (h0 : h 0 = 0) : c = 7 ∧ f 0 = 2 ∧ f 1 = 1 ∧ h 1 = 5 := by
  have a0 := hl.flow.cap 0 _ rfl
  have a1 := hl.flow.cap 1 _ rfl
  have b0 := hl.limbs 0 _ rfl
  have b1 := hl.limbs 1 _ rfl
  have m := hl.much
  have e := hl.cost
  have m' : 3 = f 0 + f 1 := by simpa [netTo, sumP, brings, pipesL] using m
  have e' : c = f 0 * 1 + f 1 * 5 := by simpa [costP, sumP, dueP, pipesL] using e
  simp [steep, h0] at a0 a1 b0 b1
  omega
theorem pipesL_at (w : World) (T : TypeId) (ob : Obj) : IsPipes (World.heap ((w.alloc (.cells #[.int .i64 0, .int .i64 1, .int .i64 2, .int .i64 1, .int .i64 0, .int .i64 1, .int .i64 2, .int .i64 5] T)).alloc ob)).size ((w.alloc (.cells #[.int .i64 0, .int .i64 1, .int .i64 2, .int .i64 1, .int .i64 0, .int .i64 1, .int .i64 2, .int .i64 5] T)).alloc ob) (some ⟨w.heap.size, 0, none⟩) 2 pipesL := by
  refine ⟨rfl, .inr ⟨w.heap.size, 0, rfl, by simp; omega, fun k x hk => ?_⟩⟩
  have hb : ((w.alloc (.cells #[.int .i64 0, .int .i64 1, .int .i64 2, .int .i64 1, .int .i64 0, .int .i64 1, .int .i64 2, .int .i64 5] T)).alloc ob).heap[w.heap.size]? = some (.cells #[.int .i64 0, .int .i64 1, .int .i64 2, .int .i64 1, .int .i64 0, .int .i64 1, .int .i64 2, .int .i64 5] T (0, 0)) := heap_alloc2_old _ _ _
  match k, hk with
  | 0, hk => simp [pipesL] at hk; subst hk; exact ⟨by simp [World.cell?, hb], by simp [World.cell?, hb], by simp [World.cell?, hb], by simp [World.cell?, hb]⟩
  | 1, hk => simp [pipesL] at hk; subst hk; exact ⟨by simp [World.cell?, hb], by simp [World.cell?, hb], by simp [World.cell?, hb], by simp [World.cell?, hb]⟩
  | k + 2, hk => simp [pipesL] at hk
/-- What Least answers of the chapter's example. -/
theorem LeastSpec.exL (P : LeastSpec) (cap : Nat) (a : Option Addr) (w : World) (hl : IsPipes w.heap.size w a 2 pipesL) :
    Calls Try.prog 12 #[.agg #[.int .i64 2, .slice a 2 cap], .int .i64 0, .int .i64 1, .int .i64 3] w fun e w' => Below w.heap.size w w' ∧
      ∃ g1 c1 g2 c2, e = .returned (.tuple #[.agg #[.slice (some ⟨g1, 0, none⟩) 2 c1, .int .i64 7, .slice (some ⟨g2, 0, none⟩) 2 c2], .int .i64 0]) ∧
        LongRow w' w.heap.size (.slice (some ⟨g1, 0, none⟩) 2 c1) 2 (fun i => if i = 0 then 2 else 1) ∧ LongRow w' w.heap.size (.slice (some ⟨g2, 0, none⟩) 2 c2) 2 (fun i => if i = 0 then 0 else 5) := by
  refine (P.least_any 2 0 1 2 cap 3 pipesL a w endsL rangeL hl).mono ?_
  rintro e w' ⟨hb, ⟨_, _, _, _, _, hm⟩ | ⟨v, u, f, h, c, rfl, hf, hu, hle, h0, _⟩⟩
  · exact (mostL hm).elim
  · obtain ⟨rfl, f0, f1, h1⟩ := onlyL hle h0
    obtain ⟨g1, c1, hv, _⟩ := hf.some_ (by omega)
    subst hv
    obtain ⟨g2, c2, hv, _⟩ := hu.some_ (by omega)
    subst hv
    refine ⟨hb, g1, c1, g2, c2, rfl, hf.congr (fun i hi => ?_), hu.congr (fun i hi => ?_)⟩
    · match i, hi with
      | 0, _ => exact f0
      | 1, _ => exact f1
    · match i, hi with
      | 0, _ => exact h0
      | 1, _ => exact h1
set_option maxHeartbeats 4000000 in
set_option maxRecDepth 100000 in
theorem least_awake (P : LeastSpec) (w : World) : Calls Try.prog 8 #[] w fun e w' => e = .returned (.bool true) ∧ Below w.heap.size w w' := by
  have HA := Lib.hid (pipesL_at w 47 (.cells #[.int .i64 2, .slice (some ⟨w.heap.size, 0, none⟩) 2 2] 27))
  have HB0 : Hid (Below w.heap.size w ((w.alloc (.cells #[.int .i64 0, .int .i64 1, .int .i64 2, .int .i64 1, .int .i64 0, .int .i64 1, .int .i64 2, .int .i64 5] 47)).alloc (.cells #[.int .i64 2, .slice (some ⟨w.heap.size, 0, none⟩) 2 2] 27))) := Lib.hid (((Below.refl _ w).alloc (Nat.le_refl _) _).alloc (by simp) _)
  have HSAME1 : Hid (sameN (fun i => if i = 0 then 2 else 1) (fun i => if i = 0 then 2 else 1) 2 = true) := Lib.hid (sameN_true.2 (fun i _ => rfl))
  have HSAME2 : Hid (sameN (fun i => if i = 0 then 0 else 5) (fun i => if i = 0 then 0 else 5) 2 = true) := Lib.hid (sameN_true.2 (fun i _ => rfl))
  go_enter Try.func8, Try.ntmps8
  go_wp2_with (first
    | (go_at_call 12; refine (P.exL _ _ _ HA.out).mono ?_; rintro e w5 ⟨hb5, g1, c1, g2, c2, rfl, hr1, hr2⟩; have hba : Below w5.heap.size w5 ((w5.alloc (.cells #[.slice (some ⟨g1, 0, none⟩) 2 c1, .int .i64 7, .slice (some ⟨g2, 0, none⟩) 2 c2] 36)).alloc (.cells #[.int .i64 2, .int .i64 1] 2)) := ((Below.refl _ w5).alloc (Nat.le_refl _) _).alloc (by simp) _; have HB5 := Lib.hid (HB0.out.trans ((hb5.trans (hba.mono hb5.size)).mono HB0.out.size)); have H1 := Lib.hid (hr1.below hba); have H2 := Lib.hid (hr2.below hba); have HRB := Lib.hid ((RBox.make (B := w5.heap.size) (wr := w5) (Nat.le_refl _) (some ⟨g1, 0, none⟩) 2 c1 7 (some ⟨g2, 0, none⟩) 2 c2).alloc (.cells #[.int .i64 2, .int .i64 1] 2)); have HL1 : Hid (LongRow ((w5.alloc (.cells #[.slice (some ⟨g1, 0, none⟩) 2 c1, .int .i64 7, .slice (some ⟨g2, 0, none⟩) 2 c2] 36)).alloc (.cells #[.int .i64 2, .int .i64 1] 2)) (w5.heap.size + 1) (.slice (some ⟨w5.heap.size + 1, 0, none⟩) 2 2) 2 (fun i => if i = 0 then 2 else 1)) := Lib.hid (by have h9 : LongRow ((w5.alloc (.cells #[.slice (some ⟨g1, 0, none⟩) 2 c1, .int .i64 7, .slice (some ⟨g2, 0, none⟩) 2 c2] 36)).alloc (.cells #[.int .i64 2, .int .i64 1] 2)) (w5.alloc (.cells #[.slice (some ⟨g1, 0, none⟩) 2 c1, .int .i64 7, .slice (some ⟨g2, 0, none⟩) 2 c2] 36)).heap.size (.slice (some ⟨(w5.alloc (.cells #[.slice (some ⟨g1, 0, none⟩) 2 c1, .int .i64 7, .slice (some ⟨g2, 0, none⟩) 2 c2] 36)).heap.size, 0, none⟩) 2 2) 2 (fun i => if i = 0 then 2 else 1) := World.ownsRow_lit (base := (w5.alloc (.cells #[.slice (some ⟨g1, 0, none⟩) 2 c1, .int .i64 7, .slice (some ⟨g2, 0, none⟩) 2 c2] 36)).heap.size) (e := 2) (size := 1) (w5.alloc (.cells #[.slice (some ⟨g1, 0, none⟩) 2 c1, .int .i64 7, .slice (some ⟨g2, 0, none⟩) 2 c2] 36)) #[.int .i64 2, .int .i64 1] 2 (Nat.le_refl _) (by decide) rfl; have h8 : (w5.alloc (.cells #[.slice (some ⟨g1, 0, none⟩) 2 c1, .int .i64 7, .slice (some ⟨g2, 0, none⟩) 2 c2] 36)).heap.size = w5.heap.size + 1 := (by simp); rw [h8] at h9; exact h9); clear hr1 hr2 hb5 hba)
    | (go_at_call 18; refine (eqRows H1.out HL1.out (by omega)).mono ?_; rw [HSAME1.out]; rintro e w6 ⟨rfl, hb6⟩; have H26 := Lib.hid ((H2.out.below hb6).below ((Below.refl _ w6).alloc (Nat.le_refl _) (.cells #[.int .i64 0, .int .i64 5] 2))); have HB6 := Lib.hid (HB5.out.trans (hb6.mono HB5.out.size)); have HB7 := Lib.hid (HB6.out.alloc HB6.out.size (.cells #[.int .i64 0, .int .i64 5] 2)); have r2 := (HRB.out.later hb6).c2; have HL2 : Hid (LongRow (w6.alloc (.cells #[.int .i64 0, .int .i64 5] 2)) w6.heap.size (.slice (some ⟨w6.heap.size, 0, none⟩) 2 2) 2 (fun i => if i = 0 then 0 else 5)) := Lib.hid (World.ownsRow_lit (base := w6.heap.size) (e := 2) (size := 1) w6 #[.int .i64 0, .int .i64 5] 2 (Nat.le_refl _) (by decide) rfl); clear hb6 H1 HL1)
    | (go_at_call 18; refine (eqRows H26.out HL2.out (by omega)).mono ?_; rw [HSAME2.out]; rintro e w7 ⟨rfl, hb7⟩; have HBE := Lib.hid (HB7.out.trans (hb7.mono HB7.out.size)); clear hb7))
  go_ret
  exact ⟨rfl, HBE.out⟩
end Go.Proofs.Ytbenmebmfihleaa
end

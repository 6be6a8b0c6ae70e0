/- The walk of the law on Right (of package flow). -/
import Derived.Test.YtifhapmblofmkaaFlowMosts
import Derived.Deep.RegionWith
namespace Go.Proofs.Ytifhapmblofmkaa
open Go.RowKit

variable {len cap N g s t k m c xl : Nat} {l : List Pi} {w wa wr w2 : World} {a b : Option Addr} {much : Int} {fl f : Nat → Int} {lv : Value} {zs : List Int}
theorem right_flows {xs : List Int} (h : endsP (N : Int) l (s : Int) (t : Int) = 0) : rightV (N : Int) l xs (s : Int) (t : Int) = flowsV N l xs s t := by
  unfold rightV flowsV
  simp only [Int.toNat_natCast]
  by_cases e : xs.length = l.length ∧ IsFlow l N (flOf xs) s t
  · rw [if_pos ⟨h, e⟩, if_pos e]
  · rw [if_neg (fun h2 => e h2.2), if_neg e]
/-- The row of what flows, turned here and there. -/
structure GR (wa wr : World) (xl : Nat) (v : Value) (f : Nat → Int) : Prop where
  below : Below wa.heap.size wa wr
  row : LongRow wr wa.heap.size v xl f
theorem GR.set_ {gb cb : Nat} (h : GR wa wr xl (.slice (some ⟨gb, 0, none⟩) xl cb) f) (hk : k < xl) (u : Int) : GR wa (wr.setCell ⟨gb, k, none⟩ (.int .i64 u)) xl (.slice (some ⟨gb, 0, none⟩) xl cb) (fun i => if i = k then u else f i) :=
  ⟨h.below.setCell (p := ⟨gb, k, none⟩) h.row.base_.1 _, h.row.set_ hk u⟩

set_option maxHeartbeats 4000000 in
set_option maxRecDepth 100000 in
theorem flowRights_walk (P : FlowSpec) (hawake : ∀ w, Calls Try.prog 8 #[] w fun e w' => e = .returned (.bool true) ∧ Below w.heap.size w w')
    (n : Int) (hn : (Lit.int .u8 n).wf = true) (a : Option Addr) (cap : Nat) (p : Int) (hp : (Lit.int .u8 p).wf = true) (q : Int) (hq : (Lit.int .u8 q).wf = true) (b : Option Addr) (c : Nat) (most : Bool) (w : World) (hbig : len ≤ maxLen) (hl : IsLP w.heap.size w a len l) (hbm : m ≤ maxLen) (hi : IsNums w.heap.size w b m zs) :
    Calls Try.prog 5 #[.int .u8 n, .slice a len cap, .int .u8 p, .int .u8 q, .slice b m c, .bool most] w fun e w' => e = .returned (.bool true) ∧ Below w.heap.size w w' := by
  unfold maxLen at hbig hbm
  obtain ⟨⟨hn1, hn2⟩, N, hN, hN1, hN6⟩ := law_net hn
  have hp2 := law_u8 hp
  have hq2 := law_u8 hq
  clear hn hp hq
  have HM := Lib.hid (fun W (h : IsLP W.heap.size W a len l) => net_any n hn1 (by omega) a cap W hbig h)
  have HO := Lib.hid (net_ok (N := N) (by omega) hN6 hl.small len)
  have HL := Lib.hid hl; clear hl
  have HI := Lib.hid hi; clear hi
  rw [hN] at HM
  clear hN hn1 hn2
  generalize pipesTo (N : Int) l len = xs at HM HO
  have hxl := HO.out.short
  have HP := Lib.hid hp2
  have HQ := Lib.hid hq2
  clear hp2 hq2
  cases most with
  | false =>
    go_enter Try.func5, Try.ntmps5
    go_wp2_with (first
      | (go_at_call 8; refine (hawake _).mono ?_; rintro e w1 ⟨rfl, hb1⟩; have HB1 := Lib.hid hb1; clear hb1)
      | (go_at_call 9; refine (HM.out _ ((HL.out.later HB1.out).mono HB1.out.size)).mono ?_; rintro e w2 ⟨lv, rfl, hrow, hb2⟩; obtain ⟨la, lc, hv⟩ := owns_shape hrow; subst hv; have HB2 := Lib.hid (HB1.out.trans (hb2.mono HB1.out.size)); have HX3 : Hid (NPA w (w2.alloc (.cells #[.int .i64 (N : Int), .slice la xs.length lc] 26)) w2.heap.size N la xs.length lc xs) := Lib.hid ⟨NBox.make HB2.out (N : Int) la xs.length lc, ((owns_pipes hrow).2.later ((Below.refl _ w2).alloc (Nat.le_refl _) (.cells #[.int .i64 (N : Int), .slice la xs.length lc] 26))).mono (by simp)⟩; clear hrow hb2)
      | (go_at_call 10; refine (ends_law N hN1 hN6 p q HP.out HQ.out la xs.length lc _).mono ?_; rintro e w4 ⟨hb4, s, t, rfl, hs, ht, hst⟩; have HX4 := Lib.hid (HX3.out.later hb4); have x0 := HX4.out.box.c0; have x1 := HX4.out.box.c1; have HST := Lib.hid hst; have HI4 := Lib.hid ((HI.out.later HX4.out.box.below).mono HX4.out.box.below.size); clear hb4 hst)
      | (go_at_call 16; refine (P.right_any (N : Int) s t xs.length lc xs la m c zs b _ (by omega) (by omega) HX4.out.pipes HI4.out).mono ?_; rw [right_flows (HO.out.ends hs ht HST.out)]; obtain ⟨V, hV⟩ : ∃ V, flowsV N xs zs s t = V := ⟨_, rfl⟩; rw [hV]; have HV := Lib.hid hV; rintro e w5 ⟨hb5, rfl⟩; have HX5 := Lib.hid (HX4.out.later hb5); have HI5 := Lib.hid ((HI4.out.later hb5).mono hb5.size); have y0 := HX5.out.box.c0; have y1 := HX5.out.box.c1; clear hb5 hV)
      | (go_at_call 12; refine (flows_any (by omega) hxl (fun x hx => (HO.out.rooms x hx).2) hs ht m c b la lc _ (by omega) HX5.out.pipes HI5.out).mono ?_; rw [HV.out]; rintro e w6 ⟨rfl, hb6⟩; have HX6 := Lib.hid (HX5.out.later hb6); clear hb6))
    go_ret
    exact ⟨rfl, HX6.out.box.below⟩
  | true =>
    go_enter Try.func5, Try.ntmps5
    go_wp2_with (first
      | (go_at_call 8; refine (hawake _).mono ?_; rintro e w1 ⟨rfl, hb1⟩; have HB1 := Lib.hid hb1; clear hb1)
      | (go_at_call 9; refine (HM.out _ ((HL.out.later HB1.out).mono HB1.out.size)).mono ?_; rintro e w2 ⟨lv, rfl, hrow, hb2⟩; obtain ⟨la, lc, hv⟩ := owns_shape hrow; subst hv; have HB2 := Lib.hid (HB1.out.trans (hb2.mono HB1.out.size)); have HX3 : Hid (NPA w (w2.alloc (.cells #[.int .i64 (N : Int), .slice la xs.length lc] 26)) w2.heap.size N la xs.length lc xs) := Lib.hid ⟨NBox.make HB2.out (N : Int) la xs.length lc, ((owns_pipes hrow).2.later ((Below.refl _ w2).alloc (Nat.le_refl _) (.cells #[.int .i64 (N : Int), .slice la xs.length lc] 26))).mono (by simp)⟩; clear hrow hb2)
      | (go_at_call 10; refine (ends_law N hN1 hN6 p q HP.out HQ.out la xs.length lc _).mono ?_; rintro e w4 ⟨hb4, s, t, rfl, hs, ht, hst⟩; have HX4 := Lib.hid (HX3.out.later hb4); have x0 := HX4.out.box.c0; have x1 := HX4.out.box.c1; have HST := Lib.hid hst; clear hb4 hst)
      | (go_at_call 11; refine (P.most_ok N s t xs.length lc xs la _ (HO.out.ends hs ht HST.out) HX4.out.pipes).mono ?_; rintro e w5 ⟨hb5, v5, fl, much, rfl, hr5, hm5⟩; obtain ⟨va, vc, hv5⟩ := owns_shape hr5; subst hv5; have HG0 : Hid (GR w4 w5 xs.length (.slice va xs.length vc) fl) := Lib.hid ⟨hb5, hr5⟩; have HM5 := Lib.hid hm5; clear hb5 hr5 hm5))
    have HF0 : Hid (∀ i, i < xs.length → -1 ≤ fl i ∧ fl i ≤ 256 ∧ (0 ≤ i → 0 ≤ fl i ∧ fl i ≤ 255)) := Lib.hid (fun i hi => by
      have hx : xs[i]? = some xs[i] := List.getElem?_eq_getElem hi
      have h1 := HM5.out.flow.cap i _ hx
      have h2 := HO.out.rooms _ (List.mem_of_getElem? hx)
      omega)
    obtain ⟨xl, hxll⟩ : ∃ xl, xs.length = xl := ⟨_, rfl⟩
    rw [hxll] at HX3 HX4 hxl HG0 HF0 ⊢
    have HXL := Lib.hid hxll
    clear x0 x1 hxll
    go_loopw [47] (fun kv wr => ∃ (k : Nat) (f : Nat → Int), kv = .int .i64 k ∧ k ≤ m ∧ Hid (GR w4 wr xl (.slice va xl vc) f) ∧ Hid (∀ i, i < xl → -1 ≤ f i ∧ f i ≤ 256 ∧ (k ≤ i → 0 ≤ f i ∧ f i ≤ 255))) (fun kv _ => m - (intOf kv).toNat)
    case atStart => exact ⟨0, _, rfl, Nat.zero_le _, HG0, HF0⟩
    case round =>
      obtain ⟨k, f, rfl, hk, HG, HF⟩ := hrel
      clear HG0 HF0
      by_cases hlt : k < m
      · obtain ⟨bn, on, z, rfl, hz, ez⟩ := (HI.out.later (HX4.out.box.below.trans (HG.out.below.mono HX4.out.box.below.size))).at_ hlt
        clear hz
        by_cases hkx : k < xl
        · obtain ⟨gb, cb, hv, _⟩ := HG.out.row.some_ (by omega)
          injection hv with e1 _ e3
          subst e1 e3
          obtain ⟨hc1, hc2⟩ := HG.out.row.cap_ (by omega)
          unfold maxLen at hc2
          have r0 := HG.out.row.cell hkx
          have r1 := HG.out.row.frozen k
          obtain ⟨hf1, hf2, hf3⟩ := HF.out k hkx
          have hf4 := hf3 (Nat.le_refl _)
          obtain ⟨e, he⟩ : ∃ e, z.tmod 2 = e := ⟨_, rfl⟩
          have he2 : -1 ≤ e ∧ e ≤ 1 := by
            have h1 := Int.lt_tmod_of_pos z (show (0 : Int) < 2 by decide)
            have h2 := Int.tmod_lt_of_pos z (show (0 : Int) < 2 by decide)
            rw [he] at h1 h2
            omega
          have HG1 := Lib.hid (HG.out.set_ hkx (f k + e))
          have HF1 : Hid (∀ i, i < xl → -1 ≤ (if i = k then f k + e else f i) ∧ (if i = k then f k + e else f i) ≤ 256 ∧ (k + 1 ≤ i → 0 ≤ (if i = k then f k + e else f i) ∧ (if i = k then f k + e else f i) ≤ 255)) := Lib.hid (fun i hi => by
            by_cases ei : i = k
            · subst ei; simp only [if_true]; exact ⟨by omega, by omega, fun h => by omega⟩
            · simp only [ei, if_false]
              have := HF.out i hi
              exact ⟨this.1, this.2.1, fun h => this.2.2 (by omega)⟩)
          generalize f k = fk at r0 hf1 hf2 hf3 hf4 HG1 HF1
          go_wp2_with fail
          go_roundw
          case rel => exact ⟨k + 1, _, by go_num, by omega, HG1, HF1⟩
          case measure => simp [intOf]; omega
        · go_wp2_with fail
          go_roundw
          case rel => exact ⟨k + 1, f, by go_num, by omega, HG, Lib.hid (fun i hi => ⟨(HF.out i hi).1, (HF.out i hi).2.1, fun h => by omega⟩)⟩
          case measure => simp [intOf]; omega
      · have HXA := Lib.hid (HX4.out.later HG.out.below)
        have HIA := Lib.hid HG.out.row.nums0
        have x0 := HXA.out.box.c0
        have x1 := HXA.out.box.c1
        go_wp2_with (first
          | (go_at_call 16; refine (P.right_any (N : Int) s t xl lc xs la xl vc _ va _ (by omega) (by omega) HXA.out.pipes HIA.out).mono ?_; rw [right_flows (HO.out.ends hs ht HST.out)]; obtain ⟨V, hV⟩ : ∃ V, flowsV N xs ((List.range xl).map f) s t = V := ⟨_, rfl⟩; rw [hV]; have HV := Lib.hid hV; rintro e w6 ⟨hb6, rfl⟩; have HX6 := Lib.hid (HXA.out.later hb6); have HI6 := Lib.hid ((HIA.out.later hb6).mono hb6.size); have y0 := HX6.out.box.c0; have y1 := HX6.out.box.c1; clear hb6 hV)
          | (go_at_call 12; refine (flows_any (by omega) hxl (fun x hx => (HO.out.rooms x hx).2) hs ht xl vc va la lc _ (by omega) HX6.out.pipes HI6.out).mono ?_; rw [HV.out]; rintro e w7 ⟨rfl, hb7⟩; have HX7 := Lib.hid (HX6.out.later hb7); clear hb7))
        go_ret
        exact ⟨rfl, HX7.out.box.below⟩
end Go.Proofs.Ytifhapmblofmkaa

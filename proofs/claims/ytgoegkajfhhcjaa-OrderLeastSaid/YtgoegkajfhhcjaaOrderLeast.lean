/- The walk of the law on the least numbers. -/
import Derived.Test.YtgoegkajfhhcjaaOrderLates
import Derived.RegionTactic
namespace Go.Proofs.Ytgoegkajfhhcjaa
open Go.RowKit

variable {len cap N g gw cw gg cg mf mm k f t r q : Nat} {l ys : List Ar} {w wr w2 : World} {a la b b2 : Option Addr} {lc : Nat} {xs zs : List Int} {cur got : Nat → Int} {x : Int}
theorem LatI.set2 (h : LatI w wr g N la lc ys b mf xs gw cw cur gg cg got) (hk : k < N) (u : Int) : LatI w (wr.setCell ⟨gg, k, none⟩ (.int .i64 u)) g N la lc ys b mf xs gw cw cur gg cg (setN got k u) := by
  have hb := h.two.base_
  have hg := h.one.box.ge
  have hlt := h.one.box.lt
  have hne := h.ne
  have hm : Mod (fun x => x = gg) wr (wr.setCell ⟨gg, k, none⟩ (.int .i64 u)) := (Mod.refl (fun x => x = gg) wr).setCell (p := ⟨gg, k, none⟩) (.inr rfl) _
  exact ⟨⟨h.one.box.set_ (by omega) (by omega) _ _, h.one.arcs.later (hm.below (by omega) (fun k hk => by omega)), h.one.ints.later (hm.below h.one.box.below.size (fun k hk => by omega)), h.one.row.kept hm (fun k hk (e : k = gg) => hne ((Option.some.inj hk).trans e).symm)⟩, (h.two.set_ hk u).congr (fun _ _ => rfl), hne⟩
/-- What is put in at first. -/
def anyF (xs zs : List Int) (i : Nat) : Int := xs.getD i 0 + (if 0 < zs.getD i 0 then zs.getD i 0 else 0)
/-- Up to k. -/
def upTo (k : Nat) (f : Nat → Int) (i : Nat) : Int := if i < k then f i else 0
theorem upTo_set (k : Nat) (f : Nat → Int) (i : Nat) : (if i = k then f k else upTo k f i) = upTo (k + 1) f i := by
  unfold upTo
  by_cases e : i = k
  · subst e; simp
  · have : (i < k + 1) = (i < k) := by apply propext; omega
    simp only [e, if_false, this]
theorem upTo_self (k : Nat) (f : Nat → Int) : upTo k f k = 0 := by simp [upTo]
theorem LatI.congr {f2 g2 : Nat → Int} (h : LatI w wr g N la lc ys b mf xs gw cw cur gg cg got) (e : ∀ i, i < N → cur i = f2 i) (e2 : ∀ i, i < N → got i = g2 i) : LatI w wr g N la lc ys b mf xs gw cw f2 gg cg g2 := ⟨h.one.congr e, h.two.congr e2, h.ne⟩
theorem up_set {h : Nat → Int} (hx : h k = x) (i : Nat) : setN (upTo k h) k x i = upTo (k + 1) h i := by
  subst hx
  exact upTo_set k h i
theorem up_same {h : Nat → Int} (hx : h k = 0) (i : Nat) : upTo k h i = upTo (k + 1) h i := by
  rw [← up_set hx i]
  unfold setN
  split
  · rename_i e; rw [e, upTo_self]
  · rfl
theorem set_set {h : Nat → Int} {u v : Int} (i : Nat) : setN (setN h k u) k v i = setN h k v i := by
  unfold setN
  split <;> rfl
theorem set_at {h : Nat → Int} {u : Int} : setN h k u k = u := by simp [setN]

set_option maxHeartbeats 8000000 in
set_option maxRecDepth 100000 in
theorem orderLeast_walk (P : OrderSpec) (hawake : ∀ w, Calls Try.prog 8 #[] w fun e w' => e = .returned (.bool true) ∧ Below w.heap.size w w')
    (n : Int) (hn : (Lit.int .u8 n).wf = true) (a : Option Addr) (cap : Nat) (b : Option Addr) (cf : Nat) (b2 : Option Addr) (cf2 : Nat) (w : World) (hbig : len ≤ maxLen) (hl : IsLinks w.heap.size w a len l) (hbm : mf ≤ maxLen) (hi : IsI32 w.heap.size w b mf xs) (hbm2 : mm ≤ maxLen) (hi2 : IsI32 w.heap.size w b2 mm zs) :
    Calls Try.prog 6 #[.int .u8 n, .slice a len cap, .slice b mf cf, .slice b2 mm cf2] w fun e w' => e = .returned (.bool true) ∧ Below w.heap.size w w' := by
  unfold maxLen at hbig hbm hbm2
  obtain ⟨⟨hn1, hn2⟩, _, N, _, hN, hN1, hN8, _, _⟩ := law_starts hn hn
  clear hn
  have hmk := run_make_row' (P := Try.prog) 39 2 (.int .i64 0) 8 Try.underlying39 infoLong rfl .i64 .i64 N (by omega) (by omega)
  have HM := Lib.hid (fun W (h : IsLinks W.heap.size W a len l) => forward_any n hn1 (by omega) hN a cap W hbig h (arcs_check7 hN1 hN8 hl.small7 len))
  have HC := Lib.hid (forwardL_check (arcs_check7 hN1 hN8 hl.small7 len))
  have HFW := Lib.hid (forwardL_ok (checkV_zero.1 (arcs_check7 hN1 hN8 hl.small7 len)).2).2
  have hyl : (forwardL (arcsTo (N : Int) l len)).length ≤ 24 := Nat.le_trans (forwardL_le _) (arcsTo_len _ _ _)
  have HSM := Lib.hid hi.small
  have HSM2 := Lib.hid hi2.small
  have HLn : Hid (xs.length = mf) := Lib.hid hi.1
  have HLn2 : Hid (zs.length = mm) := Lib.hid hi2.1
  have HL := Lib.hid hl; clear hl
  have HI := Lib.hid hi; clear hi
  have HI2 := Lib.hid hi2; clear hi2
  clear hN hn1 hn2
  generalize forwardL (arcsTo (N : Int) l len) = ys at HM HC HFW hyl
  have HOK := Lib.hid (checkV_zero.1 HC.out).2
  have HE := Lib.hid (beg_ok HC.out HFW.out HSM.out)
  go_enter Try.func6, Try.ntmps6
  go_wp2_with (first
    | (go_at_call 8; refine (hawake _).mono ?_; rintro e w1 ⟨rfl, hb1⟩; have HB1 := Lib.hid hb1; clear hb1)
    | (go_at_call 15; refine (HM.out _ ((HL.out.later HB1.out).mono HB1.out.size)).mono ?_; rintro e w2 ⟨lv, rfl, hrow, hb2⟩; obtain ⟨la, lc, hv⟩ := owns_shape hrow; subst hv; have HA2 := Lib.hid (owns_arcs hrow).2; have HB2 := Lib.hid (HB1.out.trans (hb2.mono HB1.out.size)); have HG3 := Lib.hid (Box.make HB2.out (N : Int) la ys.length lc); have x0 := HG3.out.c0; have HAG := Lib.hid (HA2.out.later ((Below.refl _ w2).alloc (Nat.le_refl _) (.cells #[.int .i64 (N : Int), .slice la ys.length lc] 26))); clear hrow hb2))
  go_region
  · go_wp2_with fail
    clear hmk
    have hsz : (w2.alloc (.cells #[.int .i64 (N : Int), .slice la ys.length lc] 26)).heap.size = w2.heap.size + 1 := by simp
    have M1 := LatM.made (b := b) (mf := mf) (xs := xs) HG3.out HAG.out (HI.out.later HG3.out.below) (gb := w2.heap.size + 1) hsz (by omega)
    have M2 := LatM.made (b := b) (mf := mf) (xs := xs) M1.box M1.arcs M1.ints (gb := w2.heap.size + 1 + 1) (by simp) (by omega)
    have B2 := ((Below.refl _ ((w2.alloc (.cells #[.int .i64 (N : Int), .slice la ys.length lc] 26)).alloc (.cells (madeCells #[.int .i64 0] N) 2))).alloc (Nat.le_refl _) (.cells (madeCells #[.int .i64 0] N) 2))
    have HX0 : Hid (LatI w _ w2.heap.size N la lc ys b mf xs (w2.heap.size + 1 + 1) N (upTo 0 (anyF xs zs)) (w2.heap.size + 1) N (upTo 0 (fun i => xs.getD i 0))) := Lib.hid ((LatI.mk (M2.congr (fun _ _ => rfl)) ((M1.row.below B2).congr (fun _ _ => rfl)) (by omega)).later (Below.refl _ _).drew)
    clear M1 M2 B2 hsz x0 HG3 HAG
    obtain ⟨g, hg⟩ : ∃ g, w2.heap.size = g := ⟨_, rfl⟩
    obtain ⟨gg, hgg⟩ : ∃ gg, g + 1 = gg := ⟨_, rfl⟩
    obtain ⟨gw, hgw⟩ : ∃ gw, gg + 1 = gw := ⟨_, rfl⟩
    rw [hg, hgg, hgw] at HX0 ⊢
    clear hg hgg hgw
    go_loopw [31] (fun kv wr => ∃ k : Nat, kv = .int .i64 k ∧ k ≤ N ∧ Hid (LatI w wr g N la lc ys b mf xs gw N (upTo k (anyF xs zs)) gg N (upTo k (fun i => xs.getD i 0)))) (fun kv _ => N - (intOf kv).toNat)
    case atStart => exact ⟨0, rfl, Nat.zero_le _, HX0⟩
    case round =>
      obtain ⟨k, rfl, hk, HX⟩ := hrel
      clear HX0
      by_cases hlt : k < N
      · have k1 : (k : Int) < (N : Int) := by omega
        have q0 := HX.out.two.cell hlt
        have q1 := HX.out.two.frozen k
        have r0 := HX.out.one.row.cell hlt
        have r1 := HX.out.one.row.frozen k
        simp only [upTo_self] at q0 r0
        by_cases hkm : k < mf
        · obtain ⟨b0, off, x, rfl, hx, e0, e1, e2⟩ := HX.out.one.ints.at_ hkm
          have hxD : xs.getD k 0 = x := by simp [List.getD, hx]
          have HA := Lib.hid ((HX.out.set2 hlt x).congr (g2 := upTo (k + 1) (fun i => xs.getD i 0)) (fun _ _ => rfl) (fun i _ => up_set hxD i))
          have p0 := HA.out.one.row.cell hlt
          have p1 := HA.out.one.row.frozen k
          simp only [upTo_self] at p0
          have HAA := Lib.hid (HA.out.set_ hlt x)
          by_cases hkm2 : k < mm
          · go_wp2_with fail
            obtain ⟨wq, hwq⟩ : ∃ wq, wq = World.drew ((wr.setCell ⟨gg, k, none⟩ (.int .i64 x)).setCell ⟨gw, k, none⟩ (.int .i64 x)) := ⟨_, rfl⟩
            have HQ := Lib.hid (HAA.out.later (Below.refl _ _).drew)
            rw [← hwq] at HQ
            obtain ⟨b3, off3, z, rfl, hz, z0, z1, z2⟩ := (HI2.out.later HQ.out.one.box.below).at_ hkm2
            have s0 := HQ.out.one.row.cell hlt
            have s1 := HQ.out.one.row.frozen k
            rw [set_at] at s0
            refine wp_region_still_tail 11 (by kernel_rfl) (by kernel_rfl) ?_
            simp only [List.take_succ_cons, List.take_zero, List.drop_succ_cons, List.drop_zero]
            change wpStill _ _ (World.drew ((wr.setCell ⟨gg, k, none⟩ (.int .i64 x)).setCell ⟨gw, k, none⟩ (.int .i64 x))) (fun a' => wpList _ _ _ _ a' (World.drew ((wr.setCell ⟨gg, k, none⟩ (.int .i64 x)).setCell ⟨gw, k, none⟩ (.int .i64 x)))) _ _
            rw [← hwq]
            clear hwq
            have hzD : zs.getD k 0 = z := by simp [List.getD, hz]
            by_cases hz3 : ¬ z < 0
            · have hw1 : IntKind.i64.wrap (x + z) = x + z := by rw [IntKind.wrap_i64]; omega
              have hzM : (if 0 < z then z else 0) = z := by split <;> omega
              have hn4 : 0 ≤ z := by omega
              have HS := Lib.hid ((HQ.out.set_ hlt (x + z)).congr (f2 := upTo (k + 1) (anyF xs zs)) (fun i _ => by rw [set_set]; exact up_set (by unfold anyF; rw [hxD, hzD, hzM]; try omega) i) (fun _ _ => rfl))
              repeat still_step
              refine wpStill_nil ?_
              go_wp2_with fail
              go_roundw
              case rel => exact ⟨k + 1, by go_num, by omega, HS⟩
              case measure => simp [intOf]; omega
            · have hw1 : IntKind.i64.wrap (x + 0) = x := by rw [IntKind.wrap_i64]; omega
              have hzM : (if 0 < z then z else 0) = 0 := by split <;> omega
              have hn3 : z < 0 := by omega
              have HS := Lib.hid ((HQ.out.set_ hlt x).congr (f2 := upTo (k + 1) (anyF xs zs)) (fun i _ => by rw [set_set]; exact up_set (by unfold anyF; rw [hxD, hzD, hzM]; try omega) i) (fun _ _ => rfl))
              repeat still_step
              refine wpStill_nil ?_
              go_wp2_with fail
              go_roundw
              case rel => exact ⟨k + 1, by go_num, by omega, HS⟩
              case measure => simp [intOf]; omega
          · have hzD : zs.getD k 0 = 0 := by
              have : zs[k]? = none := List.getElem?_eq_none (by rw [HLn2.out]; omega)
              simp [List.getD, this]
            have HS := Lib.hid (HAA.out.congr (f2 := upTo (k + 1) (anyF xs zs)) (fun i _ => up_set (by unfold anyF; rw [hxD, hzD]; simp) i) (fun _ _ => rfl))
            go_wp2_with fail
            go_roundw
            case rel => exact ⟨k + 1, by go_num, by omega, HS⟩
            case measure => simp [intOf]; omega
        · have hxD : xs.getD k 0 = 0 := by
            have : xs[k]? = none := List.getElem?_eq_none (by rw [HLn.out]; omega)
            simp [List.getD, this]
          have HA := Lib.hid (HX.out.congr (f2 := upTo k (anyF xs zs)) (g2 := upTo (k + 1) (fun i => xs.getD i 0)) (fun _ _ => rfl) (fun i _ => up_same hxD i))
          have HAA := Lib.hid (HA.out.set_ hlt 0)
          by_cases hkm2 : k < mm
          · go_wp2_with fail
            obtain ⟨wq, hwq⟩ : ∃ wq, wq = World.drew (wr.setCell ⟨gw, k, none⟩ (.int .i64 0)) := ⟨_, rfl⟩
            have HQ := Lib.hid (HAA.out.later (Below.refl _ _).drew)
            rw [← hwq] at HQ
            obtain ⟨b3, off3, z, rfl, hz, z0, z1, z2⟩ := (HI2.out.later HQ.out.one.box.below).at_ hkm2
            have s0 := HQ.out.one.row.cell hlt
            have s1 := HQ.out.one.row.frozen k
            rw [set_at] at s0
            refine wp_region_still_tail 11 (by kernel_rfl) (by kernel_rfl) ?_
            simp only [List.take_succ_cons, List.take_zero, List.drop_succ_cons, List.drop_zero]
            change wpStill _ _ (World.drew (wr.setCell ⟨gw, k, none⟩ (.int .i64 0))) (fun a' => wpList _ _ _ _ a' (World.drew (wr.setCell ⟨gw, k, none⟩ (.int .i64 0)))) _ _
            rw [← hwq]
            clear hwq
            have hzD : zs.getD k 0 = z := by simp [List.getD, hz]
            by_cases hz3 : ¬ z < 0
            · have hw1 : IntKind.i64.wrap (0 + z) = z := by rw [IntKind.wrap_i64]; omega
              have hzM : (if 0 < z then z else 0) = z := by split <;> omega
              have hn4 : 0 ≤ z := by omega
              have HS := Lib.hid ((HQ.out.set_ hlt z).congr (f2 := upTo (k + 1) (anyF xs zs)) (fun i _ => by rw [set_set]; exact up_set (by unfold anyF; rw [hxD, hzD, hzM]; try omega) i) (fun _ _ => rfl))
              repeat still_step
              refine wpStill_nil ?_
              go_wp2_with fail
              go_roundw
              case rel => exact ⟨k + 1, by go_num, by omega, HS⟩
              case measure => simp [intOf]; omega
            · have hw1 : IntKind.i64.wrap (0 + 0) = 0 := by rw [IntKind.wrap_i64]; omega
              have hzM : (if 0 < z then z else 0) = 0 := by split <;> omega
              have hn3 : z < 0 := by omega
              have HS := Lib.hid ((HQ.out.set_ hlt 0).congr (f2 := upTo (k + 1) (anyF xs zs)) (fun i _ => by rw [set_set]; exact up_set (by unfold anyF; rw [hxD, hzD, hzM]; try omega) i) (fun _ _ => rfl))
              repeat still_step
              refine wpStill_nil ?_
              go_wp2_with fail
              go_roundw
              case rel => exact ⟨k + 1, by go_num, by omega, HS⟩
              case measure => simp [intOf]; omega
          · have hzD : zs.getD k 0 = 0 := by
              have : zs[k]? = none := List.getElem?_eq_none (by rw [HLn2.out]; omega)
              simp [List.getD, this]
            have HS := Lib.hid (HAA.out.congr (f2 := upTo (k + 1) (anyF xs zs)) (fun i _ => up_set (by unfold anyF; rw [hxD, hzD]; simp) i) (fun _ _ => rfl))
            go_wp2_with fail
            go_roundw
            case rel => exact ⟨k + 1, by go_num, by omega, HS⟩
            case measure => simp [intOf]; omega
      · obtain rfl : k = N := by omega
        have HX1 := Lib.hid (HX.out.congr (f2 := anyF xs zs) (g2 := fun i => xs.getD i 0) (fun i hi => by simp [upTo, hi]) (fun i hi => by simp [upTo, hi]))
        clear HX
        have x0 := HX1.out.one.box.c0
        have HR0 := Lib.hid (LateR.begin_ (N := k) HFW.out (anyF xs zs))
        have HB0 : Hid (Bnd (anyF xs zs) (25 * 0 + 1)) := Lib.hid (fun i => ⟨by have h1 := HSM.out i; have h2 := HSM2.out i; unfold anyF; split <;> omega, by have h1 := HSM.out i; have h2 := HSM2.out i; show anyF xs zs i ≤ 2147483647 + ((25 * 0 + 1 : Nat) : Int) * 1099511627776; unfold anyF; split <;> omega⟩)
        go_wp2_with fail
        clear x0
        go_loopw [72] (fun rv wr => ∃ (r : Nat) (cur : Nat → Int), rv = .int .i64 r ∧ r ≤ k ∧ Hid (LatI w wr g k la lc ys b mf xs gw k cur gg k (fun i => xs.getD i 0)) ∧ Hid (LateR ys k (anyF xs zs) cur r 0) ∧ Hid (Bnd cur (25 * r + 1))) (fun rv _ => k - (intOf rv).toNat)
        case atStart => exact ⟨0, _, rfl, Nat.zero_le _, HX1, HR0, HB0⟩
        case round =>
          obtain ⟨r, cur, rfl, hr, HX, HR, HB⟩ := hrel
          clear HX1 HR0 HB0
          by_cases hltr : r < k
          · have x1 := HX.out.one.box.c1
            have HB1 : Hid (Bnd cur (25 * r + 1 + 0)) := Lib.hid HB.out
            go_wp2_with fail
            clear x1 HB
            go_loopw [77] (fun qv wr => ∃ (q : Nat) (cur : Nat → Int), qv = .int .i64 q ∧ q ≤ ys.length ∧ Hid (LatI w wr g k la lc ys b mf xs gw k cur gg k (fun i => xs.getD i 0)) ∧ Hid (LateR ys k (anyF xs zs) cur r q) ∧ Hid (Bnd cur (25 * r + 1 + q))) (fun qv _ => ys.length - (intOf qv).toNat)
            case atStart => exact ⟨0, _, rfl, Nat.zero_le _, HX, HR, HB1⟩
            case round =>
              clear HX HR HB1
              obtain ⟨q, cur, rfl, hq, HX, HR, HB⟩ := hrel
              by_cases hltq : q < ys.length
              · obtain ⟨b1, off, x, rfl, hb, hx, e0, e1, e2⟩ := HX.out.one.arcs.at_ hltq
                have hxok := okA_true.1 (HOK.out x (List.mem_of_getElem? hx))
                have HXX := Lib.hid hx
                clear hx hb
                obtain ⟨f0, t0, c⟩ := x
                simp only at e0 e1 e2 hxok
                obtain ⟨f, rfl⟩ : ∃ f : Nat, f0 = (f : Int) := ⟨f0.toNat, by omega⟩
                obtain ⟨t, rfl⟩ : ∃ t : Nat, t0 = (t : Int) := ⟨t0.toNat, by omega⟩
                have hf : f < k := by omega
                have ht : t < k := by omega
                have f1 : (0 : Int) ≤ (f : Int) := by omega
                have f2 : (f : Int) < (k : Int) := by omega
                have t1 : (0 : Int) ≤ (t : Int) := by omega
                have t2 : (t : Int) < (k : Int) := by omega
                have hcl : -1099511627776 ≤ c := hxok.2.2.1
                have hcu : c ≤ 1099511627776 := hxok.2.2.2
                clear hxok
                have hbf := HB.out f
                have hbt := HB.out t
                have hpos : ((25 * r + 1 + q : Nat) : Int) * 1099511627776 ≤ 1000 * 1099511627776 := Int.mul_le_mul_of_nonneg_right (by omega) (by omega)
                have hvf : -2147483648 ≤ cur f ∧ cur f ≤ 1100000000000000 := by omega
                have hvt : -2147483648 ≤ cur t ∧ cur t ≤ 1100000000000000 := by omega
                clear hbf hbt hpos
                go_wp2_with fail
                obtain ⟨w2, hw2⟩ : ∃ w2, w2 = World.drew (wr.alloc (.cells #[.int .i64 (f : Int), .int .i64 (t : Int), .int .i64 c] 35)) := ⟨_, rfl⟩
                have HX2 : Hid (LatI w w2 g k (some ⟨b1, off, none⟩) lc ys b mf xs gw k cur gg k (fun i => xs.getD i 0)) := Lib.hid (by rw [hw2]; exact HX.out.later ((Below.refl wr.heap.size wr).alloc (Nat.le_refl _) (.cells #[.int .i64 (f : Int), .int .i64 (t : Int), .int .i64 c] 35)).drew)
                have d0 : w2.cell? ⟨wr.heap.size, 0, none⟩ = some (.int .i64 (f : Int)) := by rw [hw2]; simp
                have d1 : w2.cell? ⟨wr.heap.size, 1, none⟩ = some (.int .i64 (t : Int)) := by rw [hw2]; simp
                have d2 : w2.cell? ⟨wr.heap.size, 2, none⟩ = some (.int .i64 c) := by rw [hw2]; simp
                have cf := HX2.out.one.row.cell hf
                have ct := HX2.out.one.row.cell ht
                have ft := HX2.out.one.row.frozen t
                refine wp_region_still_tail 17 (by kernel_rfl) (by kernel_rfl) ?_
                simp only [List.take_succ_cons, List.take_zero, List.drop_succ_cons, List.drop_zero]
                change wpStill _ _ (World.drew (wr.alloc (.cells #[.int .i64 (f : Int), .int .i64 (t : Int), .int .i64 c] 35))) (fun a' => wpList _ _ _ _ a' (World.drew (wr.alloc (.cells #[.int .i64 (f : Int), .int .i64 (t : Int), .int .i64 c] 35)))) _ _
                rw [← hw2]
                clear hw2 HX
                have hw1 : IntKind.i64.wrap (cur f + c) = cur f + c := by rw [IntKind.wrap_i64]; omega
                by_cases hlt3 : cur t < cur f + c
                · have HN := Lib.hid (HR.out.take HFW.out HXX.out rfl rfl hlt3)
                  have HS := Lib.hid (HX2.out.set_ ht (cur f + c))
                  have HB2 : Hid (Bnd (setN cur t (cur f + c)) (25 * r + 1 + (q + 1))) := Lib.hid (HB.out.next hcu hlt3)
                  have hge3 : ¬ cur f + c < cur t := by omega
                  have hle3 : cur t ≤ cur f + c := by omega
                  have hle4 : ¬ cur f + c ≤ cur t := by omega
                  generalize hvt2 : cur t = vt at ct hlt3 hge3 hle3 hle4 hvt
                  generalize hvf2 : cur f = vf at cf hlt3 hge3 hle3 hle4 hw1 hvf HS HN HB2
                  clear hvt2 hvf2
                  repeat still_step
                  refine wpStill_nil ?_
                  go_wp2_with fail
                  go_roundw
                  case rel => exact ⟨q + 1, _, by go_num, by omega, HS, HN, HB2⟩
                  case measure => simp [intOf]; omega
                · have HN := Lib.hid (HR.out.skip HXX.out rfl rfl (by simp only; omega))
                  have HS := Lib.hid (HX2.out.same ht rfl)
                  have HB2 : Hid (Bnd cur (25 * r + 1 + (q + 1))) := Lib.hid (HB.out.up (by omega))
                  have hge3 : cur f + c ≤ cur t := by omega
                  generalize hvt2 : cur t = vt at ct hlt3 hge3 hvt HS
                  generalize hvf2 : cur f = vf at cf hlt3 hge3 hw1 hvf
                  clear hvt2 hvf2
                  repeat still_step
                  refine wpStill_nil ?_
                  go_wp2_with fail
                  go_roundw
                  case rel => exact ⟨q + 1, cur, by go_num, by omega, HS, HN, HB2⟩
                  case measure => simp [intOf]; omega
              · have HR2 := Lib.hid (HR.out.next (by omega))
                have HB2 : Hid (Bnd cur (25 * (r + 1) + 1)) := Lib.hid (HB.out.up (by omega))
                go_wp2_with fail
                go_roundw
                case rel => exact ⟨r + 1, cur, by go_num, by omega, HX, HR2, HB2⟩
                case measure => simp [intOf]; omega
          · have hrk : k = r := by omega
            subst hrk
            have HK := Lib.hid (HR.out.kept HOK.out (by omega))
            have HLO := Lib.hid HR.out.lo
            clear HR HB HB1
            have x0 := HX.out.one.box.c0
            have x1 := HX.out.one.box.c1
            go_wp2_with (first
              | (go_at_call 16; refine (P.late_ok k ys.length lc ys la k _ (some ⟨gg, 0, none⟩) _ HE.out (HX.out.one.arcs.mono (Nat.le_of_lt HX.out.one.box.lt)) HX.out.two.ints).mono ?_; rintro e w4 ⟨hb4, v4, got, rfl, hr4, hlate⟩; obtain ⟨gt, cg, hv4, hgt, _, _, _⟩ := hr4.some_ (by omega); subst hv4; have HX4 := Lib.hid (HX.out.later hb4); have HR4 := Lib.hid (hr4.rebase (base' := g + 1) HX.out.one.box.lt); have HLT := Lib.hid hlate; clear hb4 hr4 hlate x0 x1; have x0 := HX4.out.one.box.c0))
            clear HX HL HI2 HSM HSM2 HLn HLn2 HC HE
            go_loopw [118] (fun jv wr => ∃ j : Nat, jv = .int .i64 j ∧ j ≤ k ∧ Hid (LatI w wr g k la lc ys b mf xs gw k cur gg k (fun i => xs.getD i 0)) ∧ Hid (LongRow wr (g + 1) (.slice (some ⟨gt, 0, none⟩) k cg) k got)) (fun jv _ => k - (intOf jv).toNat)
            case atStart => exact ⟨0, rfl, Nat.zero_le _, HX4, HR4⟩
            case round =>
              clear HX4 HR4
              obtain ⟨j, rfl, hj, HX, HR⟩ := hrel
              by_cases hltj : j < k
              · have j1 : (j : Int) < (k : Int) := by omega
                have hlat := HLT.out.beg (beg2 := fun i => xs.getD i 0) (fun j hj => by simp [List.getD, hj])
                have g1 := hlat.lo j hltj
                have g2 := hlat.least (HFW.out.whole k) (any := cur) (fun i hi => Int.le_trans (by show xs.getD i 0 ≤ anyF xs zs i; unfold anyF; split <;> omega) (HLO.out i hi)) HK.out j hltj
                obtain ⟨wq, hwq⟩ : ∃ wq, wq = World.drew wr := ⟨_, rfl⟩
                have HXQ : Hid (LatI w wq g k la lc ys b mf xs gw k cur gg k (fun i => xs.getD i 0)) := Lib.hid (by rw [hwq]; exact HX.out.later (Below.refl wr.heap.size wr).drew)
                have HRQ : Hid (LongRow wq (g + 1) (.slice (some ⟨gt, 0, none⟩) k cg) k got) := Lib.hid (by rw [hwq]; exact HR.out.below (Below.refl wr.heap.size wr).drew)
                have a0 := HRQ.out.cell hltj
                have a1 := HXQ.out.one.row.cell hltj
                have a2 := HXQ.out.two.cell hltj
                try simp only at a2 g1
                generalize hgj : got j = gj at a0 g1 g2
                generalize hcj : cur j = cj at a1 g2
                generalize hxj : xs.getD j 0 = xj at a2 g1
                clear hgj hcj hxj hlat
                have g3 : ¬ gj > cj := by omega
                have g4 : ¬ gj < xj := by omega
                have g5 : ¬ cj < gj := by omega
                go_wp2_with fail
                refine wp_region_still_lit (by kernel_rfl) (by kernel_rfl) ?_
                change wpStill _ _ (World.drew wr) (fun a' => Exit.then _ _ _ a' (World.drew wr)) _ _
                rw [← hwq]
                clear hwq HX HR
                repeat still_step
                refine wpStill_nil ?_
                go_wp2_with fail
                go_roundw
                case rel => exact ⟨j + 1, by go_num, by omega, HXQ, HRQ⟩
                case measure => simp [intOf]; omega
              · go_wp2_with fail
                go_ret
                exact ⟨rfl, HX.out.one.box.below⟩
  · go_wp2_with fail
    clear hmk
    have hsz : (w2.alloc (.cells #[.int .i64 (N : Int), .slice la ys.length lc] 26)).heap.size = w2.heap.size + 1 := by simp
    have M1 := LatM.made (b := b) (mf := mf) (xs := xs) HG3.out HAG.out (HI.out.later HG3.out.below) (gb := w2.heap.size + 1) hsz (by omega)
    have M2 := LatM.made (b := b) (mf := mf) (xs := xs) M1.box M1.arcs M1.ints (gb := w2.heap.size + 1 + 1) (by simp) (by omega)
    have B2 := ((Below.refl _ ((w2.alloc (.cells #[.int .i64 (N : Int), .slice la ys.length lc] 26)).alloc (.cells (madeCells #[.int .i64 0] N) 2))).alloc (Nat.le_refl _) (.cells (madeCells #[.int .i64 0] N) 2))
    have HX0 : Hid (LatI w _ w2.heap.size N la lc ys b mf xs (w2.heap.size + 1) N (upTo 0 (anyF xs zs)) (w2.heap.size + 1 + 1) N (upTo 0 (fun i => xs.getD i 0))) := Lib.hid ((LatI.mk ((M1.later B2).congr (fun _ _ => rfl)) (M2.row.congr (fun _ _ => rfl)) (by omega)).later (Below.refl _ _).drew)
    clear M1 M2 B2 hsz x0 HG3 HAG
    obtain ⟨g, hg⟩ : ∃ g, w2.heap.size = g := ⟨_, rfl⟩
    obtain ⟨gw, hgw⟩ : ∃ gw, g + 1 = gw := ⟨_, rfl⟩
    obtain ⟨gg, hgg⟩ : ∃ gg, gw + 1 = gg := ⟨_, rfl⟩
    rw [hg, hgw, hgg] at HX0 ⊢
    clear hg hgg hgw
    go_loopw [31] (fun kv wr => ∃ k : Nat, kv = .int .i64 k ∧ k ≤ N ∧ Hid (LatI w wr g N la lc ys b mf xs gw N (upTo k (anyF xs zs)) gg N (upTo k (fun i => xs.getD i 0)))) (fun kv _ => N - (intOf kv).toNat)
    case atStart => exact ⟨0, rfl, Nat.zero_le _, HX0⟩
    case round =>
      obtain ⟨k, rfl, hk, HX⟩ := hrel
      clear HX0
      by_cases hlt : k < N
      · have k1 : (k : Int) < (N : Int) := by omega
        have q0 := HX.out.two.cell hlt
        have q1 := HX.out.two.frozen k
        have r0 := HX.out.one.row.cell hlt
        have r1 := HX.out.one.row.frozen k
        simp only [upTo_self] at q0 r0
        by_cases hkm : k < mf
        · obtain ⟨b0, off, x, rfl, hx, e0, e1, e2⟩ := HX.out.one.ints.at_ hkm
          have hxD : xs.getD k 0 = x := by simp [List.getD, hx]
          have HA := Lib.hid ((HX.out.set2 hlt x).congr (g2 := upTo (k + 1) (fun i => xs.getD i 0)) (fun _ _ => rfl) (fun i _ => up_set hxD i))
          have p0 := HA.out.one.row.cell hlt
          have p1 := HA.out.one.row.frozen k
          simp only [upTo_self] at p0
          have HAA := Lib.hid (HA.out.set_ hlt x)
          by_cases hkm2 : k < mm
          · go_wp2_with fail
            obtain ⟨wq, hwq⟩ : ∃ wq, wq = World.drew ((wr.setCell ⟨gg, k, none⟩ (.int .i64 x)).setCell ⟨gw, k, none⟩ (.int .i64 x)) := ⟨_, rfl⟩
            have HQ := Lib.hid (HAA.out.later (Below.refl _ _).drew)
            rw [← hwq] at HQ
            obtain ⟨b3, off3, z, rfl, hz, z0, z1, z2⟩ := (HI2.out.later HQ.out.one.box.below).at_ hkm2
            have s0 := HQ.out.one.row.cell hlt
            have s1 := HQ.out.one.row.frozen k
            rw [set_at] at s0
            refine wp_region_still_tail 11 (by kernel_rfl) (by kernel_rfl) ?_
            simp only [List.take_succ_cons, List.take_zero, List.drop_succ_cons, List.drop_zero]
            change wpStill _ _ (World.drew ((wr.setCell ⟨gg, k, none⟩ (.int .i64 x)).setCell ⟨gw, k, none⟩ (.int .i64 x))) (fun a' => wpList _ _ _ _ a' (World.drew ((wr.setCell ⟨gg, k, none⟩ (.int .i64 x)).setCell ⟨gw, k, none⟩ (.int .i64 x)))) _ _
            rw [← hwq]
            clear hwq
            have hzD : zs.getD k 0 = z := by simp [List.getD, hz]
            by_cases hz3 : ¬ z < 0
            · have hw1 : IntKind.i64.wrap (x + z) = x + z := by rw [IntKind.wrap_i64]; omega
              have hzM : (if 0 < z then z else 0) = z := by split <;> omega
              have hn4 : 0 ≤ z := by omega
              have HS := Lib.hid ((HQ.out.set_ hlt (x + z)).congr (f2 := upTo (k + 1) (anyF xs zs)) (fun i _ => by rw [set_set]; exact up_set (by unfold anyF; rw [hxD, hzD, hzM]; try omega) i) (fun _ _ => rfl))
              repeat still_step
              refine wpStill_nil ?_
              go_wp2_with fail
              go_roundw
              case rel => exact ⟨k + 1, by go_num, by omega, HS⟩
              case measure => simp [intOf]; omega
            · have hw1 : IntKind.i64.wrap (x + 0) = x := by rw [IntKind.wrap_i64]; omega
              have hzM : (if 0 < z then z else 0) = 0 := by split <;> omega
              have hn3 : z < 0 := by omega
              have HS := Lib.hid ((HQ.out.set_ hlt x).congr (f2 := upTo (k + 1) (anyF xs zs)) (fun i _ => by rw [set_set]; exact up_set (by unfold anyF; rw [hxD, hzD, hzM]; try omega) i) (fun _ _ => rfl))
              repeat still_step
              refine wpStill_nil ?_
              go_wp2_with fail
              go_roundw
              case rel => exact ⟨k + 1, by go_num, by omega, HS⟩
              case measure => simp [intOf]; omega
          · have hzD : zs.getD k 0 = 0 := by
              have : zs[k]? = none := List.getElem?_eq_none (by rw [HLn2.out]; omega)
              simp [List.getD, this]
            have HS := Lib.hid (HAA.out.congr (f2 := upTo (k + 1) (anyF xs zs)) (fun i _ => up_set (by unfold anyF; rw [hxD, hzD]; simp) i) (fun _ _ => rfl))
            go_wp2_with fail
            go_roundw
            case rel => exact ⟨k + 1, by go_num, by omega, HS⟩
            case measure => simp [intOf]; omega
        · have hxD : xs.getD k 0 = 0 := by
            have : xs[k]? = none := List.getElem?_eq_none (by rw [HLn.out]; omega)
            simp [List.getD, this]
          have HA := Lib.hid (HX.out.congr (f2 := upTo k (anyF xs zs)) (g2 := upTo (k + 1) (fun i => xs.getD i 0)) (fun _ _ => rfl) (fun i _ => up_same hxD i))
          have HAA := Lib.hid (HA.out.set_ hlt 0)
          by_cases hkm2 : k < mm
          · go_wp2_with fail
            obtain ⟨wq, hwq⟩ : ∃ wq, wq = World.drew (wr.setCell ⟨gw, k, none⟩ (.int .i64 0)) := ⟨_, rfl⟩
            have HQ := Lib.hid (HAA.out.later (Below.refl _ _).drew)
            rw [← hwq] at HQ
            obtain ⟨b3, off3, z, rfl, hz, z0, z1, z2⟩ := (HI2.out.later HQ.out.one.box.below).at_ hkm2
            have s0 := HQ.out.one.row.cell hlt
            have s1 := HQ.out.one.row.frozen k
            rw [set_at] at s0
            refine wp_region_still_tail 11 (by kernel_rfl) (by kernel_rfl) ?_
            simp only [List.take_succ_cons, List.take_zero, List.drop_succ_cons, List.drop_zero]
            change wpStill _ _ (World.drew (wr.setCell ⟨gw, k, none⟩ (.int .i64 0))) (fun a' => wpList _ _ _ _ a' (World.drew (wr.setCell ⟨gw, k, none⟩ (.int .i64 0)))) _ _
            rw [← hwq]
            clear hwq
            have hzD : zs.getD k 0 = z := by simp [List.getD, hz]
            by_cases hz3 : ¬ z < 0
            · have hw1 : IntKind.i64.wrap (0 + z) = z := by rw [IntKind.wrap_i64]; omega
              have hzM : (if 0 < z then z else 0) = z := by split <;> omega
              have hn4 : 0 ≤ z := by omega
              have HS := Lib.hid ((HQ.out.set_ hlt z).congr (f2 := upTo (k + 1) (anyF xs zs)) (fun i _ => by rw [set_set]; exact up_set (by unfold anyF; rw [hxD, hzD, hzM]; try omega) i) (fun _ _ => rfl))
              repeat still_step
              refine wpStill_nil ?_
              go_wp2_with fail
              go_roundw
              case rel => exact ⟨k + 1, by go_num, by omega, HS⟩
              case measure => simp [intOf]; omega
            · have hw1 : IntKind.i64.wrap (0 + 0) = 0 := by rw [IntKind.wrap_i64]; omega
              have hzM : (if 0 < z then z else 0) = 0 := by split <;> omega
              have hn3 : z < 0 := by omega
              have HS := Lib.hid ((HQ.out.set_ hlt 0).congr (f2 := upTo (k + 1) (anyF xs zs)) (fun i _ => by rw [set_set]; exact up_set (by unfold anyF; rw [hxD, hzD, hzM]; try omega) i) (fun _ _ => rfl))
              repeat still_step
              refine wpStill_nil ?_
              go_wp2_with fail
              go_roundw
              case rel => exact ⟨k + 1, by go_num, by omega, HS⟩
              case measure => simp [intOf]; omega
          · have hzD : zs.getD k 0 = 0 := by
              have : zs[k]? = none := List.getElem?_eq_none (by rw [HLn2.out]; omega)
              simp [List.getD, this]
            have HS := Lib.hid (HAA.out.congr (f2 := upTo (k + 1) (anyF xs zs)) (fun i _ => up_set (by unfold anyF; rw [hxD, hzD]; simp) i) (fun _ _ => rfl))
            go_wp2_with fail
            go_roundw
            case rel => exact ⟨k + 1, by go_num, by omega, HS⟩
            case measure => simp [intOf]; omega
      · obtain rfl : k = N := by omega
        have HX1 := Lib.hid (HX.out.congr (f2 := anyF xs zs) (g2 := fun i => xs.getD i 0) (fun i hi => by simp [upTo, hi]) (fun i hi => by simp [upTo, hi]))
        clear HX
        have x0 := HX1.out.one.box.c0
        have HR0 := Lib.hid (LateR.begin_ (N := k) HFW.out (anyF xs zs))
        have HB0 : Hid (Bnd (anyF xs zs) (25 * 0 + 1)) := Lib.hid (fun i => ⟨by have h1 := HSM.out i; have h2 := HSM2.out i; unfold anyF; split <;> omega, by have h1 := HSM.out i; have h2 := HSM2.out i; show anyF xs zs i ≤ 2147483647 + ((25 * 0 + 1 : Nat) : Int) * 1099511627776; unfold anyF; split <;> omega⟩)
        go_wp2_with fail
        clear x0
        go_loopw [72] (fun rv wr => ∃ (r : Nat) (cur : Nat → Int), rv = .int .i64 r ∧ r ≤ k ∧ Hid (LatI w wr g k la lc ys b mf xs gw k cur gg k (fun i => xs.getD i 0)) ∧ Hid (LateR ys k (anyF xs zs) cur r 0) ∧ Hid (Bnd cur (25 * r + 1))) (fun rv _ => k - (intOf rv).toNat)
        case atStart => exact ⟨0, _, rfl, Nat.zero_le _, HX1, HR0, HB0⟩
        case round =>
          obtain ⟨r, cur, rfl, hr, HX, HR, HB⟩ := hrel
          clear HX1 HR0 HB0
          by_cases hltr : r < k
          · have x1 := HX.out.one.box.c1
            have HB1 : Hid (Bnd cur (25 * r + 1 + 0)) := Lib.hid HB.out
            go_wp2_with fail
            clear x1 HB
            go_loopw [77] (fun qv wr => ∃ (q : Nat) (cur : Nat → Int), qv = .int .i64 q ∧ q ≤ ys.length ∧ Hid (LatI w wr g k la lc ys b mf xs gw k cur gg k (fun i => xs.getD i 0)) ∧ Hid (LateR ys k (anyF xs zs) cur r q) ∧ Hid (Bnd cur (25 * r + 1 + q))) (fun qv _ => ys.length - (intOf qv).toNat)
            case atStart => exact ⟨0, _, rfl, Nat.zero_le _, HX, HR, HB1⟩
            case round =>
              clear HX HR HB1
              obtain ⟨q, cur, rfl, hq, HX, HR, HB⟩ := hrel
              by_cases hltq : q < ys.length
              · obtain ⟨b1, off, x, rfl, hb, hx, e0, e1, e2⟩ := HX.out.one.arcs.at_ hltq
                have hxok := okA_true.1 (HOK.out x (List.mem_of_getElem? hx))
                have HXX := Lib.hid hx
                clear hx hb
                obtain ⟨f0, t0, c⟩ := x
                simp only at e0 e1 e2 hxok
                obtain ⟨f, rfl⟩ : ∃ f : Nat, f0 = (f : Int) := ⟨f0.toNat, by omega⟩
                obtain ⟨t, rfl⟩ : ∃ t : Nat, t0 = (t : Int) := ⟨t0.toNat, by omega⟩
                have hf : f < k := by omega
                have ht : t < k := by omega
                have f1 : (0 : Int) ≤ (f : Int) := by omega
                have f2 : (f : Int) < (k : Int) := by omega
                have t1 : (0 : Int) ≤ (t : Int) := by omega
                have t2 : (t : Int) < (k : Int) := by omega
                have hcl : -1099511627776 ≤ c := hxok.2.2.1
                have hcu : c ≤ 1099511627776 := hxok.2.2.2
                clear hxok
                have hbf := HB.out f
                have hbt := HB.out t
                have hpos : ((25 * r + 1 + q : Nat) : Int) * 1099511627776 ≤ 1000 * 1099511627776 := Int.mul_le_mul_of_nonneg_right (by omega) (by omega)
                have hvf : -2147483648 ≤ cur f ∧ cur f ≤ 1100000000000000 := by omega
                have hvt : -2147483648 ≤ cur t ∧ cur t ≤ 1100000000000000 := by omega
                clear hbf hbt hpos
                go_wp2_with fail
                obtain ⟨w2, hw2⟩ : ∃ w2, w2 = World.drew (wr.alloc (.cells #[.int .i64 (f : Int), .int .i64 (t : Int), .int .i64 c] 35)) := ⟨_, rfl⟩
                have HX2 : Hid (LatI w w2 g k (some ⟨b1, off, none⟩) lc ys b mf xs gw k cur gg k (fun i => xs.getD i 0)) := Lib.hid (by rw [hw2]; exact HX.out.later ((Below.refl wr.heap.size wr).alloc (Nat.le_refl _) (.cells #[.int .i64 (f : Int), .int .i64 (t : Int), .int .i64 c] 35)).drew)
                have d0 : w2.cell? ⟨wr.heap.size, 0, none⟩ = some (.int .i64 (f : Int)) := by rw [hw2]; simp
                have d1 : w2.cell? ⟨wr.heap.size, 1, none⟩ = some (.int .i64 (t : Int)) := by rw [hw2]; simp
                have d2 : w2.cell? ⟨wr.heap.size, 2, none⟩ = some (.int .i64 c) := by rw [hw2]; simp
                have cf := HX2.out.one.row.cell hf
                have ct := HX2.out.one.row.cell ht
                have ft := HX2.out.one.row.frozen t
                refine wp_region_still_tail 17 (by kernel_rfl) (by kernel_rfl) ?_
                simp only [List.take_succ_cons, List.take_zero, List.drop_succ_cons, List.drop_zero]
                change wpStill _ _ (World.drew (wr.alloc (.cells #[.int .i64 (f : Int), .int .i64 (t : Int), .int .i64 c] 35))) (fun a' => wpList _ _ _ _ a' (World.drew (wr.alloc (.cells #[.int .i64 (f : Int), .int .i64 (t : Int), .int .i64 c] 35)))) _ _
                rw [← hw2]
                clear hw2 HX
                have hw1 : IntKind.i64.wrap (cur f + c) = cur f + c := by rw [IntKind.wrap_i64]; omega
                by_cases hlt3 : cur t < cur f + c
                · have HN := Lib.hid (HR.out.take HFW.out HXX.out rfl rfl hlt3)
                  have HS := Lib.hid (HX2.out.set_ ht (cur f + c))
                  have HB2 : Hid (Bnd (setN cur t (cur f + c)) (25 * r + 1 + (q + 1))) := Lib.hid (HB.out.next hcu hlt3)
                  have hge3 : ¬ cur f + c < cur t := by omega
                  have hle3 : cur t ≤ cur f + c := by omega
                  have hle4 : ¬ cur f + c ≤ cur t := by omega
                  generalize hvt2 : cur t = vt at ct hlt3 hge3 hle3 hle4 hvt
                  generalize hvf2 : cur f = vf at cf hlt3 hge3 hle3 hle4 hw1 hvf HS HN HB2
                  clear hvt2 hvf2
                  repeat still_step
                  refine wpStill_nil ?_
                  go_wp2_with fail
                  go_roundw
                  case rel => exact ⟨q + 1, _, by go_num, by omega, HS, HN, HB2⟩
                  case measure => simp [intOf]; omega
                · have HN := Lib.hid (HR.out.skip HXX.out rfl rfl (by simp only; omega))
                  have HS := Lib.hid (HX2.out.same ht rfl)
                  have HB2 : Hid (Bnd cur (25 * r + 1 + (q + 1))) := Lib.hid (HB.out.up (by omega))
                  have hge3 : cur f + c ≤ cur t := by omega
                  generalize hvt2 : cur t = vt at ct hlt3 hge3 hvt HS
                  generalize hvf2 : cur f = vf at cf hlt3 hge3 hw1 hvf
                  clear hvt2 hvf2
                  repeat still_step
                  refine wpStill_nil ?_
                  go_wp2_with fail
                  go_roundw
                  case rel => exact ⟨q + 1, cur, by go_num, by omega, HS, HN, HB2⟩
                  case measure => simp [intOf]; omega
              · have HR2 := Lib.hid (HR.out.next (by omega))
                have HB2 : Hid (Bnd cur (25 * (r + 1) + 1)) := Lib.hid (HB.out.up (by omega))
                go_wp2_with fail
                go_roundw
                case rel => exact ⟨r + 1, cur, by go_num, by omega, HX, HR2, HB2⟩
                case measure => simp [intOf]; omega
          · have hrk : k = r := by omega
            subst hrk
            have HK := Lib.hid (HR.out.kept HOK.out (by omega))
            have HLO := Lib.hid HR.out.lo
            clear HR HB HB1
            have x0 := HX.out.one.box.c0
            have x1 := HX.out.one.box.c1
            go_wp2_with (first
              | (go_at_call 16; refine (P.late_ok k ys.length lc ys la k _ (some ⟨gg, 0, none⟩) _ HE.out (HX.out.one.arcs.mono (Nat.le_of_lt HX.out.one.box.lt)) HX.out.two.ints).mono ?_; rintro e w4 ⟨hb4, v4, got, rfl, hr4, hlate⟩; obtain ⟨gt, cg, hv4, hgt, _, _, _⟩ := hr4.some_ (by omega); subst hv4; have HX4 := Lib.hid (HX.out.later hb4); have HR4 := Lib.hid (hr4.rebase (base' := g + 1) HX.out.one.box.lt); have HLT := Lib.hid hlate; clear hb4 hr4 hlate x0 x1; have x0 := HX4.out.one.box.c0))
            clear HX HL HI2 HSM HSM2 HLn HLn2 HC HE
            go_loopw [118] (fun jv wr => ∃ j : Nat, jv = .int .i64 j ∧ j ≤ k ∧ Hid (LatI w wr g k la lc ys b mf xs gw k cur gg k (fun i => xs.getD i 0)) ∧ Hid (LongRow wr (g + 1) (.slice (some ⟨gt, 0, none⟩) k cg) k got)) (fun jv _ => k - (intOf jv).toNat)
            case atStart => exact ⟨0, rfl, Nat.zero_le _, HX4, HR4⟩
            case round =>
              clear HX4 HR4
              obtain ⟨j, rfl, hj, HX, HR⟩ := hrel
              by_cases hltj : j < k
              · have j1 : (j : Int) < (k : Int) := by omega
                have hlat := HLT.out.beg (beg2 := fun i => xs.getD i 0) (fun j hj => by simp [List.getD, hj])
                have g1 := hlat.lo j hltj
                have g2 := hlat.least (HFW.out.whole k) (any := cur) (fun i hi => Int.le_trans (by show xs.getD i 0 ≤ anyF xs zs i; unfold anyF; split <;> omega) (HLO.out i hi)) HK.out j hltj
                obtain ⟨wq, hwq⟩ : ∃ wq, wq = World.drew wr := ⟨_, rfl⟩
                have HXQ : Hid (LatI w wq g k la lc ys b mf xs gw k cur gg k (fun i => xs.getD i 0)) := Lib.hid (by rw [hwq]; exact HX.out.later (Below.refl wr.heap.size wr).drew)
                have HRQ : Hid (LongRow wq (g + 1) (.slice (some ⟨gt, 0, none⟩) k cg) k got) := Lib.hid (by rw [hwq]; exact HR.out.below (Below.refl wr.heap.size wr).drew)
                have a0 := HRQ.out.cell hltj
                have a1 := HXQ.out.one.row.cell hltj
                have a2 := HXQ.out.two.cell hltj
                try simp only at a2 g1
                generalize hgj : got j = gj at a0 g1 g2
                generalize hcj : cur j = cj at a1 g2
                generalize hxj : xs.getD j 0 = xj at a2 g1
                clear hgj hcj hxj hlat
                have g3 : ¬ gj > cj := by omega
                have g4 : ¬ gj < xj := by omega
                have g5 : ¬ cj < gj := by omega
                go_wp2_with fail
                refine wp_region_still_lit (by kernel_rfl) (by kernel_rfl) ?_
                change wpStill _ _ (World.drew wr) (fun a' => Exit.then _ _ _ a' (World.drew wr)) _ _
                rw [← hwq]
                clear hwq HX HR
                repeat still_step
                refine wpStill_nil ?_
                go_wp2_with fail
                go_roundw
                case rel => exact ⟨j + 1, by go_num, by omega, HXQ, HRQ⟩
                case measure => simp [intOf]; omega
              · go_wp2_with fail
                go_ret
                exact ⟨rfl, HX.out.one.box.below⟩
end Go.Proofs.Ytgoegkajfhhcjaa

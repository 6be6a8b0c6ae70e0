/- The walk of the law on more arcs. -/
import Derived.Test.YtmmhdjibigopfaaShort
import Derived.Test.YtmmhdjibigopfaaPErr
import Derived.Deep.RegionHeld3
import Derived.StillTailTactics
namespace Go.Proofs.Ytmmhdjibigopfaa
open Go.RowKit

variable {len cap : Nat} {l : List Ar}
theorem from_tree2 {N s : Nat} (P : PathSpec) (hs : s < N) (hc : checkV (N : Int) l = 0) (hn : ¬ Neg l s) (a : Option Addr) (cap : Nat) (w : World) (hl : IsArcs w.heap.size w a len l) :
    Calls Try.prog 9 #[.agg #[.int .i64 (N : Int), .slice a len cap], .int .i64 (s : Int)] w fun e w' => Below w.heap.size w w' ∧
      ∃ gf cf gb cb far by_, e = .returned (.tuple #[.agg #[.slice (some ⟨gf, 0, none⟩) N cf, .slice (some ⟨gb, 0, none⟩) N cb], .int .i64 0]) ∧
        LongRow w' w.heap.size (.slice (some ⟨gf, 0, none⟩) N cf) N (valI far) ∧ TreeOf l s far by_ :=
  (P.from_ok N s len cap l a w hs hc hl).mono fun e w' ⟨hb, h⟩ => ⟨hb, by
    rcases h with ⟨_, _, _, _, _, h2⟩ | ⟨vf, vb, far, by_, h1, h2, h3, ht⟩
    · exact absurd h2 hn
    · obtain ⟨gf, cf, e1, _⟩ := h2.some_ (by omega)
      obtain ⟨gb, cb, e2, _⟩ := h3.some_ (by omega)
      subst e1 e2
      exact ⟨gf, cf, gb, cb, far, by_, h1, h2, ht⟩⟩
/-- A tree's two cells, as they are made. -/
theorem zero_tree {W : World} {z : Nat} (h : W.heap[z]? = some (.cells #[.slice none 0 0, .slice none 0 0] 31 (0, 0))) : W.cell? ⟨z, 0, none⟩ = some (.slice none 0 0) ∧ W.cell? ⟨z, 1, none⟩ = some (.slice none 0 0) ∧ ∀ k, W.frozen? ⟨z, k, none⟩ = false :=
  ⟨by simp [World.cell?, h], by simp [World.cell?, h], fun k => by simp [World.frozen?, h]⟩
/-- What the law's first loop reads. -/
def ShortS (g1 gf ab N cf : Nat) (f t c v1 v2 : Int) (i j : Nat) (W : World) : Prop := W.cell? ⟨g1, 0, none⟩ = some (.slice (some ⟨gf, 0, none⟩) N cf) ∧ W.cell? ⟨ab, 0, none⟩ = some (.int .i64 f) ∧ W.cell? ⟨ab, 1, none⟩ = some (.int .i64 t) ∧ W.cell? ⟨ab, 2, none⟩ = some (.int .i64 c) ∧ W.cell? ⟨gf, i, none⟩ = some (.int .i64 v1) ∧ W.cell? ⟨gf, j, none⟩ = some (.int .i64 v2)
set_option maxHeartbeats 8000000 in
set_option maxRecDepth 100000 in
theorem pathShorter_walk (P : PathSpec) (hawake : ∀ w, Calls Try.prog 7 #[] w fun e w' => e = .returned (.bool true) ∧ Below w.heap.size w w')
    (n : Int) (hn : (Lit.int .u8 n).wf = true) (a : Option Addr) (cap : Nat) (mo : Ar) (hmo : SmallL mo) (f : Int) (hf : (Lit.int .u8 f).wf = true) (w : World) (hbig : len ≤ maxLen) (hcap : a = none → cap = 0) (hl : IsLinks w.heap.size w a len l) :
    Calls Try.prog 6 #[.int .u8 n, .slice a len cap, .agg #[.int .u8 mo.1, .int .u8 mo.2.1, .int .i16 mo.2.2], .int .u8 f] w fun e w' => e = .returned (.bool true) ∧ Below w.heap.size w w' := by
  unfold maxLen at hbig
  have HM0 := Lib.hid (heap_alloc_new w (.cells #[.int .u8 mo.1, .int .u8 mo.2.1, .int .i16 mo.2.2] 50))
  have HB0 := Lib.hid ((Below.refl _ w).alloc (Nat.le_refl _) (.cells #[.int .u8 mo.1, .int .u8 mo.2.1, .int .i16 mo.2.2] 50))
  by_cases h20 : (20 : Int) < (len : Int)
  · go_enter Try.func6, Try.ntmps6
    go_wp2_with (go_at_call 7; refine (hawake _).mono ?_; rintro e w1 ⟨rfl, hb1⟩; have HB1 := Lib.hid (HB0.out.trans (hb1.mono HB0.out.size)); clear hb1)
    go_ret
    exact ⟨rfl, HB1.out⟩
  · have h21 : (len : Int) ≤ 20 := by omega
    obtain ⟨⟨hn1, hn2⟩, ⟨hf1, hf2⟩, N, q, hN, hN1, hN8, hq, hqN⟩ := law_starts hn hf
    clear hn hf h20
    have HMK := Lib.hid (fun (len : Nat) (l : List Ar) (a : Option Addr) (cap : Nat) W (hb : len ≤ 9223372036854775807) (h : IsLinks W.heap.size W a len l) => maker_any n hn1 (by omega) a cap W hb h)
    have HC := Lib.hid (arcs_check7 hN1 hN8 hl.small7 len)
    have HLl : Hid ((arcsTo (N : Int) l len).length ≤ 24) := Lib.hid (arcsTo_len _ _ _)
    have HX2 : Hid (arcsTo (N : Int) (l ++ [mo]) (len + 1) = arcsTo (N : Int) l len ++ [arcOf (N : Int) mo]) := Lib.hid (arcsTo_ext hl.1 (by omega) _)
    have hsm2 : ∀ x ∈ l ++ [mo], SmallL x := fun x hx => by
      simp at hx
      rcases hx with hx | hx
      · exact hl.smallAll x hx
      · subst hx; exact hmo
    have HSA := Lib.hid hsm2
    have HC2 : Hid (checkV (N : Int) (arcsTo (N : Int) l len ++ [arcOf (N : Int) mo]) = 0) := Lib.hid (by
      rw [← HX2.out]
      exact arcs_check7 hN1 hN8 (fun x hx => by have := hsm2 x hx; exact ⟨this.2.2.2.2.1, this.2.2.2.2.2⟩) _)
    have HLn : Hid (l.length = len) := Lib.hid hl.1
    have HL := Lib.hid hl; clear hl hsm2
    have HCP := Lib.hid hcap; clear hcap
    rw [hN] at HMK
    clear hN hn1 hn2 hmo
    have HM := Lib.hid (fun W (h : IsLinks W.heap.size W a len l) => HMK.out len l a cap W hbig h)
    generalize hxs : arcsTo (N : Int) l len = xs at HM HC HLl HX2 HC2
    clear hxs
    have hNz : ¬ (N : Int) = 0 := by omega
    have hNb : ((N : Int) == 0) = false := by simpa using hNz
    have hq1 : (0 : Int) ≤ (q : Int) := by omega
    by_cases hneg : Neg xs q
    · have HN := Lib.hid hneg; clear hneg
      go_enter Try.func6, Try.ntmps6
      go_wp2_with (first
        | (go_at_call 7; refine (hawake _).mono ?_; rintro e w1 ⟨rfl, hb1⟩; have HB1 := Lib.hid (HB0.out.trans (hb1.mono HB0.out.size)); have HM1 := Lib.hid ((hb1.block _ (by simp)).trans HM0.out); clear hb1)
        | (go_at_call 8; refine (HM.out _ ((HL.out.later HB1.out).mono HB1.out.size)).mono ?_; rintro e w2 ⟨lv, rfl, hrow, hb2⟩; obtain ⟨la, lc, hv⟩ := owns_shape hrow; subst hv; have HA2 := Lib.hid (owns_arcs hrow).2; have HB2 := Lib.hid (HB1.out.trans (hb2.mono HB1.out.size)); have HG3 := Lib.hid (Box.make HB2.out (N : Int) la xs.length lc); have HA3 := Lib.hid ((HA2.out.later ((Below.refl _ w2).alloc (Nat.le_refl _) (.cells #[.int .i64 (N : Int), .slice la xs.length lc] 26))).mono (show w2.heap.size ≤ (w2.alloc (.cells #[.int .i64 (N : Int), .slice la xs.length lc] 26)).heap.size by simp)); have HM3 := Lib.hid (kept_alloc HM1.out hb2 (.cells #[.int .i64 (N : Int), .slice la xs.length lc] 26)); have x0 := HG3.out.c0; clear hrow hb2)
        | (go_at_call 9; refine (P.from_neg hqN HC.out HN.out _ _ HA3.out).mono ?_; rintro e w4 ⟨hb4, a1, c1, a2, c2, rfl⟩; have HW5 := Lib.hid (FromW.make (HG3.out.later hb4) ((HA3.out.later hb4).mono hb4.size) (.slice a1 0 c1) (.slice a2 0 c2)); have y0 := HW5.out.box.c0; have y1 := HW5.out.box.c1; clear hb4))
      go_ret
      exact ⟨rfl, HW5.out.box.below⟩
    · have HN := Lib.hid hneg; clear hneg
      have HOK := Lib.hid (checkV_zero.1 HC.out).2
      go_enter Try.func6, Try.ntmps6
      go_wp2_with (first
        | (go_at_call 7; refine (hawake _).mono ?_; rintro e w1 ⟨rfl, hb1⟩; have HB1 := Lib.hid (HB0.out.trans (hb1.mono HB0.out.size)); have HM1 := Lib.hid ((hb1.block _ (by simp)).trans HM0.out); clear hb1)
        | (go_at_call 8; refine (HM.out _ ((HL.out.later HB1.out).mono HB1.out.size)).mono ?_; rintro e w2 ⟨lv, rfl, hrow, hb2⟩; obtain ⟨la, lc, hv⟩ := owns_shape hrow; subst hv; have HA2 := Lib.hid (owns_arcs hrow).2; have HB2 := Lib.hid (HB1.out.trans (hb2.mono HB1.out.size)); have HG3 := Lib.hid (Box.make HB2.out (N : Int) la xs.length lc); have HA3 := Lib.hid ((HA2.out.later ((Below.refl _ w2).alloc (Nat.le_refl _) (.cells #[.int .i64 (N : Int), .slice la xs.length lc] 26))).mono (show w2.heap.size ≤ (w2.alloc (.cells #[.int .i64 (N : Int), .slice la xs.length lc] 26)).heap.size by simp)); have HM3 := Lib.hid (kept_alloc HM1.out hb2 (.cells #[.int .i64 (N : Int), .slice la xs.length lc] 26)); have x0 := HG3.out.c0; clear hrow hb2)
        | (go_at_call 9; refine (P.from_tree hqN HC.out HN.out _ _ HA3.out).mono ?_; rintro e w4 ⟨hb4, gf, cf, gb, cb, far, by_, rfl, hlf, hib, ht⟩; have HT := Lib.hid ht; have HW5 := Lib.hid (FromW.make (HG3.out.later hb4) ((HA3.out.later hb4).mono hb4.size) (.slice (some ⟨gf, 0, none⟩) N cf) (.slice (some ⟨gb, 0, none⟩) N cb)); have HLF := Lib.hid (hlf.below ((Below.refl _ w4).alloc (Nat.le_refl _) (.cells #[.slice (some ⟨gf, 0, none⟩) N cf, .slice (some ⟨gb, 0, none⟩) N cb] 31))); have HIB := Lib.hid (hib.below ((Below.refl _ w4).alloc (Nat.le_refl _) (.cells #[.slice (some ⟨gf, 0, none⟩) N cf, .slice (some ⟨gb, 0, none⟩) N cb] 31))); have y0 := HW5.out.box.c0; have y1 := HW5.out.box.c1; have HS5 : Hid (ShortW w _ w2.heap.size w4.heap.size w.heap.size N la xs.length lc xs gf cf (.slice (some ⟨gb, 0, none⟩) N cb) far mo) := Lib.hid ⟨HW5.out, HLF.out, kept_alloc HM3.out hb4 (.cells #[.slice (some ⟨gf, 0, none⟩) N cf, .slice (some ⟨gb, 0, none⟩) N cb] 31)⟩; have y2 := HW5.out.t0; clear hb4 hlf hib ht))
      clear x0 y0 y1 y2
      have hxl : xs.length ≤ 24 := HLl.out
      have HSM : Hid (Small far) := Lib.hid (HT.out.dist.small HOK.out hqN (by omega))
      generalize w4.heap.size = g1 at HS5 ⊢
      generalize w2.heap.size = g at HS5 ⊢
      go_loopw [50] (fun j wr => ∃ (k : Nat), j = .int .i64 k ∧ k ≤ xs.length ∧ Hid (ShortW w wr g g1 w.heap.size N la xs.length lc xs gf cf (.slice (some ⟨gb, 0, none⟩) N cb) far mo)) (fun j _ => xs.length - (intOf j).toNat)
      case atStart => exact ⟨0, rfl, Nat.zero_le _, HS5⟩
      case round =>
        obtain ⟨k, rfl, hk, HS⟩ := hrel
        clear HS5
        by_cases hlt : k < xs.length
        · obtain ⟨b, off, x, rfl, hb, hx, e0, e1, e2⟩ := HS.out.fw.arcs.at_ hlt
          have hxok := okA_true.1 (HOK.out x (List.mem_of_getElem? hx))
          have HXX := Lib.hid hx
          clear hx hb
          obtain ⟨f0, t0, c⟩ := x
          simp only at e0 e1 e2 hxok
          obtain ⟨fr, rfl⟩ : ∃ fr : Nat, f0 = (fr : Int) := ⟨f0.toNat, by omega⟩
          obtain ⟨t, rfl⟩ : ∃ t : Nat, t0 = (t : Int) := ⟨t0.toNat, by omega⟩
          have hfr : fr < N := by omega
          have ht : t < N := by omega
          have u1 : (0 : Int) ≤ (fr : Int) := by omega
          have u2 : (fr : Int) < (N : Int) := by omega
          have u3 : (0 : Int) ≤ (t : Int) := by omega
          have u4 : (t : Int) < (N : Int) := by omega
          have hc1 : -1099511627776 ≤ c := hxok.2.2.1
          have hc2 : c ≤ 1099511627776 := hxok.2.2.2
          clear hxok
          have HS1 := Lib.hid (HS.out.later ((Below.refl wr.heap.size wr).alloc (Nat.le_refl _) (.cells #[.int .i64 (fr : Int), .int .i64 (t : Int), .int .i64 c] 41)))
          obtain ⟨w2, hw2⟩ : ∃ w2, w2 = World.drew (wr.alloc (.cells #[.int .i64 (fr : Int), .int .i64 (t : Int), .int .i64 c] 41)) := ⟨_, rfl⟩
          have HS2 : Hid (ShortW w w2 g g1 w.heap.size N (some ⟨b, off, none⟩) xs.length lc xs gf cf (.slice (some ⟨gb, 0, none⟩) N cb) far mo) := Lib.hid (by rw [hw2]; exact HS1.out.later (Below.refl _ _).drew)
          have HW2 := Lib.hid hw2
          have d0 : w2.cell? ⟨wr.heap.size, 0, none⟩ = some (.int .i64 (fr : Int)) := by rw [hw2]; simp
          have d1 : w2.cell? ⟨wr.heap.size, 1, none⟩ = some (.int .i64 (t : Int)) := by rw [hw2]; simp
          have d2 : w2.cell? ⟨wr.heap.size, 2, none⟩ = some (.int .i64 c) := by rw [hw2]; simp
          have y0 := HS2.out.fw.t0
          have y1 := HS2.out.far.cell hfr
          have y2 := HS2.out.far.cell ht
          clear HS
          cases hfar : far fr with
          | none =>
            rw [valI_none hfar] at y1
            clear hfar
            obtain ⟨big, hbig2⟩ : ∃ b : Int, b = 1152921504606846976 := ⟨_, rfl⟩
            rw [← hbig2] at y1
            generalize valI far t = dt at *
            have HSS : Hid (ShortS g1 gf wr.heap.size N cf (fr : Int) (t : Int) c big dt fr t (World.drew (wr.alloc (.cells #[.int .i64 (fr : Int), .int .i64 (t : Int), .int .i64 c] 41)))) := Lib.hid (by rw [← hw2]; exact ⟨y0, d0, d1, d2, y1, y2⟩)
            clear hw2 y0 d0 d1 d2 y1 y2
            go_wp2_with fail
            rw [← hbig2]
            clear hbig2
            refine wp_region_held_drew (S := ShortS g1 gf wr.heap.size N cf (fr : Int) (t : Int) c big dt fr t) (by kernel_rfl) HSS.out (fun hHeld => ?_)
            refine wpAnyH_take (i := 0) (v := ?_) rfl (by kernel_rfl) (by kernel_rfl) (by kernel_rfl) (fun _ _ _ h => h) (Or.inl ⟨by rfl, ?_⟩) hHeld ?_
            rotate_left
            · intro W0 hW; obtain ⟨hW1, hW2, hW3, hW4, hW5, hW6⟩ := hW; go_simp; (try with_reducible rfl)
            try simp only [Act.put, List.setIfInBounds_toArray, List.set_cons_zero, List.set_cons_succ, List.getElem_toArray, List.getElem_cons_zero]
            refine wpAnyH_take (i := 1) (v := ?_) rfl (by kernel_rfl) (by kernel_rfl) (by kernel_rfl) (fun _ _ _ h => h) (Or.inl ⟨by rfl, ?_⟩) hHeld ?_
            rotate_left
            · intro W0 hW; obtain ⟨hW1, hW2, hW3, hW4, hW5, hW6⟩ := hW; go_simp; (try with_reducible rfl)
            try simp only [Act.put, List.setIfInBounds_toArray, List.set_cons_zero, List.set_cons_succ, List.getElem_toArray, List.getElem_cons_zero, List.getElem_cons_succ]
            refine wpAnyH_take (i := 2) (v := ?_) rfl (by kernel_rfl) (by kernel_rfl) (by kernel_rfl) (fun _ _ _ h => h) (Or.inl ⟨by rfl, ?_⟩) hHeld ?_
            rotate_left
            · intro W0 hW; obtain ⟨hW1, hW2, hW3, hW4, hW5, hW6⟩ := hW; go_simp; (try with_reducible rfl)
            try simp only [Act.put, List.setIfInBounds_toArray, List.set_cons_zero, List.set_cons_succ, List.getElem_toArray, List.getElem_cons_zero, List.getElem_cons_succ]
            refine wpAnyH_take (i := 3) (v := ?_) rfl (by kernel_rfl) (by kernel_rfl) (by kernel_rfl) (fun _ _ _ h => h) (Or.inl ⟨by rfl, ?_⟩) hHeld ?_
            rotate_left
            · intro W0 hW; obtain ⟨hW1, hW2, hW3, hW4, hW5, hW6⟩ := hW; go_simp; (try with_reducible rfl)
            try simp only [Act.put, List.setIfInBounds_toArray, List.set_cons_zero, List.set_cons_succ, List.getElem_toArray, List.getElem_cons_zero, List.getElem_cons_succ]
            refine wpAnyH_take (i := 4) (v := ?_) rfl (by kernel_rfl) (by kernel_rfl) (by kernel_rfl) (fun _ _ _ h => h) (Or.inl ⟨by rfl, ?_⟩) hHeld ?_
            rotate_left
            · intro W0 hW; obtain ⟨hW1, hW2, hW3, hW4, hW5, hW6⟩ := hW; go_simp; (try with_reducible rfl)
            try simp only [Act.put, List.setIfInBounds_toArray, List.set_cons_zero, List.set_cons_succ, List.getElem_toArray, List.getElem_cons_zero, List.getElem_cons_succ]
            refine wpAnyH_take (i := 5) (v := ?_) rfl (by kernel_rfl) (by kernel_rfl) (by kernel_rfl) (fun _ _ _ h => h) (Or.inl ⟨by rfl, ?_⟩) hHeld ?_
            rotate_left
            · intro W0 hW; obtain ⟨hW1, hW2, hW3, hW4, hW5, hW6⟩ := hW; go_simp; (try with_reducible rfl)
            try simp only [Act.put, List.setIfInBounds_toArray, List.set_cons_zero, List.set_cons_succ, List.getElem_toArray, List.getElem_cons_zero, List.getElem_cons_succ]
            refine wpAnyH_take (i := 6) (v := ?_) rfl (by kernel_rfl) (by kernel_rfl) (by kernel_rfl) (fun _ _ _ h => h) (Or.inl ⟨by rfl, ?_⟩) hHeld ?_
            rotate_left
            · intro W0 hW; obtain ⟨hW1, hW2, hW3, hW4, hW5, hW6⟩ := hW; go_simp; (try with_reducible rfl)
            try simp only [Act.put, List.setIfInBounds_toArray, List.set_cons_zero, List.set_cons_succ, List.getElem_toArray, List.getElem_cons_zero, List.getElem_cons_succ]
            refine wpAnyH_take (i := 7) (v := ?_) rfl (by kernel_rfl) (by kernel_rfl) (by kernel_rfl) (fun _ _ _ h => h) (Or.inl ⟨by rfl, ?_⟩) hHeld ?_
            rotate_left
            · intro W0 hW; obtain ⟨hW1, hW2, hW3, hW4, hW5, hW6⟩ := hW; go_simp; (try with_reducible rfl)
            try simp only [Act.put, List.setIfInBounds_toArray, List.set_cons_zero, List.set_cons_succ, List.getElem_toArray, List.getElem_cons_zero, List.getElem_cons_succ]
            refine wpAnyH_take (i := 8) (v := undef) rfl (by kernel_rfl) (by kernel_rfl) (by kernel_rfl) (fun _ _ _ h => h) (Or.inr ⟨by rfl, rfl⟩) hHeld ?_
            try simp only [Act.put, List.setIfInBounds_toArray, List.set_cons_zero, List.set_cons_succ, List.getElem_toArray, List.getElem_cons_zero, List.getElem_cons_succ]
            refine wpAnyH_take (i := 9) (v := undef) rfl (by kernel_rfl) (by kernel_rfl) (by kernel_rfl) (fun _ _ _ h => h) (Or.inr ⟨by rfl, rfl⟩) hHeld ?_
            try simp only [Act.put, List.setIfInBounds_toArray, List.set_cons_zero, List.set_cons_succ, List.getElem_toArray, List.getElem_cons_zero, List.getElem_cons_succ]
            refine wpAnyH_take (i := 10) (v := undef) rfl (by kernel_rfl) (by kernel_rfl) (by kernel_rfl) (fun _ _ _ h => h) (Or.inr ⟨by rfl, rfl⟩) hHeld ?_
            try simp only [Act.put, List.setIfInBounds_toArray, List.set_cons_zero, List.set_cons_succ, List.getElem_toArray, List.getElem_cons_zero, List.getElem_cons_succ]
            refine wpAnyH_take (i := 11) (v := undef) rfl (by kernel_rfl) (by kernel_rfl) (by kernel_rfl) (fun _ _ _ h => h) (Or.inr ⟨by rfl, rfl⟩) hHeld ?_
            try simp only [Act.put, List.setIfInBounds_toArray, List.set_cons_zero, List.set_cons_succ, List.getElem_toArray, List.getElem_cons_zero, List.getElem_cons_succ]
            refine wpAnyH_take (i := 12) (v := undef) rfl (by kernel_rfl) (by kernel_rfl) (by kernel_rfl) (fun _ _ _ h => h) (Or.inr ⟨by rfl, rfl⟩) hHeld ?_
            try simp only [Act.put, List.setIfInBounds_toArray, List.set_cons_zero, List.set_cons_succ, List.getElem_toArray, List.getElem_cons_zero, List.getElem_cons_succ]
            refine wpAnyH_take (i := 13) (v := undef) rfl (by kernel_rfl) (by kernel_rfl) (by kernel_rfl) (fun _ _ _ h => h) (Or.inr ⟨by rfl, rfl⟩) hHeld ?_
            try simp only [Act.put, List.setIfInBounds_toArray, List.set_cons_zero, List.set_cons_succ, List.getElem_toArray, List.getElem_cons_zero, List.getElem_cons_succ]
            refine wpAnyH_take (i := 14) (v := undef) rfl (by kernel_rfl) (by kernel_rfl) (by kernel_rfl) (fun _ _ _ h => h) (Or.inr ⟨by rfl, rfl⟩) hHeld ?_
            try simp only [Act.put, List.setIfInBounds_toArray, List.set_cons_zero, List.set_cons_succ, List.getElem_toArray, List.getElem_cons_zero, List.getElem_cons_succ]
            refine wpAnyH_take (i := 15) (v := undef) rfl (by kernel_rfl) (by kernel_rfl) (by kernel_rfl) (fun _ _ _ h => h) (Or.inr ⟨by rfl, rfl⟩) hHeld ?_
            try simp only [Act.put, List.setIfInBounds_toArray, List.set_cons_zero, List.set_cons_succ, List.getElem_toArray, List.getElem_cons_zero, List.getElem_cons_succ]
            refine wpAnyH_take (i := 16) (v := undef) rfl (by kernel_rfl) (by kernel_rfl) (by kernel_rfl) (fun _ _ _ h => h) (Or.inr ⟨by rfl, rfl⟩) hHeld ?_
            try simp only [Act.put, List.setIfInBounds_toArray, List.set_cons_zero, List.set_cons_succ, List.getElem_toArray, List.getElem_cons_zero, List.getElem_cons_succ]
            refine wpAnyH_take (i := 17) (v := undef) rfl (by kernel_rfl) (by kernel_rfl) (by kernel_rfl) (fun _ _ _ h => h) (Or.inr ⟨by rfl, rfl⟩) hHeld ?_
            try simp only [Act.put, List.setIfInBounds_toArray, List.set_cons_zero, List.set_cons_succ, List.getElem_toArray, List.getElem_cons_zero, List.getElem_cons_succ]
            refine wpAnyH_take (i := 18) (v := undef) rfl (by kernel_rfl) (by kernel_rfl) (by kernel_rfl) (fun _ _ _ h => h) (Or.inr ⟨by rfl, rfl⟩) hHeld ?_
            try simp only [Act.put, List.setIfInBounds_toArray, List.set_cons_zero, List.set_cons_succ, List.getElem_toArray, List.getElem_cons_zero, List.getElem_cons_succ]
            refine wpAnyH_take (i := 19) (v := undef) rfl (by kernel_rfl) (by kernel_rfl) (by kernel_rfl) (fun _ _ _ h => h) (Or.inr ⟨by rfl, rfl⟩) hHeld ?_
            try simp only [Act.put, List.setIfInBounds_toArray, List.set_cons_zero, List.set_cons_succ, List.getElem_toArray, List.getElem_cons_zero, List.getElem_cons_succ]
            refine wpAnyH_take (i := 20) (v := undef) rfl (by kernel_rfl) (by kernel_rfl) (by kernel_rfl) (fun _ _ _ h => h) (Or.inr ⟨by rfl, rfl⟩) hHeld ?_
            try simp only [Act.put, List.setIfInBounds_toArray, List.set_cons_zero, List.set_cons_succ, List.getElem_toArray, List.getElem_cons_zero, List.getElem_cons_succ]
            refine wpAnyH_take (i := 21) (v := undef) rfl (by kernel_rfl) (by kernel_rfl) (by kernel_rfl) (fun _ _ _ h => h) (Or.inr ⟨by rfl, rfl⟩) hHeld ?_
            try simp only [Act.put, List.setIfInBounds_toArray, List.set_cons_zero, List.set_cons_succ, List.getElem_toArray, List.getElem_cons_zero, List.getElem_cons_succ]
            refine wpAnyH_take (i := 22) (v := undef) rfl (by kernel_rfl) (by kernel_rfl) (by kernel_rfl) (fun _ _ _ h => h) (Or.inr ⟨by rfl, rfl⟩) hHeld ?_
            try simp only [Act.put, List.setIfInBounds_toArray, List.set_cons_zero, List.set_cons_succ, List.getElem_toArray, List.getElem_cons_zero, List.getElem_cons_succ]
            refine wpAnyH_take (i := 23) (v := undef) rfl (by kernel_rfl) (by kernel_rfl) (by kernel_rfl) (fun _ _ _ h => h) (Or.inr ⟨by rfl, rfl⟩) hHeld ?_
            try simp only [Act.put, List.setIfInBounds_toArray, List.set_cons_zero, List.set_cons_succ, List.getElem_toArray, List.getElem_cons_zero, List.getElem_cons_succ]
            refine wpAnyH_take (i := 24) (v := ?_) rfl (by kernel_rfl) (by kernel_rfl) (by kernel_rfl) (fun _ _ _ h => h) (Or.inl ⟨by rfl, ?_⟩) hHeld ?_
            rotate_left
            · intro W0 hW; obtain ⟨hW1, hW2, hW3, hW4, hW5, hW6⟩ := hW; go_simp; (try with_reducible rfl)
            try simp only [Act.put, List.setIfInBounds_toArray, List.set_cons_zero, List.set_cons_succ, List.getElem_toArray, List.getElem_cons_zero, List.getElem_cons_succ]
            refine wpAnyH_done (by kernel_rfl) ?_ _
            clear hHeld
            go_wp2_with fail
            go_roundw
            case rel => exact ⟨k + 1, by go_num, by omega, by rw [← HW2.out]; exact HS2⟩
            case measure => simp [intOf]; omega
          | some p =>
            rw [valI_some hfar] at y1
            have hps := HSM.out fr p hfar
            have hpne : (p != 1152921504606846976) = true := by simp; omega
            have hw1 : IntKind.i64.wrap (p + c) = p + c := by rw [IntKind.wrap_i64]; omega
            have hgt := arc_far HT.out.dist HXX.out rfl rfl hfar
            simp only at hgt
            generalize valI far t = dt at y2 hgt
            have hgt2 : decide (p + c < dt) = false := by simpa using hgt
            clear hfar hps
            have HSS : Hid (ShortS g1 gf wr.heap.size N cf (fr : Int) (t : Int) c p dt fr t (World.drew (wr.alloc (.cells #[.int .i64 (fr : Int), .int .i64 (t : Int), .int .i64 c] 41)))) := Lib.hid (by rw [← hw2]; exact ⟨y0, d0, d1, d2, y1, y2⟩)
            clear hw2 y0 d0 d1 d2 y1 y2
            go_wp2_with fail
            generalize (1152921504606846976 : Int) = big at hpne ⊢
            refine wp_region_held_drew (S := ShortS g1 gf wr.heap.size N cf (fr : Int) (t : Int) c p dt fr t) (by kernel_rfl) HSS.out (fun hHeld => ?_)
            refine wpAnyH_take (i := 0) (v := ?_) rfl (by kernel_rfl) (by kernel_rfl) (by kernel_rfl) (fun _ _ _ h => h) (Or.inl ⟨by rfl, ?_⟩) hHeld ?_
            rotate_left
            · intro W0 hW; obtain ⟨hW1, hW2, hW3, hW4, hW5, hW6⟩ := hW; go_simp; (try with_reducible rfl)
            try simp only [Act.put, List.setIfInBounds_toArray, List.set_cons_zero, List.set_cons_succ, List.getElem_toArray, List.getElem_cons_zero]
            refine wpAnyH_take (i := 1) (v := ?_) rfl (by kernel_rfl) (by kernel_rfl) (by kernel_rfl) (fun _ _ _ h => h) (Or.inl ⟨by rfl, ?_⟩) hHeld ?_
            rotate_left
            · intro W0 hW; obtain ⟨hW1, hW2, hW3, hW4, hW5, hW6⟩ := hW; go_simp; (try with_reducible rfl)
            try simp only [Act.put, List.setIfInBounds_toArray, List.set_cons_zero, List.set_cons_succ, List.getElem_toArray, List.getElem_cons_zero, List.getElem_cons_succ]
            refine wpAnyH_take (i := 2) (v := ?_) rfl (by kernel_rfl) (by kernel_rfl) (by kernel_rfl) (fun _ _ _ h => h) (Or.inl ⟨by rfl, ?_⟩) hHeld ?_
            rotate_left
            · intro W0 hW; obtain ⟨hW1, hW2, hW3, hW4, hW5, hW6⟩ := hW; go_simp; (try with_reducible rfl)
            try simp only [Act.put, List.setIfInBounds_toArray, List.set_cons_zero, List.set_cons_succ, List.getElem_toArray, List.getElem_cons_zero, List.getElem_cons_succ]
            refine wpAnyH_take (i := 3) (v := ?_) rfl (by kernel_rfl) (by kernel_rfl) (by kernel_rfl) (fun _ _ _ h => h) (Or.inl ⟨by rfl, ?_⟩) hHeld ?_
            rotate_left
            · intro W0 hW; obtain ⟨hW1, hW2, hW3, hW4, hW5, hW6⟩ := hW; go_simp; (try with_reducible rfl)
            try simp only [Act.put, List.setIfInBounds_toArray, List.set_cons_zero, List.set_cons_succ, List.getElem_toArray, List.getElem_cons_zero, List.getElem_cons_succ]
            refine wpAnyH_take (i := 4) (v := ?_) rfl (by kernel_rfl) (by kernel_rfl) (by kernel_rfl) (fun _ _ _ h => h) (Or.inl ⟨by rfl, ?_⟩) hHeld ?_
            rotate_left
            · intro W0 hW; obtain ⟨hW1, hW2, hW3, hW4, hW5, hW6⟩ := hW; go_simp; (try with_reducible rfl)
            try simp only [Act.put, List.setIfInBounds_toArray, List.set_cons_zero, List.set_cons_succ, List.getElem_toArray, List.getElem_cons_zero, List.getElem_cons_succ]
            refine wpAnyH_take (i := 5) (v := ?_) rfl (by kernel_rfl) (by kernel_rfl) (by kernel_rfl) (fun _ _ _ h => h) (Or.inl ⟨by rfl, ?_⟩) hHeld ?_
            rotate_left
            · intro W0 hW; obtain ⟨hW1, hW2, hW3, hW4, hW5, hW6⟩ := hW; go_simp; (try with_reducible rfl)
            try simp only [Act.put, List.setIfInBounds_toArray, List.set_cons_zero, List.set_cons_succ, List.getElem_toArray, List.getElem_cons_zero, List.getElem_cons_succ]
            refine wpAnyH_take (i := 6) (v := ?_) rfl (by kernel_rfl) (by kernel_rfl) (by kernel_rfl) (fun _ _ _ h => h) (Or.inl ⟨by rfl, ?_⟩) hHeld ?_
            rotate_left
            · intro W0 hW; obtain ⟨hW1, hW2, hW3, hW4, hW5, hW6⟩ := hW; go_simp; (try with_reducible rfl)
            try simp only [Act.put, List.setIfInBounds_toArray, List.set_cons_zero, List.set_cons_succ, List.getElem_toArray, List.getElem_cons_zero, List.getElem_cons_succ]
            refine wpAnyH_take (i := 7) (v := ?_) rfl (by kernel_rfl) (by kernel_rfl) (by kernel_rfl) (fun _ _ _ h => h) (Or.inl ⟨by rfl, ?_⟩) hHeld ?_
            rotate_left
            · intro W0 hW; obtain ⟨hW1, hW2, hW3, hW4, hW5, hW6⟩ := hW; go_simp; (try with_reducible rfl)
            try simp only [Act.put, List.setIfInBounds_toArray, List.set_cons_zero, List.set_cons_succ, List.getElem_toArray, List.getElem_cons_zero, List.getElem_cons_succ]
            refine wpAnyH_take (i := 8) (v := ?_) rfl (by kernel_rfl) (by kernel_rfl) (by kernel_rfl) (fun _ _ _ h => h) (Or.inl ⟨by rfl, ?_⟩) hHeld ?_
            rotate_left
            · intro W0 hW; obtain ⟨hW1, hW2, hW3, hW4, hW5, hW6⟩ := hW; go_simp; (try with_reducible rfl)
            try simp only [Act.put, List.setIfInBounds_toArray, List.set_cons_zero, List.set_cons_succ, List.getElem_toArray, List.getElem_cons_zero, List.getElem_cons_succ]
            refine wpAnyH_take (i := 9) (v := ?_) rfl (by kernel_rfl) (by kernel_rfl) (by kernel_rfl) (fun _ _ _ h => h) (Or.inl ⟨by rfl, ?_⟩) hHeld ?_
            rotate_left
            · intro W0 hW; obtain ⟨hW1, hW2, hW3, hW4, hW5, hW6⟩ := hW; go_simp; (try with_reducible rfl)
            try simp only [Act.put, List.setIfInBounds_toArray, List.set_cons_zero, List.set_cons_succ, List.getElem_toArray, List.getElem_cons_zero, List.getElem_cons_succ]
            refine wpAnyH_take (i := 10) (v := ?_) rfl (by kernel_rfl) (by kernel_rfl) (by kernel_rfl) (fun _ _ _ h => h) (Or.inl ⟨by rfl, ?_⟩) hHeld ?_
            rotate_left
            · intro W0 hW; obtain ⟨hW1, hW2, hW3, hW4, hW5, hW6⟩ := hW; go_simp; (try with_reducible rfl)
            try simp only [Act.put, List.setIfInBounds_toArray, List.set_cons_zero, List.set_cons_succ, List.getElem_toArray, List.getElem_cons_zero, List.getElem_cons_succ]
            refine wpAnyH_take (i := 11) (v := ?_) rfl (by kernel_rfl) (by kernel_rfl) (by kernel_rfl) (fun _ _ _ h => h) (Or.inl ⟨by rfl, ?_⟩) hHeld ?_
            rotate_left
            · intro W0 hW; obtain ⟨hW1, hW2, hW3, hW4, hW5, hW6⟩ := hW; go_simp; (try with_reducible rfl)
            try simp only [Act.put, List.setIfInBounds_toArray, List.set_cons_zero, List.set_cons_succ, List.getElem_toArray, List.getElem_cons_zero, List.getElem_cons_succ]
            refine wpAnyH_take (i := 12) (v := ?_) rfl (by kernel_rfl) (by kernel_rfl) (by kernel_rfl) (fun _ _ _ h => h) (Or.inl ⟨by rfl, ?_⟩) hHeld ?_
            rotate_left
            · intro W0 hW; obtain ⟨hW1, hW2, hW3, hW4, hW5, hW6⟩ := hW; go_simp; (try with_reducible rfl)
            try simp only [Act.put, List.setIfInBounds_toArray, List.set_cons_zero, List.set_cons_succ, List.getElem_toArray, List.getElem_cons_zero, List.getElem_cons_succ]
            refine wpAnyH_take (i := 13) (v := ?_) rfl (by kernel_rfl) (by kernel_rfl) (by kernel_rfl) (fun _ _ _ h => h) (Or.inl ⟨by rfl, ?_⟩) hHeld ?_
            rotate_left
            · intro W0 hW; obtain ⟨hW1, hW2, hW3, hW4, hW5, hW6⟩ := hW; go_simp; (try with_reducible rfl)
            try simp only [Act.put, List.setIfInBounds_toArray, List.set_cons_zero, List.set_cons_succ, List.getElem_toArray, List.getElem_cons_zero, List.getElem_cons_succ]
            refine wpAnyH_take (i := 14) (v := ?_) rfl (by kernel_rfl) (by kernel_rfl) (by kernel_rfl) (fun _ _ _ h => h) (Or.inl ⟨by rfl, ?_⟩) hHeld ?_
            rotate_left
            · intro W0 hW; obtain ⟨hW1, hW2, hW3, hW4, hW5, hW6⟩ := hW; go_simp; (try with_reducible rfl)
            try simp only [Act.put, List.setIfInBounds_toArray, List.set_cons_zero, List.set_cons_succ, List.getElem_toArray, List.getElem_cons_zero, List.getElem_cons_succ]
            refine wpAnyH_take (i := 15) (v := ?_) rfl (by kernel_rfl) (by kernel_rfl) (by kernel_rfl) (fun _ _ _ h => h) (Or.inl ⟨by rfl, ?_⟩) hHeld ?_
            rotate_left
            · intro W0 hW; obtain ⟨hW1, hW2, hW3, hW4, hW5, hW6⟩ := hW; go_simp; (try with_reducible rfl)
            try simp only [Act.put, List.setIfInBounds_toArray, List.set_cons_zero, List.set_cons_succ, List.getElem_toArray, List.getElem_cons_zero, List.getElem_cons_succ]
            refine wpAnyH_take (i := 16) (v := ?_) rfl (by kernel_rfl) (by kernel_rfl) (by kernel_rfl) (fun _ _ _ h => h) (Or.inl ⟨by rfl, ?_⟩) hHeld ?_
            rotate_left
            · intro W0 hW; obtain ⟨hW1, hW2, hW3, hW4, hW5, hW6⟩ := hW; go_simp; (try with_reducible rfl)
            try simp only [Act.put, List.setIfInBounds_toArray, List.set_cons_zero, List.set_cons_succ, List.getElem_toArray, List.getElem_cons_zero, List.getElem_cons_succ]
            refine wpAnyH_take (i := 17) (v := ?_) rfl (by kernel_rfl) (by kernel_rfl) (by kernel_rfl) (fun _ _ _ h => h) (Or.inl ⟨by rfl, ?_⟩) hHeld ?_
            rotate_left
            · intro W0 hW; obtain ⟨hW1, hW2, hW3, hW4, hW5, hW6⟩ := hW; go_simp; (try with_reducible rfl)
            try simp only [Act.put, List.setIfInBounds_toArray, List.set_cons_zero, List.set_cons_succ, List.getElem_toArray, List.getElem_cons_zero, List.getElem_cons_succ]
            refine wpAnyH_take (i := 18) (v := ?_) rfl (by kernel_rfl) (by kernel_rfl) (by kernel_rfl) (fun _ _ _ h => h) (Or.inl ⟨by rfl, ?_⟩) hHeld ?_
            rotate_left
            · intro W0 hW; obtain ⟨hW1, hW2, hW3, hW4, hW5, hW6⟩ := hW; go_simp; (try with_reducible rfl)
            try simp only [Act.put, List.setIfInBounds_toArray, List.set_cons_zero, List.set_cons_succ, List.getElem_toArray, List.getElem_cons_zero, List.getElem_cons_succ]
            refine wpAnyH_take (i := 19) (v := ?_) rfl (by kernel_rfl) (by kernel_rfl) (by kernel_rfl) (fun _ _ _ h => h) (Or.inl ⟨by rfl, ?_⟩) hHeld ?_
            rotate_left
            · intro W0 hW; obtain ⟨hW1, hW2, hW3, hW4, hW5, hW6⟩ := hW; go_simp; (try with_reducible rfl)
            try simp only [Act.put, List.setIfInBounds_toArray, List.set_cons_zero, List.set_cons_succ, List.getElem_toArray, List.getElem_cons_zero, List.getElem_cons_succ]
            refine wpAnyH_take (i := 20) (v := ?_) rfl (by kernel_rfl) (by kernel_rfl) (by kernel_rfl) (fun _ _ _ h => h) (Or.inl ⟨by rfl, ?_⟩) hHeld ?_
            rotate_left
            · intro W0 hW; obtain ⟨hW1, hW2, hW3, hW4, hW5, hW6⟩ := hW; go_simp; (try with_reducible rfl)
            try simp only [Act.put, List.setIfInBounds_toArray, List.set_cons_zero, List.set_cons_succ, List.getElem_toArray, List.getElem_cons_zero, List.getElem_cons_succ]
            refine wpAnyH_take (i := 21) (v := ?_) rfl (by kernel_rfl) (by kernel_rfl) (by kernel_rfl) (fun _ _ _ h => h) (Or.inl ⟨by rfl, ?_⟩) hHeld ?_
            rotate_left
            · intro W0 hW; obtain ⟨hW1, hW2, hW3, hW4, hW5, hW6⟩ := hW; go_simp; (try with_reducible rfl)
            try simp only [Act.put, List.setIfInBounds_toArray, List.set_cons_zero, List.set_cons_succ, List.getElem_toArray, List.getElem_cons_zero, List.getElem_cons_succ]
            refine wpAnyH_take (i := 22) (v := ?_) rfl (by kernel_rfl) (by kernel_rfl) (by kernel_rfl) (fun _ _ _ h => h) (Or.inl ⟨by rfl, ?_⟩) hHeld ?_
            rotate_left
            · intro W0 hW; obtain ⟨hW1, hW2, hW3, hW4, hW5, hW6⟩ := hW; go_simp; (try with_reducible rfl)
            try simp only [Act.put, List.setIfInBounds_toArray, List.set_cons_zero, List.set_cons_succ, List.getElem_toArray, List.getElem_cons_zero, List.getElem_cons_succ]
            try simp only [hw1]
            refine wpAnyH_take (i := 23) (v := ?_) rfl (by kernel_rfl) (by kernel_rfl) (by kernel_rfl) (fun _ _ _ h => h) (Or.inl ⟨by rfl, ?_⟩) hHeld ?_
            rotate_left
            · intro W0 hW; obtain ⟨hW1, hW2, hW3, hW4, hW5, hW6⟩ := hW; go_simp; (try with_reducible rfl)
            try simp only [Act.put, List.setIfInBounds_toArray, List.set_cons_zero, List.set_cons_succ, List.getElem_toArray, List.getElem_cons_zero, List.getElem_cons_succ]
            refine wpAnyH_take (i := 24) (v := ?_) rfl (by kernel_rfl) (by kernel_rfl) (by kernel_rfl) (fun _ _ _ h => h) (Or.inl ⟨by rfl, ?_⟩) hHeld ?_
            rotate_left
            · intro W0 hW; obtain ⟨hW1, hW2, hW3, hW4, hW5, hW6⟩ := hW; go_simp; (try with_reducible rfl)
            try simp only [Act.put, List.setIfInBounds_toArray, List.set_cons_zero, List.set_cons_succ, List.getElem_toArray, List.getElem_cons_zero, List.getElem_cons_succ]
            refine wpAnyH_done (by kernel_rfl) ?_ _
            clear hHeld
            go_wp2_with fail
            go_roundw
            case rel => exact ⟨k + 1, by go_num, by omega, by rw [← HW2.out]; exact HS2⟩
            case measure => simp [intOf]; omega
        · obtain ⟨i0, hi, hz0, hz1, hz2⟩ := info_parts infoLink
          have hlen20 : l.length ≤ 20 := by have := HLn.out; omega
          have HB0 := Lib.hid (Below.refl (World.heap wr).size wr).drew
          go_wp2_with fail
          refine wp_region_held_drew (S := MoreS (World.heap w).size mo.1 mo.2.1 mo.2.2) (by kernel_rfl) (HS.out.later HB0.out).more (fun hHeld => ?_)
          generalize hw0 : World.drew wr = w0 at HB0 hHeld ⊢
          clear hw0
          refine wpAnyH_take (i := 0) (v := ?_) rfl (by kernel_rfl) (by kernel_rfl) (by kernel_rfl) (fun _ _ _ h => h) (Or.inl ⟨by rfl, ?_⟩) hHeld ?_
          rotate_left
          · intro W0 hW; obtain ⟨hW1, hW2, hW3⟩ := hW; go_simp; (try with_reducible rfl)
          try simp only [Act.put, List.setIfInBounds_toArray, List.set_cons_zero, List.set_cons_succ, List.getElem_toArray, List.getElem_cons_zero]
          refine wpAnyH_take (i := 1) (v := ?_) rfl (by kernel_rfl) (by kernel_rfl) (by kernel_rfl) (fun _ _ _ h => h) (Or.inl ⟨by rfl, ?_⟩) hHeld ?_
          rotate_left
          · intro W0 hW; obtain ⟨hW1, hW2, hW3⟩ := hW; go_simp; (try with_reducible rfl)
          try simp only [Act.put, List.setIfInBounds_toArray, List.set_cons_zero, List.set_cons_succ, List.getElem_toArray, List.getElem_cons_zero, List.getElem_cons_succ]
          refine wpAnyH_take (i := 3) (v := ?_) rfl (by kernel_rfl) (by kernel_rfl) (by kernel_rfl) (fun _ _ _ h => h) (Or.inl ⟨by rfl, ?_⟩) hHeld ?_
          rotate_left
          · intro W0 hW; obtain ⟨hW1, hW2, hW3⟩ := hW; go_simp; (try with_reducible rfl)
          try simp only [Act.put, List.setIfInBounds_toArray, List.set_cons_zero, List.set_cons_succ, List.getElem_toArray, List.getElem_cons_zero, List.getElem_cons_succ]
          refine wpAnyH_take (i := 7) (v := ?_) rfl (by kernel_rfl) (by kernel_rfl) (by kernel_rfl) (fun _ _ _ h => h) (Or.inl ⟨by rfl, ?_⟩) hHeld ?_
          rotate_left
          · intro W0 hW; obtain ⟨hW1, hW2, hW3⟩ := hW; go_simp; (try with_reducible rfl)
          try simp only [Act.put, List.setIfInBounds_toArray, List.set_cons_zero, List.set_cons_succ, List.getElem_toArray, List.getElem_cons_zero, List.getElem_cons_succ]
          refine wpAnyH_ready (rs := [2, 4, 12]) (by kernel_rfl) (by simp) ?_
          refine AllReadyH.cons rfl (fun K hK => ?_) (AllReadyH.cons rfl (fun K hK => ?_) (AllReadyH.cons rfl (fun K hK => ?_) AllReadyH.nil))
          · go_simp
            refine (cloneLinks ((HL.out.later (HS.out.fw.box.below.trans (HB0.out.mono HS.out.fw.box.below.size))).mono (HS.out.fw.box.below.trans (HB0.out.mono HS.out.fw.box.below.size)).size) (by omega) HCP.out).mono ?_
            rintro e w1 ⟨v6, rfl, hr6, hb6⟩
            obtain ⟨va, vc, hv⟩ := owns_shape hr6
            subst hv
            have HB1 := Lib.hid (HB0.out.trans (hb6.mono HB0.out.size))
            have HR1 := Lib.hid (owns_rebase hr6 HB0.out.size)
            clear hr6 hb6 HB0
            refine hK.out _ _ ?_ (fun hHeld => ?_)
            · exact (HS.out.later HB1.out).more
            clear hK K
            try simp only [Act.put, List.setIfInBounds_toArray, List.set_cons_zero, List.set_cons_succ, List.getElem_toArray, List.getElem_cons_zero, List.getElem_cons_succ]
            refine wpAnyH_ready (rs := [4, 12]) (by kernel_rfl) (by simp) ?_
            refine AllReadyH.cons rfl (fun K hK => ?_) (AllReadyH.cons rfl (fun K hK => ?_) AllReadyH.nil)
            · go_simp
              have HB2 := Lib.hid (HB1.out.alloc HB1.out.size (.cells #[.int .u8 mo.1, .int .u8 mo.2.1, .int .i16 mo.2.2] 50))
              have HR2 := Lib.hid (owns_below HR1.out (((Below.refl (World.heap w1).size w1).alloc (Nat.le_refl _) (.cells #[.int .u8 mo.1, .int .u8 mo.2.1, .int .i16 mo.2.2] 50))))
              have HN2 := Lib.hid (newsL_at w1 mo 50 (World.heap w1).size rfl)
              have HNZ2 := Lib.hid (show (World.heap w1).size < (World.heap (World.alloc w1 (.cells #[.int .u8 mo.1, .int .u8 mo.2.1, .int .i16 mo.2.2] 50))).size by simp)
              refine hK.out _ _ ?_ (fun hHeld => ?_)
              · exact (HS.out.later HB2.out).more
              clear hK K
              try simp only [Act.put, List.setIfInBounds_toArray, List.set_cons_zero, List.set_cons_succ, List.getElem_toArray, List.getElem_cons_zero, List.getElem_cons_succ]
              generalize hw2 : World.alloc w1 (.cells #[.int .u8 mo.1, .int .u8 mo.2.1, .int .i16 mo.2.2] 50) = w2 at HB2 HR2 HN2 HNZ2 hHeld ⊢
              clear hw2 HB1 HR1
              generalize (World.heap w1).size = z2 at HN2  HNZ2 ⊢
              refine wpAnyH_ready (rs := [5, 12]) (by kernel_rfl) (by simp) ?_
              refine AllReadyH.cons rfl (fun K hK => ?_) (AllReadyH.cons rfl (fun K hK => ?_) AllReadyH.nil)
              · refine step_append_fresh rfl (.tmp 83) (.tmp 85) 22 rfl (World.heap wr).size 50 i0 _ 3 4 Try.underlying22 hi hz0 hz1 hz2 (by decide) (.slice va l.length vc) l.length (flatL l) rfl HR2.out ⟨z2, 0, none⟩ 1 (encL mo) rfl rfl HN2.out (oneL1 _) (by unfold maxLen; omega) (by omega) HB2.out.size ?_
                intro g' cp7 w3 hown hgrow hfr
                have HB3 := Lib.hid (((Mod.of_below (fun k => (World.heap wr).size ≤ k) HB2.out).grown hgrow (fun k hk => .inr (World.ownsRow.lt HR2.out k hk).1)).below (Nat.le_refl _) (fun k hk => hk))
                have HL3 : Hid (IsLinks (World.heap w3).size w3 (some ⟨g', 0, none⟩) (l.length + 1) (l ++ [mo])) := Lib.hid (owns_links (l := l ++ [mo]) (by rw [flatL_snoc, List.length_append]; exact hown) HSA.out).2
                clear hown hgrow hfr HB2 HR2 HN2 HNZ2
                refine hK.out _ _ ?_ (fun hHeld => ?_)
                · exact (HS.out.later HB3.out).more
                clear hK K
                try simp only [Act.put, List.setIfInBounds_toArray, List.set_cons_zero, List.set_cons_succ, List.getElem_toArray, List.getElem_cons_zero, List.getElem_cons_succ]
                refine wpAnyH_ready (rs := [6, 12]) (by kernel_rfl) (by simp) ?_
                refine AllReadyH.cons rfl (fun K hK => ?_) (AllReadyH.cons rfl (fun K hK => ?_) AllReadyH.nil)
                · go_simp
                  refine (HMK.out (l.length + 1) (l ++ [mo]) _ _ _ (by omega) HL3.out).mono ?_
                  rintro e w4 ⟨lv8, rfl, hrow8, hb8⟩
                  rw [HLn.out, HX2.out] at hrow8
                  obtain ⟨la8, lc8, hv⟩ := owns_shape hrow8
                  subst hv
                  have h9 := (owns_arcs hrow8).2
                  rw [show (xs ++ [arcOf (N : Int) mo]).length = xs.length + 1 by simp] at h9
                  have HB4 := Lib.hid (HB3.out.trans (hb8.mono HB3.out.size))
                  have HA4 := Lib.hid h9
                  clear hrow8 hb8 h9 HB3 HL3
                  refine hK.out _ _ ?_ (fun hHeld => ?_)
                  · exact (HS.out.later HB4.out).more
                  clear hK K
                  try simp only [Act.put, List.setIfInBounds_toArray, List.set_cons_zero, List.set_cons_succ, List.getElem_toArray, List.getElem_cons_zero, List.getElem_cons_succ]
                  refine wpAnyH_ready (rs := [8, 12]) (by kernel_rfl) (by simp) ?_
                  refine AllReadyH.cons rfl (fun K hK => ?_) (AllReadyH.cons rfl (fun K hK => ?_) AllReadyH.nil)
                  · by_cases hneg2 : Neg (xs ++ [arcOf (N : Int) mo]) q
                    · have HN2 := Lib.hid hneg2
                      clear hneg2
                      go_simp
                      refine (P.from_neg hqN HC2.out HN2.out _ _ HA4.out).mono ?_
                      rintro e w5 ⟨hb9, a1, c1, a2, c2, rfl⟩
                      have HB5 := Lib.hid (HB4.out.trans (hb9.mono HB4.out.size))
                      clear hb9 HB4 HA4
                      refine hK.out _ _ ?_ (fun hHeld => ?_)
                      · exact (HS.out.later HB5.out).more
                      clear hK K
                      try simp only [Act.put, List.setIfInBounds_toArray, List.set_cons_zero, List.set_cons_succ, List.getElem_toArray, List.getElem_cons_zero, List.getElem_cons_succ]
                      refine wpAnyH_take (i := 9) (v := ?_) rfl (by kernel_rfl) (by kernel_rfl) (by kernel_rfl) (fun _ _ _ h => h) (Or.inl ⟨by rfl, ?_⟩) hHeld ?_
                      rotate_left
                      · intro W0 hW; obtain ⟨hW1, hW2, hW3⟩ := hW; go_simp; (try with_reducible rfl)
                      try simp only [Act.put, List.setIfInBounds_toArray, List.set_cons_zero, List.set_cons_succ, List.getElem_toArray, List.getElem_cons_zero, List.getElem_cons_succ]
                      refine wpAnyH_take (i := 10) (v := ?_) rfl (by kernel_rfl) (by kernel_rfl) (by kernel_rfl) (fun _ _ _ h => h) (Or.inl ⟨by rfl, ?_⟩) hHeld ?_
                      rotate_left
                      · intro W0 hW; obtain ⟨hW1, hW2, hW3⟩ := hW; go_simp; (try with_reducible rfl)
                      try simp only [Act.put, List.setIfInBounds_toArray, List.set_cons_zero, List.set_cons_succ, List.getElem_toArray, List.getElem_cons_zero, List.getElem_cons_succ]
                      refine wpAnyH_take (i := 11) (v := ?_) rfl (by kernel_rfl) (by kernel_rfl) (by kernel_rfl) (fun _ _ _ h => h) (Or.inl ⟨by rfl, ?_⟩) hHeld ?_
                      rotate_left
                      · intro W0 hW; obtain ⟨hW1, hW2, hW3⟩ := hW; go_simp; (try with_reducible rfl)
                      try simp only [Act.put, List.setIfInBounds_toArray, List.set_cons_zero, List.set_cons_succ, List.getElem_toArray, List.getElem_cons_zero, List.getElem_cons_succ]
                      refine wpAnyH_ready (rs := [12]) (by kernel_rfl) (by simp) ?_
                      refine AllReadyH.cons rfl (fun K hK => ?_) AllReadyH.nil
                      go_simp
                      have HB6 := Lib.hid (HB5.out.alloc HB5.out.size (.cells #[.slice none 0 0, .slice none 0 0] 31))
                      have HZ6 := Lib.hid (And.intro (heap_alloc_new w5 (.cells #[.slice none 0 0, .slice none 0 0] 31)) HB5.out.size)
                      refine hK.out _ _ ?_ (fun hHeld => ?_)
                      · exact (HS.out.later HB6.out).more
                      clear hK K
                      try simp only [Act.put, List.setIfInBounds_toArray, List.set_cons_zero, List.set_cons_succ, List.getElem_toArray, List.getElem_cons_zero, List.getElem_cons_succ]
                      generalize hw6 : World.alloc w5 (.cells #[.slice none 0 0, .slice none 0 0] 31) = w6 at HB6 HZ6 hHeld ⊢
                      clear hw6 HB5
                      generalize (World.heap w5).size = z6 at HZ6 ⊢
                      refine wpAnyH_ready (rs := [13]) (by kernel_rfl) (by simp) ?_
                      refine AllReadyH.cons rfl (fun K hK => ?_) AllReadyH.nil
                      obtain ⟨zc0, zc1, zc2⟩ := zero_tree HZ6.out.1
                      have HT7 := Lib.hid (tree_stored HZ6.out.1 (.slice a1 0 c1) (.slice a2 0 c2)).1
                      have HB7 := Lib.hid ((HB6.out.setCell (p := ⟨z6, 0, none⟩) HZ6.out.2 (.slice a1 0 c1)).setCell (p := ⟨z6, 1, none⟩) HZ6.out.2 (.slice a2 0 c2))
                      go_simp
                      refine hK.out _ _ ?_ (fun hHeld => ?_)
                      · exact (HS.out.later HB7.out).more
                      clear hK K
                      try simp only [Act.put, List.setIfInBounds_toArray, List.set_cons_zero, List.set_cons_succ, List.getElem_toArray, List.getElem_cons_zero, List.getElem_cons_succ]
                      generalize hw7 : World.setCell (World.setCell w6 ⟨z6, 0, none⟩ (.slice a1 0 c1)) ⟨z6, 1, none⟩ (.slice a2 0 c2) = w7 at HT7 HB7 hHeld ⊢
                      clear zc0 zc1 zc2 hw7 HB6 HZ6
                      refine wpAnyH_take (i := 14) (v := ?_) rfl (by kernel_rfl) (by kernel_rfl) (by kernel_rfl) (fun _ _ _ h => h) (Or.inl ⟨by rfl, ?_⟩) hHeld ?_
                      rotate_left
                      · intro W0 hW; obtain ⟨hW1, hW2, hW3⟩ := hW; go_simp; (try with_reducible rfl)
                      try simp only [Act.put, List.setIfInBounds_toArray, List.set_cons_zero, List.set_cons_succ, List.getElem_toArray, List.getElem_cons_zero, List.getElem_cons_succ]
                      refine wpAnyH_done (by kernel_rfl) ?_ _
                      clear hHeld
                      have HS7 := Lib.hid (HS.out.later HB7.out)
                      have th0 := HS7.out.fw.box.c0
                      have th1 := HS7.out.fw.t0
                      go_wp2_with fail
                      go_ret
                      exact ⟨rfl, HS7.out.fw.box.below⟩
                    · have HN2 := Lib.hid hneg2
                      clear hneg2
                      go_simp
                      refine (from_tree2 P hqN HC2.out HN2.out _ _ _ HA4.out).mono ?_
                      rintro e w8 ⟨hb9, gf2, cf2, gb2, cb2, far2, by2, rfl, hlf2, ht2⟩
                      have HB8 := Lib.hid (HB4.out.trans (hb9.mono HB4.out.size))
                      have HT2 := Lib.hid ht2
                      have HF8 := Lib.hid (hlf2.rebase (Nat.zero_le _))
                      clear hb9 hlf2 ht2 HB4 HA4
                      refine hK.out _ _ ?_ (fun hHeld => ?_)
                      · exact (HS.out.later HB8.out).more
                      clear hK K
                      try simp only [Act.put, List.setIfInBounds_toArray, List.set_cons_zero, List.set_cons_succ, List.getElem_toArray, List.getElem_cons_zero, List.getElem_cons_succ]
                      refine wpAnyH_take (i := 9) (v := ?_) rfl (by kernel_rfl) (by kernel_rfl) (by kernel_rfl) (fun _ _ _ h => h) (Or.inl ⟨by rfl, ?_⟩) hHeld ?_
                      rotate_left
                      · intro W0 hW; obtain ⟨hW1, hW2, hW3⟩ := hW; go_simp; (try with_reducible rfl)
                      try simp only [Act.put, List.setIfInBounds_toArray, List.set_cons_zero, List.set_cons_succ, List.getElem_toArray, List.getElem_cons_zero, List.getElem_cons_succ]
                      refine wpAnyH_take (i := 10) (v := ?_) rfl (by kernel_rfl) (by kernel_rfl) (by kernel_rfl) (fun _ _ _ h => h) (Or.inl ⟨by rfl, ?_⟩) hHeld ?_
                      rotate_left
                      · intro W0 hW; obtain ⟨hW1, hW2, hW3⟩ := hW; go_simp; (try with_reducible rfl)
                      try simp only [Act.put, List.setIfInBounds_toArray, List.set_cons_zero, List.set_cons_succ, List.getElem_toArray, List.getElem_cons_zero, List.getElem_cons_succ]
                      refine wpAnyH_take (i := 11) (v := ?_) rfl (by kernel_rfl) (by kernel_rfl) (by kernel_rfl) (fun _ _ _ h => h) (Or.inl ⟨by rfl, ?_⟩) hHeld ?_
                      rotate_left
                      · intro W0 hW; obtain ⟨hW1, hW2, hW3⟩ := hW; go_simp; (try with_reducible rfl)
                      try simp only [Act.put, List.setIfInBounds_toArray, List.set_cons_zero, List.set_cons_succ, List.getElem_toArray, List.getElem_cons_zero, List.getElem_cons_succ]
                      refine wpAnyH_ready (rs := [12]) (by kernel_rfl) (by simp) ?_
                      refine AllReadyH.cons rfl (fun K hK => ?_) AllReadyH.nil
                      go_simp
                      have HB9 := Lib.hid (HB8.out.alloc HB8.out.size (.cells #[.slice none 0 0, .slice none 0 0] 31))
                      have HF9 := Lib.hid (HF8.out.below (((Below.refl (World.heap w8).size w8).alloc (Nat.le_refl _) (.cells #[.slice none 0 0, .slice none 0 0] 31))))
                      have HZ9 := Lib.hid (And.intro (heap_alloc_new w8 (.cells #[.slice none 0 0, .slice none 0 0] 31)) HB8.out.size)
                      have HFZ9 : Hid (gf2 ≠ (World.heap w8).size) := Lib.hid (by have := HF8.out.base_.2; omega)
                      refine hK.out _ _ ?_ (fun hHeld => ?_)
                      · exact (HS.out.later HB9.out).more
                      clear hK K
                      try simp only [Act.put, List.setIfInBounds_toArray, List.set_cons_zero, List.set_cons_succ, List.getElem_toArray, List.getElem_cons_zero, List.getElem_cons_succ]
                      generalize hw9 : World.alloc w8 (.cells #[.slice none 0 0, .slice none 0 0] 31) = w9 at HB9 HZ9 HF9 hHeld ⊢
                      clear hw9 HB8 HF8
                      generalize (World.heap w8).size = z9 at HZ9  HFZ9 ⊢
                      refine wpAnyH_ready (rs := [13]) (by kernel_rfl) (by simp) ?_
                      refine AllReadyH.cons rfl (fun K hK => ?_) AllReadyH.nil
                      obtain ⟨zc0, zc1, zc2⟩ := zero_tree HZ9.out.1
                      have HT10 := Lib.hid (tree_stored HZ9.out.1 (.slice (some ⟨gf2, 0, none⟩) N cf2) (.slice (some ⟨gb2, 0, none⟩) N cb2)).1
                      have HB10 := Lib.hid ((HB9.out.setCell (p := ⟨z9, 0, none⟩) HZ9.out.2 (.slice (some ⟨gf2, 0, none⟩) N cf2)).setCell (p := ⟨z9, 1, none⟩) HZ9.out.2 (.slice (some ⟨gb2, 0, none⟩) N cb2))
                      have HF10 := Lib.hid (HF9.out.kept (((Mod.refl (fun k => k = z9) w9).setCell (p := ⟨z9, 0, none⟩) (.inr rfl) (.slice (some ⟨gf2, 0, none⟩) N cf2)).setCell (p := ⟨z9, 1, none⟩) (.inr rfl) (.slice (some ⟨gb2, 0, none⟩) N cb2)) (fun k hk hk2 => HFZ9.out ((Option.some.inj hk).trans hk2)))
                      go_simp
                      refine hK.out _ _ ?_ (fun hHeld => ?_)
                      · exact (HS.out.later HB10.out).more
                      clear hK K
                      try simp only [Act.put, List.setIfInBounds_toArray, List.set_cons_zero, List.set_cons_succ, List.getElem_toArray, List.getElem_cons_zero, List.getElem_cons_succ]
                      generalize hw10 : World.setCell (World.setCell w9 ⟨z9, 0, none⟩ (.slice (some ⟨gf2, 0, none⟩) N cf2)) ⟨z9, 1, none⟩ (.slice (some ⟨gb2, 0, none⟩) N cb2) = w10 at HT10 HB10 HF10 hHeld ⊢
                      clear zc0 zc1 zc2 hw10 HB9 HZ9 HF9
                      refine wpAnyH_take (i := 14) (v := ?_) rfl (by kernel_rfl) (by kernel_rfl) (by kernel_rfl) (fun _ _ _ h => h) (Or.inl ⟨by rfl, ?_⟩) hHeld ?_
                      rotate_left
                      · intro W0 hW; obtain ⟨hW1, hW2, hW3⟩ := hW; go_simp; (try with_reducible rfl)
                      try simp only [Act.put, List.setIfInBounds_toArray, List.set_cons_zero, List.set_cons_succ, List.getElem_toArray, List.getElem_cons_zero, List.getElem_cons_succ]
                      refine wpAnyH_done (by kernel_rfl) ?_ _
                      clear hHeld
                      have HS10 := Lib.hid (HS.out.later HB10.out)
                      have th0 := HS10.out.fw.box.c0
                      have th1 := HS10.out.fw.t0
                      have HSH : Hid (Short2 w w10 g g1 (World.heap w).size z9 N la xs.length lc xs gf cf (.slice (some ⟨gb, 0, none⟩) N cb) far mo gf2 cf2 (.slice (some ⟨gb2, 0, none⟩) N cb2) far2) := Lib.hid ⟨HS10.out, HF10.out, HT10.out⟩
                      have zt := HSH.out.t0
                      go_wp2_with fail
                      have HLE : Hid (∀ i, valI far2 i ≤ valI far i) := Lib.hid (short_le HT.out.dist HT2.out.dist (HT2.out.dist.small (checkV_zero.1 HC2.out).2 hqN (by omega)))
                      clear th0 th1 zt HS10 HF10 HT10
                      go_loopw [107] (fun j wr => ∃ (i : Nat), j = .int .i64 i ∧ i ≤ N ∧ Hid (Short2 w wr g g1 (World.heap w).size z9 N la xs.length lc xs gf cf (.slice (some ⟨gb, 0, none⟩) N cb) far mo gf2 cf2 (.slice (some ⟨gb2, 0, none⟩) N cb2) far2)) (fun j _ => N - (intOf j).toNat)
                      case atStart => exact ⟨0, rfl, Nat.zero_le _, HSH⟩
                      case round =>
                        obtain ⟨i, rfl, hi2, HSH2⟩ := hrel
                        clear HSH
                        by_cases hlt2 : i < N
                        · have i1 : (0 : Int) ≤ (i : Int) := by omega
                          have i2 : (i : Int) < (N : Int) := by omega
                          have y0 := HSH2.out.one.fw.t0
                          have y1 := HSH2.out.t0
                          have y2 := HSH2.out.one.far.cell hlt2
                          have y3 := HSH2.out.far2.cell hlt2
                          have hle := HLE.out i
                          generalize valI far i = d1 at y2 hle
                          generalize valI far2 i = d2 at y3 hle
                          have hgt : decide (d1 < d2) = false := by simp; omega
                          go_wp2_with fail
                          go_quiet (fail)
                          go_wp2_with fail
                          go_roundw
                          case rel => exact ⟨i + 1, by go_num, by omega, Lib.hid (HSH2.out.later (below_drewN (Below.refl _ _) _))⟩
                          case measure => simp [intOf]; omega
                        · go_wp2_with fail
                          go_ret
                          exact ⟨rfl, HSH2.out.one.fw.box.below⟩
                  · go_simp
                    have HB11 := Lib.hid (HB4.out.alloc HB4.out.size (.cells #[.slice none 0 0, .slice none 0 0] 31))
                    have HA11 := Lib.hid ((HA4.out.later (((Below.refl (World.heap w4).size w4).alloc (Nat.le_refl _) (.cells #[.slice none 0 0, .slice none 0 0] 31)))).mono (((Below.refl (World.heap w4).size w4).alloc (Nat.le_refl _) (.cells #[.slice none 0 0, .slice none 0 0] 31))).size)
                    have HZ11 := Lib.hid (And.intro (heap_alloc_new w4 (.cells #[.slice none 0 0, .slice none 0 0] 31)) HB4.out.size)
                    refine hK.out _ _ ?_ (fun hHeld => ?_)
                    · exact (HS.out.later HB11.out).more
                    clear hK K
                    try simp only [Act.put, List.setIfInBounds_toArray, List.set_cons_zero, List.set_cons_succ, List.getElem_toArray, List.getElem_cons_zero, List.getElem_cons_succ]
                    generalize hw11 : World.alloc w4 (.cells #[.slice none 0 0, .slice none 0 0] 31) = w11 at HB11 HZ11 HA11 hHeld ⊢
                    clear hw11 HB4 HA4
                    generalize (World.heap w4).size = z11 at HZ11 ⊢
                    refine wpAnyH_ready (rs := [8]) (by kernel_rfl) (by simp) ?_
                    refine AllReadyH.cons rfl (fun K hK => ?_) AllReadyH.nil
                    by_cases hneg2 : Neg (xs ++ [arcOf (N : Int) mo]) q
                    · have HN2 := Lib.hid hneg2
                      clear hneg2
                      go_simp
                      refine (P.from_neg hqN HC2.out HN2.out _ _ HA11.out).mono ?_
                      rintro e w12 ⟨hb9, a1, c1, a2, c2, rfl⟩
                      have HB12 := Lib.hid (HB11.out.trans (hb9.mono HB11.out.size))
                      have HZ12 := Lib.hid (And.intro ((Below.block (hb9) _ (Array.getElem?_eq_some_iff.1 HZ11.out.1).1).trans HZ11.out.1) HZ11.out.2)
                      clear hb9 HB11 HZ11 HA11
                      refine hK.out _ _ ?_ (fun hHeld => ?_)
                      · exact (HS.out.later HB12.out).more
                      clear hK K
                      try simp only [Act.put, List.setIfInBounds_toArray, List.set_cons_zero, List.set_cons_succ, List.getElem_toArray, List.getElem_cons_zero, List.getElem_cons_succ]
                      refine wpAnyH_take (i := 9) (v := ?_) rfl (by kernel_rfl) (by kernel_rfl) (by kernel_rfl) (fun _ _ _ h => h) (Or.inl ⟨by rfl, ?_⟩) hHeld ?_
                      rotate_left
                      · intro W0 hW; obtain ⟨hW1, hW2, hW3⟩ := hW; go_simp; (try with_reducible rfl)
                      try simp only [Act.put, List.setIfInBounds_toArray, List.set_cons_zero, List.set_cons_succ, List.getElem_toArray, List.getElem_cons_zero, List.getElem_cons_succ]
                      refine wpAnyH_take (i := 10) (v := ?_) rfl (by kernel_rfl) (by kernel_rfl) (by kernel_rfl) (fun _ _ _ h => h) (Or.inl ⟨by rfl, ?_⟩) hHeld ?_
                      rotate_left
                      · intro W0 hW; obtain ⟨hW1, hW2, hW3⟩ := hW; go_simp; (try with_reducible rfl)
                      try simp only [Act.put, List.setIfInBounds_toArray, List.set_cons_zero, List.set_cons_succ, List.getElem_toArray, List.getElem_cons_zero, List.getElem_cons_succ]
                      refine wpAnyH_take (i := 11) (v := ?_) rfl (by kernel_rfl) (by kernel_rfl) (by kernel_rfl) (fun _ _ _ h => h) (Or.inl ⟨by rfl, ?_⟩) hHeld ?_
                      rotate_left
                      · intro W0 hW; obtain ⟨hW1, hW2, hW3⟩ := hW; go_simp; (try with_reducible rfl)
                      try simp only [Act.put, List.setIfInBounds_toArray, List.set_cons_zero, List.set_cons_succ, List.getElem_toArray, List.getElem_cons_zero, List.getElem_cons_succ]
                      refine wpAnyH_ready (rs := [13]) (by kernel_rfl) (by simp) ?_
                      refine AllReadyH.cons rfl (fun K hK => ?_) AllReadyH.nil
                      obtain ⟨zc0, zc1, zc2⟩ := zero_tree HZ12.out.1
                      have HT13 := Lib.hid (tree_stored HZ12.out.1 (.slice a1 0 c1) (.slice a2 0 c2)).1
                      have HB13 := Lib.hid ((HB12.out.setCell (p := ⟨z11, 0, none⟩) HZ12.out.2 (.slice a1 0 c1)).setCell (p := ⟨z11, 1, none⟩) HZ12.out.2 (.slice a2 0 c2))
                      go_simp
                      refine hK.out _ _ ?_ (fun hHeld => ?_)
                      · exact (HS.out.later HB13.out).more
                      clear hK K
                      try simp only [Act.put, List.setIfInBounds_toArray, List.set_cons_zero, List.set_cons_succ, List.getElem_toArray, List.getElem_cons_zero, List.getElem_cons_succ]
                      generalize hw13 : World.setCell (World.setCell w12 ⟨z11, 0, none⟩ (.slice a1 0 c1)) ⟨z11, 1, none⟩ (.slice a2 0 c2) = w13 at HT13 HB13 hHeld ⊢
                      clear zc0 zc1 zc2 hw13 HB12 HZ12
                      refine wpAnyH_take (i := 14) (v := ?_) rfl (by kernel_rfl) (by kernel_rfl) (by kernel_rfl) (fun _ _ _ h => h) (Or.inl ⟨by rfl, ?_⟩) hHeld ?_
                      rotate_left
                      · intro W0 hW; obtain ⟨hW1, hW2, hW3⟩ := hW; go_simp; (try with_reducible rfl)
                      try simp only [Act.put, List.setIfInBounds_toArray, List.set_cons_zero, List.set_cons_succ, List.getElem_toArray, List.getElem_cons_zero, List.getElem_cons_succ]
                      refine wpAnyH_done (by kernel_rfl) ?_ _
                      clear hHeld
                      have HS13 := Lib.hid (HS.out.later HB13.out)
                      have th0 := HS13.out.fw.box.c0
                      have th1 := HS13.out.fw.t0
                      go_wp2_with fail
                      go_ret
                      exact ⟨rfl, HS13.out.fw.box.below⟩
                    · have HN2 := Lib.hid hneg2
                      clear hneg2
                      go_simp
                      refine (from_tree2 P hqN HC2.out HN2.out _ _ _ HA11.out).mono ?_
                      rintro e w14 ⟨hb9, gf2, cf2, gb2, cb2, far2, by2, rfl, hlf2, ht2⟩
                      have HB14 := Lib.hid (HB11.out.trans (hb9.mono HB11.out.size))
                      have HT2 := Lib.hid ht2
                      have HZ14 := Lib.hid (And.intro ((Below.block (hb9) _ (Array.getElem?_eq_some_iff.1 HZ11.out.1).1).trans HZ11.out.1) HZ11.out.2)
                      have HF14 := Lib.hid (hlf2.rebase (Nat.zero_le _))
                      have HFZ14 : Hid (gf2 ≠ z11) := Lib.hid (by have h1 := hlf2.base_.1; have h2 := (Array.getElem?_eq_some_iff.1 HZ11.out.1).1; omega)
                      clear hb9 hlf2 ht2 HB11 HZ11 HA11
                      refine hK.out _ _ ?_ (fun hHeld => ?_)
                      · exact (HS.out.later HB14.out).more
                      clear hK K
                      try simp only [Act.put, List.setIfInBounds_toArray, List.set_cons_zero, List.set_cons_succ, List.getElem_toArray, List.getElem_cons_zero, List.getElem_cons_succ]
                      refine wpAnyH_take (i := 9) (v := ?_) rfl (by kernel_rfl) (by kernel_rfl) (by kernel_rfl) (fun _ _ _ h => h) (Or.inl ⟨by rfl, ?_⟩) hHeld ?_
                      rotate_left
                      · intro W0 hW; obtain ⟨hW1, hW2, hW3⟩ := hW; go_simp; (try with_reducible rfl)
                      try simp only [Act.put, List.setIfInBounds_toArray, List.set_cons_zero, List.set_cons_succ, List.getElem_toArray, List.getElem_cons_zero, List.getElem_cons_succ]
                      refine wpAnyH_take (i := 10) (v := ?_) rfl (by kernel_rfl) (by kernel_rfl) (by kernel_rfl) (fun _ _ _ h => h) (Or.inl ⟨by rfl, ?_⟩) hHeld ?_
                      rotate_left
                      · intro W0 hW; obtain ⟨hW1, hW2, hW3⟩ := hW; go_simp; (try with_reducible rfl)
                      try simp only [Act.put, List.setIfInBounds_toArray, List.set_cons_zero, List.set_cons_succ, List.getElem_toArray, List.getElem_cons_zero, List.getElem_cons_succ]
                      refine wpAnyH_take (i := 11) (v := ?_) rfl (by kernel_rfl) (by kernel_rfl) (by kernel_rfl) (fun _ _ _ h => h) (Or.inl ⟨by rfl, ?_⟩) hHeld ?_
                      rotate_left
                      · intro W0 hW; obtain ⟨hW1, hW2, hW3⟩ := hW; go_simp; (try with_reducible rfl)
                      try simp only [Act.put, List.setIfInBounds_toArray, List.set_cons_zero, List.set_cons_succ, List.getElem_toArray, List.getElem_cons_zero, List.getElem_cons_succ]
                      refine wpAnyH_ready (rs := [13]) (by kernel_rfl) (by simp) ?_
                      refine AllReadyH.cons rfl (fun K hK => ?_) AllReadyH.nil
                      obtain ⟨zc0, zc1, zc2⟩ := zero_tree HZ14.out.1
                      have HT15 := Lib.hid (tree_stored HZ14.out.1 (.slice (some ⟨gf2, 0, none⟩) N cf2) (.slice (some ⟨gb2, 0, none⟩) N cb2)).1
                      have HB15 := Lib.hid ((HB14.out.setCell (p := ⟨z11, 0, none⟩) HZ14.out.2 (.slice (some ⟨gf2, 0, none⟩) N cf2)).setCell (p := ⟨z11, 1, none⟩) HZ14.out.2 (.slice (some ⟨gb2, 0, none⟩) N cb2))
                      have HF15 := Lib.hid (HF14.out.kept (((Mod.refl (fun k => k = z11) w14).setCell (p := ⟨z11, 0, none⟩) (.inr rfl) (.slice (some ⟨gf2, 0, none⟩) N cf2)).setCell (p := ⟨z11, 1, none⟩) (.inr rfl) (.slice (some ⟨gb2, 0, none⟩) N cb2)) (fun k hk hk2 => HFZ14.out ((Option.some.inj hk).trans hk2)))
                      go_simp
                      refine hK.out _ _ ?_ (fun hHeld => ?_)
                      · exact (HS.out.later HB15.out).more
                      clear hK K
                      try simp only [Act.put, List.setIfInBounds_toArray, List.set_cons_zero, List.set_cons_succ, List.getElem_toArray, List.getElem_cons_zero, List.getElem_cons_succ]
                      generalize hw15 : World.setCell (World.setCell w14 ⟨z11, 0, none⟩ (.slice (some ⟨gf2, 0, none⟩) N cf2)) ⟨z11, 1, none⟩ (.slice (some ⟨gb2, 0, none⟩) N cb2) = w15 at HT15 HB15 HF15 hHeld ⊢
                      clear zc0 zc1 zc2 hw15 HB14 HZ14 HF14
                      refine wpAnyH_take (i := 14) (v := ?_) rfl (by kernel_rfl) (by kernel_rfl) (by kernel_rfl) (fun _ _ _ h => h) (Or.inl ⟨by rfl, ?_⟩) hHeld ?_
                      rotate_left
                      · intro W0 hW; obtain ⟨hW1, hW2, hW3⟩ := hW; go_simp; (try with_reducible rfl)
                      try simp only [Act.put, List.setIfInBounds_toArray, List.set_cons_zero, List.set_cons_succ, List.getElem_toArray, List.getElem_cons_zero, List.getElem_cons_succ]
                      refine wpAnyH_done (by kernel_rfl) ?_ _
                      clear hHeld
                      have HS15 := Lib.hid (HS.out.later HB15.out)
                      have th0 := HS15.out.fw.box.c0
                      have th1 := HS15.out.fw.t0
                      have HSH : Hid (Short2 w w15 g g1 (World.heap w).size z11 N la xs.length lc xs gf cf (.slice (some ⟨gb, 0, none⟩) N cb) far mo gf2 cf2 (.slice (some ⟨gb2, 0, none⟩) N cb2) far2) := Lib.hid ⟨HS15.out, HF15.out, HT15.out⟩
                      have zt := HSH.out.t0
                      go_wp2_with fail
                      have HLE : Hid (∀ i, valI far2 i ≤ valI far i) := Lib.hid (short_le HT.out.dist HT2.out.dist (HT2.out.dist.small (checkV_zero.1 HC2.out).2 hqN (by omega)))
                      clear th0 th1 zt HS15 HF15 HT15
                      go_loopw [107] (fun j wr => ∃ (i : Nat), j = .int .i64 i ∧ i ≤ N ∧ Hid (Short2 w wr g g1 (World.heap w).size z11 N la xs.length lc xs gf cf (.slice (some ⟨gb, 0, none⟩) N cb) far mo gf2 cf2 (.slice (some ⟨gb2, 0, none⟩) N cb2) far2)) (fun j _ => N - (intOf j).toNat)
                      case atStart => exact ⟨0, rfl, Nat.zero_le _, HSH⟩
                      case round =>
                        obtain ⟨i, rfl, hi2, HSH2⟩ := hrel
                        clear HSH
                        by_cases hlt2 : i < N
                        · have i1 : (0 : Int) ≤ (i : Int) := by omega
                          have i2 : (i : Int) < (N : Int) := by omega
                          have y0 := HSH2.out.one.fw.t0
                          have y1 := HSH2.out.t0
                          have y2 := HSH2.out.one.far.cell hlt2
                          have y3 := HSH2.out.far2.cell hlt2
                          have hle := HLE.out i
                          generalize valI far i = d1 at y2 hle
                          generalize valI far2 i = d2 at y3 hle
                          have hgt : decide (d1 < d2) = false := by simp; omega
                          go_wp2_with fail
                          go_quiet (fail)
                          go_wp2_with fail
                          go_roundw
                          case rel => exact ⟨i + 1, by go_num, by omega, Lib.hid (HSH2.out.later (below_drewN (Below.refl _ _) _))⟩
                          case measure => simp [intOf]; omega
                        · go_wp2_with fail
                          go_ret
                          exact ⟨rfl, HSH2.out.one.fw.box.below⟩
                · go_simp
                  have HB16 := Lib.hid (HB3.out.alloc HB3.out.size (.cells #[.slice none 0 0, .slice none 0 0] 31))
                  have HL16 := Lib.hid ((HL3.out.later (((Below.refl (World.heap w3).size w3).alloc (Nat.le_refl _) (.cells #[.slice none 0 0, .slice none 0 0] 31)))).mono (((Below.refl (World.heap w3).size w3).alloc (Nat.le_refl _) (.cells #[.slice none 0 0, .slice none 0 0] 31))).size)
                  have HZ16 := Lib.hid (And.intro (heap_alloc_new w3 (.cells #[.slice none 0 0, .slice none 0 0] 31)) HB3.out.size)
                  refine hK.out _ _ ?_ (fun hHeld => ?_)
                  · exact (HS.out.later HB16.out).more
                  clear hK K
                  try simp only [Act.put, List.setIfInBounds_toArray, List.set_cons_zero, List.set_cons_succ, List.getElem_toArray, List.getElem_cons_zero, List.getElem_cons_succ]
                  generalize hw16 : World.alloc w3 (.cells #[.slice none 0 0, .slice none 0 0] 31) = w16 at HB16 HZ16 HL16 hHeld ⊢
                  clear hw16 HB3 HL3
                  generalize (World.heap w3).size = z16 at HZ16 ⊢
                  refine wpAnyH_ready (rs := [6]) (by kernel_rfl) (by simp) ?_
                  refine AllReadyH.cons rfl (fun K hK => ?_) AllReadyH.nil
                  go_simp
                  refine (HMK.out (l.length + 1) (l ++ [mo]) _ _ _ (by omega) HL16.out).mono ?_
                  rintro e w17 ⟨lv8, rfl, hrow8, hb8⟩
                  rw [HLn.out, HX2.out] at hrow8
                  obtain ⟨la8, lc8, hv⟩ := owns_shape hrow8
                  subst hv
                  have h9 := (owns_arcs hrow8).2
                  rw [show (xs ++ [arcOf (N : Int) mo]).length = xs.length + 1 by simp] at h9
                  have HB17 := Lib.hid (HB16.out.trans (hb8.mono HB16.out.size))
                  have HZ17 := Lib.hid (And.intro ((Below.block (hb8) _ (Array.getElem?_eq_some_iff.1 HZ16.out.1).1).trans HZ16.out.1) HZ16.out.2)
                  have HA17 := Lib.hid h9
                  clear hrow8 hb8 h9 HB16 HZ16 HL16
                  refine hK.out _ _ ?_ (fun hHeld => ?_)
                  · exact (HS.out.later HB17.out).more
                  clear hK K
                  try simp only [Act.put, List.setIfInBounds_toArray, List.set_cons_zero, List.set_cons_succ, List.getElem_toArray, List.getElem_cons_zero, List.getElem_cons_succ]
                  refine wpAnyH_ready (rs := [8]) (by kernel_rfl) (by simp) ?_
                  refine AllReadyH.cons rfl (fun K hK => ?_) AllReadyH.nil
                  by_cases hneg2 : Neg (xs ++ [arcOf (N : Int) mo]) q
                  · have HN2 := Lib.hid hneg2
                    clear hneg2
                    go_simp
                    refine (P.from_neg hqN HC2.out HN2.out _ _ HA17.out).mono ?_
                    rintro e w18 ⟨hb9, a1, c1, a2, c2, rfl⟩
                    have HB18 := Lib.hid (HB17.out.trans (hb9.mono HB17.out.size))
                    have HZ18 := Lib.hid (And.intro ((Below.block (hb9) _ (Array.getElem?_eq_some_iff.1 HZ17.out.1).1).trans HZ17.out.1) HZ17.out.2)
                    clear hb9 HB17 HZ17 HA17
                    refine hK.out _ _ ?_ (fun hHeld => ?_)
                    · exact (HS.out.later HB18.out).more
                    clear hK K
                    try simp only [Act.put, List.setIfInBounds_toArray, List.set_cons_zero, List.set_cons_succ, List.getElem_toArray, List.getElem_cons_zero, List.getElem_cons_succ]
                    refine wpAnyH_take (i := 9) (v := ?_) rfl (by kernel_rfl) (by kernel_rfl) (by kernel_rfl) (fun _ _ _ h => h) (Or.inl ⟨by rfl, ?_⟩) hHeld ?_
                    rotate_left
                    · intro W0 hW; obtain ⟨hW1, hW2, hW3⟩ := hW; go_simp; (try with_reducible rfl)
                    try simp only [Act.put, List.setIfInBounds_toArray, List.set_cons_zero, List.set_cons_succ, List.getElem_toArray, List.getElem_cons_zero, List.getElem_cons_succ]
                    refine wpAnyH_take (i := 10) (v := ?_) rfl (by kernel_rfl) (by kernel_rfl) (by kernel_rfl) (fun _ _ _ h => h) (Or.inl ⟨by rfl, ?_⟩) hHeld ?_
                    rotate_left
                    · intro W0 hW; obtain ⟨hW1, hW2, hW3⟩ := hW; go_simp; (try with_reducible rfl)
                    try simp only [Act.put, List.setIfInBounds_toArray, List.set_cons_zero, List.set_cons_succ, List.getElem_toArray, List.getElem_cons_zero, List.getElem_cons_succ]
                    refine wpAnyH_take (i := 11) (v := ?_) rfl (by kernel_rfl) (by kernel_rfl) (by kernel_rfl) (fun _ _ _ h => h) (Or.inl ⟨by rfl, ?_⟩) hHeld ?_
                    rotate_left
                    · intro W0 hW; obtain ⟨hW1, hW2, hW3⟩ := hW; go_simp; (try with_reducible rfl)
                    try simp only [Act.put, List.setIfInBounds_toArray, List.set_cons_zero, List.set_cons_succ, List.getElem_toArray, List.getElem_cons_zero, List.getElem_cons_succ]
                    refine wpAnyH_ready (rs := [13]) (by kernel_rfl) (by simp) ?_
                    refine AllReadyH.cons rfl (fun K hK => ?_) AllReadyH.nil
                    obtain ⟨zc0, zc1, zc2⟩ := zero_tree HZ18.out.1
                    have HT19 := Lib.hid (tree_stored HZ18.out.1 (.slice a1 0 c1) (.slice a2 0 c2)).1
                    have HB19 := Lib.hid ((HB18.out.setCell (p := ⟨z16, 0, none⟩) HZ18.out.2 (.slice a1 0 c1)).setCell (p := ⟨z16, 1, none⟩) HZ18.out.2 (.slice a2 0 c2))
                    go_simp
                    refine hK.out _ _ ?_ (fun hHeld => ?_)
                    · exact (HS.out.later HB19.out).more
                    clear hK K
                    try simp only [Act.put, List.setIfInBounds_toArray, List.set_cons_zero, List.set_cons_succ, List.getElem_toArray, List.getElem_cons_zero, List.getElem_cons_succ]
                    generalize hw19 : World.setCell (World.setCell w18 ⟨z16, 0, none⟩ (.slice a1 0 c1)) ⟨z16, 1, none⟩ (.slice a2 0 c2) = w19 at HT19 HB19 hHeld ⊢
                    clear zc0 zc1 zc2 hw19 HB18 HZ18
                    refine wpAnyH_take (i := 14) (v := ?_) rfl (by kernel_rfl) (by kernel_rfl) (by kernel_rfl) (fun _ _ _ h => h) (Or.inl ⟨by rfl, ?_⟩) hHeld ?_
                    rotate_left
                    · intro W0 hW; obtain ⟨hW1, hW2, hW3⟩ := hW; go_simp; (try with_reducible rfl)
                    try simp only [Act.put, List.setIfInBounds_toArray, List.set_cons_zero, List.set_cons_succ, List.getElem_toArray, List.getElem_cons_zero, List.getElem_cons_succ]
                    refine wpAnyH_done (by kernel_rfl) ?_ _
                    clear hHeld
                    have HS19 := Lib.hid (HS.out.later HB19.out)
                    have th0 := HS19.out.fw.box.c0
                    have th1 := HS19.out.fw.t0
                    go_wp2_with fail
                    go_ret
                    exact ⟨rfl, HS19.out.fw.box.below⟩
                  · have HN2 := Lib.hid hneg2
                    clear hneg2
                    go_simp
                    refine (from_tree2 P hqN HC2.out HN2.out _ _ _ HA17.out).mono ?_
                    rintro e w20 ⟨hb9, gf2, cf2, gb2, cb2, far2, by2, rfl, hlf2, ht2⟩
                    have HB20 := Lib.hid (HB17.out.trans (hb9.mono HB17.out.size))
                    have HT2 := Lib.hid ht2
                    have HZ20 := Lib.hid (And.intro ((Below.block (hb9) _ (Array.getElem?_eq_some_iff.1 HZ17.out.1).1).trans HZ17.out.1) HZ17.out.2)
                    have HF20 := Lib.hid (hlf2.rebase (Nat.zero_le _))
                    have HFZ20 : Hid (gf2 ≠ z16) := Lib.hid (by have h1 := hlf2.base_.1; have h2 := (Array.getElem?_eq_some_iff.1 HZ17.out.1).1; omega)
                    clear hb9 hlf2 ht2 HB17 HZ17 HA17
                    refine hK.out _ _ ?_ (fun hHeld => ?_)
                    · exact (HS.out.later HB20.out).more
                    clear hK K
                    try simp only [Act.put, List.setIfInBounds_toArray, List.set_cons_zero, List.set_cons_succ, List.getElem_toArray, List.getElem_cons_zero, List.getElem_cons_succ]
                    refine wpAnyH_take (i := 9) (v := ?_) rfl (by kernel_rfl) (by kernel_rfl) (by kernel_rfl) (fun _ _ _ h => h) (Or.inl ⟨by rfl, ?_⟩) hHeld ?_
                    rotate_left
                    · intro W0 hW; obtain ⟨hW1, hW2, hW3⟩ := hW; go_simp; (try with_reducible rfl)
                    try simp only [Act.put, List.setIfInBounds_toArray, List.set_cons_zero, List.set_cons_succ, List.getElem_toArray, List.getElem_cons_zero, List.getElem_cons_succ]
                    refine wpAnyH_take (i := 10) (v := ?_) rfl (by kernel_rfl) (by kernel_rfl) (by kernel_rfl) (fun _ _ _ h => h) (Or.inl ⟨by rfl, ?_⟩) hHeld ?_
                    rotate_left
                    · intro W0 hW; obtain ⟨hW1, hW2, hW3⟩ := hW; go_simp; (try with_reducible rfl)
                    try simp only [Act.put, List.setIfInBounds_toArray, List.set_cons_zero, List.set_cons_succ, List.getElem_toArray, List.getElem_cons_zero, List.getElem_cons_succ]
                    refine wpAnyH_take (i := 11) (v := ?_) rfl (by kernel_rfl) (by kernel_rfl) (by kernel_rfl) (fun _ _ _ h => h) (Or.inl ⟨by rfl, ?_⟩) hHeld ?_
                    rotate_left
                    · intro W0 hW; obtain ⟨hW1, hW2, hW3⟩ := hW; go_simp; (try with_reducible rfl)
                    try simp only [Act.put, List.setIfInBounds_toArray, List.set_cons_zero, List.set_cons_succ, List.getElem_toArray, List.getElem_cons_zero, List.getElem_cons_succ]
                    refine wpAnyH_ready (rs := [13]) (by kernel_rfl) (by simp) ?_
                    refine AllReadyH.cons rfl (fun K hK => ?_) AllReadyH.nil
                    obtain ⟨zc0, zc1, zc2⟩ := zero_tree HZ20.out.1
                    have HT21 := Lib.hid (tree_stored HZ20.out.1 (.slice (some ⟨gf2, 0, none⟩) N cf2) (.slice (some ⟨gb2, 0, none⟩) N cb2)).1
                    have HB21 := Lib.hid ((HB20.out.setCell (p := ⟨z16, 0, none⟩) HZ20.out.2 (.slice (some ⟨gf2, 0, none⟩) N cf2)).setCell (p := ⟨z16, 1, none⟩) HZ20.out.2 (.slice (some ⟨gb2, 0, none⟩) N cb2))
                    have HF21 := Lib.hid (HF20.out.kept (((Mod.refl (fun k => k = z16) w20).setCell (p := ⟨z16, 0, none⟩) (.inr rfl) (.slice (some ⟨gf2, 0, none⟩) N cf2)).setCell (p := ⟨z16, 1, none⟩) (.inr rfl) (.slice (some ⟨gb2, 0, none⟩) N cb2)) (fun k hk hk2 => HFZ20.out ((Option.some.inj hk).trans hk2)))
                    go_simp
                    refine hK.out _ _ ?_ (fun hHeld => ?_)
                    · exact (HS.out.later HB21.out).more
                    clear hK K
                    try simp only [Act.put, List.setIfInBounds_toArray, List.set_cons_zero, List.set_cons_succ, List.getElem_toArray, List.getElem_cons_zero, List.getElem_cons_succ]
                    generalize hw21 : World.setCell (World.setCell w20 ⟨z16, 0, none⟩ (.slice (some ⟨gf2, 0, none⟩) N cf2)) ⟨z16, 1, none⟩ (.slice (some ⟨gb2, 0, none⟩) N cb2) = w21 at HT21 HB21 HF21 hHeld ⊢
                    clear zc0 zc1 zc2 hw21 HB20 HZ20 HF20
                    refine wpAnyH_take (i := 14) (v := ?_) rfl (by kernel_rfl) (by kernel_rfl) (by kernel_rfl) (fun _ _ _ h => h) (Or.inl ⟨by rfl, ?_⟩) hHeld ?_
                    rotate_left
                    · intro W0 hW; obtain ⟨hW1, hW2, hW3⟩ := hW; go_simp; (try with_reducible rfl)
                    try simp only [Act.put, List.setIfInBounds_toArray, List.set_cons_zero, List.set_cons_succ, List.getElem_toArray, List.getElem_cons_zero, List.getElem_cons_succ]
                    refine wpAnyH_done (by kernel_rfl) ?_ _
                    clear hHeld
                    have HS21 := Lib.hid (HS.out.later HB21.out)
                    have th0 := HS21.out.fw.box.c0
                    have th1 := HS21.out.fw.t0
                    have HSH : Hid (Short2 w w21 g g1 (World.heap w).size z16 N la xs.length lc xs gf cf (.slice (some ⟨gb, 0, none⟩) N cb) far mo gf2 cf2 (.slice (some ⟨gb2, 0, none⟩) N cb2) far2) := Lib.hid ⟨HS21.out, HF21.out, HT21.out⟩
                    have zt := HSH.out.t0
                    go_wp2_with fail
                    have HLE : Hid (∀ i, valI far2 i ≤ valI far i) := Lib.hid (short_le HT.out.dist HT2.out.dist (HT2.out.dist.small (checkV_zero.1 HC2.out).2 hqN (by omega)))
                    clear th0 th1 zt HS21 HF21 HT21
                    go_loopw [107] (fun j wr => ∃ (i : Nat), j = .int .i64 i ∧ i ≤ N ∧ Hid (Short2 w wr g g1 (World.heap w).size z16 N la xs.length lc xs gf cf (.slice (some ⟨gb, 0, none⟩) N cb) far mo gf2 cf2 (.slice (some ⟨gb2, 0, none⟩) N cb2) far2)) (fun j _ => N - (intOf j).toNat)
                    case atStart => exact ⟨0, rfl, Nat.zero_le _, HSH⟩
                    case round =>
                      obtain ⟨i, rfl, hi2, HSH2⟩ := hrel
                      clear HSH
                      by_cases hlt2 : i < N
                      · have i1 : (0 : Int) ≤ (i : Int) := by omega
                        have i2 : (i : Int) < (N : Int) := by omega
                        have y0 := HSH2.out.one.fw.t0
                        have y1 := HSH2.out.t0
                        have y2 := HSH2.out.one.far.cell hlt2
                        have y3 := HSH2.out.far2.cell hlt2
                        have hle := HLE.out i
                        generalize valI far i = d1 at y2 hle
                        generalize valI far2 i = d2 at y3 hle
                        have hgt : decide (d1 < d2) = false := by simp; omega
                        go_wp2_with fail
                        go_quiet (fail)
                        go_wp2_with fail
                        go_roundw
                        case rel => exact ⟨i + 1, by go_num, by omega, Lib.hid (HSH2.out.later (below_drewN (Below.refl _ _) _))⟩
                        case measure => simp [intOf]; omega
                      · go_wp2_with fail
                        go_ret
                        exact ⟨rfl, HSH2.out.one.fw.box.below⟩
              · go_simp
                have HB22 := Lib.hid (HB2.out.alloc HB2.out.size (.cells #[.slice none 0 0, .slice none 0 0] 31))
                have HR22 := Lib.hid (owns_below HR2.out (((Below.refl (World.heap w2).size w2).alloc (Nat.le_refl _) (.cells #[.slice none 0 0, .slice none 0 0] 31))))
                have HN22 := Lib.hid (newsL_later HN2.out HNZ2.out (((Below.refl (World.heap w2).size w2).alloc (Nat.le_refl _) (.cells #[.slice none 0 0, .slice none 0 0] 31))))
                have HNZ22 := Lib.hid (Nat.lt_of_lt_of_le HNZ2.out (((Below.refl (World.heap w2).size w2).alloc (Nat.le_refl _) (.cells #[.slice none 0 0, .slice none 0 0] 31))).size)
                have HZ22 := Lib.hid (And.intro (heap_alloc_new w2 (.cells #[.slice none 0 0, .slice none 0 0] 31)) HB2.out.size)
                have HZN22 : Hid ((Value.slice va l.length vc).ownBlock ≠ some (World.heap w2).size) := Lib.hid (fun h => by have := (World.ownsRow.lt HR2.out _ h).2; omega)
                refine hK.out _ _ ?_ (fun hHeld => ?_)
                · exact (HS.out.later HB22.out).more
                clear hK K
                try simp only [Act.put, List.setIfInBounds_toArray, List.set_cons_zero, List.set_cons_succ, List.getElem_toArray, List.getElem_cons_zero, List.getElem_cons_succ]
                generalize hw22 : World.alloc w2 (.cells #[.slice none 0 0, .slice none 0 0] 31) = w22 at HB22 HR22 HN22 HNZ22 HZ22 hHeld ⊢
                clear hw22 HB2 HR2 HN2 HNZ2
                generalize (World.heap w2).size = z22 at HZ22  HZN22 ⊢
                refine wpAnyH_ready (rs := [5]) (by kernel_rfl) (by simp) ?_
                refine AllReadyH.cons rfl (fun K hK => ?_) AllReadyH.nil
                refine step_append_fresh rfl (.tmp 83) (.tmp 85) 22 rfl (World.heap wr).size 50 i0 _ 3 4 Try.underlying22 hi hz0 hz1 hz2 (by decide) (.slice va l.length vc) l.length (flatL l) rfl HR22.out ⟨z2, 0, none⟩ 1 (encL mo) rfl rfl HN22.out (oneL1 _) (by unfold maxLen; omega) (by omega) HB22.out.size ?_
                intro g' cp7 w23 hown hgrow hfr
                have HB23 := Lib.hid (((Mod.of_below (fun k => (World.heap wr).size ≤ k) HB22.out).grown hgrow (fun k hk => .inr (World.ownsRow.lt HR22.out k hk).1)).below (Nat.le_refl _) (fun k hk => hk))
                have HL23 : Hid (IsLinks (World.heap w23).size w23 (some ⟨g', 0, none⟩) (l.length + 1) (l ++ [mo])) := Lib.hid (owns_links (l := l ++ [mo]) (by rw [flatL_snoc, List.length_append]; exact hown) HSA.out).2
                have HZ23 := Lib.hid (And.intro ((hgrow.block z22 (Array.getElem?_eq_some_iff.1 HZ22.out.1).1 (fun h => HZN22.out h.symm)).trans HZ22.out.1) HZ22.out.2)
                clear hown hgrow hfr HB22 HR22 HN22 HNZ22 HZ22
                refine hK.out _ _ ?_ (fun hHeld => ?_)
                · exact (HS.out.later HB23.out).more
                clear hK K
                try simp only [Act.put, List.setIfInBounds_toArray, List.set_cons_zero, List.set_cons_succ, List.getElem_toArray, List.getElem_cons_zero, List.getElem_cons_succ]
                refine wpAnyH_ready (rs := [6]) (by kernel_rfl) (by simp) ?_
                refine AllReadyH.cons rfl (fun K hK => ?_) AllReadyH.nil
                go_simp
                refine (HMK.out (l.length + 1) (l ++ [mo]) _ _ _ (by omega) HL23.out).mono ?_
                rintro e w24 ⟨lv8, rfl, hrow8, hb8⟩
                rw [HLn.out, HX2.out] at hrow8
                obtain ⟨la8, lc8, hv⟩ := owns_shape hrow8
                subst hv
                have h9 := (owns_arcs hrow8).2
                rw [show (xs ++ [arcOf (N : Int) mo]).length = xs.length + 1 by simp] at h9
                have HB24 := Lib.hid (HB23.out.trans (hb8.mono HB23.out.size))
                have HZ24 := Lib.hid (And.intro ((Below.block (hb8) _ (Array.getElem?_eq_some_iff.1 HZ23.out.1).1).trans HZ23.out.1) HZ23.out.2)
                have HA24 := Lib.hid h9
                clear hrow8 hb8 h9 HB23 HZ23 HL23
                refine hK.out _ _ ?_ (fun hHeld => ?_)
                · exact (HS.out.later HB24.out).more
                clear hK K
                try simp only [Act.put, List.setIfInBounds_toArray, List.set_cons_zero, List.set_cons_succ, List.getElem_toArray, List.getElem_cons_zero, List.getElem_cons_succ]
                refine wpAnyH_ready (rs := [8]) (by kernel_rfl) (by simp) ?_
                refine AllReadyH.cons rfl (fun K hK => ?_) AllReadyH.nil
                by_cases hneg2 : Neg (xs ++ [arcOf (N : Int) mo]) q
                · have HN2 := Lib.hid hneg2
                  clear hneg2
                  go_simp
                  refine (P.from_neg hqN HC2.out HN2.out _ _ HA24.out).mono ?_
                  rintro e w25 ⟨hb9, a1, c1, a2, c2, rfl⟩
                  have HB25 := Lib.hid (HB24.out.trans (hb9.mono HB24.out.size))
                  have HZ25 := Lib.hid (And.intro ((Below.block (hb9) _ (Array.getElem?_eq_some_iff.1 HZ24.out.1).1).trans HZ24.out.1) HZ24.out.2)
                  clear hb9 HB24 HZ24 HA24
                  refine hK.out _ _ ?_ (fun hHeld => ?_)
                  · exact (HS.out.later HB25.out).more
                  clear hK K
                  try simp only [Act.put, List.setIfInBounds_toArray, List.set_cons_zero, List.set_cons_succ, List.getElem_toArray, List.getElem_cons_zero, List.getElem_cons_succ]
                  refine wpAnyH_take (i := 9) (v := ?_) rfl (by kernel_rfl) (by kernel_rfl) (by kernel_rfl) (fun _ _ _ h => h) (Or.inl ⟨by rfl, ?_⟩) hHeld ?_
                  rotate_left
                  · intro W0 hW; obtain ⟨hW1, hW2, hW3⟩ := hW; go_simp; (try with_reducible rfl)
                  try simp only [Act.put, List.setIfInBounds_toArray, List.set_cons_zero, List.set_cons_succ, List.getElem_toArray, List.getElem_cons_zero, List.getElem_cons_succ]
                  refine wpAnyH_take (i := 10) (v := ?_) rfl (by kernel_rfl) (by kernel_rfl) (by kernel_rfl) (fun _ _ _ h => h) (Or.inl ⟨by rfl, ?_⟩) hHeld ?_
                  rotate_left
                  · intro W0 hW; obtain ⟨hW1, hW2, hW3⟩ := hW; go_simp; (try with_reducible rfl)
                  try simp only [Act.put, List.setIfInBounds_toArray, List.set_cons_zero, List.set_cons_succ, List.getElem_toArray, List.getElem_cons_zero, List.getElem_cons_succ]
                  refine wpAnyH_take (i := 11) (v := ?_) rfl (by kernel_rfl) (by kernel_rfl) (by kernel_rfl) (fun _ _ _ h => h) (Or.inl ⟨by rfl, ?_⟩) hHeld ?_
                  rotate_left
                  · intro W0 hW; obtain ⟨hW1, hW2, hW3⟩ := hW; go_simp; (try with_reducible rfl)
                  try simp only [Act.put, List.setIfInBounds_toArray, List.set_cons_zero, List.set_cons_succ, List.getElem_toArray, List.getElem_cons_zero, List.getElem_cons_succ]
                  refine wpAnyH_ready (rs := [13]) (by kernel_rfl) (by simp) ?_
                  refine AllReadyH.cons rfl (fun K hK => ?_) AllReadyH.nil
                  obtain ⟨zc0, zc1, zc2⟩ := zero_tree HZ25.out.1
                  have HT26 := Lib.hid (tree_stored HZ25.out.1 (.slice a1 0 c1) (.slice a2 0 c2)).1
                  have HB26 := Lib.hid ((HB25.out.setCell (p := ⟨z22, 0, none⟩) HZ25.out.2 (.slice a1 0 c1)).setCell (p := ⟨z22, 1, none⟩) HZ25.out.2 (.slice a2 0 c2))
                  go_simp
                  refine hK.out _ _ ?_ (fun hHeld => ?_)
                  · exact (HS.out.later HB26.out).more
                  clear hK K
                  try simp only [Act.put, List.setIfInBounds_toArray, List.set_cons_zero, List.set_cons_succ, List.getElem_toArray, List.getElem_cons_zero, List.getElem_cons_succ]
                  generalize hw26 : World.setCell (World.setCell w25 ⟨z22, 0, none⟩ (.slice a1 0 c1)) ⟨z22, 1, none⟩ (.slice a2 0 c2) = w26 at HT26 HB26 hHeld ⊢
                  clear zc0 zc1 zc2 hw26 HB25 HZ25
                  refine wpAnyH_take (i := 14) (v := ?_) rfl (by kernel_rfl) (by kernel_rfl) (by kernel_rfl) (fun _ _ _ h => h) (Or.inl ⟨by rfl, ?_⟩) hHeld ?_
                  rotate_left
                  · intro W0 hW; obtain ⟨hW1, hW2, hW3⟩ := hW; go_simp; (try with_reducible rfl)
                  try simp only [Act.put, List.setIfInBounds_toArray, List.set_cons_zero, List.set_cons_succ, List.getElem_toArray, List.getElem_cons_zero, List.getElem_cons_succ]
                  refine wpAnyH_done (by kernel_rfl) ?_ _
                  clear hHeld
                  have HS26 := Lib.hid (HS.out.later HB26.out)
                  have th0 := HS26.out.fw.box.c0
                  have th1 := HS26.out.fw.t0
                  go_wp2_with fail
                  go_ret
                  exact ⟨rfl, HS26.out.fw.box.below⟩
                · have HN2 := Lib.hid hneg2
                  clear hneg2
                  go_simp
                  refine (from_tree2 P hqN HC2.out HN2.out _ _ _ HA24.out).mono ?_
                  rintro e w27 ⟨hb9, gf2, cf2, gb2, cb2, far2, by2, rfl, hlf2, ht2⟩
                  have HB27 := Lib.hid (HB24.out.trans (hb9.mono HB24.out.size))
                  have HT2 := Lib.hid ht2
                  have HZ27 := Lib.hid (And.intro ((Below.block (hb9) _ (Array.getElem?_eq_some_iff.1 HZ24.out.1).1).trans HZ24.out.1) HZ24.out.2)
                  have HF27 := Lib.hid (hlf2.rebase (Nat.zero_le _))
                  have HFZ27 : Hid (gf2 ≠ z22) := Lib.hid (by have h1 := hlf2.base_.1; have h2 := (Array.getElem?_eq_some_iff.1 HZ24.out.1).1; omega)
                  clear hb9 hlf2 ht2 HB24 HZ24 HA24
                  refine hK.out _ _ ?_ (fun hHeld => ?_)
                  · exact (HS.out.later HB27.out).more
                  clear hK K
                  try simp only [Act.put, List.setIfInBounds_toArray, List.set_cons_zero, List.set_cons_succ, List.getElem_toArray, List.getElem_cons_zero, List.getElem_cons_succ]
                  refine wpAnyH_take (i := 9) (v := ?_) rfl (by kernel_rfl) (by kernel_rfl) (by kernel_rfl) (fun _ _ _ h => h) (Or.inl ⟨by rfl, ?_⟩) hHeld ?_
                  rotate_left
                  · intro W0 hW; obtain ⟨hW1, hW2, hW3⟩ := hW; go_simp; (try with_reducible rfl)
                  try simp only [Act.put, List.setIfInBounds_toArray, List.set_cons_zero, List.set_cons_succ, List.getElem_toArray, List.getElem_cons_zero, List.getElem_cons_succ]
                  refine wpAnyH_take (i := 10) (v := ?_) rfl (by kernel_rfl) (by kernel_rfl) (by kernel_rfl) (fun _ _ _ h => h) (Or.inl ⟨by rfl, ?_⟩) hHeld ?_
                  rotate_left
                  · intro W0 hW; obtain ⟨hW1, hW2, hW3⟩ := hW; go_simp; (try with_reducible rfl)
                  try simp only [Act.put, List.setIfInBounds_toArray, List.set_cons_zero, List.set_cons_succ, List.getElem_toArray, List.getElem_cons_zero, List.getElem_cons_succ]
                  refine wpAnyH_take (i := 11) (v := ?_) rfl (by kernel_rfl) (by kernel_rfl) (by kernel_rfl) (fun _ _ _ h => h) (Or.inl ⟨by rfl, ?_⟩) hHeld ?_
                  rotate_left
                  · intro W0 hW; obtain ⟨hW1, hW2, hW3⟩ := hW; go_simp; (try with_reducible rfl)
                  try simp only [Act.put, List.setIfInBounds_toArray, List.set_cons_zero, List.set_cons_succ, List.getElem_toArray, List.getElem_cons_zero, List.getElem_cons_succ]
                  refine wpAnyH_ready (rs := [13]) (by kernel_rfl) (by simp) ?_
                  refine AllReadyH.cons rfl (fun K hK => ?_) AllReadyH.nil
                  obtain ⟨zc0, zc1, zc2⟩ := zero_tree HZ27.out.1
                  have HT28 := Lib.hid (tree_stored HZ27.out.1 (.slice (some ⟨gf2, 0, none⟩) N cf2) (.slice (some ⟨gb2, 0, none⟩) N cb2)).1
                  have HB28 := Lib.hid ((HB27.out.setCell (p := ⟨z22, 0, none⟩) HZ27.out.2 (.slice (some ⟨gf2, 0, none⟩) N cf2)).setCell (p := ⟨z22, 1, none⟩) HZ27.out.2 (.slice (some ⟨gb2, 0, none⟩) N cb2))
                  have HF28 := Lib.hid (HF27.out.kept (((Mod.refl (fun k => k = z22) w27).setCell (p := ⟨z22, 0, none⟩) (.inr rfl) (.slice (some ⟨gf2, 0, none⟩) N cf2)).setCell (p := ⟨z22, 1, none⟩) (.inr rfl) (.slice (some ⟨gb2, 0, none⟩) N cb2)) (fun k hk hk2 => HFZ27.out ((Option.some.inj hk).trans hk2)))
                  go_simp
                  refine hK.out _ _ ?_ (fun hHeld => ?_)
                  · exact (HS.out.later HB28.out).more
                  clear hK K
                  try simp only [Act.put, List.setIfInBounds_toArray, List.set_cons_zero, List.set_cons_succ, List.getElem_toArray, List.getElem_cons_zero, List.getElem_cons_succ]
                  generalize hw28 : World.setCell (World.setCell w27 ⟨z22, 0, none⟩ (.slice (some ⟨gf2, 0, none⟩) N cf2)) ⟨z22, 1, none⟩ (.slice (some ⟨gb2, 0, none⟩) N cb2) = w28 at HT28 HB28 HF28 hHeld ⊢
                  clear zc0 zc1 zc2 hw28 HB27 HZ27 HF27
                  refine wpAnyH_take (i := 14) (v := ?_) rfl (by kernel_rfl) (by kernel_rfl) (by kernel_rfl) (fun _ _ _ h => h) (Or.inl ⟨by rfl, ?_⟩) hHeld ?_
                  rotate_left
                  · intro W0 hW; obtain ⟨hW1, hW2, hW3⟩ := hW; go_simp; (try with_reducible rfl)
                  try simp only [Act.put, List.setIfInBounds_toArray, List.set_cons_zero, List.set_cons_succ, List.getElem_toArray, List.getElem_cons_zero, List.getElem_cons_succ]
                  refine wpAnyH_done (by kernel_rfl) ?_ _
                  clear hHeld
                  have HS28 := Lib.hid (HS.out.later HB28.out)
                  have th0 := HS28.out.fw.box.c0
                  have th1 := HS28.out.fw.t0
                  have HSH : Hid (Short2 w w28 g g1 (World.heap w).size z22 N la xs.length lc xs gf cf (.slice (some ⟨gb, 0, none⟩) N cb) far mo gf2 cf2 (.slice (some ⟨gb2, 0, none⟩) N cb2) far2) := Lib.hid ⟨HS28.out, HF28.out, HT28.out⟩
                  have zt := HSH.out.t0
                  go_wp2_with fail
                  have HLE : Hid (∀ i, valI far2 i ≤ valI far i) := Lib.hid (short_le HT.out.dist HT2.out.dist (HT2.out.dist.small (checkV_zero.1 HC2.out).2 hqN (by omega)))
                  clear th0 th1 zt HS28 HF28 HT28
                  go_loopw [107] (fun j wr => ∃ (i : Nat), j = .int .i64 i ∧ i ≤ N ∧ Hid (Short2 w wr g g1 (World.heap w).size z22 N la xs.length lc xs gf cf (.slice (some ⟨gb, 0, none⟩) N cb) far mo gf2 cf2 (.slice (some ⟨gb2, 0, none⟩) N cb2) far2)) (fun j _ => N - (intOf j).toNat)
                  case atStart => exact ⟨0, rfl, Nat.zero_le _, HSH⟩
                  case round =>
                    obtain ⟨i, rfl, hi2, HSH2⟩ := hrel
                    clear HSH
                    by_cases hlt2 : i < N
                    · have i1 : (0 : Int) ≤ (i : Int) := by omega
                      have i2 : (i : Int) < (N : Int) := by omega
                      have y0 := HSH2.out.one.fw.t0
                      have y1 := HSH2.out.t0
                      have y2 := HSH2.out.one.far.cell hlt2
                      have y3 := HSH2.out.far2.cell hlt2
                      have hle := HLE.out i
                      generalize valI far i = d1 at y2 hle
                      generalize valI far2 i = d2 at y3 hle
                      have hgt : decide (d1 < d2) = false := by simp; omega
                      go_wp2_with fail
                      go_quiet (fail)
                      go_wp2_with fail
                      go_roundw
                      case rel => exact ⟨i + 1, by go_num, by omega, Lib.hid (HSH2.out.later (below_drewN (Below.refl _ _) _))⟩
                      case measure => simp [intOf]; omega
                    · go_wp2_with fail
                      go_ret
                      exact ⟨rfl, HSH2.out.one.fw.box.below⟩
            · go_simp
              have HB29 := Lib.hid (HB1.out.alloc HB1.out.size (.cells #[.slice none 0 0, .slice none 0 0] 31))
              have HR29 := Lib.hid (owns_below HR1.out (((Below.refl (World.heap w1).size w1).alloc (Nat.le_refl _) (.cells #[.slice none 0 0, .slice none 0 0] 31))))
              have HZ29 := Lib.hid (And.intro (heap_alloc_new w1 (.cells #[.slice none 0 0, .slice none 0 0] 31)) HB1.out.size)
              have HZN29 : Hid ((Value.slice va l.length vc).ownBlock ≠ some (World.heap w1).size) := Lib.hid (fun h => by have := (World.ownsRow.lt HR1.out _ h).2; omega)
              refine hK.out _ _ ?_ (fun hHeld => ?_)
              · exact (HS.out.later HB29.out).more
              clear hK K
              try simp only [Act.put, List.setIfInBounds_toArray, List.set_cons_zero, List.set_cons_succ, List.getElem_toArray, List.getElem_cons_zero, List.getElem_cons_succ]
              generalize hw29 : World.alloc w1 (.cells #[.slice none 0 0, .slice none 0 0] 31) = w29 at HB29 HR29 HZ29 hHeld ⊢
              clear hw29 HB1 HR1
              generalize (World.heap w1).size = z29 at HZ29  HZN29 ⊢
              refine wpAnyH_ready (rs := [4]) (by kernel_rfl) (by simp) ?_
              refine AllReadyH.cons rfl (fun K hK => ?_) AllReadyH.nil
              go_simp
              have HB30 := Lib.hid (HB29.out.alloc HB29.out.size (.cells #[.int .u8 mo.1, .int .u8 mo.2.1, .int .i16 mo.2.2] 50))
              have HR30 := Lib.hid (owns_below HR29.out (((Below.refl (World.heap w29).size w29).alloc (Nat.le_refl _) (.cells #[.int .u8 mo.1, .int .u8 mo.2.1, .int .i16 mo.2.2] 50))))
              have HZ30 := Lib.hid (And.intro ((Below.block (((Below.refl (World.heap w29).size w29).alloc (Nat.le_refl _) (.cells #[.int .u8 mo.1, .int .u8 mo.2.1, .int .i16 mo.2.2] 50))) _ (Array.getElem?_eq_some_iff.1 HZ29.out.1).1).trans HZ29.out.1) HZ29.out.2)
              have HN30 := Lib.hid (newsL_at w29 mo 50 (World.heap w29).size rfl)
              have HNZ30 := Lib.hid (show (World.heap w29).size < (World.heap (World.alloc w29 (.cells #[.int .u8 mo.1, .int .u8 mo.2.1, .int .i16 mo.2.2] 50))).size by simp)
              refine hK.out _ _ ?_ (fun hHeld => ?_)
              · exact (HS.out.later HB30.out).more
              clear hK K
              try simp only [Act.put, List.setIfInBounds_toArray, List.set_cons_zero, List.set_cons_succ, List.getElem_toArray, List.getElem_cons_zero, List.getElem_cons_succ]
              generalize hw30 : World.alloc w29 (.cells #[.int .u8 mo.1, .int .u8 mo.2.1, .int .i16 mo.2.2] 50) = w30 at HB30 HR30 HN30 HNZ30 HZ30 hHeld ⊢
              clear hw30 HB29 HR29 HZ29
              generalize (World.heap w29).size = z30 at HN30  HNZ30 ⊢
              refine wpAnyH_ready (rs := [5]) (by kernel_rfl) (by simp) ?_
              refine AllReadyH.cons rfl (fun K hK => ?_) AllReadyH.nil
              refine step_append_fresh rfl (.tmp 83) (.tmp 85) 22 rfl (World.heap wr).size 50 i0 _ 3 4 Try.underlying22 hi hz0 hz1 hz2 (by decide) (.slice va l.length vc) l.length (flatL l) rfl HR30.out ⟨z30, 0, none⟩ 1 (encL mo) rfl rfl HN30.out (oneL1 _) (by unfold maxLen; omega) (by omega) HB30.out.size ?_
              intro g' cp7 w31 hown hgrow hfr
              have HB31 := Lib.hid (((Mod.of_below (fun k => (World.heap wr).size ≤ k) HB30.out).grown hgrow (fun k hk => .inr (World.ownsRow.lt HR30.out k hk).1)).below (Nat.le_refl _) (fun k hk => hk))
              have HL31 : Hid (IsLinks (World.heap w31).size w31 (some ⟨g', 0, none⟩) (l.length + 1) (l ++ [mo])) := Lib.hid (owns_links (l := l ++ [mo]) (by rw [flatL_snoc, List.length_append]; exact hown) HSA.out).2
              have HZ31 := Lib.hid (And.intro ((hgrow.block z29 (Array.getElem?_eq_some_iff.1 HZ30.out.1).1 (fun h => HZN29.out h.symm)).trans HZ30.out.1) HZ30.out.2)
              clear hown hgrow hfr HB30 HR30 HN30 HNZ30 HZ30
              refine hK.out _ _ ?_ (fun hHeld => ?_)
              · exact (HS.out.later HB31.out).more
              clear hK K
              try simp only [Act.put, List.setIfInBounds_toArray, List.set_cons_zero, List.set_cons_succ, List.getElem_toArray, List.getElem_cons_zero, List.getElem_cons_succ]
              refine wpAnyH_ready (rs := [6]) (by kernel_rfl) (by simp) ?_
              refine AllReadyH.cons rfl (fun K hK => ?_) AllReadyH.nil
              go_simp
              refine (HMK.out (l.length + 1) (l ++ [mo]) _ _ _ (by omega) HL31.out).mono ?_
              rintro e w32 ⟨lv8, rfl, hrow8, hb8⟩
              rw [HLn.out, HX2.out] at hrow8
              obtain ⟨la8, lc8, hv⟩ := owns_shape hrow8
              subst hv
              have h9 := (owns_arcs hrow8).2
              rw [show (xs ++ [arcOf (N : Int) mo]).length = xs.length + 1 by simp] at h9
              have HB32 := Lib.hid (HB31.out.trans (hb8.mono HB31.out.size))
              have HZ32 := Lib.hid (And.intro ((Below.block (hb8) _ (Array.getElem?_eq_some_iff.1 HZ31.out.1).1).trans HZ31.out.1) HZ31.out.2)
              have HA32 := Lib.hid h9
              clear hrow8 hb8 h9 HB31 HZ31 HL31
              refine hK.out _ _ ?_ (fun hHeld => ?_)
              · exact (HS.out.later HB32.out).more
              clear hK K
              try simp only [Act.put, List.setIfInBounds_toArray, List.set_cons_zero, List.set_cons_succ, List.getElem_toArray, List.getElem_cons_zero, List.getElem_cons_succ]
              refine wpAnyH_ready (rs := [8]) (by kernel_rfl) (by simp) ?_
              refine AllReadyH.cons rfl (fun K hK => ?_) AllReadyH.nil
              by_cases hneg2 : Neg (xs ++ [arcOf (N : Int) mo]) q
              · have HN2 := Lib.hid hneg2
                clear hneg2
                go_simp
                refine (P.from_neg hqN HC2.out HN2.out _ _ HA32.out).mono ?_
                rintro e w33 ⟨hb9, a1, c1, a2, c2, rfl⟩
                have HB33 := Lib.hid (HB32.out.trans (hb9.mono HB32.out.size))
                have HZ33 := Lib.hid (And.intro ((Below.block (hb9) _ (Array.getElem?_eq_some_iff.1 HZ32.out.1).1).trans HZ32.out.1) HZ32.out.2)
                clear hb9 HB32 HZ32 HA32
                refine hK.out _ _ ?_ (fun hHeld => ?_)
                · exact (HS.out.later HB33.out).more
                clear hK K
                try simp only [Act.put, List.setIfInBounds_toArray, List.set_cons_zero, List.set_cons_succ, List.getElem_toArray, List.getElem_cons_zero, List.getElem_cons_succ]
                refine wpAnyH_take (i := 9) (v := ?_) rfl (by kernel_rfl) (by kernel_rfl) (by kernel_rfl) (fun _ _ _ h => h) (Or.inl ⟨by rfl, ?_⟩) hHeld ?_
                rotate_left
                · intro W0 hW; obtain ⟨hW1, hW2, hW3⟩ := hW; go_simp; (try with_reducible rfl)
                try simp only [Act.put, List.setIfInBounds_toArray, List.set_cons_zero, List.set_cons_succ, List.getElem_toArray, List.getElem_cons_zero, List.getElem_cons_succ]
                refine wpAnyH_take (i := 10) (v := ?_) rfl (by kernel_rfl) (by kernel_rfl) (by kernel_rfl) (fun _ _ _ h => h) (Or.inl ⟨by rfl, ?_⟩) hHeld ?_
                rotate_left
                · intro W0 hW; obtain ⟨hW1, hW2, hW3⟩ := hW; go_simp; (try with_reducible rfl)
                try simp only [Act.put, List.setIfInBounds_toArray, List.set_cons_zero, List.set_cons_succ, List.getElem_toArray, List.getElem_cons_zero, List.getElem_cons_succ]
                refine wpAnyH_take (i := 11) (v := ?_) rfl (by kernel_rfl) (by kernel_rfl) (by kernel_rfl) (fun _ _ _ h => h) (Or.inl ⟨by rfl, ?_⟩) hHeld ?_
                rotate_left
                · intro W0 hW; obtain ⟨hW1, hW2, hW3⟩ := hW; go_simp; (try with_reducible rfl)
                try simp only [Act.put, List.setIfInBounds_toArray, List.set_cons_zero, List.set_cons_succ, List.getElem_toArray, List.getElem_cons_zero, List.getElem_cons_succ]
                refine wpAnyH_ready (rs := [13]) (by kernel_rfl) (by simp) ?_
                refine AllReadyH.cons rfl (fun K hK => ?_) AllReadyH.nil
                obtain ⟨zc0, zc1, zc2⟩ := zero_tree HZ33.out.1
                have HT34 := Lib.hid (tree_stored HZ33.out.1 (.slice a1 0 c1) (.slice a2 0 c2)).1
                have HB34 := Lib.hid ((HB33.out.setCell (p := ⟨z29, 0, none⟩) HZ33.out.2 (.slice a1 0 c1)).setCell (p := ⟨z29, 1, none⟩) HZ33.out.2 (.slice a2 0 c2))
                go_simp
                refine hK.out _ _ ?_ (fun hHeld => ?_)
                · exact (HS.out.later HB34.out).more
                clear hK K
                try simp only [Act.put, List.setIfInBounds_toArray, List.set_cons_zero, List.set_cons_succ, List.getElem_toArray, List.getElem_cons_zero, List.getElem_cons_succ]
                generalize hw34 : World.setCell (World.setCell w33 ⟨z29, 0, none⟩ (.slice a1 0 c1)) ⟨z29, 1, none⟩ (.slice a2 0 c2) = w34 at HT34 HB34 hHeld ⊢
                clear zc0 zc1 zc2 hw34 HB33 HZ33
                refine wpAnyH_take (i := 14) (v := ?_) rfl (by kernel_rfl) (by kernel_rfl) (by kernel_rfl) (fun _ _ _ h => h) (Or.inl ⟨by rfl, ?_⟩) hHeld ?_
                rotate_left
                · intro W0 hW; obtain ⟨hW1, hW2, hW3⟩ := hW; go_simp; (try with_reducible rfl)
                try simp only [Act.put, List.setIfInBounds_toArray, List.set_cons_zero, List.set_cons_succ, List.getElem_toArray, List.getElem_cons_zero, List.getElem_cons_succ]
                refine wpAnyH_done (by kernel_rfl) ?_ _
                clear hHeld
                have HS34 := Lib.hid (HS.out.later HB34.out)
                have th0 := HS34.out.fw.box.c0
                have th1 := HS34.out.fw.t0
                go_wp2_with fail
                go_ret
                exact ⟨rfl, HS34.out.fw.box.below⟩
              · have HN2 := Lib.hid hneg2
                clear hneg2
                go_simp
                refine (from_tree2 P hqN HC2.out HN2.out _ _ _ HA32.out).mono ?_
                rintro e w35 ⟨hb9, gf2, cf2, gb2, cb2, far2, by2, rfl, hlf2, ht2⟩
                have HB35 := Lib.hid (HB32.out.trans (hb9.mono HB32.out.size))
                have HT2 := Lib.hid ht2
                have HZ35 := Lib.hid (And.intro ((Below.block (hb9) _ (Array.getElem?_eq_some_iff.1 HZ32.out.1).1).trans HZ32.out.1) HZ32.out.2)
                have HF35 := Lib.hid (hlf2.rebase (Nat.zero_le _))
                have HFZ35 : Hid (gf2 ≠ z29) := Lib.hid (by have h1 := hlf2.base_.1; have h2 := (Array.getElem?_eq_some_iff.1 HZ32.out.1).1; omega)
                clear hb9 hlf2 ht2 HB32 HZ32 HA32
                refine hK.out _ _ ?_ (fun hHeld => ?_)
                · exact (HS.out.later HB35.out).more
                clear hK K
                try simp only [Act.put, List.setIfInBounds_toArray, List.set_cons_zero, List.set_cons_succ, List.getElem_toArray, List.getElem_cons_zero, List.getElem_cons_succ]
                refine wpAnyH_take (i := 9) (v := ?_) rfl (by kernel_rfl) (by kernel_rfl) (by kernel_rfl) (fun _ _ _ h => h) (Or.inl ⟨by rfl, ?_⟩) hHeld ?_
                rotate_left
                · intro W0 hW; obtain ⟨hW1, hW2, hW3⟩ := hW; go_simp; (try with_reducible rfl)
                try simp only [Act.put, List.setIfInBounds_toArray, List.set_cons_zero, List.set_cons_succ, List.getElem_toArray, List.getElem_cons_zero, List.getElem_cons_succ]
                refine wpAnyH_take (i := 10) (v := ?_) rfl (by kernel_rfl) (by kernel_rfl) (by kernel_rfl) (fun _ _ _ h => h) (Or.inl ⟨by rfl, ?_⟩) hHeld ?_
                rotate_left
                · intro W0 hW; obtain ⟨hW1, hW2, hW3⟩ := hW; go_simp; (try with_reducible rfl)
                try simp only [Act.put, List.setIfInBounds_toArray, List.set_cons_zero, List.set_cons_succ, List.getElem_toArray, List.getElem_cons_zero, List.getElem_cons_succ]
                refine wpAnyH_take (i := 11) (v := ?_) rfl (by kernel_rfl) (by kernel_rfl) (by kernel_rfl) (fun _ _ _ h => h) (Or.inl ⟨by rfl, ?_⟩) hHeld ?_
                rotate_left
                · intro W0 hW; obtain ⟨hW1, hW2, hW3⟩ := hW; go_simp; (try with_reducible rfl)
                try simp only [Act.put, List.setIfInBounds_toArray, List.set_cons_zero, List.set_cons_succ, List.getElem_toArray, List.getElem_cons_zero, List.getElem_cons_succ]
                refine wpAnyH_ready (rs := [13]) (by kernel_rfl) (by simp) ?_
                refine AllReadyH.cons rfl (fun K hK => ?_) AllReadyH.nil
                obtain ⟨zc0, zc1, zc2⟩ := zero_tree HZ35.out.1
                have HT36 := Lib.hid (tree_stored HZ35.out.1 (.slice (some ⟨gf2, 0, none⟩) N cf2) (.slice (some ⟨gb2, 0, none⟩) N cb2)).1
                have HB36 := Lib.hid ((HB35.out.setCell (p := ⟨z29, 0, none⟩) HZ35.out.2 (.slice (some ⟨gf2, 0, none⟩) N cf2)).setCell (p := ⟨z29, 1, none⟩) HZ35.out.2 (.slice (some ⟨gb2, 0, none⟩) N cb2))
                have HF36 := Lib.hid (HF35.out.kept (((Mod.refl (fun k => k = z29) w35).setCell (p := ⟨z29, 0, none⟩) (.inr rfl) (.slice (some ⟨gf2, 0, none⟩) N cf2)).setCell (p := ⟨z29, 1, none⟩) (.inr rfl) (.slice (some ⟨gb2, 0, none⟩) N cb2)) (fun k hk hk2 => HFZ35.out ((Option.some.inj hk).trans hk2)))
                go_simp
                refine hK.out _ _ ?_ (fun hHeld => ?_)
                · exact (HS.out.later HB36.out).more
                clear hK K
                try simp only [Act.put, List.setIfInBounds_toArray, List.set_cons_zero, List.set_cons_succ, List.getElem_toArray, List.getElem_cons_zero, List.getElem_cons_succ]
                generalize hw36 : World.setCell (World.setCell w35 ⟨z29, 0, none⟩ (.slice (some ⟨gf2, 0, none⟩) N cf2)) ⟨z29, 1, none⟩ (.slice (some ⟨gb2, 0, none⟩) N cb2) = w36 at HT36 HB36 HF36 hHeld ⊢
                clear zc0 zc1 zc2 hw36 HB35 HZ35 HF35
                refine wpAnyH_take (i := 14) (v := ?_) rfl (by kernel_rfl) (by kernel_rfl) (by kernel_rfl) (fun _ _ _ h => h) (Or.inl ⟨by rfl, ?_⟩) hHeld ?_
                rotate_left
                · intro W0 hW; obtain ⟨hW1, hW2, hW3⟩ := hW; go_simp; (try with_reducible rfl)
                try simp only [Act.put, List.setIfInBounds_toArray, List.set_cons_zero, List.set_cons_succ, List.getElem_toArray, List.getElem_cons_zero, List.getElem_cons_succ]
                refine wpAnyH_done (by kernel_rfl) ?_ _
                clear hHeld
                have HS36 := Lib.hid (HS.out.later HB36.out)
                have th0 := HS36.out.fw.box.c0
                have th1 := HS36.out.fw.t0
                have HSH : Hid (Short2 w w36 g g1 (World.heap w).size z29 N la xs.length lc xs gf cf (.slice (some ⟨gb, 0, none⟩) N cb) far mo gf2 cf2 (.slice (some ⟨gb2, 0, none⟩) N cb2) far2) := Lib.hid ⟨HS36.out, HF36.out, HT36.out⟩
                have zt := HSH.out.t0
                go_wp2_with fail
                have HLE : Hid (∀ i, valI far2 i ≤ valI far i) := Lib.hid (short_le HT.out.dist HT2.out.dist (HT2.out.dist.small (checkV_zero.1 HC2.out).2 hqN (by omega)))
                clear th0 th1 zt HS36 HF36 HT36
                go_loopw [107] (fun j wr => ∃ (i : Nat), j = .int .i64 i ∧ i ≤ N ∧ Hid (Short2 w wr g g1 (World.heap w).size z29 N la xs.length lc xs gf cf (.slice (some ⟨gb, 0, none⟩) N cb) far mo gf2 cf2 (.slice (some ⟨gb2, 0, none⟩) N cb2) far2)) (fun j _ => N - (intOf j).toNat)
                case atStart => exact ⟨0, rfl, Nat.zero_le _, HSH⟩
                case round =>
                  obtain ⟨i, rfl, hi2, HSH2⟩ := hrel
                  clear HSH
                  by_cases hlt2 : i < N
                  · have i1 : (0 : Int) ≤ (i : Int) := by omega
                    have i2 : (i : Int) < (N : Int) := by omega
                    have y0 := HSH2.out.one.fw.t0
                    have y1 := HSH2.out.t0
                    have y2 := HSH2.out.one.far.cell hlt2
                    have y3 := HSH2.out.far2.cell hlt2
                    have hle := HLE.out i
                    generalize valI far i = d1 at y2 hle
                    generalize valI far2 i = d2 at y3 hle
                    have hgt : decide (d1 < d2) = false := by simp; omega
                    go_wp2_with fail
                    go_quiet (fail)
                    go_wp2_with fail
                    go_roundw
                    case rel => exact ⟨i + 1, by go_num, by omega, Lib.hid (HSH2.out.later (below_drewN (Below.refl _ _) _))⟩
                    case measure => simp [intOf]; omega
                  · go_wp2_with fail
                    go_ret
                    exact ⟨rfl, HSH2.out.one.fw.box.below⟩
          · go_simp
            have HB37 := Lib.hid (HB0.out.alloc HB0.out.size (.cells #[.int .u8 mo.1, .int .u8 mo.2.1, .int .i16 mo.2.2] 50))
            have HN37 := Lib.hid (newsL_at w0 mo 50 (World.heap w0).size rfl)
            have HNZ37 := Lib.hid (show (World.heap w0).size < (World.heap (World.alloc w0 (.cells #[.int .u8 mo.1, .int .u8 mo.2.1, .int .i16 mo.2.2] 50))).size by simp)
            refine hK.out _ _ ?_ (fun hHeld => ?_)
            · exact (HS.out.later HB37.out).more
            clear hK K
            try simp only [Act.put, List.setIfInBounds_toArray, List.set_cons_zero, List.set_cons_succ, List.getElem_toArray, List.getElem_cons_zero, List.getElem_cons_succ]
            generalize hw37 : World.alloc w0 (.cells #[.int .u8 mo.1, .int .u8 mo.2.1, .int .i16 mo.2.2] 50) = w37 at HB37 HN37 HNZ37 hHeld ⊢
            clear hw37 HB0
            generalize (World.heap w0).size = z37 at HN37  HNZ37 ⊢
            refine wpAnyH_ready (rs := [2, 12]) (by kernel_rfl) (by simp) ?_
            refine AllReadyH.cons rfl (fun K hK => ?_) (AllReadyH.cons rfl (fun K hK => ?_) AllReadyH.nil)
            · go_simp
              refine (cloneLinks ((HL.out.later (HS.out.fw.box.below.trans (HB37.out.mono HS.out.fw.box.below.size))).mono (HS.out.fw.box.below.trans (HB37.out.mono HS.out.fw.box.below.size)).size) (by omega) HCP.out).mono ?_
              rintro e w38 ⟨v6, rfl, hr6, hb6⟩
              obtain ⟨va, vc, hv⟩ := owns_shape hr6
              subst hv
              have HB38 := Lib.hid (HB37.out.trans (hb6.mono HB37.out.size))
              have HN38 := Lib.hid (newsL_later HN37.out HNZ37.out (hb6))
              have HNZ38 := Lib.hid (Nat.lt_of_lt_of_le HNZ37.out (hb6).size)
              have HR38 := Lib.hid (owns_rebase hr6 HB37.out.size)
              clear hr6 hb6 HB37 HN37 HNZ37
              refine hK.out _ _ ?_ (fun hHeld => ?_)
              · exact (HS.out.later HB38.out).more
              clear hK K
              try simp only [Act.put, List.setIfInBounds_toArray, List.set_cons_zero, List.set_cons_succ, List.getElem_toArray, List.getElem_cons_zero, List.getElem_cons_succ]
              refine wpAnyH_ready (rs := [5, 12]) (by kernel_rfl) (by simp) ?_
              refine AllReadyH.cons rfl (fun K hK => ?_) (AllReadyH.cons rfl (fun K hK => ?_) AllReadyH.nil)
              · refine step_append_fresh rfl (.tmp 83) (.tmp 85) 22 rfl (World.heap wr).size 50 i0 _ 3 4 Try.underlying22 hi hz0 hz1 hz2 (by decide) (.slice va l.length vc) l.length (flatL l) rfl HR38.out ⟨z37, 0, none⟩ 1 (encL mo) rfl rfl HN38.out (oneL1 _) (by unfold maxLen; omega) (by omega) HB38.out.size ?_
                intro g' cp7 w39 hown hgrow hfr
                have HB39 := Lib.hid (((Mod.of_below (fun k => (World.heap wr).size ≤ k) HB38.out).grown hgrow (fun k hk => .inr (World.ownsRow.lt HR38.out k hk).1)).below (Nat.le_refl _) (fun k hk => hk))
                have HL39 : Hid (IsLinks (World.heap w39).size w39 (some ⟨g', 0, none⟩) (l.length + 1) (l ++ [mo])) := Lib.hid (owns_links (l := l ++ [mo]) (by rw [flatL_snoc, List.length_append]; exact hown) HSA.out).2
                clear hown hgrow hfr HB38 HR38 HN38 HNZ38
                refine hK.out _ _ ?_ (fun hHeld => ?_)
                · exact (HS.out.later HB39.out).more
                clear hK K
                try simp only [Act.put, List.setIfInBounds_toArray, List.set_cons_zero, List.set_cons_succ, List.getElem_toArray, List.getElem_cons_zero, List.getElem_cons_succ]
                refine wpAnyH_ready (rs := [6, 12]) (by kernel_rfl) (by simp) ?_
                refine AllReadyH.cons rfl (fun K hK => ?_) (AllReadyH.cons rfl (fun K hK => ?_) AllReadyH.nil)
                · go_simp
                  refine (HMK.out (l.length + 1) (l ++ [mo]) _ _ _ (by omega) HL39.out).mono ?_
                  rintro e w40 ⟨lv8, rfl, hrow8, hb8⟩
                  rw [HLn.out, HX2.out] at hrow8
                  obtain ⟨la8, lc8, hv⟩ := owns_shape hrow8
                  subst hv
                  have h9 := (owns_arcs hrow8).2
                  rw [show (xs ++ [arcOf (N : Int) mo]).length = xs.length + 1 by simp] at h9
                  have HB40 := Lib.hid (HB39.out.trans (hb8.mono HB39.out.size))
                  have HA40 := Lib.hid h9
                  clear hrow8 hb8 h9 HB39 HL39
                  refine hK.out _ _ ?_ (fun hHeld => ?_)
                  · exact (HS.out.later HB40.out).more
                  clear hK K
                  try simp only [Act.put, List.setIfInBounds_toArray, List.set_cons_zero, List.set_cons_succ, List.getElem_toArray, List.getElem_cons_zero, List.getElem_cons_succ]
                  refine wpAnyH_ready (rs := [8, 12]) (by kernel_rfl) (by simp) ?_
                  refine AllReadyH.cons rfl (fun K hK => ?_) (AllReadyH.cons rfl (fun K hK => ?_) AllReadyH.nil)
                  · by_cases hneg2 : Neg (xs ++ [arcOf (N : Int) mo]) q
                    · have HN2 := Lib.hid hneg2
                      clear hneg2
                      go_simp
                      refine (P.from_neg hqN HC2.out HN2.out _ _ HA40.out).mono ?_
                      rintro e w41 ⟨hb9, a1, c1, a2, c2, rfl⟩
                      have HB41 := Lib.hid (HB40.out.trans (hb9.mono HB40.out.size))
                      clear hb9 HB40 HA40
                      refine hK.out _ _ ?_ (fun hHeld => ?_)
                      · exact (HS.out.later HB41.out).more
                      clear hK K
                      try simp only [Act.put, List.setIfInBounds_toArray, List.set_cons_zero, List.set_cons_succ, List.getElem_toArray, List.getElem_cons_zero, List.getElem_cons_succ]
                      refine wpAnyH_take (i := 9) (v := ?_) rfl (by kernel_rfl) (by kernel_rfl) (by kernel_rfl) (fun _ _ _ h => h) (Or.inl ⟨by rfl, ?_⟩) hHeld ?_
                      rotate_left
                      · intro W0 hW; obtain ⟨hW1, hW2, hW3⟩ := hW; go_simp; (try with_reducible rfl)
                      try simp only [Act.put, List.setIfInBounds_toArray, List.set_cons_zero, List.set_cons_succ, List.getElem_toArray, List.getElem_cons_zero, List.getElem_cons_succ]
                      refine wpAnyH_take (i := 10) (v := ?_) rfl (by kernel_rfl) (by kernel_rfl) (by kernel_rfl) (fun _ _ _ h => h) (Or.inl ⟨by rfl, ?_⟩) hHeld ?_
                      rotate_left
                      · intro W0 hW; obtain ⟨hW1, hW2, hW3⟩ := hW; go_simp; (try with_reducible rfl)
                      try simp only [Act.put, List.setIfInBounds_toArray, List.set_cons_zero, List.set_cons_succ, List.getElem_toArray, List.getElem_cons_zero, List.getElem_cons_succ]
                      refine wpAnyH_take (i := 11) (v := ?_) rfl (by kernel_rfl) (by kernel_rfl) (by kernel_rfl) (fun _ _ _ h => h) (Or.inl ⟨by rfl, ?_⟩) hHeld ?_
                      rotate_left
                      · intro W0 hW; obtain ⟨hW1, hW2, hW3⟩ := hW; go_simp; (try with_reducible rfl)
                      try simp only [Act.put, List.setIfInBounds_toArray, List.set_cons_zero, List.set_cons_succ, List.getElem_toArray, List.getElem_cons_zero, List.getElem_cons_succ]
                      refine wpAnyH_ready (rs := [12]) (by kernel_rfl) (by simp) ?_
                      refine AllReadyH.cons rfl (fun K hK => ?_) AllReadyH.nil
                      go_simp
                      have HB42 := Lib.hid (HB41.out.alloc HB41.out.size (.cells #[.slice none 0 0, .slice none 0 0] 31))
                      have HZ42 := Lib.hid (And.intro (heap_alloc_new w41 (.cells #[.slice none 0 0, .slice none 0 0] 31)) HB41.out.size)
                      refine hK.out _ _ ?_ (fun hHeld => ?_)
                      · exact (HS.out.later HB42.out).more
                      clear hK K
                      try simp only [Act.put, List.setIfInBounds_toArray, List.set_cons_zero, List.set_cons_succ, List.getElem_toArray, List.getElem_cons_zero, List.getElem_cons_succ]
                      generalize hw42 : World.alloc w41 (.cells #[.slice none 0 0, .slice none 0 0] 31) = w42 at HB42 HZ42 hHeld ⊢
                      clear hw42 HB41
                      generalize (World.heap w41).size = z42 at HZ42 ⊢
                      refine wpAnyH_ready (rs := [13]) (by kernel_rfl) (by simp) ?_
                      refine AllReadyH.cons rfl (fun K hK => ?_) AllReadyH.nil
                      obtain ⟨zc0, zc1, zc2⟩ := zero_tree HZ42.out.1
                      have HT43 := Lib.hid (tree_stored HZ42.out.1 (.slice a1 0 c1) (.slice a2 0 c2)).1
                      have HB43 := Lib.hid ((HB42.out.setCell (p := ⟨z42, 0, none⟩) HZ42.out.2 (.slice a1 0 c1)).setCell (p := ⟨z42, 1, none⟩) HZ42.out.2 (.slice a2 0 c2))
                      go_simp
                      refine hK.out _ _ ?_ (fun hHeld => ?_)
                      · exact (HS.out.later HB43.out).more
                      clear hK K
                      try simp only [Act.put, List.setIfInBounds_toArray, List.set_cons_zero, List.set_cons_succ, List.getElem_toArray, List.getElem_cons_zero, List.getElem_cons_succ]
                      generalize hw43 : World.setCell (World.setCell w42 ⟨z42, 0, none⟩ (.slice a1 0 c1)) ⟨z42, 1, none⟩ (.slice a2 0 c2) = w43 at HT43 HB43 hHeld ⊢
                      clear zc0 zc1 zc2 hw43 HB42 HZ42
                      refine wpAnyH_take (i := 14) (v := ?_) rfl (by kernel_rfl) (by kernel_rfl) (by kernel_rfl) (fun _ _ _ h => h) (Or.inl ⟨by rfl, ?_⟩) hHeld ?_
                      rotate_left
                      · intro W0 hW; obtain ⟨hW1, hW2, hW3⟩ := hW; go_simp; (try with_reducible rfl)
                      try simp only [Act.put, List.setIfInBounds_toArray, List.set_cons_zero, List.set_cons_succ, List.getElem_toArray, List.getElem_cons_zero, List.getElem_cons_succ]
                      refine wpAnyH_done (by kernel_rfl) ?_ _
                      clear hHeld
                      have HS43 := Lib.hid (HS.out.later HB43.out)
                      have th0 := HS43.out.fw.box.c0
                      have th1 := HS43.out.fw.t0
                      go_wp2_with fail
                      go_ret
                      exact ⟨rfl, HS43.out.fw.box.below⟩
                    · have HN2 := Lib.hid hneg2
                      clear hneg2
                      go_simp
                      refine (from_tree2 P hqN HC2.out HN2.out _ _ _ HA40.out).mono ?_
                      rintro e w44 ⟨hb9, gf2, cf2, gb2, cb2, far2, by2, rfl, hlf2, ht2⟩
                      have HB44 := Lib.hid (HB40.out.trans (hb9.mono HB40.out.size))
                      have HT2 := Lib.hid ht2
                      have HF44 := Lib.hid (hlf2.rebase (Nat.zero_le _))
                      clear hb9 hlf2 ht2 HB40 HA40
                      refine hK.out _ _ ?_ (fun hHeld => ?_)
                      · exact (HS.out.later HB44.out).more
                      clear hK K
                      try simp only [Act.put, List.setIfInBounds_toArray, List.set_cons_zero, List.set_cons_succ, List.getElem_toArray, List.getElem_cons_zero, List.getElem_cons_succ]
                      refine wpAnyH_take (i := 9) (v := ?_) rfl (by kernel_rfl) (by kernel_rfl) (by kernel_rfl) (fun _ _ _ h => h) (Or.inl ⟨by rfl, ?_⟩) hHeld ?_
                      rotate_left
                      · intro W0 hW; obtain ⟨hW1, hW2, hW3⟩ := hW; go_simp; (try with_reducible rfl)
                      try simp only [Act.put, List.setIfInBounds_toArray, List.set_cons_zero, List.set_cons_succ, List.getElem_toArray, List.getElem_cons_zero, List.getElem_cons_succ]
                      refine wpAnyH_take (i := 10) (v := ?_) rfl (by kernel_rfl) (by kernel_rfl) (by kernel_rfl) (fun _ _ _ h => h) (Or.inl ⟨by rfl, ?_⟩) hHeld ?_
                      rotate_left
                      · intro W0 hW; obtain ⟨hW1, hW2, hW3⟩ := hW; go_simp; (try with_reducible rfl)
                      try simp only [Act.put, List.setIfInBounds_toArray, List.set_cons_zero, List.set_cons_succ, List.getElem_toArray, List.getElem_cons_zero, List.getElem_cons_succ]
                      refine wpAnyH_take (i := 11) (v := ?_) rfl (by kernel_rfl) (by kernel_rfl) (by kernel_rfl) (fun _ _ _ h => h) (Or.inl ⟨by rfl, ?_⟩) hHeld ?_
                      rotate_left
                      · intro W0 hW; obtain ⟨hW1, hW2, hW3⟩ := hW; go_simp; (try with_reducible rfl)
                      try simp only [Act.put, List.setIfInBounds_toArray, List.set_cons_zero, List.set_cons_succ, List.getElem_toArray, List.getElem_cons_zero, List.getElem_cons_succ]
                      refine wpAnyH_ready (rs := [12]) (by kernel_rfl) (by simp) ?_
                      refine AllReadyH.cons rfl (fun K hK => ?_) AllReadyH.nil
                      go_simp
                      have HB45 := Lib.hid (HB44.out.alloc HB44.out.size (.cells #[.slice none 0 0, .slice none 0 0] 31))
                      have HF45 := Lib.hid (HF44.out.below (((Below.refl (World.heap w44).size w44).alloc (Nat.le_refl _) (.cells #[.slice none 0 0, .slice none 0 0] 31))))
                      have HZ45 := Lib.hid (And.intro (heap_alloc_new w44 (.cells #[.slice none 0 0, .slice none 0 0] 31)) HB44.out.size)
                      have HFZ45 : Hid (gf2 ≠ (World.heap w44).size) := Lib.hid (by have := HF44.out.base_.2; omega)
                      refine hK.out _ _ ?_ (fun hHeld => ?_)
                      · exact (HS.out.later HB45.out).more
                      clear hK K
                      try simp only [Act.put, List.setIfInBounds_toArray, List.set_cons_zero, List.set_cons_succ, List.getElem_toArray, List.getElem_cons_zero, List.getElem_cons_succ]
                      generalize hw45 : World.alloc w44 (.cells #[.slice none 0 0, .slice none 0 0] 31) = w45 at HB45 HZ45 HF45 hHeld ⊢
                      clear hw45 HB44 HF44
                      generalize (World.heap w44).size = z45 at HZ45  HFZ45 ⊢
                      refine wpAnyH_ready (rs := [13]) (by kernel_rfl) (by simp) ?_
                      refine AllReadyH.cons rfl (fun K hK => ?_) AllReadyH.nil
                      obtain ⟨zc0, zc1, zc2⟩ := zero_tree HZ45.out.1
                      have HT46 := Lib.hid (tree_stored HZ45.out.1 (.slice (some ⟨gf2, 0, none⟩) N cf2) (.slice (some ⟨gb2, 0, none⟩) N cb2)).1
                      have HB46 := Lib.hid ((HB45.out.setCell (p := ⟨z45, 0, none⟩) HZ45.out.2 (.slice (some ⟨gf2, 0, none⟩) N cf2)).setCell (p := ⟨z45, 1, none⟩) HZ45.out.2 (.slice (some ⟨gb2, 0, none⟩) N cb2))
                      have HF46 := Lib.hid (HF45.out.kept (((Mod.refl (fun k => k = z45) w45).setCell (p := ⟨z45, 0, none⟩) (.inr rfl) (.slice (some ⟨gf2, 0, none⟩) N cf2)).setCell (p := ⟨z45, 1, none⟩) (.inr rfl) (.slice (some ⟨gb2, 0, none⟩) N cb2)) (fun k hk hk2 => HFZ45.out ((Option.some.inj hk).trans hk2)))
                      go_simp
                      refine hK.out _ _ ?_ (fun hHeld => ?_)
                      · exact (HS.out.later HB46.out).more
                      clear hK K
                      try simp only [Act.put, List.setIfInBounds_toArray, List.set_cons_zero, List.set_cons_succ, List.getElem_toArray, List.getElem_cons_zero, List.getElem_cons_succ]
                      generalize hw46 : World.setCell (World.setCell w45 ⟨z45, 0, none⟩ (.slice (some ⟨gf2, 0, none⟩) N cf2)) ⟨z45, 1, none⟩ (.slice (some ⟨gb2, 0, none⟩) N cb2) = w46 at HT46 HB46 HF46 hHeld ⊢
                      clear zc0 zc1 zc2 hw46 HB45 HZ45 HF45
                      refine wpAnyH_take (i := 14) (v := ?_) rfl (by kernel_rfl) (by kernel_rfl) (by kernel_rfl) (fun _ _ _ h => h) (Or.inl ⟨by rfl, ?_⟩) hHeld ?_
                      rotate_left
                      · intro W0 hW; obtain ⟨hW1, hW2, hW3⟩ := hW; go_simp; (try with_reducible rfl)
                      try simp only [Act.put, List.setIfInBounds_toArray, List.set_cons_zero, List.set_cons_succ, List.getElem_toArray, List.getElem_cons_zero, List.getElem_cons_succ]
                      refine wpAnyH_done (by kernel_rfl) ?_ _
                      clear hHeld
                      have HS46 := Lib.hid (HS.out.later HB46.out)
                      have th0 := HS46.out.fw.box.c0
                      have th1 := HS46.out.fw.t0
                      have HSH : Hid (Short2 w w46 g g1 (World.heap w).size z45 N la xs.length lc xs gf cf (.slice (some ⟨gb, 0, none⟩) N cb) far mo gf2 cf2 (.slice (some ⟨gb2, 0, none⟩) N cb2) far2) := Lib.hid ⟨HS46.out, HF46.out, HT46.out⟩
                      have zt := HSH.out.t0
                      go_wp2_with fail
                      have HLE : Hid (∀ i, valI far2 i ≤ valI far i) := Lib.hid (short_le HT.out.dist HT2.out.dist (HT2.out.dist.small (checkV_zero.1 HC2.out).2 hqN (by omega)))
                      clear th0 th1 zt HS46 HF46 HT46
                      go_loopw [107] (fun j wr => ∃ (i : Nat), j = .int .i64 i ∧ i ≤ N ∧ Hid (Short2 w wr g g1 (World.heap w).size z45 N la xs.length lc xs gf cf (.slice (some ⟨gb, 0, none⟩) N cb) far mo gf2 cf2 (.slice (some ⟨gb2, 0, none⟩) N cb2) far2)) (fun j _ => N - (intOf j).toNat)
                      case atStart => exact ⟨0, rfl, Nat.zero_le _, HSH⟩
                      case round =>
                        obtain ⟨i, rfl, hi2, HSH2⟩ := hrel
                        clear HSH
                        by_cases hlt2 : i < N
                        · have i1 : (0 : Int) ≤ (i : Int) := by omega
                          have i2 : (i : Int) < (N : Int) := by omega
                          have y0 := HSH2.out.one.fw.t0
                          have y1 := HSH2.out.t0
                          have y2 := HSH2.out.one.far.cell hlt2
                          have y3 := HSH2.out.far2.cell hlt2
                          have hle := HLE.out i
                          generalize valI far i = d1 at y2 hle
                          generalize valI far2 i = d2 at y3 hle
                          have hgt : decide (d1 < d2) = false := by simp; omega
                          go_wp2_with fail
                          go_quiet (fail)
                          go_wp2_with fail
                          go_roundw
                          case rel => exact ⟨i + 1, by go_num, by omega, Lib.hid (HSH2.out.later (below_drewN (Below.refl _ _) _))⟩
                          case measure => simp [intOf]; omega
                        · go_wp2_with fail
                          go_ret
                          exact ⟨rfl, HSH2.out.one.fw.box.below⟩
                  · go_simp
                    have HB47 := Lib.hid (HB40.out.alloc HB40.out.size (.cells #[.slice none 0 0, .slice none 0 0] 31))
                    have HA47 := Lib.hid ((HA40.out.later (((Below.refl (World.heap w40).size w40).alloc (Nat.le_refl _) (.cells #[.slice none 0 0, .slice none 0 0] 31)))).mono (((Below.refl (World.heap w40).size w40).alloc (Nat.le_refl _) (.cells #[.slice none 0 0, .slice none 0 0] 31))).size)
                    have HZ47 := Lib.hid (And.intro (heap_alloc_new w40 (.cells #[.slice none 0 0, .slice none 0 0] 31)) HB40.out.size)
                    refine hK.out _ _ ?_ (fun hHeld => ?_)
                    · exact (HS.out.later HB47.out).more
                    clear hK K
                    try simp only [Act.put, List.setIfInBounds_toArray, List.set_cons_zero, List.set_cons_succ, List.getElem_toArray, List.getElem_cons_zero, List.getElem_cons_succ]
                    generalize hw47 : World.alloc w40 (.cells #[.slice none 0 0, .slice none 0 0] 31) = w47 at HB47 HZ47 HA47 hHeld ⊢
                    clear hw47 HB40 HA40
                    generalize (World.heap w40).size = z47 at HZ47 ⊢
                    refine wpAnyH_ready (rs := [8]) (by kernel_rfl) (by simp) ?_
                    refine AllReadyH.cons rfl (fun K hK => ?_) AllReadyH.nil
                    by_cases hneg2 : Neg (xs ++ [arcOf (N : Int) mo]) q
                    · have HN2 := Lib.hid hneg2
                      clear hneg2
                      go_simp
                      refine (P.from_neg hqN HC2.out HN2.out _ _ HA47.out).mono ?_
                      rintro e w48 ⟨hb9, a1, c1, a2, c2, rfl⟩
                      have HB48 := Lib.hid (HB47.out.trans (hb9.mono HB47.out.size))
                      have HZ48 := Lib.hid (And.intro ((Below.block (hb9) _ (Array.getElem?_eq_some_iff.1 HZ47.out.1).1).trans HZ47.out.1) HZ47.out.2)
                      clear hb9 HB47 HZ47 HA47
                      refine hK.out _ _ ?_ (fun hHeld => ?_)
                      · exact (HS.out.later HB48.out).more
                      clear hK K
                      try simp only [Act.put, List.setIfInBounds_toArray, List.set_cons_zero, List.set_cons_succ, List.getElem_toArray, List.getElem_cons_zero, List.getElem_cons_succ]
                      refine wpAnyH_take (i := 9) (v := ?_) rfl (by kernel_rfl) (by kernel_rfl) (by kernel_rfl) (fun _ _ _ h => h) (Or.inl ⟨by rfl, ?_⟩) hHeld ?_
                      rotate_left
                      · intro W0 hW; obtain ⟨hW1, hW2, hW3⟩ := hW; go_simp; (try with_reducible rfl)
                      try simp only [Act.put, List.setIfInBounds_toArray, List.set_cons_zero, List.set_cons_succ, List.getElem_toArray, List.getElem_cons_zero, List.getElem_cons_succ]
                      refine wpAnyH_take (i := 10) (v := ?_) rfl (by kernel_rfl) (by kernel_rfl) (by kernel_rfl) (fun _ _ _ h => h) (Or.inl ⟨by rfl, ?_⟩) hHeld ?_
                      rotate_left
                      · intro W0 hW; obtain ⟨hW1, hW2, hW3⟩ := hW; go_simp; (try with_reducible rfl)
                      try simp only [Act.put, List.setIfInBounds_toArray, List.set_cons_zero, List.set_cons_succ, List.getElem_toArray, List.getElem_cons_zero, List.getElem_cons_succ]
                      refine wpAnyH_take (i := 11) (v := ?_) rfl (by kernel_rfl) (by kernel_rfl) (by kernel_rfl) (fun _ _ _ h => h) (Or.inl ⟨by rfl, ?_⟩) hHeld ?_
                      rotate_left
                      · intro W0 hW; obtain ⟨hW1, hW2, hW3⟩ := hW; go_simp; (try with_reducible rfl)
                      try simp only [Act.put, List.setIfInBounds_toArray, List.set_cons_zero, List.set_cons_succ, List.getElem_toArray, List.getElem_cons_zero, List.getElem_cons_succ]
                      refine wpAnyH_ready (rs := [13]) (by kernel_rfl) (by simp) ?_
                      refine AllReadyH.cons rfl (fun K hK => ?_) AllReadyH.nil
                      obtain ⟨zc0, zc1, zc2⟩ := zero_tree HZ48.out.1
                      have HT49 := Lib.hid (tree_stored HZ48.out.1 (.slice a1 0 c1) (.slice a2 0 c2)).1
                      have HB49 := Lib.hid ((HB48.out.setCell (p := ⟨z47, 0, none⟩) HZ48.out.2 (.slice a1 0 c1)).setCell (p := ⟨z47, 1, none⟩) HZ48.out.2 (.slice a2 0 c2))
                      go_simp
                      refine hK.out _ _ ?_ (fun hHeld => ?_)
                      · exact (HS.out.later HB49.out).more
                      clear hK K
                      try simp only [Act.put, List.setIfInBounds_toArray, List.set_cons_zero, List.set_cons_succ, List.getElem_toArray, List.getElem_cons_zero, List.getElem_cons_succ]
                      generalize hw49 : World.setCell (World.setCell w48 ⟨z47, 0, none⟩ (.slice a1 0 c1)) ⟨z47, 1, none⟩ (.slice a2 0 c2) = w49 at HT49 HB49 hHeld ⊢
                      clear zc0 zc1 zc2 hw49 HB48 HZ48
                      refine wpAnyH_take (i := 14) (v := ?_) rfl (by kernel_rfl) (by kernel_rfl) (by kernel_rfl) (fun _ _ _ h => h) (Or.inl ⟨by rfl, ?_⟩) hHeld ?_
                      rotate_left
                      · intro W0 hW; obtain ⟨hW1, hW2, hW3⟩ := hW; go_simp; (try with_reducible rfl)
                      try simp only [Act.put, List.setIfInBounds_toArray, List.set_cons_zero, List.set_cons_succ, List.getElem_toArray, List.getElem_cons_zero, List.getElem_cons_succ]
                      refine wpAnyH_done (by kernel_rfl) ?_ _
                      clear hHeld
                      have HS49 := Lib.hid (HS.out.later HB49.out)
                      have th0 := HS49.out.fw.box.c0
                      have th1 := HS49.out.fw.t0
                      go_wp2_with fail
                      go_ret
                      exact ⟨rfl, HS49.out.fw.box.below⟩
                    · have HN2 := Lib.hid hneg2
                      clear hneg2
                      go_simp
                      refine (from_tree2 P hqN HC2.out HN2.out _ _ _ HA47.out).mono ?_
                      rintro e w50 ⟨hb9, gf2, cf2, gb2, cb2, far2, by2, rfl, hlf2, ht2⟩
                      have HB50 := Lib.hid (HB47.out.trans (hb9.mono HB47.out.size))
                      have HT2 := Lib.hid ht2
                      have HZ50 := Lib.hid (And.intro ((Below.block (hb9) _ (Array.getElem?_eq_some_iff.1 HZ47.out.1).1).trans HZ47.out.1) HZ47.out.2)
                      have HF50 := Lib.hid (hlf2.rebase (Nat.zero_le _))
                      have HFZ50 : Hid (gf2 ≠ z47) := Lib.hid (by have h1 := hlf2.base_.1; have h2 := (Array.getElem?_eq_some_iff.1 HZ47.out.1).1; omega)
                      clear hb9 hlf2 ht2 HB47 HZ47 HA47
                      refine hK.out _ _ ?_ (fun hHeld => ?_)
                      · exact (HS.out.later HB50.out).more
                      clear hK K
                      try simp only [Act.put, List.setIfInBounds_toArray, List.set_cons_zero, List.set_cons_succ, List.getElem_toArray, List.getElem_cons_zero, List.getElem_cons_succ]
                      refine wpAnyH_take (i := 9) (v := ?_) rfl (by kernel_rfl) (by kernel_rfl) (by kernel_rfl) (fun _ _ _ h => h) (Or.inl ⟨by rfl, ?_⟩) hHeld ?_
                      rotate_left
                      · intro W0 hW; obtain ⟨hW1, hW2, hW3⟩ := hW; go_simp; (try with_reducible rfl)
                      try simp only [Act.put, List.setIfInBounds_toArray, List.set_cons_zero, List.set_cons_succ, List.getElem_toArray, List.getElem_cons_zero, List.getElem_cons_succ]
                      refine wpAnyH_take (i := 10) (v := ?_) rfl (by kernel_rfl) (by kernel_rfl) (by kernel_rfl) (fun _ _ _ h => h) (Or.inl ⟨by rfl, ?_⟩) hHeld ?_
                      rotate_left
                      · intro W0 hW; obtain ⟨hW1, hW2, hW3⟩ := hW; go_simp; (try with_reducible rfl)
                      try simp only [Act.put, List.setIfInBounds_toArray, List.set_cons_zero, List.set_cons_succ, List.getElem_toArray, List.getElem_cons_zero, List.getElem_cons_succ]
                      refine wpAnyH_take (i := 11) (v := ?_) rfl (by kernel_rfl) (by kernel_rfl) (by kernel_rfl) (fun _ _ _ h => h) (Or.inl ⟨by rfl, ?_⟩) hHeld ?_
                      rotate_left
                      · intro W0 hW; obtain ⟨hW1, hW2, hW3⟩ := hW; go_simp; (try with_reducible rfl)
                      try simp only [Act.put, List.setIfInBounds_toArray, List.set_cons_zero, List.set_cons_succ, List.getElem_toArray, List.getElem_cons_zero, List.getElem_cons_succ]
                      refine wpAnyH_ready (rs := [13]) (by kernel_rfl) (by simp) ?_
                      refine AllReadyH.cons rfl (fun K hK => ?_) AllReadyH.nil
                      obtain ⟨zc0, zc1, zc2⟩ := zero_tree HZ50.out.1
                      have HT51 := Lib.hid (tree_stored HZ50.out.1 (.slice (some ⟨gf2, 0, none⟩) N cf2) (.slice (some ⟨gb2, 0, none⟩) N cb2)).1
                      have HB51 := Lib.hid ((HB50.out.setCell (p := ⟨z47, 0, none⟩) HZ50.out.2 (.slice (some ⟨gf2, 0, none⟩) N cf2)).setCell (p := ⟨z47, 1, none⟩) HZ50.out.2 (.slice (some ⟨gb2, 0, none⟩) N cb2))
                      have HF51 := Lib.hid (HF50.out.kept (((Mod.refl (fun k => k = z47) w50).setCell (p := ⟨z47, 0, none⟩) (.inr rfl) (.slice (some ⟨gf2, 0, none⟩) N cf2)).setCell (p := ⟨z47, 1, none⟩) (.inr rfl) (.slice (some ⟨gb2, 0, none⟩) N cb2)) (fun k hk hk2 => HFZ50.out ((Option.some.inj hk).trans hk2)))
                      go_simp
                      refine hK.out _ _ ?_ (fun hHeld => ?_)
                      · exact (HS.out.later HB51.out).more
                      clear hK K
                      try simp only [Act.put, List.setIfInBounds_toArray, List.set_cons_zero, List.set_cons_succ, List.getElem_toArray, List.getElem_cons_zero, List.getElem_cons_succ]
                      generalize hw51 : World.setCell (World.setCell w50 ⟨z47, 0, none⟩ (.slice (some ⟨gf2, 0, none⟩) N cf2)) ⟨z47, 1, none⟩ (.slice (some ⟨gb2, 0, none⟩) N cb2) = w51 at HT51 HB51 HF51 hHeld ⊢
                      clear zc0 zc1 zc2 hw51 HB50 HZ50 HF50
                      refine wpAnyH_take (i := 14) (v := ?_) rfl (by kernel_rfl) (by kernel_rfl) (by kernel_rfl) (fun _ _ _ h => h) (Or.inl ⟨by rfl, ?_⟩) hHeld ?_
                      rotate_left
                      · intro W0 hW; obtain ⟨hW1, hW2, hW3⟩ := hW; go_simp; (try with_reducible rfl)
                      try simp only [Act.put, List.setIfInBounds_toArray, List.set_cons_zero, List.set_cons_succ, List.getElem_toArray, List.getElem_cons_zero, List.getElem_cons_succ]
                      refine wpAnyH_done (by kernel_rfl) ?_ _
                      clear hHeld
                      have HS51 := Lib.hid (HS.out.later HB51.out)
                      have th0 := HS51.out.fw.box.c0
                      have th1 := HS51.out.fw.t0
                      have HSH : Hid (Short2 w w51 g g1 (World.heap w).size z47 N la xs.length lc xs gf cf (.slice (some ⟨gb, 0, none⟩) N cb) far mo gf2 cf2 (.slice (some ⟨gb2, 0, none⟩) N cb2) far2) := Lib.hid ⟨HS51.out, HF51.out, HT51.out⟩
                      have zt := HSH.out.t0
                      go_wp2_with fail
                      have HLE : Hid (∀ i, valI far2 i ≤ valI far i) := Lib.hid (short_le HT.out.dist HT2.out.dist (HT2.out.dist.small (checkV_zero.1 HC2.out).2 hqN (by omega)))
                      clear th0 th1 zt HS51 HF51 HT51
                      go_loopw [107] (fun j wr => ∃ (i : Nat), j = .int .i64 i ∧ i ≤ N ∧ Hid (Short2 w wr g g1 (World.heap w).size z47 N la xs.length lc xs gf cf (.slice (some ⟨gb, 0, none⟩) N cb) far mo gf2 cf2 (.slice (some ⟨gb2, 0, none⟩) N cb2) far2)) (fun j _ => N - (intOf j).toNat)
                      case atStart => exact ⟨0, rfl, Nat.zero_le _, HSH⟩
                      case round =>
                        obtain ⟨i, rfl, hi2, HSH2⟩ := hrel
                        clear HSH
                        by_cases hlt2 : i < N
                        · have i1 : (0 : Int) ≤ (i : Int) := by omega
                          have i2 : (i : Int) < (N : Int) := by omega
                          have y0 := HSH2.out.one.fw.t0
                          have y1 := HSH2.out.t0
                          have y2 := HSH2.out.one.far.cell hlt2
                          have y3 := HSH2.out.far2.cell hlt2
                          have hle := HLE.out i
                          generalize valI far i = d1 at y2 hle
                          generalize valI far2 i = d2 at y3 hle
                          have hgt : decide (d1 < d2) = false := by simp; omega
                          go_wp2_with fail
                          go_quiet (fail)
                          go_wp2_with fail
                          go_roundw
                          case rel => exact ⟨i + 1, by go_num, by omega, Lib.hid (HSH2.out.later (below_drewN (Below.refl _ _) _))⟩
                          case measure => simp [intOf]; omega
                        · go_wp2_with fail
                          go_ret
                          exact ⟨rfl, HSH2.out.one.fw.box.below⟩
                · go_simp
                  have HB52 := Lib.hid (HB39.out.alloc HB39.out.size (.cells #[.slice none 0 0, .slice none 0 0] 31))
                  have HL52 := Lib.hid ((HL39.out.later (((Below.refl (World.heap w39).size w39).alloc (Nat.le_refl _) (.cells #[.slice none 0 0, .slice none 0 0] 31)))).mono (((Below.refl (World.heap w39).size w39).alloc (Nat.le_refl _) (.cells #[.slice none 0 0, .slice none 0 0] 31))).size)
                  have HZ52 := Lib.hid (And.intro (heap_alloc_new w39 (.cells #[.slice none 0 0, .slice none 0 0] 31)) HB39.out.size)
                  refine hK.out _ _ ?_ (fun hHeld => ?_)
                  · exact (HS.out.later HB52.out).more
                  clear hK K
                  try simp only [Act.put, List.setIfInBounds_toArray, List.set_cons_zero, List.set_cons_succ, List.getElem_toArray, List.getElem_cons_zero, List.getElem_cons_succ]
                  generalize hw52 : World.alloc w39 (.cells #[.slice none 0 0, .slice none 0 0] 31) = w52 at HB52 HZ52 HL52 hHeld ⊢
                  clear hw52 HB39 HL39
                  generalize (World.heap w39).size = z52 at HZ52 ⊢
                  refine wpAnyH_ready (rs := [6]) (by kernel_rfl) (by simp) ?_
                  refine AllReadyH.cons rfl (fun K hK => ?_) AllReadyH.nil
                  go_simp
                  refine (HMK.out (l.length + 1) (l ++ [mo]) _ _ _ (by omega) HL52.out).mono ?_
                  rintro e w53 ⟨lv8, rfl, hrow8, hb8⟩
                  rw [HLn.out, HX2.out] at hrow8
                  obtain ⟨la8, lc8, hv⟩ := owns_shape hrow8
                  subst hv
                  have h9 := (owns_arcs hrow8).2
                  rw [show (xs ++ [arcOf (N : Int) mo]).length = xs.length + 1 by simp] at h9
                  have HB53 := Lib.hid (HB52.out.trans (hb8.mono HB52.out.size))
                  have HZ53 := Lib.hid (And.intro ((Below.block (hb8) _ (Array.getElem?_eq_some_iff.1 HZ52.out.1).1).trans HZ52.out.1) HZ52.out.2)
                  have HA53 := Lib.hid h9
                  clear hrow8 hb8 h9 HB52 HZ52 HL52
                  refine hK.out _ _ ?_ (fun hHeld => ?_)
                  · exact (HS.out.later HB53.out).more
                  clear hK K
                  try simp only [Act.put, List.setIfInBounds_toArray, List.set_cons_zero, List.set_cons_succ, List.getElem_toArray, List.getElem_cons_zero, List.getElem_cons_succ]
                  refine wpAnyH_ready (rs := [8]) (by kernel_rfl) (by simp) ?_
                  refine AllReadyH.cons rfl (fun K hK => ?_) AllReadyH.nil
                  by_cases hneg2 : Neg (xs ++ [arcOf (N : Int) mo]) q
                  · have HN2 := Lib.hid hneg2
                    clear hneg2
                    go_simp
                    refine (P.from_neg hqN HC2.out HN2.out _ _ HA53.out).mono ?_
                    rintro e w54 ⟨hb9, a1, c1, a2, c2, rfl⟩
                    have HB54 := Lib.hid (HB53.out.trans (hb9.mono HB53.out.size))
                    have HZ54 := Lib.hid (And.intro ((Below.block (hb9) _ (Array.getElem?_eq_some_iff.1 HZ53.out.1).1).trans HZ53.out.1) HZ53.out.2)
                    clear hb9 HB53 HZ53 HA53
                    refine hK.out _ _ ?_ (fun hHeld => ?_)
                    · exact (HS.out.later HB54.out).more
                    clear hK K
                    try simp only [Act.put, List.setIfInBounds_toArray, List.set_cons_zero, List.set_cons_succ, List.getElem_toArray, List.getElem_cons_zero, List.getElem_cons_succ]
                    refine wpAnyH_take (i := 9) (v := ?_) rfl (by kernel_rfl) (by kernel_rfl) (by kernel_rfl) (fun _ _ _ h => h) (Or.inl ⟨by rfl, ?_⟩) hHeld ?_
                    rotate_left
                    · intro W0 hW; obtain ⟨hW1, hW2, hW3⟩ := hW; go_simp; (try with_reducible rfl)
                    try simp only [Act.put, List.setIfInBounds_toArray, List.set_cons_zero, List.set_cons_succ, List.getElem_toArray, List.getElem_cons_zero, List.getElem_cons_succ]
                    refine wpAnyH_take (i := 10) (v := ?_) rfl (by kernel_rfl) (by kernel_rfl) (by kernel_rfl) (fun _ _ _ h => h) (Or.inl ⟨by rfl, ?_⟩) hHeld ?_
                    rotate_left
                    · intro W0 hW; obtain ⟨hW1, hW2, hW3⟩ := hW; go_simp; (try with_reducible rfl)
                    try simp only [Act.put, List.setIfInBounds_toArray, List.set_cons_zero, List.set_cons_succ, List.getElem_toArray, List.getElem_cons_zero, List.getElem_cons_succ]
                    refine wpAnyH_take (i := 11) (v := ?_) rfl (by kernel_rfl) (by kernel_rfl) (by kernel_rfl) (fun _ _ _ h => h) (Or.inl ⟨by rfl, ?_⟩) hHeld ?_
                    rotate_left
                    · intro W0 hW; obtain ⟨hW1, hW2, hW3⟩ := hW; go_simp; (try with_reducible rfl)
                    try simp only [Act.put, List.setIfInBounds_toArray, List.set_cons_zero, List.set_cons_succ, List.getElem_toArray, List.getElem_cons_zero, List.getElem_cons_succ]
                    refine wpAnyH_ready (rs := [13]) (by kernel_rfl) (by simp) ?_
                    refine AllReadyH.cons rfl (fun K hK => ?_) AllReadyH.nil
                    obtain ⟨zc0, zc1, zc2⟩ := zero_tree HZ54.out.1
                    have HT55 := Lib.hid (tree_stored HZ54.out.1 (.slice a1 0 c1) (.slice a2 0 c2)).1
                    have HB55 := Lib.hid ((HB54.out.setCell (p := ⟨z52, 0, none⟩) HZ54.out.2 (.slice a1 0 c1)).setCell (p := ⟨z52, 1, none⟩) HZ54.out.2 (.slice a2 0 c2))
                    go_simp
                    refine hK.out _ _ ?_ (fun hHeld => ?_)
                    · exact (HS.out.later HB55.out).more
                    clear hK K
                    try simp only [Act.put, List.setIfInBounds_toArray, List.set_cons_zero, List.set_cons_succ, List.getElem_toArray, List.getElem_cons_zero, List.getElem_cons_succ]
                    generalize hw55 : World.setCell (World.setCell w54 ⟨z52, 0, none⟩ (.slice a1 0 c1)) ⟨z52, 1, none⟩ (.slice a2 0 c2) = w55 at HT55 HB55 hHeld ⊢
                    clear zc0 zc1 zc2 hw55 HB54 HZ54
                    refine wpAnyH_take (i := 14) (v := ?_) rfl (by kernel_rfl) (by kernel_rfl) (by kernel_rfl) (fun _ _ _ h => h) (Or.inl ⟨by rfl, ?_⟩) hHeld ?_
                    rotate_left
                    · intro W0 hW; obtain ⟨hW1, hW2, hW3⟩ := hW; go_simp; (try with_reducible rfl)
                    try simp only [Act.put, List.setIfInBounds_toArray, List.set_cons_zero, List.set_cons_succ, List.getElem_toArray, List.getElem_cons_zero, List.getElem_cons_succ]
                    refine wpAnyH_done (by kernel_rfl) ?_ _
                    clear hHeld
                    have HS55 := Lib.hid (HS.out.later HB55.out)
                    have th0 := HS55.out.fw.box.c0
                    have th1 := HS55.out.fw.t0
                    go_wp2_with fail
                    go_ret
                    exact ⟨rfl, HS55.out.fw.box.below⟩
                  · have HN2 := Lib.hid hneg2
                    clear hneg2
                    go_simp
                    refine (from_tree2 P hqN HC2.out HN2.out _ _ _ HA53.out).mono ?_
                    rintro e w56 ⟨hb9, gf2, cf2, gb2, cb2, far2, by2, rfl, hlf2, ht2⟩
                    have HB56 := Lib.hid (HB53.out.trans (hb9.mono HB53.out.size))
                    have HT2 := Lib.hid ht2
                    have HZ56 := Lib.hid (And.intro ((Below.block (hb9) _ (Array.getElem?_eq_some_iff.1 HZ53.out.1).1).trans HZ53.out.1) HZ53.out.2)
                    have HF56 := Lib.hid (hlf2.rebase (Nat.zero_le _))
                    have HFZ56 : Hid (gf2 ≠ z52) := Lib.hid (by have h1 := hlf2.base_.1; have h2 := (Array.getElem?_eq_some_iff.1 HZ53.out.1).1; omega)
                    clear hb9 hlf2 ht2 HB53 HZ53 HA53
                    refine hK.out _ _ ?_ (fun hHeld => ?_)
                    · exact (HS.out.later HB56.out).more
                    clear hK K
                    try simp only [Act.put, List.setIfInBounds_toArray, List.set_cons_zero, List.set_cons_succ, List.getElem_toArray, List.getElem_cons_zero, List.getElem_cons_succ]
                    refine wpAnyH_take (i := 9) (v := ?_) rfl (by kernel_rfl) (by kernel_rfl) (by kernel_rfl) (fun _ _ _ h => h) (Or.inl ⟨by rfl, ?_⟩) hHeld ?_
                    rotate_left
                    · intro W0 hW; obtain ⟨hW1, hW2, hW3⟩ := hW; go_simp; (try with_reducible rfl)
                    try simp only [Act.put, List.setIfInBounds_toArray, List.set_cons_zero, List.set_cons_succ, List.getElem_toArray, List.getElem_cons_zero, List.getElem_cons_succ]
                    refine wpAnyH_take (i := 10) (v := ?_) rfl (by kernel_rfl) (by kernel_rfl) (by kernel_rfl) (fun _ _ _ h => h) (Or.inl ⟨by rfl, ?_⟩) hHeld ?_
                    rotate_left
                    · intro W0 hW; obtain ⟨hW1, hW2, hW3⟩ := hW; go_simp; (try with_reducible rfl)
                    try simp only [Act.put, List.setIfInBounds_toArray, List.set_cons_zero, List.set_cons_succ, List.getElem_toArray, List.getElem_cons_zero, List.getElem_cons_succ]
                    refine wpAnyH_take (i := 11) (v := ?_) rfl (by kernel_rfl) (by kernel_rfl) (by kernel_rfl) (fun _ _ _ h => h) (Or.inl ⟨by rfl, ?_⟩) hHeld ?_
                    rotate_left
                    · intro W0 hW; obtain ⟨hW1, hW2, hW3⟩ := hW; go_simp; (try with_reducible rfl)
                    try simp only [Act.put, List.setIfInBounds_toArray, List.set_cons_zero, List.set_cons_succ, List.getElem_toArray, List.getElem_cons_zero, List.getElem_cons_succ]
                    refine wpAnyH_ready (rs := [13]) (by kernel_rfl) (by simp) ?_
                    refine AllReadyH.cons rfl (fun K hK => ?_) AllReadyH.nil
                    obtain ⟨zc0, zc1, zc2⟩ := zero_tree HZ56.out.1
                    have HT57 := Lib.hid (tree_stored HZ56.out.1 (.slice (some ⟨gf2, 0, none⟩) N cf2) (.slice (some ⟨gb2, 0, none⟩) N cb2)).1
                    have HB57 := Lib.hid ((HB56.out.setCell (p := ⟨z52, 0, none⟩) HZ56.out.2 (.slice (some ⟨gf2, 0, none⟩) N cf2)).setCell (p := ⟨z52, 1, none⟩) HZ56.out.2 (.slice (some ⟨gb2, 0, none⟩) N cb2))
                    have HF57 := Lib.hid (HF56.out.kept (((Mod.refl (fun k => k = z52) w56).setCell (p := ⟨z52, 0, none⟩) (.inr rfl) (.slice (some ⟨gf2, 0, none⟩) N cf2)).setCell (p := ⟨z52, 1, none⟩) (.inr rfl) (.slice (some ⟨gb2, 0, none⟩) N cb2)) (fun k hk hk2 => HFZ56.out ((Option.some.inj hk).trans hk2)))
                    go_simp
                    refine hK.out _ _ ?_ (fun hHeld => ?_)
                    · exact (HS.out.later HB57.out).more
                    clear hK K
                    try simp only [Act.put, List.setIfInBounds_toArray, List.set_cons_zero, List.set_cons_succ, List.getElem_toArray, List.getElem_cons_zero, List.getElem_cons_succ]
                    generalize hw57 : World.setCell (World.setCell w56 ⟨z52, 0, none⟩ (.slice (some ⟨gf2, 0, none⟩) N cf2)) ⟨z52, 1, none⟩ (.slice (some ⟨gb2, 0, none⟩) N cb2) = w57 at HT57 HB57 HF57 hHeld ⊢
                    clear zc0 zc1 zc2 hw57 HB56 HZ56 HF56
                    refine wpAnyH_take (i := 14) (v := ?_) rfl (by kernel_rfl) (by kernel_rfl) (by kernel_rfl) (fun _ _ _ h => h) (Or.inl ⟨by rfl, ?_⟩) hHeld ?_
                    rotate_left
                    · intro W0 hW; obtain ⟨hW1, hW2, hW3⟩ := hW; go_simp; (try with_reducible rfl)
                    try simp only [Act.put, List.setIfInBounds_toArray, List.set_cons_zero, List.set_cons_succ, List.getElem_toArray, List.getElem_cons_zero, List.getElem_cons_succ]
                    refine wpAnyH_done (by kernel_rfl) ?_ _
                    clear hHeld
                    have HS57 := Lib.hid (HS.out.later HB57.out)
                    have th0 := HS57.out.fw.box.c0
                    have th1 := HS57.out.fw.t0
                    have HSH : Hid (Short2 w w57 g g1 (World.heap w).size z52 N la xs.length lc xs gf cf (.slice (some ⟨gb, 0, none⟩) N cb) far mo gf2 cf2 (.slice (some ⟨gb2, 0, none⟩) N cb2) far2) := Lib.hid ⟨HS57.out, HF57.out, HT57.out⟩
                    have zt := HSH.out.t0
                    go_wp2_with fail
                    have HLE : Hid (∀ i, valI far2 i ≤ valI far i) := Lib.hid (short_le HT.out.dist HT2.out.dist (HT2.out.dist.small (checkV_zero.1 HC2.out).2 hqN (by omega)))
                    clear th0 th1 zt HS57 HF57 HT57
                    go_loopw [107] (fun j wr => ∃ (i : Nat), j = .int .i64 i ∧ i ≤ N ∧ Hid (Short2 w wr g g1 (World.heap w).size z52 N la xs.length lc xs gf cf (.slice (some ⟨gb, 0, none⟩) N cb) far mo gf2 cf2 (.slice (some ⟨gb2, 0, none⟩) N cb2) far2)) (fun j _ => N - (intOf j).toNat)
                    case atStart => exact ⟨0, rfl, Nat.zero_le _, HSH⟩
                    case round =>
                      obtain ⟨i, rfl, hi2, HSH2⟩ := hrel
                      clear HSH
                      by_cases hlt2 : i < N
                      · have i1 : (0 : Int) ≤ (i : Int) := by omega
                        have i2 : (i : Int) < (N : Int) := by omega
                        have y0 := HSH2.out.one.fw.t0
                        have y1 := HSH2.out.t0
                        have y2 := HSH2.out.one.far.cell hlt2
                        have y3 := HSH2.out.far2.cell hlt2
                        have hle := HLE.out i
                        generalize valI far i = d1 at y2 hle
                        generalize valI far2 i = d2 at y3 hle
                        have hgt : decide (d1 < d2) = false := by simp; omega
                        go_wp2_with fail
                        go_quiet (fail)
                        go_wp2_with fail
                        go_roundw
                        case rel => exact ⟨i + 1, by go_num, by omega, Lib.hid (HSH2.out.later (below_drewN (Below.refl _ _) _))⟩
                        case measure => simp [intOf]; omega
                      · go_wp2_with fail
                        go_ret
                        exact ⟨rfl, HSH2.out.one.fw.box.below⟩
              · go_simp
                have HB58 := Lib.hid (HB38.out.alloc HB38.out.size (.cells #[.slice none 0 0, .slice none 0 0] 31))
                have HR58 := Lib.hid (owns_below HR38.out (((Below.refl (World.heap w38).size w38).alloc (Nat.le_refl _) (.cells #[.slice none 0 0, .slice none 0 0] 31))))
                have HN58 := Lib.hid (newsL_later HN38.out HNZ38.out (((Below.refl (World.heap w38).size w38).alloc (Nat.le_refl _) (.cells #[.slice none 0 0, .slice none 0 0] 31))))
                have HNZ58 := Lib.hid (Nat.lt_of_lt_of_le HNZ38.out (((Below.refl (World.heap w38).size w38).alloc (Nat.le_refl _) (.cells #[.slice none 0 0, .slice none 0 0] 31))).size)
                have HZ58 := Lib.hid (And.intro (heap_alloc_new w38 (.cells #[.slice none 0 0, .slice none 0 0] 31)) HB38.out.size)
                have HZN58 : Hid ((Value.slice va l.length vc).ownBlock ≠ some (World.heap w38).size) := Lib.hid (fun h => by have := (World.ownsRow.lt HR38.out _ h).2; omega)
                refine hK.out _ _ ?_ (fun hHeld => ?_)
                · exact (HS.out.later HB58.out).more
                clear hK K
                try simp only [Act.put, List.setIfInBounds_toArray, List.set_cons_zero, List.set_cons_succ, List.getElem_toArray, List.getElem_cons_zero, List.getElem_cons_succ]
                generalize hw58 : World.alloc w38 (.cells #[.slice none 0 0, .slice none 0 0] 31) = w58 at HB58 HR58 HN58 HNZ58 HZ58 hHeld ⊢
                clear hw58 HB38 HR38 HN38 HNZ38
                generalize (World.heap w38).size = z58 at HZ58  HZN58 ⊢
                refine wpAnyH_ready (rs := [5]) (by kernel_rfl) (by simp) ?_
                refine AllReadyH.cons rfl (fun K hK => ?_) AllReadyH.nil
                refine step_append_fresh rfl (.tmp 83) (.tmp 85) 22 rfl (World.heap wr).size 50 i0 _ 3 4 Try.underlying22 hi hz0 hz1 hz2 (by decide) (.slice va l.length vc) l.length (flatL l) rfl HR58.out ⟨z37, 0, none⟩ 1 (encL mo) rfl rfl HN58.out (oneL1 _) (by unfold maxLen; omega) (by omega) HB58.out.size ?_
                intro g' cp7 w59 hown hgrow hfr
                have HB59 := Lib.hid (((Mod.of_below (fun k => (World.heap wr).size ≤ k) HB58.out).grown hgrow (fun k hk => .inr (World.ownsRow.lt HR58.out k hk).1)).below (Nat.le_refl _) (fun k hk => hk))
                have HL59 : Hid (IsLinks (World.heap w59).size w59 (some ⟨g', 0, none⟩) (l.length + 1) (l ++ [mo])) := Lib.hid (owns_links (l := l ++ [mo]) (by rw [flatL_snoc, List.length_append]; exact hown) HSA.out).2
                have HZ59 := Lib.hid (And.intro ((hgrow.block z58 (Array.getElem?_eq_some_iff.1 HZ58.out.1).1 (fun h => HZN58.out h.symm)).trans HZ58.out.1) HZ58.out.2)
                clear hown hgrow hfr HB58 HR58 HN58 HNZ58 HZ58
                refine hK.out _ _ ?_ (fun hHeld => ?_)
                · exact (HS.out.later HB59.out).more
                clear hK K
                try simp only [Act.put, List.setIfInBounds_toArray, List.set_cons_zero, List.set_cons_succ, List.getElem_toArray, List.getElem_cons_zero, List.getElem_cons_succ]
                refine wpAnyH_ready (rs := [6]) (by kernel_rfl) (by simp) ?_
                refine AllReadyH.cons rfl (fun K hK => ?_) AllReadyH.nil
                go_simp
                refine (HMK.out (l.length + 1) (l ++ [mo]) _ _ _ (by omega) HL59.out).mono ?_
                rintro e w60 ⟨lv8, rfl, hrow8, hb8⟩
                rw [HLn.out, HX2.out] at hrow8
                obtain ⟨la8, lc8, hv⟩ := owns_shape hrow8
                subst hv
                have h9 := (owns_arcs hrow8).2
                rw [show (xs ++ [arcOf (N : Int) mo]).length = xs.length + 1 by simp] at h9
                have HB60 := Lib.hid (HB59.out.trans (hb8.mono HB59.out.size))
                have HZ60 := Lib.hid (And.intro ((Below.block (hb8) _ (Array.getElem?_eq_some_iff.1 HZ59.out.1).1).trans HZ59.out.1) HZ59.out.2)
                have HA60 := Lib.hid h9
                clear hrow8 hb8 h9 HB59 HZ59 HL59
                refine hK.out _ _ ?_ (fun hHeld => ?_)
                · exact (HS.out.later HB60.out).more
                clear hK K
                try simp only [Act.put, List.setIfInBounds_toArray, List.set_cons_zero, List.set_cons_succ, List.getElem_toArray, List.getElem_cons_zero, List.getElem_cons_succ]
                refine wpAnyH_ready (rs := [8]) (by kernel_rfl) (by simp) ?_
                refine AllReadyH.cons rfl (fun K hK => ?_) AllReadyH.nil
                by_cases hneg2 : Neg (xs ++ [arcOf (N : Int) mo]) q
                · have HN2 := Lib.hid hneg2
                  clear hneg2
                  go_simp
                  refine (P.from_neg hqN HC2.out HN2.out _ _ HA60.out).mono ?_
                  rintro e w61 ⟨hb9, a1, c1, a2, c2, rfl⟩
                  have HB61 := Lib.hid (HB60.out.trans (hb9.mono HB60.out.size))
                  have HZ61 := Lib.hid (And.intro ((Below.block (hb9) _ (Array.getElem?_eq_some_iff.1 HZ60.out.1).1).trans HZ60.out.1) HZ60.out.2)
                  clear hb9 HB60 HZ60 HA60
                  refine hK.out _ _ ?_ (fun hHeld => ?_)
                  · exact (HS.out.later HB61.out).more
                  clear hK K
                  try simp only [Act.put, List.setIfInBounds_toArray, List.set_cons_zero, List.set_cons_succ, List.getElem_toArray, List.getElem_cons_zero, List.getElem_cons_succ]
                  refine wpAnyH_take (i := 9) (v := ?_) rfl (by kernel_rfl) (by kernel_rfl) (by kernel_rfl) (fun _ _ _ h => h) (Or.inl ⟨by rfl, ?_⟩) hHeld ?_
                  rotate_left
                  · intro W0 hW; obtain ⟨hW1, hW2, hW3⟩ := hW; go_simp; (try with_reducible rfl)
                  try simp only [Act.put, List.setIfInBounds_toArray, List.set_cons_zero, List.set_cons_succ, List.getElem_toArray, List.getElem_cons_zero, List.getElem_cons_succ]
                  refine wpAnyH_take (i := 10) (v := ?_) rfl (by kernel_rfl) (by kernel_rfl) (by kernel_rfl) (fun _ _ _ h => h) (Or.inl ⟨by rfl, ?_⟩) hHeld ?_
                  rotate_left
                  · intro W0 hW; obtain ⟨hW1, hW2, hW3⟩ := hW; go_simp; (try with_reducible rfl)
                  try simp only [Act.put, List.setIfInBounds_toArray, List.set_cons_zero, List.set_cons_succ, List.getElem_toArray, List.getElem_cons_zero, List.getElem_cons_succ]
                  refine wpAnyH_take (i := 11) (v := ?_) rfl (by kernel_rfl) (by kernel_rfl) (by kernel_rfl) (fun _ _ _ h => h) (Or.inl ⟨by rfl, ?_⟩) hHeld ?_
                  rotate_left
                  · intro W0 hW; obtain ⟨hW1, hW2, hW3⟩ := hW; go_simp; (try with_reducible rfl)
                  try simp only [Act.put, List.setIfInBounds_toArray, List.set_cons_zero, List.set_cons_succ, List.getElem_toArray, List.getElem_cons_zero, List.getElem_cons_succ]
                  refine wpAnyH_ready (rs := [13]) (by kernel_rfl) (by simp) ?_
                  refine AllReadyH.cons rfl (fun K hK => ?_) AllReadyH.nil
                  obtain ⟨zc0, zc1, zc2⟩ := zero_tree HZ61.out.1
                  have HT62 := Lib.hid (tree_stored HZ61.out.1 (.slice a1 0 c1) (.slice a2 0 c2)).1
                  have HB62 := Lib.hid ((HB61.out.setCell (p := ⟨z58, 0, none⟩) HZ61.out.2 (.slice a1 0 c1)).setCell (p := ⟨z58, 1, none⟩) HZ61.out.2 (.slice a2 0 c2))
                  go_simp
                  refine hK.out _ _ ?_ (fun hHeld => ?_)
                  · exact (HS.out.later HB62.out).more
                  clear hK K
                  try simp only [Act.put, List.setIfInBounds_toArray, List.set_cons_zero, List.set_cons_succ, List.getElem_toArray, List.getElem_cons_zero, List.getElem_cons_succ]
                  generalize hw62 : World.setCell (World.setCell w61 ⟨z58, 0, none⟩ (.slice a1 0 c1)) ⟨z58, 1, none⟩ (.slice a2 0 c2) = w62 at HT62 HB62 hHeld ⊢
                  clear zc0 zc1 zc2 hw62 HB61 HZ61
                  refine wpAnyH_take (i := 14) (v := ?_) rfl (by kernel_rfl) (by kernel_rfl) (by kernel_rfl) (fun _ _ _ h => h) (Or.inl ⟨by rfl, ?_⟩) hHeld ?_
                  rotate_left
                  · intro W0 hW; obtain ⟨hW1, hW2, hW3⟩ := hW; go_simp; (try with_reducible rfl)
                  try simp only [Act.put, List.setIfInBounds_toArray, List.set_cons_zero, List.set_cons_succ, List.getElem_toArray, List.getElem_cons_zero, List.getElem_cons_succ]
                  refine wpAnyH_done (by kernel_rfl) ?_ _
                  clear hHeld
                  have HS62 := Lib.hid (HS.out.later HB62.out)
                  have th0 := HS62.out.fw.box.c0
                  have th1 := HS62.out.fw.t0
                  go_wp2_with fail
                  go_ret
                  exact ⟨rfl, HS62.out.fw.box.below⟩
                · have HN2 := Lib.hid hneg2
                  clear hneg2
                  go_simp
                  refine (from_tree2 P hqN HC2.out HN2.out _ _ _ HA60.out).mono ?_
                  rintro e w63 ⟨hb9, gf2, cf2, gb2, cb2, far2, by2, rfl, hlf2, ht2⟩
                  have HB63 := Lib.hid (HB60.out.trans (hb9.mono HB60.out.size))
                  have HT2 := Lib.hid ht2
                  have HZ63 := Lib.hid (And.intro ((Below.block (hb9) _ (Array.getElem?_eq_some_iff.1 HZ60.out.1).1).trans HZ60.out.1) HZ60.out.2)
                  have HF63 := Lib.hid (hlf2.rebase (Nat.zero_le _))
                  have HFZ63 : Hid (gf2 ≠ z58) := Lib.hid (by have h1 := hlf2.base_.1; have h2 := (Array.getElem?_eq_some_iff.1 HZ60.out.1).1; omega)
                  clear hb9 hlf2 ht2 HB60 HZ60 HA60
                  refine hK.out _ _ ?_ (fun hHeld => ?_)
                  · exact (HS.out.later HB63.out).more
                  clear hK K
                  try simp only [Act.put, List.setIfInBounds_toArray, List.set_cons_zero, List.set_cons_succ, List.getElem_toArray, List.getElem_cons_zero, List.getElem_cons_succ]
                  refine wpAnyH_take (i := 9) (v := ?_) rfl (by kernel_rfl) (by kernel_rfl) (by kernel_rfl) (fun _ _ _ h => h) (Or.inl ⟨by rfl, ?_⟩) hHeld ?_
                  rotate_left
                  · intro W0 hW; obtain ⟨hW1, hW2, hW3⟩ := hW; go_simp; (try with_reducible rfl)
                  try simp only [Act.put, List.setIfInBounds_toArray, List.set_cons_zero, List.set_cons_succ, List.getElem_toArray, List.getElem_cons_zero, List.getElem_cons_succ]
                  refine wpAnyH_take (i := 10) (v := ?_) rfl (by kernel_rfl) (by kernel_rfl) (by kernel_rfl) (fun _ _ _ h => h) (Or.inl ⟨by rfl, ?_⟩) hHeld ?_
                  rotate_left
                  · intro W0 hW; obtain ⟨hW1, hW2, hW3⟩ := hW; go_simp; (try with_reducible rfl)
                  try simp only [Act.put, List.setIfInBounds_toArray, List.set_cons_zero, List.set_cons_succ, List.getElem_toArray, List.getElem_cons_zero, List.getElem_cons_succ]
                  refine wpAnyH_take (i := 11) (v := ?_) rfl (by kernel_rfl) (by kernel_rfl) (by kernel_rfl) (fun _ _ _ h => h) (Or.inl ⟨by rfl, ?_⟩) hHeld ?_
                  rotate_left
                  · intro W0 hW; obtain ⟨hW1, hW2, hW3⟩ := hW; go_simp; (try with_reducible rfl)
                  try simp only [Act.put, List.setIfInBounds_toArray, List.set_cons_zero, List.set_cons_succ, List.getElem_toArray, List.getElem_cons_zero, List.getElem_cons_succ]
                  refine wpAnyH_ready (rs := [13]) (by kernel_rfl) (by simp) ?_
                  refine AllReadyH.cons rfl (fun K hK => ?_) AllReadyH.nil
                  obtain ⟨zc0, zc1, zc2⟩ := zero_tree HZ63.out.1
                  have HT64 := Lib.hid (tree_stored HZ63.out.1 (.slice (some ⟨gf2, 0, none⟩) N cf2) (.slice (some ⟨gb2, 0, none⟩) N cb2)).1
                  have HB64 := Lib.hid ((HB63.out.setCell (p := ⟨z58, 0, none⟩) HZ63.out.2 (.slice (some ⟨gf2, 0, none⟩) N cf2)).setCell (p := ⟨z58, 1, none⟩) HZ63.out.2 (.slice (some ⟨gb2, 0, none⟩) N cb2))
                  have HF64 := Lib.hid (HF63.out.kept (((Mod.refl (fun k => k = z58) w63).setCell (p := ⟨z58, 0, none⟩) (.inr rfl) (.slice (some ⟨gf2, 0, none⟩) N cf2)).setCell (p := ⟨z58, 1, none⟩) (.inr rfl) (.slice (some ⟨gb2, 0, none⟩) N cb2)) (fun k hk hk2 => HFZ63.out ((Option.some.inj hk).trans hk2)))
                  go_simp
                  refine hK.out _ _ ?_ (fun hHeld => ?_)
                  · exact (HS.out.later HB64.out).more
                  clear hK K
                  try simp only [Act.put, List.setIfInBounds_toArray, List.set_cons_zero, List.set_cons_succ, List.getElem_toArray, List.getElem_cons_zero, List.getElem_cons_succ]
                  generalize hw64 : World.setCell (World.setCell w63 ⟨z58, 0, none⟩ (.slice (some ⟨gf2, 0, none⟩) N cf2)) ⟨z58, 1, none⟩ (.slice (some ⟨gb2, 0, none⟩) N cb2) = w64 at HT64 HB64 HF64 hHeld ⊢
                  clear zc0 zc1 zc2 hw64 HB63 HZ63 HF63
                  refine wpAnyH_take (i := 14) (v := ?_) rfl (by kernel_rfl) (by kernel_rfl) (by kernel_rfl) (fun _ _ _ h => h) (Or.inl ⟨by rfl, ?_⟩) hHeld ?_
                  rotate_left
                  · intro W0 hW; obtain ⟨hW1, hW2, hW3⟩ := hW; go_simp; (try with_reducible rfl)
                  try simp only [Act.put, List.setIfInBounds_toArray, List.set_cons_zero, List.set_cons_succ, List.getElem_toArray, List.getElem_cons_zero, List.getElem_cons_succ]
                  refine wpAnyH_done (by kernel_rfl) ?_ _
                  clear hHeld
                  have HS64 := Lib.hid (HS.out.later HB64.out)
                  have th0 := HS64.out.fw.box.c0
                  have th1 := HS64.out.fw.t0
                  have HSH : Hid (Short2 w w64 g g1 (World.heap w).size z58 N la xs.length lc xs gf cf (.slice (some ⟨gb, 0, none⟩) N cb) far mo gf2 cf2 (.slice (some ⟨gb2, 0, none⟩) N cb2) far2) := Lib.hid ⟨HS64.out, HF64.out, HT64.out⟩
                  have zt := HSH.out.t0
                  go_wp2_with fail
                  have HLE : Hid (∀ i, valI far2 i ≤ valI far i) := Lib.hid (short_le HT.out.dist HT2.out.dist (HT2.out.dist.small (checkV_zero.1 HC2.out).2 hqN (by omega)))
                  clear th0 th1 zt HS64 HF64 HT64
                  go_loopw [107] (fun j wr => ∃ (i : Nat), j = .int .i64 i ∧ i ≤ N ∧ Hid (Short2 w wr g g1 (World.heap w).size z58 N la xs.length lc xs gf cf (.slice (some ⟨gb, 0, none⟩) N cb) far mo gf2 cf2 (.slice (some ⟨gb2, 0, none⟩) N cb2) far2)) (fun j _ => N - (intOf j).toNat)
                  case atStart => exact ⟨0, rfl, Nat.zero_le _, HSH⟩
                  case round =>
                    obtain ⟨i, rfl, hi2, HSH2⟩ := hrel
                    clear HSH
                    by_cases hlt2 : i < N
                    · have i1 : (0 : Int) ≤ (i : Int) := by omega
                      have i2 : (i : Int) < (N : Int) := by omega
                      have y0 := HSH2.out.one.fw.t0
                      have y1 := HSH2.out.t0
                      have y2 := HSH2.out.one.far.cell hlt2
                      have y3 := HSH2.out.far2.cell hlt2
                      have hle := HLE.out i
                      generalize valI far i = d1 at y2 hle
                      generalize valI far2 i = d2 at y3 hle
                      have hgt : decide (d1 < d2) = false := by simp; omega
                      go_wp2_with fail
                      go_quiet (fail)
                      go_wp2_with fail
                      go_roundw
                      case rel => exact ⟨i + 1, by go_num, by omega, Lib.hid (HSH2.out.later (below_drewN (Below.refl _ _) _))⟩
                      case measure => simp [intOf]; omega
                    · go_wp2_with fail
                      go_ret
                      exact ⟨rfl, HSH2.out.one.fw.box.below⟩
            · go_simp
              have HB65 := Lib.hid (HB37.out.alloc HB37.out.size (.cells #[.slice none 0 0, .slice none 0 0] 31))
              have HN65 := Lib.hid (newsL_later HN37.out HNZ37.out (((Below.refl (World.heap w37).size w37).alloc (Nat.le_refl _) (.cells #[.slice none 0 0, .slice none 0 0] 31))))
              have HNZ65 := Lib.hid (Nat.lt_of_lt_of_le HNZ37.out (((Below.refl (World.heap w37).size w37).alloc (Nat.le_refl _) (.cells #[.slice none 0 0, .slice none 0 0] 31))).size)
              have HZ65 := Lib.hid (And.intro (heap_alloc_new w37 (.cells #[.slice none 0 0, .slice none 0 0] 31)) HB37.out.size)
              refine hK.out _ _ ?_ (fun hHeld => ?_)
              · exact (HS.out.later HB65.out).more
              clear hK K
              try simp only [Act.put, List.setIfInBounds_toArray, List.set_cons_zero, List.set_cons_succ, List.getElem_toArray, List.getElem_cons_zero, List.getElem_cons_succ]
              generalize hw65 : World.alloc w37 (.cells #[.slice none 0 0, .slice none 0 0] 31) = w65 at HB65 HN65 HNZ65 HZ65 hHeld ⊢
              clear hw65 HB37 HN37 HNZ37
              generalize (World.heap w37).size = z65 at HZ65 ⊢
              refine wpAnyH_ready (rs := [2]) (by kernel_rfl) (by simp) ?_
              refine AllReadyH.cons rfl (fun K hK => ?_) AllReadyH.nil
              go_simp
              refine (cloneLinks ((HL.out.later (HS.out.fw.box.below.trans (HB65.out.mono HS.out.fw.box.below.size))).mono (HS.out.fw.box.below.trans (HB65.out.mono HS.out.fw.box.below.size)).size) (by omega) HCP.out).mono ?_
              rintro e w66 ⟨v6, rfl, hr6, hb6⟩
              obtain ⟨va, vc, hv⟩ := owns_shape hr6
              subst hv
              have HB66 := Lib.hid (HB65.out.trans (hb6.mono HB65.out.size))
              have HN66 := Lib.hid (newsL_later HN65.out HNZ65.out (hb6))
              have HNZ66 := Lib.hid (Nat.lt_of_lt_of_le HNZ65.out (hb6).size)
              have HZ66 := Lib.hid (And.intro ((Below.block (hb6) _ (Array.getElem?_eq_some_iff.1 HZ65.out.1).1).trans HZ65.out.1) HZ65.out.2)
              have HR66 := Lib.hid (owns_rebase hr6 HB65.out.size)
              have HZN66 : Hid ((Value.slice va l.length vc).ownBlock ≠ some z65) := Lib.hid (fun h => by have h1 := (World.ownsRow.lt hr6 _ h).1; have h2 := (Array.getElem?_eq_some_iff.1 HZ65.out.1).1; omega)
              clear hr6 hb6 HB65 HN65 HNZ65 HZ65
              refine hK.out _ _ ?_ (fun hHeld => ?_)
              · exact (HS.out.later HB66.out).more
              clear hK K
              try simp only [Act.put, List.setIfInBounds_toArray, List.set_cons_zero, List.set_cons_succ, List.getElem_toArray, List.getElem_cons_zero, List.getElem_cons_succ]
              refine wpAnyH_ready (rs := [5]) (by kernel_rfl) (by simp) ?_
              refine AllReadyH.cons rfl (fun K hK => ?_) AllReadyH.nil
              refine step_append_fresh rfl (.tmp 83) (.tmp 85) 22 rfl (World.heap wr).size 50 i0 _ 3 4 Try.underlying22 hi hz0 hz1 hz2 (by decide) (.slice va l.length vc) l.length (flatL l) rfl HR66.out ⟨z37, 0, none⟩ 1 (encL mo) rfl rfl HN66.out (oneL1 _) (by unfold maxLen; omega) (by omega) HB66.out.size ?_
              intro g' cp7 w67 hown hgrow hfr
              have HB67 := Lib.hid (((Mod.of_below (fun k => (World.heap wr).size ≤ k) HB66.out).grown hgrow (fun k hk => .inr (World.ownsRow.lt HR66.out k hk).1)).below (Nat.le_refl _) (fun k hk => hk))
              have HL67 : Hid (IsLinks (World.heap w67).size w67 (some ⟨g', 0, none⟩) (l.length + 1) (l ++ [mo])) := Lib.hid (owns_links (l := l ++ [mo]) (by rw [flatL_snoc, List.length_append]; exact hown) HSA.out).2
              have HZ67 := Lib.hid (And.intro ((hgrow.block z65 (Array.getElem?_eq_some_iff.1 HZ66.out.1).1 (fun h => HZN66.out h.symm)).trans HZ66.out.1) HZ66.out.2)
              clear hown hgrow hfr HB66 HR66 HN66 HNZ66 HZ66
              refine hK.out _ _ ?_ (fun hHeld => ?_)
              · exact (HS.out.later HB67.out).more
              clear hK K
              try simp only [Act.put, List.setIfInBounds_toArray, List.set_cons_zero, List.set_cons_succ, List.getElem_toArray, List.getElem_cons_zero, List.getElem_cons_succ]
              refine wpAnyH_ready (rs := [6]) (by kernel_rfl) (by simp) ?_
              refine AllReadyH.cons rfl (fun K hK => ?_) AllReadyH.nil
              go_simp
              refine (HMK.out (l.length + 1) (l ++ [mo]) _ _ _ (by omega) HL67.out).mono ?_
              rintro e w68 ⟨lv8, rfl, hrow8, hb8⟩
              rw [HLn.out, HX2.out] at hrow8
              obtain ⟨la8, lc8, hv⟩ := owns_shape hrow8
              subst hv
              have h9 := (owns_arcs hrow8).2
              rw [show (xs ++ [arcOf (N : Int) mo]).length = xs.length + 1 by simp] at h9
              have HB68 := Lib.hid (HB67.out.trans (hb8.mono HB67.out.size))
              have HZ68 := Lib.hid (And.intro ((Below.block (hb8) _ (Array.getElem?_eq_some_iff.1 HZ67.out.1).1).trans HZ67.out.1) HZ67.out.2)
              have HA68 := Lib.hid h9
              clear hrow8 hb8 h9 HB67 HZ67 HL67
              refine hK.out _ _ ?_ (fun hHeld => ?_)
              · exact (HS.out.later HB68.out).more
              clear hK K
              try simp only [Act.put, List.setIfInBounds_toArray, List.set_cons_zero, List.set_cons_succ, List.getElem_toArray, List.getElem_cons_zero, List.getElem_cons_succ]
              refine wpAnyH_ready (rs := [8]) (by kernel_rfl) (by simp) ?_
              refine AllReadyH.cons rfl (fun K hK => ?_) AllReadyH.nil
              by_cases hneg2 : Neg (xs ++ [arcOf (N : Int) mo]) q
              · have HN2 := Lib.hid hneg2
                clear hneg2
                go_simp
                refine (P.from_neg hqN HC2.out HN2.out _ _ HA68.out).mono ?_
                rintro e w69 ⟨hb9, a1, c1, a2, c2, rfl⟩
                have HB69 := Lib.hid (HB68.out.trans (hb9.mono HB68.out.size))
                have HZ69 := Lib.hid (And.intro ((Below.block (hb9) _ (Array.getElem?_eq_some_iff.1 HZ68.out.1).1).trans HZ68.out.1) HZ68.out.2)
                clear hb9 HB68 HZ68 HA68
                refine hK.out _ _ ?_ (fun hHeld => ?_)
                · exact (HS.out.later HB69.out).more
                clear hK K
                try simp only [Act.put, List.setIfInBounds_toArray, List.set_cons_zero, List.set_cons_succ, List.getElem_toArray, List.getElem_cons_zero, List.getElem_cons_succ]
                refine wpAnyH_take (i := 9) (v := ?_) rfl (by kernel_rfl) (by kernel_rfl) (by kernel_rfl) (fun _ _ _ h => h) (Or.inl ⟨by rfl, ?_⟩) hHeld ?_
                rotate_left
                · intro W0 hW; obtain ⟨hW1, hW2, hW3⟩ := hW; go_simp; (try with_reducible rfl)
                try simp only [Act.put, List.setIfInBounds_toArray, List.set_cons_zero, List.set_cons_succ, List.getElem_toArray, List.getElem_cons_zero, List.getElem_cons_succ]
                refine wpAnyH_take (i := 10) (v := ?_) rfl (by kernel_rfl) (by kernel_rfl) (by kernel_rfl) (fun _ _ _ h => h) (Or.inl ⟨by rfl, ?_⟩) hHeld ?_
                rotate_left
                · intro W0 hW; obtain ⟨hW1, hW2, hW3⟩ := hW; go_simp; (try with_reducible rfl)
                try simp only [Act.put, List.setIfInBounds_toArray, List.set_cons_zero, List.set_cons_succ, List.getElem_toArray, List.getElem_cons_zero, List.getElem_cons_succ]
                refine wpAnyH_take (i := 11) (v := ?_) rfl (by kernel_rfl) (by kernel_rfl) (by kernel_rfl) (fun _ _ _ h => h) (Or.inl ⟨by rfl, ?_⟩) hHeld ?_
                rotate_left
                · intro W0 hW; obtain ⟨hW1, hW2, hW3⟩ := hW; go_simp; (try with_reducible rfl)
                try simp only [Act.put, List.setIfInBounds_toArray, List.set_cons_zero, List.set_cons_succ, List.getElem_toArray, List.getElem_cons_zero, List.getElem_cons_succ]
                refine wpAnyH_ready (rs := [13]) (by kernel_rfl) (by simp) ?_
                refine AllReadyH.cons rfl (fun K hK => ?_) AllReadyH.nil
                obtain ⟨zc0, zc1, zc2⟩ := zero_tree HZ69.out.1
                have HT70 := Lib.hid (tree_stored HZ69.out.1 (.slice a1 0 c1) (.slice a2 0 c2)).1
                have HB70 := Lib.hid ((HB69.out.setCell (p := ⟨z65, 0, none⟩) HZ69.out.2 (.slice a1 0 c1)).setCell (p := ⟨z65, 1, none⟩) HZ69.out.2 (.slice a2 0 c2))
                go_simp
                refine hK.out _ _ ?_ (fun hHeld => ?_)
                · exact (HS.out.later HB70.out).more
                clear hK K
                try simp only [Act.put, List.setIfInBounds_toArray, List.set_cons_zero, List.set_cons_succ, List.getElem_toArray, List.getElem_cons_zero, List.getElem_cons_succ]
                generalize hw70 : World.setCell (World.setCell w69 ⟨z65, 0, none⟩ (.slice a1 0 c1)) ⟨z65, 1, none⟩ (.slice a2 0 c2) = w70 at HT70 HB70 hHeld ⊢
                clear zc0 zc1 zc2 hw70 HB69 HZ69
                refine wpAnyH_take (i := 14) (v := ?_) rfl (by kernel_rfl) (by kernel_rfl) (by kernel_rfl) (fun _ _ _ h => h) (Or.inl ⟨by rfl, ?_⟩) hHeld ?_
                rotate_left
                · intro W0 hW; obtain ⟨hW1, hW2, hW3⟩ := hW; go_simp; (try with_reducible rfl)
                try simp only [Act.put, List.setIfInBounds_toArray, List.set_cons_zero, List.set_cons_succ, List.getElem_toArray, List.getElem_cons_zero, List.getElem_cons_succ]
                refine wpAnyH_done (by kernel_rfl) ?_ _
                clear hHeld
                have HS70 := Lib.hid (HS.out.later HB70.out)
                have th0 := HS70.out.fw.box.c0
                have th1 := HS70.out.fw.t0
                go_wp2_with fail
                go_ret
                exact ⟨rfl, HS70.out.fw.box.below⟩
              · have HN2 := Lib.hid hneg2
                clear hneg2
                go_simp
                refine (from_tree2 P hqN HC2.out HN2.out _ _ _ HA68.out).mono ?_
                rintro e w71 ⟨hb9, gf2, cf2, gb2, cb2, far2, by2, rfl, hlf2, ht2⟩
                have HB71 := Lib.hid (HB68.out.trans (hb9.mono HB68.out.size))
                have HT2 := Lib.hid ht2
                have HZ71 := Lib.hid (And.intro ((Below.block (hb9) _ (Array.getElem?_eq_some_iff.1 HZ68.out.1).1).trans HZ68.out.1) HZ68.out.2)
                have HF71 := Lib.hid (hlf2.rebase (Nat.zero_le _))
                have HFZ71 : Hid (gf2 ≠ z65) := Lib.hid (by have h1 := hlf2.base_.1; have h2 := (Array.getElem?_eq_some_iff.1 HZ68.out.1).1; omega)
                clear hb9 hlf2 ht2 HB68 HZ68 HA68
                refine hK.out _ _ ?_ (fun hHeld => ?_)
                · exact (HS.out.later HB71.out).more
                clear hK K
                try simp only [Act.put, List.setIfInBounds_toArray, List.set_cons_zero, List.set_cons_succ, List.getElem_toArray, List.getElem_cons_zero, List.getElem_cons_succ]
                refine wpAnyH_take (i := 9) (v := ?_) rfl (by kernel_rfl) (by kernel_rfl) (by kernel_rfl) (fun _ _ _ h => h) (Or.inl ⟨by rfl, ?_⟩) hHeld ?_
                rotate_left
                · intro W0 hW; obtain ⟨hW1, hW2, hW3⟩ := hW; go_simp; (try with_reducible rfl)
                try simp only [Act.put, List.setIfInBounds_toArray, List.set_cons_zero, List.set_cons_succ, List.getElem_toArray, List.getElem_cons_zero, List.getElem_cons_succ]
                refine wpAnyH_take (i := 10) (v := ?_) rfl (by kernel_rfl) (by kernel_rfl) (by kernel_rfl) (fun _ _ _ h => h) (Or.inl ⟨by rfl, ?_⟩) hHeld ?_
                rotate_left
                · intro W0 hW; obtain ⟨hW1, hW2, hW3⟩ := hW; go_simp; (try with_reducible rfl)
                try simp only [Act.put, List.setIfInBounds_toArray, List.set_cons_zero, List.set_cons_succ, List.getElem_toArray, List.getElem_cons_zero, List.getElem_cons_succ]
                refine wpAnyH_take (i := 11) (v := ?_) rfl (by kernel_rfl) (by kernel_rfl) (by kernel_rfl) (fun _ _ _ h => h) (Or.inl ⟨by rfl, ?_⟩) hHeld ?_
                rotate_left
                · intro W0 hW; obtain ⟨hW1, hW2, hW3⟩ := hW; go_simp; (try with_reducible rfl)
                try simp only [Act.put, List.setIfInBounds_toArray, List.set_cons_zero, List.set_cons_succ, List.getElem_toArray, List.getElem_cons_zero, List.getElem_cons_succ]
                refine wpAnyH_ready (rs := [13]) (by kernel_rfl) (by simp) ?_
                refine AllReadyH.cons rfl (fun K hK => ?_) AllReadyH.nil
                obtain ⟨zc0, zc1, zc2⟩ := zero_tree HZ71.out.1
                have HT72 := Lib.hid (tree_stored HZ71.out.1 (.slice (some ⟨gf2, 0, none⟩) N cf2) (.slice (some ⟨gb2, 0, none⟩) N cb2)).1
                have HB72 := Lib.hid ((HB71.out.setCell (p := ⟨z65, 0, none⟩) HZ71.out.2 (.slice (some ⟨gf2, 0, none⟩) N cf2)).setCell (p := ⟨z65, 1, none⟩) HZ71.out.2 (.slice (some ⟨gb2, 0, none⟩) N cb2))
                have HF72 := Lib.hid (HF71.out.kept (((Mod.refl (fun k => k = z65) w71).setCell (p := ⟨z65, 0, none⟩) (.inr rfl) (.slice (some ⟨gf2, 0, none⟩) N cf2)).setCell (p := ⟨z65, 1, none⟩) (.inr rfl) (.slice (some ⟨gb2, 0, none⟩) N cb2)) (fun k hk hk2 => HFZ71.out ((Option.some.inj hk).trans hk2)))
                go_simp
                refine hK.out _ _ ?_ (fun hHeld => ?_)
                · exact (HS.out.later HB72.out).more
                clear hK K
                try simp only [Act.put, List.setIfInBounds_toArray, List.set_cons_zero, List.set_cons_succ, List.getElem_toArray, List.getElem_cons_zero, List.getElem_cons_succ]
                generalize hw72 : World.setCell (World.setCell w71 ⟨z65, 0, none⟩ (.slice (some ⟨gf2, 0, none⟩) N cf2)) ⟨z65, 1, none⟩ (.slice (some ⟨gb2, 0, none⟩) N cb2) = w72 at HT72 HB72 HF72 hHeld ⊢
                clear zc0 zc1 zc2 hw72 HB71 HZ71 HF71
                refine wpAnyH_take (i := 14) (v := ?_) rfl (by kernel_rfl) (by kernel_rfl) (by kernel_rfl) (fun _ _ _ h => h) (Or.inl ⟨by rfl, ?_⟩) hHeld ?_
                rotate_left
                · intro W0 hW; obtain ⟨hW1, hW2, hW3⟩ := hW; go_simp; (try with_reducible rfl)
                try simp only [Act.put, List.setIfInBounds_toArray, List.set_cons_zero, List.set_cons_succ, List.getElem_toArray, List.getElem_cons_zero, List.getElem_cons_succ]
                refine wpAnyH_done (by kernel_rfl) ?_ _
                clear hHeld
                have HS72 := Lib.hid (HS.out.later HB72.out)
                have th0 := HS72.out.fw.box.c0
                have th1 := HS72.out.fw.t0
                have HSH : Hid (Short2 w w72 g g1 (World.heap w).size z65 N la xs.length lc xs gf cf (.slice (some ⟨gb, 0, none⟩) N cb) far mo gf2 cf2 (.slice (some ⟨gb2, 0, none⟩) N cb2) far2) := Lib.hid ⟨HS72.out, HF72.out, HT72.out⟩
                have zt := HSH.out.t0
                go_wp2_with fail
                have HLE : Hid (∀ i, valI far2 i ≤ valI far i) := Lib.hid (short_le HT.out.dist HT2.out.dist (HT2.out.dist.small (checkV_zero.1 HC2.out).2 hqN (by omega)))
                clear th0 th1 zt HS72 HF72 HT72
                go_loopw [107] (fun j wr => ∃ (i : Nat), j = .int .i64 i ∧ i ≤ N ∧ Hid (Short2 w wr g g1 (World.heap w).size z65 N la xs.length lc xs gf cf (.slice (some ⟨gb, 0, none⟩) N cb) far mo gf2 cf2 (.slice (some ⟨gb2, 0, none⟩) N cb2) far2)) (fun j _ => N - (intOf j).toNat)
                case atStart => exact ⟨0, rfl, Nat.zero_le _, HSH⟩
                case round =>
                  obtain ⟨i, rfl, hi2, HSH2⟩ := hrel
                  clear HSH
                  by_cases hlt2 : i < N
                  · have i1 : (0 : Int) ≤ (i : Int) := by omega
                    have i2 : (i : Int) < (N : Int) := by omega
                    have y0 := HSH2.out.one.fw.t0
                    have y1 := HSH2.out.t0
                    have y2 := HSH2.out.one.far.cell hlt2
                    have y3 := HSH2.out.far2.cell hlt2
                    have hle := HLE.out i
                    generalize valI far i = d1 at y2 hle
                    generalize valI far2 i = d2 at y3 hle
                    have hgt : decide (d1 < d2) = false := by simp; omega
                    go_wp2_with fail
                    go_quiet (fail)
                    go_wp2_with fail
                    go_roundw
                    case rel => exact ⟨i + 1, by go_num, by omega, Lib.hid (HSH2.out.later (below_drewN (Below.refl _ _) _))⟩
                    case measure => simp [intOf]; omega
                  · go_wp2_with fail
                    go_ret
                    exact ⟨rfl, HSH2.out.one.fw.box.below⟩
          · go_simp
            have HB73 := Lib.hid (HB0.out.alloc HB0.out.size (.cells #[.slice none 0 0, .slice none 0 0] 31))
            have HZ73 := Lib.hid (And.intro (heap_alloc_new w0 (.cells #[.slice none 0 0, .slice none 0 0] 31)) HB0.out.size)
            refine hK.out _ _ ?_ (fun hHeld => ?_)
            · exact (HS.out.later HB73.out).more
            clear hK K
            try simp only [Act.put, List.setIfInBounds_toArray, List.set_cons_zero, List.set_cons_succ, List.getElem_toArray, List.getElem_cons_zero, List.getElem_cons_succ]
            generalize hw73 : World.alloc w0 (.cells #[.slice none 0 0, .slice none 0 0] 31) = w73 at HB73 HZ73 hHeld ⊢
            clear hw73 HB0
            generalize (World.heap w0).size = z73 at HZ73 ⊢
            refine wpAnyH_ready (rs := [2, 4]) (by kernel_rfl) (by simp) ?_
            refine AllReadyH.cons rfl (fun K hK => ?_) (AllReadyH.cons rfl (fun K hK => ?_) AllReadyH.nil)
            · go_simp
              refine (cloneLinks ((HL.out.later (HS.out.fw.box.below.trans (HB73.out.mono HS.out.fw.box.below.size))).mono (HS.out.fw.box.below.trans (HB73.out.mono HS.out.fw.box.below.size)).size) (by omega) HCP.out).mono ?_
              rintro e w74 ⟨v6, rfl, hr6, hb6⟩
              obtain ⟨va, vc, hv⟩ := owns_shape hr6
              subst hv
              have HB74 := Lib.hid (HB73.out.trans (hb6.mono HB73.out.size))
              have HZ74 := Lib.hid (And.intro ((Below.block (hb6) _ (Array.getElem?_eq_some_iff.1 HZ73.out.1).1).trans HZ73.out.1) HZ73.out.2)
              have HR74 := Lib.hid (owns_rebase hr6 HB73.out.size)
              have HZN74 : Hid ((Value.slice va l.length vc).ownBlock ≠ some z73) := Lib.hid (fun h => by have h1 := (World.ownsRow.lt hr6 _ h).1; have h2 := (Array.getElem?_eq_some_iff.1 HZ73.out.1).1; omega)
              clear hr6 hb6 HB73 HZ73
              refine hK.out _ _ ?_ (fun hHeld => ?_)
              · exact (HS.out.later HB74.out).more
              clear hK K
              try simp only [Act.put, List.setIfInBounds_toArray, List.set_cons_zero, List.set_cons_succ, List.getElem_toArray, List.getElem_cons_zero, List.getElem_cons_succ]
              refine wpAnyH_ready (rs := [4]) (by kernel_rfl) (by simp) ?_
              refine AllReadyH.cons rfl (fun K hK => ?_) AllReadyH.nil
              go_simp
              have HB75 := Lib.hid (HB74.out.alloc HB74.out.size (.cells #[.int .u8 mo.1, .int .u8 mo.2.1, .int .i16 mo.2.2] 50))
              have HR75 := Lib.hid (owns_below HR74.out (((Below.refl (World.heap w74).size w74).alloc (Nat.le_refl _) (.cells #[.int .u8 mo.1, .int .u8 mo.2.1, .int .i16 mo.2.2] 50))))
              have HZ75 := Lib.hid (And.intro ((Below.block (((Below.refl (World.heap w74).size w74).alloc (Nat.le_refl _) (.cells #[.int .u8 mo.1, .int .u8 mo.2.1, .int .i16 mo.2.2] 50))) _ (Array.getElem?_eq_some_iff.1 HZ74.out.1).1).trans HZ74.out.1) HZ74.out.2)
              have HN75 := Lib.hid (newsL_at w74 mo 50 (World.heap w74).size rfl)
              have HNZ75 := Lib.hid (show (World.heap w74).size < (World.heap (World.alloc w74 (.cells #[.int .u8 mo.1, .int .u8 mo.2.1, .int .i16 mo.2.2] 50))).size by simp)
              refine hK.out _ _ ?_ (fun hHeld => ?_)
              · exact (HS.out.later HB75.out).more
              clear hK K
              try simp only [Act.put, List.setIfInBounds_toArray, List.set_cons_zero, List.set_cons_succ, List.getElem_toArray, List.getElem_cons_zero, List.getElem_cons_succ]
              generalize hw75 : World.alloc w74 (.cells #[.int .u8 mo.1, .int .u8 mo.2.1, .int .i16 mo.2.2] 50) = w75 at HB75 HR75 HN75 HNZ75 HZ75 hHeld ⊢
              clear hw75 HB74 HR74 HZ74
              generalize (World.heap w74).size = z75 at HN75  HNZ75 ⊢
              refine wpAnyH_ready (rs := [5]) (by kernel_rfl) (by simp) ?_
              refine AllReadyH.cons rfl (fun K hK => ?_) AllReadyH.nil
              refine step_append_fresh rfl (.tmp 83) (.tmp 85) 22 rfl (World.heap wr).size 50 i0 _ 3 4 Try.underlying22 hi hz0 hz1 hz2 (by decide) (.slice va l.length vc) l.length (flatL l) rfl HR75.out ⟨z75, 0, none⟩ 1 (encL mo) rfl rfl HN75.out (oneL1 _) (by unfold maxLen; omega) (by omega) HB75.out.size ?_
              intro g' cp7 w76 hown hgrow hfr
              have HB76 := Lib.hid (((Mod.of_below (fun k => (World.heap wr).size ≤ k) HB75.out).grown hgrow (fun k hk => .inr (World.ownsRow.lt HR75.out k hk).1)).below (Nat.le_refl _) (fun k hk => hk))
              have HL76 : Hid (IsLinks (World.heap w76).size w76 (some ⟨g', 0, none⟩) (l.length + 1) (l ++ [mo])) := Lib.hid (owns_links (l := l ++ [mo]) (by rw [flatL_snoc, List.length_append]; exact hown) HSA.out).2
              have HZ76 := Lib.hid (And.intro ((hgrow.block z73 (Array.getElem?_eq_some_iff.1 HZ75.out.1).1 (fun h => HZN74.out h.symm)).trans HZ75.out.1) HZ75.out.2)
              clear hown hgrow hfr HB75 HR75 HN75 HNZ75 HZ75
              refine hK.out _ _ ?_ (fun hHeld => ?_)
              · exact (HS.out.later HB76.out).more
              clear hK K
              try simp only [Act.put, List.setIfInBounds_toArray, List.set_cons_zero, List.set_cons_succ, List.getElem_toArray, List.getElem_cons_zero, List.getElem_cons_succ]
              refine wpAnyH_ready (rs := [6]) (by kernel_rfl) (by simp) ?_
              refine AllReadyH.cons rfl (fun K hK => ?_) AllReadyH.nil
              go_simp
              refine (HMK.out (l.length + 1) (l ++ [mo]) _ _ _ (by omega) HL76.out).mono ?_
              rintro e w77 ⟨lv8, rfl, hrow8, hb8⟩
              rw [HLn.out, HX2.out] at hrow8
              obtain ⟨la8, lc8, hv⟩ := owns_shape hrow8
              subst hv
              have h9 := (owns_arcs hrow8).2
              rw [show (xs ++ [arcOf (N : Int) mo]).length = xs.length + 1 by simp] at h9
              have HB77 := Lib.hid (HB76.out.trans (hb8.mono HB76.out.size))
              have HZ77 := Lib.hid (And.intro ((Below.block (hb8) _ (Array.getElem?_eq_some_iff.1 HZ76.out.1).1).trans HZ76.out.1) HZ76.out.2)
              have HA77 := Lib.hid h9
              clear hrow8 hb8 h9 HB76 HZ76 HL76
              refine hK.out _ _ ?_ (fun hHeld => ?_)
              · exact (HS.out.later HB77.out).more
              clear hK K
              try simp only [Act.put, List.setIfInBounds_toArray, List.set_cons_zero, List.set_cons_succ, List.getElem_toArray, List.getElem_cons_zero, List.getElem_cons_succ]
              refine wpAnyH_ready (rs := [8]) (by kernel_rfl) (by simp) ?_
              refine AllReadyH.cons rfl (fun K hK => ?_) AllReadyH.nil
              by_cases hneg2 : Neg (xs ++ [arcOf (N : Int) mo]) q
              · have HN2 := Lib.hid hneg2
                clear hneg2
                go_simp
                refine (P.from_neg hqN HC2.out HN2.out _ _ HA77.out).mono ?_
                rintro e w78 ⟨hb9, a1, c1, a2, c2, rfl⟩
                have HB78 := Lib.hid (HB77.out.trans (hb9.mono HB77.out.size))
                have HZ78 := Lib.hid (And.intro ((Below.block (hb9) _ (Array.getElem?_eq_some_iff.1 HZ77.out.1).1).trans HZ77.out.1) HZ77.out.2)
                clear hb9 HB77 HZ77 HA77
                refine hK.out _ _ ?_ (fun hHeld => ?_)
                · exact (HS.out.later HB78.out).more
                clear hK K
                try simp only [Act.put, List.setIfInBounds_toArray, List.set_cons_zero, List.set_cons_succ, List.getElem_toArray, List.getElem_cons_zero, List.getElem_cons_succ]
                refine wpAnyH_take (i := 9) (v := ?_) rfl (by kernel_rfl) (by kernel_rfl) (by kernel_rfl) (fun _ _ _ h => h) (Or.inl ⟨by rfl, ?_⟩) hHeld ?_
                rotate_left
                · intro W0 hW; obtain ⟨hW1, hW2, hW3⟩ := hW; go_simp; (try with_reducible rfl)
                try simp only [Act.put, List.setIfInBounds_toArray, List.set_cons_zero, List.set_cons_succ, List.getElem_toArray, List.getElem_cons_zero, List.getElem_cons_succ]
                refine wpAnyH_take (i := 10) (v := ?_) rfl (by kernel_rfl) (by kernel_rfl) (by kernel_rfl) (fun _ _ _ h => h) (Or.inl ⟨by rfl, ?_⟩) hHeld ?_
                rotate_left
                · intro W0 hW; obtain ⟨hW1, hW2, hW3⟩ := hW; go_simp; (try with_reducible rfl)
                try simp only [Act.put, List.setIfInBounds_toArray, List.set_cons_zero, List.set_cons_succ, List.getElem_toArray, List.getElem_cons_zero, List.getElem_cons_succ]
                refine wpAnyH_take (i := 11) (v := ?_) rfl (by kernel_rfl) (by kernel_rfl) (by kernel_rfl) (fun _ _ _ h => h) (Or.inl ⟨by rfl, ?_⟩) hHeld ?_
                rotate_left
                · intro W0 hW; obtain ⟨hW1, hW2, hW3⟩ := hW; go_simp; (try with_reducible rfl)
                try simp only [Act.put, List.setIfInBounds_toArray, List.set_cons_zero, List.set_cons_succ, List.getElem_toArray, List.getElem_cons_zero, List.getElem_cons_succ]
                refine wpAnyH_ready (rs := [13]) (by kernel_rfl) (by simp) ?_
                refine AllReadyH.cons rfl (fun K hK => ?_) AllReadyH.nil
                obtain ⟨zc0, zc1, zc2⟩ := zero_tree HZ78.out.1
                have HT79 := Lib.hid (tree_stored HZ78.out.1 (.slice a1 0 c1) (.slice a2 0 c2)).1
                have HB79 := Lib.hid ((HB78.out.setCell (p := ⟨z73, 0, none⟩) HZ78.out.2 (.slice a1 0 c1)).setCell (p := ⟨z73, 1, none⟩) HZ78.out.2 (.slice a2 0 c2))
                go_simp
                refine hK.out _ _ ?_ (fun hHeld => ?_)
                · exact (HS.out.later HB79.out).more
                clear hK K
                try simp only [Act.put, List.setIfInBounds_toArray, List.set_cons_zero, List.set_cons_succ, List.getElem_toArray, List.getElem_cons_zero, List.getElem_cons_succ]
                generalize hw79 : World.setCell (World.setCell w78 ⟨z73, 0, none⟩ (.slice a1 0 c1)) ⟨z73, 1, none⟩ (.slice a2 0 c2) = w79 at HT79 HB79 hHeld ⊢
                clear zc0 zc1 zc2 hw79 HB78 HZ78
                refine wpAnyH_take (i := 14) (v := ?_) rfl (by kernel_rfl) (by kernel_rfl) (by kernel_rfl) (fun _ _ _ h => h) (Or.inl ⟨by rfl, ?_⟩) hHeld ?_
                rotate_left
                · intro W0 hW; obtain ⟨hW1, hW2, hW3⟩ := hW; go_simp; (try with_reducible rfl)
                try simp only [Act.put, List.setIfInBounds_toArray, List.set_cons_zero, List.set_cons_succ, List.getElem_toArray, List.getElem_cons_zero, List.getElem_cons_succ]
                refine wpAnyH_done (by kernel_rfl) ?_ _
                clear hHeld
                have HS79 := Lib.hid (HS.out.later HB79.out)
                have th0 := HS79.out.fw.box.c0
                have th1 := HS79.out.fw.t0
                go_wp2_with fail
                go_ret
                exact ⟨rfl, HS79.out.fw.box.below⟩
              · have HN2 := Lib.hid hneg2
                clear hneg2
                go_simp
                refine (from_tree2 P hqN HC2.out HN2.out _ _ _ HA77.out).mono ?_
                rintro e w80 ⟨hb9, gf2, cf2, gb2, cb2, far2, by2, rfl, hlf2, ht2⟩
                have HB80 := Lib.hid (HB77.out.trans (hb9.mono HB77.out.size))
                have HT2 := Lib.hid ht2
                have HZ80 := Lib.hid (And.intro ((Below.block (hb9) _ (Array.getElem?_eq_some_iff.1 HZ77.out.1).1).trans HZ77.out.1) HZ77.out.2)
                have HF80 := Lib.hid (hlf2.rebase (Nat.zero_le _))
                have HFZ80 : Hid (gf2 ≠ z73) := Lib.hid (by have h1 := hlf2.base_.1; have h2 := (Array.getElem?_eq_some_iff.1 HZ77.out.1).1; omega)
                clear hb9 hlf2 ht2 HB77 HZ77 HA77
                refine hK.out _ _ ?_ (fun hHeld => ?_)
                · exact (HS.out.later HB80.out).more
                clear hK K
                try simp only [Act.put, List.setIfInBounds_toArray, List.set_cons_zero, List.set_cons_succ, List.getElem_toArray, List.getElem_cons_zero, List.getElem_cons_succ]
                refine wpAnyH_take (i := 9) (v := ?_) rfl (by kernel_rfl) (by kernel_rfl) (by kernel_rfl) (fun _ _ _ h => h) (Or.inl ⟨by rfl, ?_⟩) hHeld ?_
                rotate_left
                · intro W0 hW; obtain ⟨hW1, hW2, hW3⟩ := hW; go_simp; (try with_reducible rfl)
                try simp only [Act.put, List.setIfInBounds_toArray, List.set_cons_zero, List.set_cons_succ, List.getElem_toArray, List.getElem_cons_zero, List.getElem_cons_succ]
                refine wpAnyH_take (i := 10) (v := ?_) rfl (by kernel_rfl) (by kernel_rfl) (by kernel_rfl) (fun _ _ _ h => h) (Or.inl ⟨by rfl, ?_⟩) hHeld ?_
                rotate_left
                · intro W0 hW; obtain ⟨hW1, hW2, hW3⟩ := hW; go_simp; (try with_reducible rfl)
                try simp only [Act.put, List.setIfInBounds_toArray, List.set_cons_zero, List.set_cons_succ, List.getElem_toArray, List.getElem_cons_zero, List.getElem_cons_succ]
                refine wpAnyH_take (i := 11) (v := ?_) rfl (by kernel_rfl) (by kernel_rfl) (by kernel_rfl) (fun _ _ _ h => h) (Or.inl ⟨by rfl, ?_⟩) hHeld ?_
                rotate_left
                · intro W0 hW; obtain ⟨hW1, hW2, hW3⟩ := hW; go_simp; (try with_reducible rfl)
                try simp only [Act.put, List.setIfInBounds_toArray, List.set_cons_zero, List.set_cons_succ, List.getElem_toArray, List.getElem_cons_zero, List.getElem_cons_succ]
                refine wpAnyH_ready (rs := [13]) (by kernel_rfl) (by simp) ?_
                refine AllReadyH.cons rfl (fun K hK => ?_) AllReadyH.nil
                obtain ⟨zc0, zc1, zc2⟩ := zero_tree HZ80.out.1
                have HT81 := Lib.hid (tree_stored HZ80.out.1 (.slice (some ⟨gf2, 0, none⟩) N cf2) (.slice (some ⟨gb2, 0, none⟩) N cb2)).1
                have HB81 := Lib.hid ((HB80.out.setCell (p := ⟨z73, 0, none⟩) HZ80.out.2 (.slice (some ⟨gf2, 0, none⟩) N cf2)).setCell (p := ⟨z73, 1, none⟩) HZ80.out.2 (.slice (some ⟨gb2, 0, none⟩) N cb2))
                have HF81 := Lib.hid (HF80.out.kept (((Mod.refl (fun k => k = z73) w80).setCell (p := ⟨z73, 0, none⟩) (.inr rfl) (.slice (some ⟨gf2, 0, none⟩) N cf2)).setCell (p := ⟨z73, 1, none⟩) (.inr rfl) (.slice (some ⟨gb2, 0, none⟩) N cb2)) (fun k hk hk2 => HFZ80.out ((Option.some.inj hk).trans hk2)))
                go_simp
                refine hK.out _ _ ?_ (fun hHeld => ?_)
                · exact (HS.out.later HB81.out).more
                clear hK K
                try simp only [Act.put, List.setIfInBounds_toArray, List.set_cons_zero, List.set_cons_succ, List.getElem_toArray, List.getElem_cons_zero, List.getElem_cons_succ]
                generalize hw81 : World.setCell (World.setCell w80 ⟨z73, 0, none⟩ (.slice (some ⟨gf2, 0, none⟩) N cf2)) ⟨z73, 1, none⟩ (.slice (some ⟨gb2, 0, none⟩) N cb2) = w81 at HT81 HB81 HF81 hHeld ⊢
                clear zc0 zc1 zc2 hw81 HB80 HZ80 HF80
                refine wpAnyH_take (i := 14) (v := ?_) rfl (by kernel_rfl) (by kernel_rfl) (by kernel_rfl) (fun _ _ _ h => h) (Or.inl ⟨by rfl, ?_⟩) hHeld ?_
                rotate_left
                · intro W0 hW; obtain ⟨hW1, hW2, hW3⟩ := hW; go_simp; (try with_reducible rfl)
                try simp only [Act.put, List.setIfInBounds_toArray, List.set_cons_zero, List.set_cons_succ, List.getElem_toArray, List.getElem_cons_zero, List.getElem_cons_succ]
                refine wpAnyH_done (by kernel_rfl) ?_ _
                clear hHeld
                have HS81 := Lib.hid (HS.out.later HB81.out)
                have th0 := HS81.out.fw.box.c0
                have th1 := HS81.out.fw.t0
                have HSH : Hid (Short2 w w81 g g1 (World.heap w).size z73 N la xs.length lc xs gf cf (.slice (some ⟨gb, 0, none⟩) N cb) far mo gf2 cf2 (.slice (some ⟨gb2, 0, none⟩) N cb2) far2) := Lib.hid ⟨HS81.out, HF81.out, HT81.out⟩
                have zt := HSH.out.t0
                go_wp2_with fail
                have HLE : Hid (∀ i, valI far2 i ≤ valI far i) := Lib.hid (short_le HT.out.dist HT2.out.dist (HT2.out.dist.small (checkV_zero.1 HC2.out).2 hqN (by omega)))
                clear th0 th1 zt HS81 HF81 HT81
                go_loopw [107] (fun j wr => ∃ (i : Nat), j = .int .i64 i ∧ i ≤ N ∧ Hid (Short2 w wr g g1 (World.heap w).size z73 N la xs.length lc xs gf cf (.slice (some ⟨gb, 0, none⟩) N cb) far mo gf2 cf2 (.slice (some ⟨gb2, 0, none⟩) N cb2) far2)) (fun j _ => N - (intOf j).toNat)
                case atStart => exact ⟨0, rfl, Nat.zero_le _, HSH⟩
                case round =>
                  obtain ⟨i, rfl, hi2, HSH2⟩ := hrel
                  clear HSH
                  by_cases hlt2 : i < N
                  · have i1 : (0 : Int) ≤ (i : Int) := by omega
                    have i2 : (i : Int) < (N : Int) := by omega
                    have y0 := HSH2.out.one.fw.t0
                    have y1 := HSH2.out.t0
                    have y2 := HSH2.out.one.far.cell hlt2
                    have y3 := HSH2.out.far2.cell hlt2
                    have hle := HLE.out i
                    generalize valI far i = d1 at y2 hle
                    generalize valI far2 i = d2 at y3 hle
                    have hgt : decide (d1 < d2) = false := by simp; omega
                    go_wp2_with fail
                    go_quiet (fail)
                    go_wp2_with fail
                    go_roundw
                    case rel => exact ⟨i + 1, by go_num, by omega, Lib.hid (HSH2.out.later (below_drewN (Below.refl _ _) _))⟩
                    case measure => simp [intOf]; omega
                  · go_wp2_with fail
                    go_ret
                    exact ⟨rfl, HSH2.out.one.fw.box.below⟩
            · go_simp
              have HB82 := Lib.hid (HB73.out.alloc HB73.out.size (.cells #[.int .u8 mo.1, .int .u8 mo.2.1, .int .i16 mo.2.2] 50))
              have HZ82 := Lib.hid (And.intro ((Below.block (((Below.refl (World.heap w73).size w73).alloc (Nat.le_refl _) (.cells #[.int .u8 mo.1, .int .u8 mo.2.1, .int .i16 mo.2.2] 50))) _ (Array.getElem?_eq_some_iff.1 HZ73.out.1).1).trans HZ73.out.1) HZ73.out.2)
              have HN82 := Lib.hid (newsL_at w73 mo 50 (World.heap w73).size rfl)
              have HNZ82 := Lib.hid (show (World.heap w73).size < (World.heap (World.alloc w73 (.cells #[.int .u8 mo.1, .int .u8 mo.2.1, .int .i16 mo.2.2] 50))).size by simp)
              refine hK.out _ _ ?_ (fun hHeld => ?_)
              · exact (HS.out.later HB82.out).more
              clear hK K
              try simp only [Act.put, List.setIfInBounds_toArray, List.set_cons_zero, List.set_cons_succ, List.getElem_toArray, List.getElem_cons_zero, List.getElem_cons_succ]
              generalize hw82 : World.alloc w73 (.cells #[.int .u8 mo.1, .int .u8 mo.2.1, .int .i16 mo.2.2] 50) = w82 at HB82 HN82 HNZ82 HZ82 hHeld ⊢
              clear hw82 HB73 HZ73
              generalize (World.heap w73).size = z82 at HN82  HNZ82 ⊢
              refine wpAnyH_ready (rs := [2]) (by kernel_rfl) (by simp) ?_
              refine AllReadyH.cons rfl (fun K hK => ?_) AllReadyH.nil
              go_simp
              refine (cloneLinks ((HL.out.later (HS.out.fw.box.below.trans (HB82.out.mono HS.out.fw.box.below.size))).mono (HS.out.fw.box.below.trans (HB82.out.mono HS.out.fw.box.below.size)).size) (by omega) HCP.out).mono ?_
              rintro e w83 ⟨v6, rfl, hr6, hb6⟩
              obtain ⟨va, vc, hv⟩ := owns_shape hr6
              subst hv
              have HB83 := Lib.hid (HB82.out.trans (hb6.mono HB82.out.size))
              have HN83 := Lib.hid (newsL_later HN82.out HNZ82.out (hb6))
              have HNZ83 := Lib.hid (Nat.lt_of_lt_of_le HNZ82.out (hb6).size)
              have HZ83 := Lib.hid (And.intro ((Below.block (hb6) _ (Array.getElem?_eq_some_iff.1 HZ82.out.1).1).trans HZ82.out.1) HZ82.out.2)
              have HR83 := Lib.hid (owns_rebase hr6 HB82.out.size)
              have HZN83 : Hid ((Value.slice va l.length vc).ownBlock ≠ some z73) := Lib.hid (fun h => by have h1 := (World.ownsRow.lt hr6 _ h).1; have h2 := (Array.getElem?_eq_some_iff.1 HZ82.out.1).1; omega)
              clear hr6 hb6 HB82 HN82 HNZ82 HZ82
              refine hK.out _ _ ?_ (fun hHeld => ?_)
              · exact (HS.out.later HB83.out).more
              clear hK K
              try simp only [Act.put, List.setIfInBounds_toArray, List.set_cons_zero, List.set_cons_succ, List.getElem_toArray, List.getElem_cons_zero, List.getElem_cons_succ]
              refine wpAnyH_ready (rs := [5]) (by kernel_rfl) (by simp) ?_
              refine AllReadyH.cons rfl (fun K hK => ?_) AllReadyH.nil
              refine step_append_fresh rfl (.tmp 83) (.tmp 85) 22 rfl (World.heap wr).size 50 i0 _ 3 4 Try.underlying22 hi hz0 hz1 hz2 (by decide) (.slice va l.length vc) l.length (flatL l) rfl HR83.out ⟨z82, 0, none⟩ 1 (encL mo) rfl rfl HN83.out (oneL1 _) (by unfold maxLen; omega) (by omega) HB83.out.size ?_
              intro g' cp7 w84 hown hgrow hfr
              have HB84 := Lib.hid (((Mod.of_below (fun k => (World.heap wr).size ≤ k) HB83.out).grown hgrow (fun k hk => .inr (World.ownsRow.lt HR83.out k hk).1)).below (Nat.le_refl _) (fun k hk => hk))
              have HL84 : Hid (IsLinks (World.heap w84).size w84 (some ⟨g', 0, none⟩) (l.length + 1) (l ++ [mo])) := Lib.hid (owns_links (l := l ++ [mo]) (by rw [flatL_snoc, List.length_append]; exact hown) HSA.out).2
              have HZ84 := Lib.hid (And.intro ((hgrow.block z73 (Array.getElem?_eq_some_iff.1 HZ83.out.1).1 (fun h => HZN83.out h.symm)).trans HZ83.out.1) HZ83.out.2)
              clear hown hgrow hfr HB83 HR83 HN83 HNZ83 HZ83
              refine hK.out _ _ ?_ (fun hHeld => ?_)
              · exact (HS.out.later HB84.out).more
              clear hK K
              try simp only [Act.put, List.setIfInBounds_toArray, List.set_cons_zero, List.set_cons_succ, List.getElem_toArray, List.getElem_cons_zero, List.getElem_cons_succ]
              refine wpAnyH_ready (rs := [6]) (by kernel_rfl) (by simp) ?_
              refine AllReadyH.cons rfl (fun K hK => ?_) AllReadyH.nil
              go_simp
              refine (HMK.out (l.length + 1) (l ++ [mo]) _ _ _ (by omega) HL84.out).mono ?_
              rintro e w85 ⟨lv8, rfl, hrow8, hb8⟩
              rw [HLn.out, HX2.out] at hrow8
              obtain ⟨la8, lc8, hv⟩ := owns_shape hrow8
              subst hv
              have h9 := (owns_arcs hrow8).2
              rw [show (xs ++ [arcOf (N : Int) mo]).length = xs.length + 1 by simp] at h9
              have HB85 := Lib.hid (HB84.out.trans (hb8.mono HB84.out.size))
              have HZ85 := Lib.hid (And.intro ((Below.block (hb8) _ (Array.getElem?_eq_some_iff.1 HZ84.out.1).1).trans HZ84.out.1) HZ84.out.2)
              have HA85 := Lib.hid h9
              clear hrow8 hb8 h9 HB84 HZ84 HL84
              refine hK.out _ _ ?_ (fun hHeld => ?_)
              · exact (HS.out.later HB85.out).more
              clear hK K
              try simp only [Act.put, List.setIfInBounds_toArray, List.set_cons_zero, List.set_cons_succ, List.getElem_toArray, List.getElem_cons_zero, List.getElem_cons_succ]
              refine wpAnyH_ready (rs := [8]) (by kernel_rfl) (by simp) ?_
              refine AllReadyH.cons rfl (fun K hK => ?_) AllReadyH.nil
              by_cases hneg2 : Neg (xs ++ [arcOf (N : Int) mo]) q
              · have HN2 := Lib.hid hneg2
                clear hneg2
                go_simp
                refine (P.from_neg hqN HC2.out HN2.out _ _ HA85.out).mono ?_
                rintro e w86 ⟨hb9, a1, c1, a2, c2, rfl⟩
                have HB86 := Lib.hid (HB85.out.trans (hb9.mono HB85.out.size))
                have HZ86 := Lib.hid (And.intro ((Below.block (hb9) _ (Array.getElem?_eq_some_iff.1 HZ85.out.1).1).trans HZ85.out.1) HZ85.out.2)
                clear hb9 HB85 HZ85 HA85
                refine hK.out _ _ ?_ (fun hHeld => ?_)
                · exact (HS.out.later HB86.out).more
                clear hK K
                try simp only [Act.put, List.setIfInBounds_toArray, List.set_cons_zero, List.set_cons_succ, List.getElem_toArray, List.getElem_cons_zero, List.getElem_cons_succ]
                refine wpAnyH_take (i := 9) (v := ?_) rfl (by kernel_rfl) (by kernel_rfl) (by kernel_rfl) (fun _ _ _ h => h) (Or.inl ⟨by rfl, ?_⟩) hHeld ?_
                rotate_left
                · intro W0 hW; obtain ⟨hW1, hW2, hW3⟩ := hW; go_simp; (try with_reducible rfl)
                try simp only [Act.put, List.setIfInBounds_toArray, List.set_cons_zero, List.set_cons_succ, List.getElem_toArray, List.getElem_cons_zero, List.getElem_cons_succ]
                refine wpAnyH_take (i := 10) (v := ?_) rfl (by kernel_rfl) (by kernel_rfl) (by kernel_rfl) (fun _ _ _ h => h) (Or.inl ⟨by rfl, ?_⟩) hHeld ?_
                rotate_left
                · intro W0 hW; obtain ⟨hW1, hW2, hW3⟩ := hW; go_simp; (try with_reducible rfl)
                try simp only [Act.put, List.setIfInBounds_toArray, List.set_cons_zero, List.set_cons_succ, List.getElem_toArray, List.getElem_cons_zero, List.getElem_cons_succ]
                refine wpAnyH_take (i := 11) (v := ?_) rfl (by kernel_rfl) (by kernel_rfl) (by kernel_rfl) (fun _ _ _ h => h) (Or.inl ⟨by rfl, ?_⟩) hHeld ?_
                rotate_left
                · intro W0 hW; obtain ⟨hW1, hW2, hW3⟩ := hW; go_simp; (try with_reducible rfl)
                try simp only [Act.put, List.setIfInBounds_toArray, List.set_cons_zero, List.set_cons_succ, List.getElem_toArray, List.getElem_cons_zero, List.getElem_cons_succ]
                refine wpAnyH_ready (rs := [13]) (by kernel_rfl) (by simp) ?_
                refine AllReadyH.cons rfl (fun K hK => ?_) AllReadyH.nil
                obtain ⟨zc0, zc1, zc2⟩ := zero_tree HZ86.out.1
                have HT87 := Lib.hid (tree_stored HZ86.out.1 (.slice a1 0 c1) (.slice a2 0 c2)).1
                have HB87 := Lib.hid ((HB86.out.setCell (p := ⟨z73, 0, none⟩) HZ86.out.2 (.slice a1 0 c1)).setCell (p := ⟨z73, 1, none⟩) HZ86.out.2 (.slice a2 0 c2))
                go_simp
                refine hK.out _ _ ?_ (fun hHeld => ?_)
                · exact (HS.out.later HB87.out).more
                clear hK K
                try simp only [Act.put, List.setIfInBounds_toArray, List.set_cons_zero, List.set_cons_succ, List.getElem_toArray, List.getElem_cons_zero, List.getElem_cons_succ]
                generalize hw87 : World.setCell (World.setCell w86 ⟨z73, 0, none⟩ (.slice a1 0 c1)) ⟨z73, 1, none⟩ (.slice a2 0 c2) = w87 at HT87 HB87 hHeld ⊢
                clear zc0 zc1 zc2 hw87 HB86 HZ86
                refine wpAnyH_take (i := 14) (v := ?_) rfl (by kernel_rfl) (by kernel_rfl) (by kernel_rfl) (fun _ _ _ h => h) (Or.inl ⟨by rfl, ?_⟩) hHeld ?_
                rotate_left
                · intro W0 hW; obtain ⟨hW1, hW2, hW3⟩ := hW; go_simp; (try with_reducible rfl)
                try simp only [Act.put, List.setIfInBounds_toArray, List.set_cons_zero, List.set_cons_succ, List.getElem_toArray, List.getElem_cons_zero, List.getElem_cons_succ]
                refine wpAnyH_done (by kernel_rfl) ?_ _
                clear hHeld
                have HS87 := Lib.hid (HS.out.later HB87.out)
                have th0 := HS87.out.fw.box.c0
                have th1 := HS87.out.fw.t0
                go_wp2_with fail
                go_ret
                exact ⟨rfl, HS87.out.fw.box.below⟩
              · have HN2 := Lib.hid hneg2
                clear hneg2
                go_simp
                refine (from_tree2 P hqN HC2.out HN2.out _ _ _ HA85.out).mono ?_
                rintro e w88 ⟨hb9, gf2, cf2, gb2, cb2, far2, by2, rfl, hlf2, ht2⟩
                have HB88 := Lib.hid (HB85.out.trans (hb9.mono HB85.out.size))
                have HT2 := Lib.hid ht2
                have HZ88 := Lib.hid (And.intro ((Below.block (hb9) _ (Array.getElem?_eq_some_iff.1 HZ85.out.1).1).trans HZ85.out.1) HZ85.out.2)
                have HF88 := Lib.hid (hlf2.rebase (Nat.zero_le _))
                have HFZ88 : Hid (gf2 ≠ z73) := Lib.hid (by have h1 := hlf2.base_.1; have h2 := (Array.getElem?_eq_some_iff.1 HZ85.out.1).1; omega)
                clear hb9 hlf2 ht2 HB85 HZ85 HA85
                refine hK.out _ _ ?_ (fun hHeld => ?_)
                · exact (HS.out.later HB88.out).more
                clear hK K
                try simp only [Act.put, List.setIfInBounds_toArray, List.set_cons_zero, List.set_cons_succ, List.getElem_toArray, List.getElem_cons_zero, List.getElem_cons_succ]
                refine wpAnyH_take (i := 9) (v := ?_) rfl (by kernel_rfl) (by kernel_rfl) (by kernel_rfl) (fun _ _ _ h => h) (Or.inl ⟨by rfl, ?_⟩) hHeld ?_
                rotate_left
                · intro W0 hW; obtain ⟨hW1, hW2, hW3⟩ := hW; go_simp; (try with_reducible rfl)
                try simp only [Act.put, List.setIfInBounds_toArray, List.set_cons_zero, List.set_cons_succ, List.getElem_toArray, List.getElem_cons_zero, List.getElem_cons_succ]
                refine wpAnyH_take (i := 10) (v := ?_) rfl (by kernel_rfl) (by kernel_rfl) (by kernel_rfl) (fun _ _ _ h => h) (Or.inl ⟨by rfl, ?_⟩) hHeld ?_
                rotate_left
                · intro W0 hW; obtain ⟨hW1, hW2, hW3⟩ := hW; go_simp; (try with_reducible rfl)
                try simp only [Act.put, List.setIfInBounds_toArray, List.set_cons_zero, List.set_cons_succ, List.getElem_toArray, List.getElem_cons_zero, List.getElem_cons_succ]
                refine wpAnyH_take (i := 11) (v := ?_) rfl (by kernel_rfl) (by kernel_rfl) (by kernel_rfl) (fun _ _ _ h => h) (Or.inl ⟨by rfl, ?_⟩) hHeld ?_
                rotate_left
                · intro W0 hW; obtain ⟨hW1, hW2, hW3⟩ := hW; go_simp; (try with_reducible rfl)
                try simp only [Act.put, List.setIfInBounds_toArray, List.set_cons_zero, List.set_cons_succ, List.getElem_toArray, List.getElem_cons_zero, List.getElem_cons_succ]
                refine wpAnyH_ready (rs := [13]) (by kernel_rfl) (by simp) ?_
                refine AllReadyH.cons rfl (fun K hK => ?_) AllReadyH.nil
                obtain ⟨zc0, zc1, zc2⟩ := zero_tree HZ88.out.1
                have HT89 := Lib.hid (tree_stored HZ88.out.1 (.slice (some ⟨gf2, 0, none⟩) N cf2) (.slice (some ⟨gb2, 0, none⟩) N cb2)).1
                have HB89 := Lib.hid ((HB88.out.setCell (p := ⟨z73, 0, none⟩) HZ88.out.2 (.slice (some ⟨gf2, 0, none⟩) N cf2)).setCell (p := ⟨z73, 1, none⟩) HZ88.out.2 (.slice (some ⟨gb2, 0, none⟩) N cb2))
                have HF89 := Lib.hid (HF88.out.kept (((Mod.refl (fun k => k = z73) w88).setCell (p := ⟨z73, 0, none⟩) (.inr rfl) (.slice (some ⟨gf2, 0, none⟩) N cf2)).setCell (p := ⟨z73, 1, none⟩) (.inr rfl) (.slice (some ⟨gb2, 0, none⟩) N cb2)) (fun k hk hk2 => HFZ88.out ((Option.some.inj hk).trans hk2)))
                go_simp
                refine hK.out _ _ ?_ (fun hHeld => ?_)
                · exact (HS.out.later HB89.out).more
                clear hK K
                try simp only [Act.put, List.setIfInBounds_toArray, List.set_cons_zero, List.set_cons_succ, List.getElem_toArray, List.getElem_cons_zero, List.getElem_cons_succ]
                generalize hw89 : World.setCell (World.setCell w88 ⟨z73, 0, none⟩ (.slice (some ⟨gf2, 0, none⟩) N cf2)) ⟨z73, 1, none⟩ (.slice (some ⟨gb2, 0, none⟩) N cb2) = w89 at HT89 HB89 HF89 hHeld ⊢
                clear zc0 zc1 zc2 hw89 HB88 HZ88 HF88
                refine wpAnyH_take (i := 14) (v := ?_) rfl (by kernel_rfl) (by kernel_rfl) (by kernel_rfl) (fun _ _ _ h => h) (Or.inl ⟨by rfl, ?_⟩) hHeld ?_
                rotate_left
                · intro W0 hW; obtain ⟨hW1, hW2, hW3⟩ := hW; go_simp; (try with_reducible rfl)
                try simp only [Act.put, List.setIfInBounds_toArray, List.set_cons_zero, List.set_cons_succ, List.getElem_toArray, List.getElem_cons_zero, List.getElem_cons_succ]
                refine wpAnyH_done (by kernel_rfl) ?_ _
                clear hHeld
                have HS89 := Lib.hid (HS.out.later HB89.out)
                have th0 := HS89.out.fw.box.c0
                have th1 := HS89.out.fw.t0
                have HSH : Hid (Short2 w w89 g g1 (World.heap w).size z73 N la xs.length lc xs gf cf (.slice (some ⟨gb, 0, none⟩) N cb) far mo gf2 cf2 (.slice (some ⟨gb2, 0, none⟩) N cb2) far2) := Lib.hid ⟨HS89.out, HF89.out, HT89.out⟩
                have zt := HSH.out.t0
                go_wp2_with fail
                have HLE : Hid (∀ i, valI far2 i ≤ valI far i) := Lib.hid (short_le HT.out.dist HT2.out.dist (HT2.out.dist.small (checkV_zero.1 HC2.out).2 hqN (by omega)))
                clear th0 th1 zt HS89 HF89 HT89
                go_loopw [107] (fun j wr => ∃ (i : Nat), j = .int .i64 i ∧ i ≤ N ∧ Hid (Short2 w wr g g1 (World.heap w).size z73 N la xs.length lc xs gf cf (.slice (some ⟨gb, 0, none⟩) N cb) far mo gf2 cf2 (.slice (some ⟨gb2, 0, none⟩) N cb2) far2)) (fun j _ => N - (intOf j).toNat)
                case atStart => exact ⟨0, rfl, Nat.zero_le _, HSH⟩
                case round =>
                  obtain ⟨i, rfl, hi2, HSH2⟩ := hrel
                  clear HSH
                  by_cases hlt2 : i < N
                  · have i1 : (0 : Int) ≤ (i : Int) := by omega
                    have i2 : (i : Int) < (N : Int) := by omega
                    have y0 := HSH2.out.one.fw.t0
                    have y1 := HSH2.out.t0
                    have y2 := HSH2.out.one.far.cell hlt2
                    have y3 := HSH2.out.far2.cell hlt2
                    have hle := HLE.out i
                    generalize valI far i = d1 at y2 hle
                    generalize valI far2 i = d2 at y3 hle
                    have hgt : decide (d1 < d2) = false := by simp; omega
                    go_wp2_with fail
                    go_quiet (fail)
                    go_wp2_with fail
                    go_roundw
                    case rel => exact ⟨i + 1, by go_num, by omega, Lib.hid (HSH2.out.later (below_drewN (Below.refl _ _) _))⟩
                    case measure => simp [intOf]; omega
                  · go_wp2_with fail
                    go_ret
                    exact ⟨rfl, HSH2.out.one.fw.box.below⟩
end Go.Proofs.Ytmmhdjibigopfaa

/- The walk of the law on a text's words. -/
import Derived.Test.YtnepnfjghafccaaWAwake
import Derived.Test.YtnepnfjghafccaaRWords
namespace Go.Proofs.Ytnepnfjghafccaa
open Go.RowKit

/-- Two rows of the same words. -/
structure TwoRows (w : World) (v u : Value) (ws : List W) (wr : World) : Prop where
  one : WRow 32 wr w.heap.size v ws
  two : WRow 31 wr w.heap.size u ws
  below : Below w.heap.size w wr
theorem TwoRows.later {w wr w2 : World} {v u : Value} {ws : List W} (h : TwoRows w v u ws wr) (hb : Below wr.heap.size wr w2) : TwoRows w v u ws w2 :=
  ⟨h.one.below hb, h.two.below hb, h.below.trans (hb.mono h.below.size)⟩

set_option maxHeartbeats 1000000 in
set_option maxRecDepth 100000 in
theorem wordSplits_walk (s : ByteArray) (hs : s.size ≤ maxLen) (w : World) : Calls Try.prog 3 #[.string s] w fun e w' => e = .returned (.bool true) ∧ Below w.heap.size w w' := by
  unfold maxLen at hs
  by_cases hbig : 2000 < s.size
  · have h1 : (2000 : Int) < (s.size : Int) := by omega
    go_enter Try.func3, Try.ntmps3
    go_wp2_with (go_at_call 9; refine (word_awake _).mono ?_; rintro e w1 ⟨rfl, hb1⟩)
    go_ret
    exact ⟨rfl, hb1⟩
  · have h1 : ¬ (2000 : Int) < (s.size : Int) := by omega
    have hle : toN badB s.data.toList ≤ s.size := by have := toN_le badB s.data.toList; simpa using this
    by_cases hb : toN badB s.data.toList < s.size
    · have HR := Lib.hid fun W => split_bad s W (by omega) hb
      have HW := Lib.hid fun W => words_bad s W (by omega) hb
      generalize toN badB s.data.toList = q at *
      go_enter Try.func3, Try.ntmps3
      go_wp2_with (first
        | (go_at_call 9; refine (word_awake _).mono ?_; rintro e w1 ⟨rfl, hb1⟩)
        | (go_at_call 10; refine (HR.out _).mono ?_; rintro e w2 ⟨rfl, rfl⟩)
        | (go_at_call 11; refine (HW.out _).mono ?_; rintro e w3 ⟨rfl, rfl⟩))
      go_ret
      exact ⟨rfl, hb1⟩
    · have hb' : toN badB s.data.toList = s.size := by omega
      have HR := Lib.hid fun W => split_good s W (by omega) hb'
      have HW := Lib.hid fun W => words_good s W (by omega) hb'
      have hl := words_few s (by omega)
      generalize cutL s.data.toList 0 = ws at *
      clear hb hb' hle
      go_enter Try.func3, Try.ntmps3
      go_wp2_with (first
        | (go_at_call 9; refine (word_awake _).mono ?_; rintro e w1 ⟨rfl, hb1⟩; have HB1 := Lib.hid hb1; clear hb1))
      refine (HR.out _).mono ?_
      rintro e w2 ⟨v, rfl, hr, hb2⟩
      have HR2 := Lib.hid (hr.rebase HB1.out.size)
      have HB2 := Lib.hid (HB1.out.trans (hb2.mono HB1.out.size))
      obtain ⟨va, vc, hv⟩ := hr.shape
      subst hv
      clear hr hb2 HB1
      go_wp2_with fail
      refine (HW.out _).mono ?_
      rintro e w3 ⟨u, rfl, hu, hb3⟩
      have HT := Lib.hid (⟨HR2.out.below hb3, hu.rebase HB2.out.size, HB2.out.trans (hb3.mono HB2.out.size)⟩ : TwoRows w (.slice va ws.length vc) u ws w3)
      obtain ⟨ua, uc, hv⟩ := hu.shape
      subst hv
      clear hu hb3 HB2 HR2 HW HR
      go_wp2_with fail
      go_loopw [55] (fun i wr => ∃ k : Nat, i = .int .i64 k ∧ k ≤ ws.length ∧ Hid (TwoRows w (.slice va ws.length vc) (.slice ua ws.length uc) ws wr)) (fun i _ => ws.length - (intOf i).toNat)
      case atStart => exact ⟨0, rfl, Nat.zero_le _, HT⟩
      case round =>
        obtain ⟨k, rfl, hk, HK⟩ := hrel
        clear HT
        by_cases hlt : k < ws.length
        · obtain ⟨⟨t, a⟩, hx⟩ : ∃ x, ws[k]? = some x := ⟨_, List.getElem?_eq_getElem hlt⟩
          obtain ⟨g, cap, hv, _, hg, hcl, hcm⟩ := HK.out.one.some_ (by omega)
          obtain ⟨g2, cap2, hv2, _, hg2, hcl2, hcm2⟩ := HK.out.two.some_ (by omega)
          injection hv with e1 _ e3
          injection hv2 with f1 _ f3
          subst e1 e3 f1 f3
          have hc1 := HK.out.one.cells hx
          obtain ⟨d0, d1⟩ := HK.out.two.cells hx
          generalize hy : (⟨t.toArray⟩ : ByteArray) = y at *
          have HT2 := Lib.hid (HK.out.later ((Below.refl wr.heap.size wr).alloc (Nat.le_refl _) (.cells #[.string y, .int .i64 (a : Int)] 31)))
          have hc0 : (wr.alloc (.cells #[.string y, .int .i64 (a : Int)] 31)).cell? ⟨g, k * 2, none⟩ = some (.string y) := (World.cell?_alloc_past _ _ _ hg).trans hc1.1
          have hc2 : (wr.alloc (.cells #[.string y, .int .i64 (a : Int)] 31)).cell? ⟨g, k * 2 + 1, none⟩ = some (.int .i64 (a : Int)) := (World.cell?_alloc_past _ _ _ hg).trans hc1.2
          clear hc1 hy hx HK
          unfold maxLen at hcm hcm2
          go_wp2_with fail
          go_quiet (fail)
          go_wp2_with fail
          go_roundw
          case rel => exact ⟨k + 1, by go_num, by omega, Lib.hid (HT2.out.later (below_drewN (Below.refl _ _) _))⟩
          case measure => simp [intOf]; omega
        · go_wp2_with fail
          go_ret
          exact ⟨rfl, HK.out.below⟩
end Go.Proofs.Ytnepnfjghafccaa

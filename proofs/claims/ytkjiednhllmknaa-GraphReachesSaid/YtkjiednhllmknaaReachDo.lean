/- Package graph: Reach, of a graph that may be. -/
import Derived.Test.YtkjiednhllmknaaReach
namespace Go.Proofs.Ytkjiednhllmknaa
open Go.RowKit

variable {len : Nat} {l : List Ar}
set_option maxHeartbeats 4000000 in
set_option maxRecDepth 100000 in
theorem reach_any (N s : Nat) (hs : s < N) (a : Option Addr) (cap : Nat) (w : World) (hl : IsArcs w.heap.size w a len l) (hc : checkV (N : Int) l = 0) :
    Calls Try.prog 14 #[.agg #[.int .i64 (N : Int), .slice a len cap], .int .i64 (s : Int)] w fun e w' => ∃ (C : Nat) (c : Nat → Bool), e = .returned (.slice (some ⟨C, 0, none⟩) N N) ∧
      w'.rowIs C 4 N (fun i => .bool (c i)) ∧ w.heap.size ≤ C ∧ (∀ i, i < N → (c i = true ↔ Comes l s i)) ∧ Below w.heap.size w w' := by
  obtain ⟨i0, hi, hz0, hz1, hz2⟩ := info_parts infoInt
  obtain ⟨⟨_, hN, hll⟩, hok⟩ := checkV_zero.1 hc
  have hN2 : N ≤ 1000 := by omega
  have hlen : len ≤ 20000 := by have := hl.1; omega
  have hmk := run_make_row' (P := Try.prog) 38 4 (.bool false) 1 Try.underlying38 infoBool rfl .i64 .i64 N (by omega) (by omega)
  have HG := Lib.hid (Box.make (Below.refl _ w) (N : Int) a len cap)
  have HLn : Hid (l.length ≤ 20000) := Lib.hid hll
  have HL := Lib.hid hl; clear hl
  have HOK := Lib.hid hok; clear hok
  have HCK := Lib.hid (check_any (N : Int) cap a _ (HG.out.arcsHere HL.out))
  rw [hc] at HCK
  have hs1 : (0 : Int) ≤ (s : Int) := by omega
  have hs2 : (s : Int) < (N : Int) := by omega
  have HS : Hid (0 ≤ (s : Int) ∧ (s : Int) < (N : Int)) := Lib.hid ⟨hs1, hs2⟩
  clear hc hN hll
  go_enter Try.func14, Try.ntmps14
  go_wp2_with (first
    | (go_at_call 8; refine HCK.out.mono ?_; rintro e w2 ⟨rfl, hb2⟩; have HG2 := Lib.hid (HG.out.later hb2); have x0 := HG2.out.c0; have x1 := HG2.out.c1; clear hb2)
    | (go_at_call 9; refine (has_yes HS.out _ _ _ _).mono ?_; rintro e w3 ⟨rfl, hb3⟩; have HG3 := Lib.hid (HG2.out.later hb3); have y0 := HG3.out.c0; have y1 := HG3.out.c1; clear hb3)
    | (go_at_call 18; refine (next_any N hN2 hlen HOK.out a cap _ (HG3.out.arcsHere HL.out)).mono ?_; rintro e w4 ⟨L, V, rfl, hadj, hb4⟩; have HAD := Lib.hid hadj; have HG4 := Lib.hid (HG3.out.later hb4); have HSZ := Lib.hid HG3.out.below.size; have z0 := HG4.out.c0; have m0 := (World.rowIs_made w4 (.bool false) N 4).cell hs; have m1 := (World.rowIs_made w4 (.bool false) N 4).frozen s; clear hadj hb4))
  obtain ⟨C, hC⟩ : ∃ C, w4.heap.size = C := ⟨_, rfl⟩
  have HR0 := Lib.hid (ReachW.start HG4.out.below HAD.out HSZ.out hC s)
  have HD0 := Lib.hid (Dfs.begin_ (l := l) hs)
  rw [hC]
  clear hC m0 m1 z0 y0 y1 x0 x1 HG4 HAD HSZ HG3 HG2 HG HCK HL hmk
  go_loopg [7] N (fun gn lv wr => gn ≤ N ∧ ∃ (c : Nat → Bool) (left : List Int), Hid (ReachW w wr L C N V (outs l) c lv left) ∧ Hid (Dfs l N s c left gn))
  case atStart => exact ⟨Nat.le_refl _, _, _, HR0, HD0⟩
  case round =>
    obtain ⟨hgn, c, left, HR, HD⟩ := hrel
    clear HR0 HD0
    rcases List.eq_nil_or_concat left with rfl | ⟨r, x, rfl⟩
    · obtain ⟨la, lc, hv⟩ := owns_shape HR.out.row
      simp only [List.length_nil] at hv
      subst hv
      go_wp2_with fail
      go_ret
      exact ⟨C, c, rfl, HR.out.marks, HR.out.ge, fun i hi => HD.out.done hs hi, HR.out.below⟩
    · rw [List.concat_eq_append] at HR HD
      obtain ⟨p, m, rfl, rfl, hin⟩ := HD.out.pop
      obtain ⟨rn, hrn⟩ : ∃ rn, r.length = rn := ⟨_, rfl⟩
      have hrm : rn ≤ 1000 := by have := hin.len; omega
      have HI0 := Lib.hid hin
      have hp : p < N := hin.lt
      have hp1 : (0 : Int) ≤ (p : Int) := by omega
      have hp2 : (p : Int) < (N : Int) := by omega
      obtain ⟨D, cp, hv, _, _, hcp, hcm⟩ := owns_some HR.out.row (by simp)
      simp only [List.length_append, List.length_singleton, hrn] at hv hcp
      subst hv
      unfold maxLen at hcm
      have HRp := Lib.hid (HR.out.pop hrn)
      have c0 : wr.cell? ⟨D, rn, none⟩ = some (.int .i64 (p : Int)) := nums_cell HR.out.row (by rw [← hrn]; simp)
      obtain ⟨M, hM⟩ : ∃ M, (outs l p).length = M := ⟨_, rfl⟩
      have hMl : M ≤ 20000 := by have := outs_le l p; have := HLn.out; omega
      have HM := Lib.hid hM
      obtain ⟨va, vc, hv2⟩ := owns_shape (HR.out.adj.row p hp)
      have c1 := HR.out.adj.out.cell hp
      rw [hM] at hv2
      rw [hv2] at c1
      have HV := Lib.hid hv2
      clear hv2 hM hin HR HD hrn
      go_wp2_with fail
      clear c0 c1
      go_loopw [7, 49] (fun lv i wr => ∃ (q : Nat) (c : Nat → Bool) (left : List Int), i = .int .i64 q ∧ q ≤ M ∧ Hid (ReachW w wr L C N V (outs l) c lv left) ∧ Hid (Inner l N s c left m p q)) (fun _ i _ => M - (intOf i).toNat)
      case atStart => exact ⟨0, _, _, rfl, Nat.zero_le _, HRp, HI0⟩
      case round =>
        clear HRp HI0
        obtain ⟨q, c, left, rfl, hq, HR, HI⟩ := hrel
        by_cases hlt : q < M
        · obtain ⟨t, ht⟩ : ∃ t, (outs l p)[q]? = some t := ⟨_, List.getElem?_eq_getElem (by rw [HM.out]; exact hlt)⟩
          obtain ⟨k, rfl, hk⟩ := outs_good HOK.out ht
          have hk1 : (0 : Int) ≤ (k : Int) := by omega
          have hk2 : (k : Int) < (N : Int) := by omega
          have HT := Lib.hid ht
          have hrow := HR.out.adj.row p hp
          rw [HV.out, HM.out] at hrow
          obtain ⟨G, cp2, hv, _, _, hcp2, hcm2⟩ := owns_some hrow (by omega)
          injection hv with e1 _ e3
          subst e1 e3
          unfold maxLen at hcm2
          have c2 := nums_cell hrow ht
          have c3 := HR.out.marks.cell hk
          have c4 := HR.out.marks.frozen k
          clear ht hrow
          cases hck : c k with
          | true =>
            rw [hck] at c3
            have HN := Lib.hid (HI.out.skip HT.out ⟨k, rfl, hk, hck⟩)
            clear hck
            go_wp2_with fail
            go_roundw
            case rel => exact ⟨q + 1, c, left, by go_num, by omega, HR, HN⟩
            case measure => simp [intOf]; omega
          | false =>
            rw [hck] at c3
            have HN := Lib.hid (HI.out.mark HT.out hk hck)
            have HRm := Lib.hid (HR.out.mark k)
            have hln : left.length ≤ 1000 := by have := HI.out.len; omega
            obtain ⟨la, lc, hv⟩ := owns_shape HR.out.row
            subst hv
            have HO := Lib.hid (HRm.out.row.alloc (.cells #[.int .i64 (k : Int)] 3))
            have HCl : Hid (C + 1 ≤ wr.heap.size) := Lib.hid HR.out.marks.lt
            clear hck
            go_wp2_with (at_builtin; refine wpList_append_fresh rfl (.tmp 61) (.tmp 63) 32 rfl (C + 1) 3 i0 _ 1 8 Try.underlying32 hi hz0 hz1 hz2 (by decide) (.slice la left.length lc) left.length (numsV left) rfl HO.out ⟨wr.heap.size, 0, none⟩ 1 [.int .i64 (k : Int)] rfl rfl (news_at _ _ _ _ (by simp)) (one_int _) (by unfold maxLen; omega) (by omega) (by have := HCl.out; simp; omega) ?_; intro g' cap' w5 hown hgrow hfr; have HP := Lib.hid (HRm.out.push hown hgrow); clear hown hgrow hfr)
            go_roundw
            case rel => exact ⟨q + 1, _, _, by go_num, by omega, HP, HN⟩
            case measure => simp [intOf]; omega
        · have HN := Lib.hid (HI.out.done (by have := HM.out; omega))
          go_wp2_with fail
          go_roundg m
          case measure => omega
          case rel => exact ⟨by omega, _, _, HR, HN⟩
end Go.Proofs.Ytkjiednhllmknaa

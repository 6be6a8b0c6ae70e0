/- The law's graph whose arcs lead forward: the walk. -/
import Derived.Test.YtgoegkajfhhcjaaLawG
import Derived.Test.YtgoegkajfhhcjaaOrd
namespace Go.Proofs.Ytgoegkajfhhcjaa
open Go.RowKit

/-- From the lesser node to the greater one. -/
def fwOf (x : Ar) : Ar := if x.1 < x.2.1 then x else (x.2.1, x.1, x.2.2)
def forwardL (l : List Ar) : List Ar := (l.filter (fun x => x.1 != x.2.1)).map fwOf
variable {w wr w2 w4 : World} {a la va : Option Addr} {len cap N g rs k lc vc g' cap' : Nat} {l xs : List Ar} {x : Ar} {f t c : Int} {lv : Value} {ob : Obj}
theorem forwardL_snoc (l : List Ar) (x : Ar) : forwardL (l ++ [x]) = if x.1 = x.2.1 then forwardL l else forwardL l ++ [fwOf x] := by
  unfold forwardL
  rw [List.filter_append, List.map_append]
  by_cases h : x.1 = x.2.1 <;> simp [h]
theorem forwardL_take (h : l[k]? = some x) : forwardL (l.take (k + 1)) = if x.1 = x.2.1 then forwardL (l.take k) else forwardL (l.take k) ++ [fwOf x] := by
  rw [List.take_add_one, h]
  exact forwardL_snoc _ _
theorem forwardL_le (l : List Ar) : (forwardL l).length ≤ l.length := by
  unfold forwardL
  rw [List.length_map]
  exact List.length_filter_le _ _
theorem forwardL_mem (h : x ∈ forwardL l) : ∃ y ∈ l, y.1 ≠ y.2.1 ∧ x = fwOf y := by
  obtain ⟨y, h1, h2⟩ := List.mem_map.1 h
  rw [List.mem_filter] at h1
  exact ⟨y, h1.1, by simpa using h1.2, h2.symm⟩
theorem forwardL_ok (hok : ∀ x ∈ l, okA (N : Int) x = true) : (∀ x ∈ forwardL l, okA (N : Int) x = true) ∧ Forward (forwardL l) := by
  refine ⟨fun x hx => ?_, fun x hx => ?_⟩
  · obtain ⟨y, h1, h2, rfl⟩ := forwardL_mem hx
    have := okA_true.1 (hok y h1)
    unfold fwOf
    split
    · exact hok y h1
    · exact okA_true.2 ⟨this.2.1, this.1, this.2.2⟩
  · obtain ⟨y, h1, h2, rfl⟩ := forwardL_mem hx
    have := okA_true.1 (hok y h1)
    unfold fwOf
    split
    · exact ⟨y.1.toNat, y.2.1.toNat, by omega, by omega, by omega⟩
    · exact ⟨y.2.1.toNat, y.1.toNat, by simp only; omega, by simp only; omega, by omega⟩
theorem forwardL_check {n : Nat} (h : checkV (n : Int) l = 0) : checkV (n : Int) (forwardL l) = 0 := by
  obtain ⟨⟨h1, h2, h3⟩, hok⟩ := checkV_zero.1 h
  exact checkV_zero.2 ⟨⟨h1, h2, Nat.le_trans (forwardL_le _) h3⟩, (forwardL_ok hok).1⟩

/-- What forward has in memory: its result's block, the graph's variable, the row that grows. -/
structure FwW (w wr : World) (g N : Nat) (la : Option Addr) (len lc : Nat) (xs : List Ar) (lv : Value) (ys : List Ar) : Prop where
  below : Below w.heap.size w wr
  res : wr.heap[w.heap.size]? = some (.cells #[.int .i64 0, .slice none 0 0] 26 (0, 0))
  gr : wr.heap[g]? = some (.cells #[.int .i64 (N : Int), .slice la len lc] 26 (0, 0))
  arcs : IsArcs g wr la len xs
  row : wr.ownsRow (g + 1) 35 3 lv ys.length (flatA ys)
  lt : w.heap.size < g
theorem FwW.ltg (h : FwW w wr g N la len lc xs lv l) : g < wr.heap.size := (Array.getElem?_eq_some_iff.1 h.gr).1
theorem FwW.later (h : FwW w wr g N la len lc xs lv l) (hb : Below wr.heap.size wr w2) : FwW w w2 g N la len lc xs lv l :=
  ⟨h.below.trans (hb.mono h.below.size), (hb.block _ (Array.getElem?_eq_some_iff.1 h.res).1).trans h.res, (hb.block g h.ltg).trans h.gr, h.arcs.later (hb.mono (Nat.le_of_lt h.ltg)), owns_below h.row hb, h.lt⟩
theorem FwW.push (h : FwW w wr g N la len lc xs lv l) (hown : w4.ownsRow (g + 1) 35 3 (.slice (some ⟨g', 0, none⟩) (l.length + 1) cap') (l.length + 1) (flatA l ++ encA x)) (hgrow : wr.grownBy w4 lv.ownBlock) :
    FwW w w4 g N la len lc xs (.slice (some ⟨g', 0, none⟩) (l.length + 1) cap') (l ++ [x]) := by
  have hC : ∀ k, lv.ownBlock = some k → g + 1 ≤ k := fun k hk => (World.ownsRow.lt h.row k hk).1
  have hlt := h.lt
  have hltg := h.ltg
  have hm : Mod (fun k => lv.ownBlock = some k) wr w4 := (Mod.refl _ wr).grown hgrow (fun k hk => .inr hk)
  refine ⟨((Mod.of_below (fun k => lv.ownBlock = some k) h.below).trans hm).below (Nat.le_refl _) (fun k hk => by have := hC k hk; omega), (hm.block _ (Array.getElem?_eq_some_iff.1 h.res).1 (fun hk => by have := hC _ hk; omega)).trans h.res,
    (hm.block g hltg (fun hk => by have := hC _ hk; omega)).trans h.gr, h.arcs.later (hm.below (Nat.le_of_lt hltg) (fun k hk => by have := hC k hk; omega)), ?_, hlt⟩
  rw [flatA_snoc, List.length_append]
  exact hown
theorem fw_start (hrow : w2.ownsRow (World.heap (w.alloc (.cells #[.int .i64 0, .slice none 0 0] 26))).size 35 3 (.slice la xs.length lc) xs.length (flatA xs))
    (hb : Below (World.heap (w.alloc (.cells #[.int .i64 0, .slice none 0 0] 26))).size (w.alloc (.cells #[.int .i64 0, .slice none 0 0] 26)) w2) :
    FwW w (w2.alloc (.cells #[.int .i64 (N : Int), .slice la xs.length lc] 26)) w2.heap.size N la xs.length lc xs (.slice none 0 0) (forwardL (xs.take 0)) := by
  have hb1 : Below (w.heap.size + 1) (w.alloc (.cells #[.int .i64 0, .slice none 0 0] 26)) w2 := by simpa using hb
  have hs := hb1.size
  simp at hs
  have hb0 : Below w.heap.size w w2 := ((Below.refl _ w).alloc (Nat.le_refl _) _).trans (hb1.mono (by omega))
  refine ⟨hb0.alloc (by omega) _, ?_, heap_alloc_new _ _, ((owns_arcs hrow).2).later ((Below.refl _ _).alloc (Nat.le_refl _) _), World.ownsRow_nil _ _ _ 3, by omega⟩
  rw [Below.heap_alloc _ _ _ (by omega), hb1.block _ (by omega)]
  exact heap_alloc_new _ _
theorem fw_cells (h : FwW w wr g N la len lc xs lv l) : wr.cell? ⟨g, 0, none⟩ = some (.int .i64 (N : Int)) ∧ wr.cell? ⟨g, 1, none⟩ = some (.slice la len lc) ∧ (∀ k, wr.frozen? ⟨g, k, none⟩ = false) ∧ wr.cell? ⟨w.heap.size, 0, none⟩ = some (.int .i64 0) ∧ wr.cell? ⟨w.heap.size, 1, none⟩ = some (.slice none 0 0) ∧ (∀ k, wr.frozen? ⟨w.heap.size, k, none⟩ = false) ∧ ¬ g = w.heap.size :=
  ⟨by simp [World.cell?, h.gr], by simp [World.cell?, h.gr], fun k => by simp [World.frozen?, h.gr], by simp [World.cell?, h.res], by simp [World.cell?, h.res], fun k => by simp [World.frozen?, h.res], by have := h.lt; omega⟩
theorem FwW.done (h : FwW w wr g N la len lc xs lv l) :
    (((wr.setCell ⟨g, 1, none⟩ lv).setCell ⟨w.heap.size, 0, none⟩ (.int .i64 (N : Int))).setCell ⟨w.heap.size, 1, none⟩ lv).heap[w.heap.size]? = some (.cells #[.int .i64 (N : Int), lv] 26 (0, 0)) ∧
    (((wr.setCell ⟨g, 1, none⟩ lv).setCell ⟨w.heap.size, 0, none⟩ (.int .i64 (N : Int))).setCell ⟨w.heap.size, 1, none⟩ lv).ownsRow w.heap.size 35 3 lv l.length (flatA l) ∧
    Below w.heap.size w (((wr.setCell ⟨g, 1, none⟩ lv).setCell ⟨w.heap.size, 0, none⟩ (.int .i64 (N : Int))).setCell ⟨w.heap.size, 1, none⟩ lv) := by
  have hlt := h.lt
  have hm1 : Mod (fun b => b = g) wr (wr.setCell ⟨g, 1, none⟩ lv) := (Mod.refl (fun b => b = g) wr).setCell (p := ⟨g, 1, none⟩) (.inr rfl) _
  have hm2 : Mod (fun b => b = w.heap.size) (wr.setCell ⟨g, 1, none⟩ lv) (((wr.setCell ⟨g, 1, none⟩ lv).setCell ⟨w.heap.size, 0, none⟩ (.int .i64 (N : Int))).setCell ⟨w.heap.size, 1, none⟩ lv) :=
    ((Mod.refl (fun b => b = w.heap.size) _).setCell (p := ⟨w.heap.size, 0, none⟩) (.inr rfl) _).setCell (p := ⟨w.heap.size, 1, none⟩) (.inr rfl) _
  have hr := (hm1.block w.heap.size (Array.getElem?_eq_some_iff.1 h.res).1 (by omega)).trans h.res
  refine ⟨heap_setCell_same _ _ 1 _ _ _ (heap_setCell_same _ _ 0 _ _ _ hr), owns_rebase (owns_kept (owns_kept h.row hm1 (fun k hk (e : k = g) => by have := (World.ownsRow.lt h.row k hk).1; omega)) hm2 (fun k hk (e : k = w.heap.size) => by have := (World.ownsRow.lt h.row k hk).1; omega)) (by omega), ?_⟩
  exact ((Mod.of_below (fun b => b = g ∨ b = w.heap.size) h.below).trans ((hm1.mono (fun _ _ q => .inl q)).trans (hm2.mono (fun _ _ q => .inr q)))).below (Nat.le_refl _) (fun k hk => by omega)
theorem infoArcF : (Try.prog.info? 35).map (fun i => (i.zero, i.size, i.bytes)) = some (some (.agg #[.int .i64 0, .int .i64 0, .int .i64 0]), 3, 24) := by kernel_rfl
theorem infoGraphF : (Try.prog.info? 26).map (fun i => i.size) = some 2 := by kernel_rfl

set_option maxHeartbeats 2000000 in
set_option maxRecDepth 100000 in
theorem forward_any (n : Int) (hn : 0 ≤ n) (hn2 : n ≤ 255) (hN : 1 + n % 8 = (N : Int)) (a : Option Addr) (cap : Nat) (w : World) (hbig : len ≤ 9223372036854775807) (hl : IsLinks w.heap.size w a len l) (hc : checkV (N : Int) (arcsTo (N : Int) l len) = 0) :
    Calls Try.prog 15 #[.int .u8 n, .slice a len cap] w fun e w' => ∃ lv, e = .returned (.agg #[.int .i64 (N : Int), lv]) ∧ w'.ownsRow w.heap.size 35 3 lv (forwardL (arcsTo (N : Int) l len)).length (flatA (forwardL (arcsTo (N : Int) l len))) ∧ Below w.heap.size w w' := by
  obtain ⟨i0, hi, hz0, hz1, hz2⟩ := info_parts infoArcF
  have HL := Lib.hid hl; clear hl
  have HM := Lib.hid (fun W (h : IsLinks W.heap.size W a len l) => maker_any n hn hn2 a cap W hbig h)
  have HLl : Hid ((arcsTo (N : Int) l len).length ≤ 24) := Lib.hid (arcsTo_len _ _ _)
  have HOK := Lib.hid (checkV_zero.1 hc).2
  rw [hN] at HM
  clear hN hn hn2 hc
  generalize arcsTo (N : Int) l len = xs at HM HLl HOK ⊢
  go_enter Try.func15, Try.ntmps15
  go_wp2_with (go_at_call 9; refine (HM.out _ ((HL.out.later ((Below.refl _ w).alloc (Nat.le_refl _) _)).mono (by simp))).mono ?_; rintro e w2 ⟨lv, rfl, hrow, hb2⟩; obtain ⟨la, lc, hv⟩ := owns_shape hrow; subst hv; have HF2 := Lib.hid (fw_start (N := N) hrow hb2); clear hrow hb2)
  obtain ⟨g, hg⟩ : ∃ g, w2.heap.size = g := ⟨_, rfl⟩
  rw [hg] at HF2 ⊢
  clear hg
  go_loopw [6, 15] (fun lv kv wr => ∃ (k : Nat), kv = .int .i64 k ∧ k ≤ xs.length ∧ Hid (FwW w wr g N la xs.length lc xs lv (forwardL (xs.take k)))) (fun _ kv _ => xs.length - (intOf kv).toNat)
  case atStart => exact ⟨0, rfl, Nat.zero_le _, HF2⟩
  case round =>
    obtain ⟨k, rfl, hk, HX⟩ := hrel
    clear HF2
    obtain ⟨va, vc, hv⟩ := owns_shape HX.out.row
    subst hv
    have hxl : xs.length ≤ 24 := HLl.out
    by_cases hlt : k < xs.length
    · obtain ⟨b, off, x, rfl, hb, hx, e0, e1, e2⟩ := HX.out.arcs.at_ hlt
      have hxok := okA_true.1 (HOK.out x (List.mem_of_getElem? hx))
      have HFT := Lib.hid (forwardL_take hx)
      clear hx hb
      obtain ⟨f0, t0, c⟩ := x
      simp only at e0 e1 e2 hxok
      obtain ⟨f, rfl⟩ : ∃ f : Nat, f0 = (f : Int) := ⟨f0.toNat, by omega⟩
      obtain ⟨t, rfl⟩ : ∃ t : Nat, t0 = (t : Int) := ⟨t0.toNat, by omega⟩
      clear hxok
      have HXA := Lib.hid (HX.out.later ((Below.refl wr.heap.size wr).alloc (Nat.le_refl _) (.cells #[.int .i64 (f : Int), .int .i64 (t : Int), .int .i64 c] 35)))
      by_cases hft : f = t
      · subst hft
        have HNX : Hid (forwardL (xs.take (k + 1)) = forwardL (xs.take k)) := Lib.hid (by rw [HFT.out, if_pos rfl])
        go_wp2_with fail
        go_roundw
        case rel => exact ⟨k + 1, by go_num, by omega, by rw [HNX.out]; exact HXA⟩
        case measure => simp [intOf]; omega
      · have hne : ((f : Int) != (t : Int)) = true := by simp; omega
        by_cases hl2 : f < t
        · have hlz : (f : Int) < (t : Int) := by omega
          have HNX : Hid (forwardL (xs.take (k + 1)) = forwardL (xs.take k) ++ [(((f : Int), (t : Int), c) : Ar)]) := Lib.hid (by rw [HFT.out, if_neg (by simp only; omega), fwOf, if_pos hlz])
          have HXB := Lib.hid (HXA.out.later ((Below.refl _ _).alloc (Nat.le_refl _) (.cells #[.int .i64 (f : Int), .int .i64 (t : Int), .int .i64 c] 35)))
          have hml : (forwardL (xs.take k)).length ≤ 24 := Nat.le_trans (forwardL_le _) (by rw [List.length_take]; omega)
          have HCl : Hid (g < wr.heap.size) := Lib.hid HX.out.ltg
          go_wp2_with (at_builtin; refine wpList_append_fresh rfl (.tmp 24) (.tmp 38) 24 rfl (g + 1) 35 i0 _ 3 24 Try.underlying24 hi hz0 hz1 hz2 (by decide) (.slice va (forwardL (xs.take k)).length vc) (forwardL (xs.take k)).length (flatA (forwardL (xs.take k))) rfl HXB.out.row ⟨wr.heap.size + 1, 0, none⟩ 1 (encA ((f : Int), (t : Int), c)) rfl rfl (newsA_at _ ((f : Int), (t : Int), c) _ _ (by simp)) (oneA _) (by unfold maxLen; omega) (by omega) (by have := HCl.out; simp; omega) ?_; intro g' cap' w5 hown hgrow hfr; have HP := Lib.hid (HXB.out.push (x := ((f : Int), (t : Int), c)) hown hgrow); clear hown hgrow hfr)
          go_roundw
          case rel => exact ⟨k + 1, by go_num, by omega, by rw [HNX.out]; simpa using HP⟩
          case measure => simp [intOf]; omega
        · have hlz : (t : Int) < (f : Int) := by omega
          have hlz2 : ¬ (f : Int) < (t : Int) := by omega
          have HNX : Hid (forwardL (xs.take (k + 1)) = forwardL (xs.take k) ++ [(((t : Int), (f : Int), c) : Ar)]) := Lib.hid (by rw [HFT.out, if_neg (by simp only; omega), fwOf, if_neg hlz2])
          have HXB := Lib.hid (HXA.out.later ((Below.refl _ _).alloc (Nat.le_refl _) (.cells #[.int .i64 (t : Int), .int .i64 (f : Int), .int .i64 c] 35)))
          have hml : (forwardL (xs.take k)).length ≤ 24 := Nat.le_trans (forwardL_le _) (by rw [List.length_take]; omega)
          have HCl : Hid (g < wr.heap.size) := Lib.hid HX.out.ltg
          go_wp2_with (at_builtin; refine wpList_append_fresh rfl (.tmp 24) (.tmp 38) 24 rfl (g + 1) 35 i0 _ 3 24 Try.underlying24 hi hz0 hz1 hz2 (by decide) (.slice va (forwardL (xs.take k)).length vc) (forwardL (xs.take k)).length (flatA (forwardL (xs.take k))) rfl HXB.out.row ⟨wr.heap.size + 1, 0, none⟩ 1 (encA ((t : Int), (f : Int), c)) rfl rfl (newsA_at _ ((t : Int), (f : Int), c) _ _ (by simp)) (oneA _) (by unfold maxLen; omega) (by omega) (by have := HCl.out; simp; omega) ?_; intro g' cap' w5 hown hgrow hfr; have HP := Lib.hid (HXB.out.push (x := ((t : Int), (f : Int), c)) hown hgrow); clear hown hgrow hfr)
          go_roundw
          case rel => exact ⟨k + 1, by go_num, by omega, by rw [HNX.out]; simpa using HP⟩
          case measure => simp [intOf]; omega
    · have hk2 : xs.take k = xs := List.take_of_length_le (by omega)
      rw [hk2] at HX ⊢
      clear hk2
      have x0 := fw_cells HX.out
      obtain ⟨x0, x1, x2, x3, x4, x5, x6⟩ := x0
      obtain ⟨g1, g2, g3⟩ := HX.out.done
      have G1 := Lib.hid g1
      have G2 := Lib.hid g2
      have G3 := Lib.hid g3
      clear g1 g2 g3
      go_wp2_with fail
      exact bodyPost_ret (v := .agg #[.int .i64 (N : Int), .slice va (forwardL xs).length vc]) (results_cell_row rfl _ _ w.heap.size 26 _ (0, 0) _ rfl G1.out Try.underlying26 rfl infoGraphF) rfl ⟨_, rfl, G2.out, G3.out⟩
end Go.Proofs.Ytgoegkajfhhcjaa

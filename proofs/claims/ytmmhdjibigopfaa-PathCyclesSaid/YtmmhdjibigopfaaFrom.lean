/- Package path: From, where there is such a node. -/
import Derived.Test.YtmmhdjibigopfaaLight
namespace Go.Proofs.Ytmmhdjibigopfaa
open Go.RowKit

variable {len cap N s : Nat} {l : List Ar} {a : Option Addr} {w w1 w2 : World}
/-- A tree's two cells, where another block was made behind. -/
theorem tree_late {r : Nat} {u v : Value} {T : TypeId} (h : w.heap[r]? = some (.cells #[u, v] T (0, 0))) (x y : Value) (o : Obj) :
    (((w.setCell ⟨r, 0, none⟩ x).setCell ⟨r, 1, none⟩ y).alloc o).cell? ⟨r, 0, none⟩ = some x ∧ (((w.setCell ⟨r, 0, none⟩ x).setCell ⟨r, 1, none⟩ y).alloc o).cell? ⟨r, 1, none⟩ = some y := by
  have h1 := (tree_stored h x y).1
  have h2 := (Below.heap_alloc ((w.setCell ⟨r, 0, none⟩ x).setCell ⟨r, 1, none⟩ y) o r (Array.getElem?_eq_some_iff.1 h1).1).trans h1
  exact ⟨by simp only [World.cell?, h2]; rfl, by simp only [World.cell?, h2]; rfl⟩
theorem pcheck_ok {n s : Int} {a : Option Addr} {cap : Nat} {w : World} (h : fromErr n l s = 0) (hl : IsArcs w.heap.size w a len l) :
    Calls Try.prog 20 #[.agg #[.int .i64 n, .slice a len cap], .int .i64 s] w fun e w' => e = .returned (.int .i64 0) ∧ Below w.heap.size w w' := by
  have := pcheck_any n s a cap w hl
  rw [h] at this
  exact this
theorem Fin.cyc {far : Nat → Option Int} {by_ : Nat → Int} {late : Int} (h : Fin l s N far by_ late) (hn : Neg l s) : ∃ (v : Nat) (T : Nat → Nat), late = (v : Int) ∧ v < N ∧ N ≤ T v ∧ Run l s far by_ T N l.length := by
  rcases h with ⟨_, ht⟩ | ⟨v, T, h1, h2, h3, h4, _⟩
  · exact absurd hn ht.dist.not_neg
  · exact ⟨v, T, h1, h2, h3, h4⟩
theorem Fin.tree {far : Nat → Option Int} {by_ : Nat → Int} {late : Int} (h : Fin l s N far by_ late) (hn : ¬ Neg l s) : late = -1 ∧ TreeOf l s far by_ := by
  rcases h with h | ⟨v, T, h1, h2, h3, h4, h5⟩
  · exact h
  · exact absurd h5 hn
/-- The result's block, kept. -/
theorem res_kept {rs : Nat} {o _o2 : Obj} (h : w.heap[rs]? = some o) (hb : Below w.heap.size w w1) : w1.heap[rs]? = some o := (hb.block rs (Array.getElem?_eq_some_iff.1 h).1).trans h

theorem from_done {rs gf cf gb cb : Nat} {f by_ : Nat → Int} (hb : Below w.heap.size w w2) (hf : LongRow w2 w.heap.size (.slice (some ⟨gf, 0, none⟩) N cf) N f) (hi : IntRow w2 w.heap.size (.slice (some ⟨gb, 0, none⟩) N cb) N by_) (hrs : w.heap.size ≤ rs) (h1 : rs ≠ gf) (h2 : rs ≠ gb) (x y : Value) :
    let W := (w2.setCell ⟨rs, 0, none⟩ x).setCell ⟨rs, 1, none⟩ y
    LongRow W w.heap.size (.slice (some ⟨gf, 0, none⟩) N cf) N f ∧ IntRow W w.heap.size (.slice (some ⟨gb, 0, none⟩) N cb) N by_ ∧ Below w.heap.size w W := by
  intro W
  have hm2 : Mod (fun k => k = rs) w2 W := ((Mod.refl (fun k => k = rs) _).setCell (p := ⟨rs, 0, none⟩) (.inr rfl) _).setCell (p := ⟨rs, 1, none⟩) (.inr rfl) _
  refine ⟨hf.kept hm2 (fun k hk (e : k = rs) => ?_), hi.kept hm2 (fun k hk (e : k = rs) => ?_), ((Mod.of_below (fun k => k = rs) hb).trans hm2).below (Nat.le_refl _) (fun k hk => by omega)⟩
  · have e2 : gf = k := Option.some.inj hk; omega
  · have e2 : gb = k := Option.some.inj hk; omega

set_option maxHeartbeats 2000000 in
set_option maxRecDepth 100000 in
theorem from_neg (hs : s < N) (hc : checkV (N : Int) l = 0) (hn : Neg l s) (a : Option Addr) (cap : Nat) (w : World) (hl : IsArcs w.heap.size w a len l) :
    Calls Try.prog 9 #[.agg #[.int .i64 (N : Int), .slice a len cap], .int .i64 (s : Int)] w fun e w' => Below w.heap.size w w' ∧
      ∃ a1 c1 a2 c2, e = .returned (.tuple #[.agg #[.slice a1 0 c1, .slice a2 0 c2], .int .i64 7]) := by
  have HG := Lib.hid ((Box.make (Below.refl _ w) (N : Int) a len cap).alloc (.cells #[.slice none 0 0, .slice none 0 0] 31))
  have HR := Lib.hid (heap_alloc2_new w (.cells #[.int .i64 (N : Int), .slice a len cap] 26) (.cells #[.slice none 0 0, .slice none 0 0] 31))
  have HL := Lib.hid hl
  obtain ⟨hN, hok⟩ := checkV_zero.1 hc
  have HOK := Lib.hid hok
  have HE := Lib.hid (fromErr_in hc (show (0 : Int) ≤ (s : Int) ∧ (s : Int) < (N : Int) by omega))
  have HNG := Lib.hid hn
  have hll := hl.1
  have hN2 : N ≤ 1000 := by omega
  have hlen : len ≤ 20000 := by omega
  clear hok hc hn hl hN hll
  go_enter Try.func9, Try.ntmps9
  go_wp2_with (first
    | (go_at_call 20; refine (pcheck_ok HE.out (HG.out.arcsHere HL.out)).mono ?_; rintro e w1 ⟨rfl, hb1⟩; have HG1 := Lib.hid (HG.out.later hb1); have HR1 := Lib.hid ((hb1.block (w.heap.size + 1) (by simp)).trans HR.out); have x0 := HG1.out.c0; have x1 := HG1.out.c1; have hz := HG1.out.lt; clear hb1)
    | (go_at_call 21; refine (lightest_any N s hs hN2 hlen HOK.out a cap _ (HG1.out.arcsHere HL.out)).mono ?_; rintro e w2 ⟨gf, cf, gb, cb, far, by_, late, rfl, hf, hi, hb2, hfin⟩; obtain ⟨v, T, hlv, _, _, _⟩ := hfin.cyc HNG.out; subst hlv; have HG2 := Lib.hid (HG1.out.later hb2); have HR2 := Lib.hid ((hb2.block (w.heap.size + 1) (Array.getElem?_eq_some_iff.1 HR1.out).1).trans HR1.out); have v0 : (0 : Int) ≤ (v : Int) := (by omega); have hrl := (Array.getElem?_eq_some_iff.1 HR2.out).1; have r0 : w2.cell? ⟨w.heap.size + 1, 0, none⟩ = some (.slice none 0 0) := (by simp [World.cell?, HR2.out]); have r1 : w2.cell? ⟨w.heap.size + 1, 1, none⟩ = some (.slice none 0 0) := (by simp [World.cell?, HR2.out]); have r2 : ∀ k, w2.frozen? ⟨w.heap.size + 1, k, none⟩ = false := (fun k => by simp [World.frozen?, HR2.out]); clear hf hi hb2 hfin))
  have HB3 := Lib.hid (((HG2.out.below.setCell (p := ⟨w.heap.size + 1, 0, none⟩) (by simp) (.slice none 0 0)).setCell (p := ⟨w.heap.size + 1, 1, none⟩) (by simp) (.slice none 0 0)).alloc (by have := HG2.out.below.size; simp; omega) (.cells #[.slice (some ⟨gf, 0, none⟩) N cf, .slice (some ⟨gb, 0, none⟩) N cb] 31))
  refine bodyPost_ret (v := .tuple #[.agg #[.slice none 0 0, .slice none 0 0], .int .i64 7]) ?_ rfl ⟨HB3.out, _, _, _, _, rfl⟩
  obtain ⟨q0, q1⟩ := tree_late HR2.out (.slice none 0 0) (.slice none 0 0) (.cells #[.slice (some ⟨gf, 0, none⟩) N cf, .slice (some ⟨gb, 0, none⟩) N cb] 31)
  simp [results, Try.results9, go_sem, q0, q1]

set_option maxHeartbeats 2000000 in
set_option maxRecDepth 100000 in
theorem from_tree (hs : s < N) (hc : checkV (N : Int) l = 0) (hn : ¬ Neg l s) (a : Option Addr) (cap : Nat) (w : World) (hl : IsArcs w.heap.size w a len l) :
    Calls Try.prog 9 #[.agg #[.int .i64 (N : Int), .slice a len cap], .int .i64 (s : Int)] w fun e w' => Below w.heap.size w w' ∧
      ∃ vf vb far by_, e = .returned (.tuple #[.agg #[vf, vb], .int .i64 0]) ∧ LongRow w' w.heap.size vf N (valI far) ∧ IntRow w' w.heap.size vb N by_ ∧ TreeOf l s far by_ := by
  have HG := Lib.hid ((Box.make (Below.refl _ w) (N : Int) a len cap).alloc (.cells #[.slice none 0 0, .slice none 0 0] 31))
  have HR := Lib.hid (heap_alloc2_new w (.cells #[.int .i64 (N : Int), .slice a len cap] 26) (.cells #[.slice none 0 0, .slice none 0 0] 31))
  have HL := Lib.hid hl
  obtain ⟨hN, hok⟩ := checkV_zero.1 hc
  have HOK := Lib.hid hok
  have HE := Lib.hid (fromErr_in hc (show (0 : Int) ≤ (s : Int) ∧ (s : Int) < (N : Int) by omega))
  have HNG := Lib.hid hn
  have hll := hl.1
  have hN2 : N ≤ 1000 := by omega
  have hlen : len ≤ 20000 := by omega
  clear hok hc hn hl hN hll
  go_enter Try.func9, Try.ntmps9
  go_wp2_with (first
    | (go_at_call 20; refine (pcheck_ok HE.out (HG.out.arcsHere HL.out)).mono ?_; rintro e w1 ⟨rfl, hb1⟩; have HG1 := Lib.hid (HG.out.later hb1); have HR1 := Lib.hid ((hb1.block (w.heap.size + 1) (by simp)).trans HR.out); have x0 := HG1.out.c0; have x1 := HG1.out.c1; have hz := HG1.out.lt; clear hb1)
    | (go_at_call 21; refine (lightest_any N s hs hN2 hlen HOK.out a cap _ (HG1.out.arcsHere HL.out)).mono ?_; rintro e w2 ⟨gf, cf, gb, cb, far, by_, late, rfl, hf, hi, hb2, hfin⟩; obtain ⟨hlv, ht⟩ := hfin.tree HNG.out; subst hlv; have HTR := Lib.hid ht; have HLT : Hid (w.heap.size + 1 ≠ gf ∧ w.heap.size + 1 ≠ gb) := Lib.hid (by have b1 := hf.base_; have b2 := hi.base_; have b3 := (Array.getElem?_eq_some_iff.1 HR1.out).1; omega); have HF := Lib.hid (hf.rebase HG1.out.below.size); have HI := Lib.hid (hi.rebase HG1.out.below.size); have HG2 := Lib.hid (HG1.out.later hb2); have HR2 := Lib.hid ((hb2.block (w.heap.size + 1) (Array.getElem?_eq_some_iff.1 HR1.out).1).trans HR1.out); have hrl := (Array.getElem?_eq_some_iff.1 HR2.out).1; have r0 : w2.cell? ⟨w.heap.size + 1, 0, none⟩ = some (.slice none 0 0) := (by simp [World.cell?, HR2.out]); have r1 : w2.cell? ⟨w.heap.size + 1, 1, none⟩ = some (.slice none 0 0) := (by simp [World.cell?, HR2.out]); have r2 : ∀ k, w2.frozen? ⟨w.heap.size + 1, k, none⟩ = false := (fun k => by simp [World.frozen?, HR2.out]); have r3 : ¬ w.heap.size + 1 = w2.heap.size := (by omega); clear hf hi hb2 hfin ht))
  obtain ⟨d1, d2, d3⟩ := from_done HG2.out.below HF.out HI.out (by omega) HLT.out.1 HLT.out.2 (.slice (some ⟨gf, 0, none⟩) N cf) (.slice (some ⟨gb, 0, none⟩) N cb)
  have hba := (Below.refl _ ((w2.setCell ⟨w.heap.size + 1, 0, none⟩ (.slice (some ⟨gf, 0, none⟩) N cf)).setCell ⟨w.heap.size + 1, 1, none⟩ (.slice (some ⟨gb, 0, none⟩) N cb))).alloc (Nat.le_refl _) (.cells #[.slice (some ⟨gf, 0, none⟩) N cf, .slice (some ⟨gb, 0, none⟩) N cb] 31)
  refine bodyPost_ret (v := .tuple #[.agg #[.slice (some ⟨gf, 0, none⟩) N cf, .slice (some ⟨gb, 0, none⟩) N cb], .int .i64 0]) ?_ rfl ⟨d3.trans (hba.mono d3.size), _, _, _, _, rfl, d1.below hba, d2.below hba, HTR.out⟩
  obtain ⟨q0, q1⟩ := tree_late HR2.out (.slice (some ⟨gf, 0, none⟩) N cf) (.slice (some ⟨gb, 0, none⟩) N cb) (.cells #[.slice (some ⟨gf, 0, none⟩) N cf, .slice (some ⟨gb, 0, none⟩) N cb] 31)
  simp [results, Try.results9, go_sem, q0, q1]
theorem from_ok (N s len cap : Nat) (l : List Ar) (a : Option Addr) (w : World) (hs : s < N) (hc : checkV (N : Int) l = 0) (hl : IsArcs w.heap.size w a len l) :
    Calls Try.prog 9 #[.agg #[.int .i64 (N : Int), .slice a len cap], .int .i64 (s : Int)] w fun e w' => Below w.heap.size w w' ∧
      ((∃ a1 c1 a2 c2, e = .returned (.tuple #[.agg #[.slice a1 0 c1, .slice a2 0 c2], .int .i64 7]) ∧ Neg l s) ∨
       ∃ vf vb far by_, e = .returned (.tuple #[.agg #[vf, vb], .int .i64 0]) ∧ LongRow w' w.heap.size vf N (valI far) ∧ IntRow w' w.heap.size vb N by_ ∧ TreeOf l s far by_) := by
  by_cases hn : Neg l s
  · exact (from_neg hs hc hn a cap w hl).mono fun e w' ⟨h1, a1, c1, a2, c2, h2⟩ => ⟨h1, .inl ⟨a1, c1, a2, c2, h2, hn⟩⟩
  · exact (from_tree hs hc hn a cap w hl).mono fun e w' ⟨h1, h2⟩ => ⟨h1, .inr h2⟩
end Go.Proofs.Ytmmhdjibigopfaa

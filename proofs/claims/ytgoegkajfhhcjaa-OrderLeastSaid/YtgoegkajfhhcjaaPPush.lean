/- Push and Pop on a pile's items. -/
import Derived.Test.YtgoegkajfhhcjaaPRow
import Derived.Test.YtgoegkajfhhcjaaPAppend
import Derived.ArgAppend
import Derived.RegionTactic
import Derived.BigRegion
namespace Go.Proofs.Ytgoegkajfhhcjaa
open Go.RowKit
open Go.Sort (swp size_swp HoldsK putRowK flatK)

theorem infoIt : (Try.prog.info? 66).map (fun i => (i.zero, i.size, i.bytes)) = some (some (.agg #[.int .i64 0, .int .i64 0]), 2, 16) := by kernel_rfl
theorem info_parts3 {P : Program} {t : TypeId} {z : Value} {s b : Nat} (h : (P.info? t).map (fun i => (i.zero, i.size, i.bytes)) = some (some z, s, b)) : ∃ i, P.info? t = some i ∧ i.zero = some z ∧ i.size = s ∧ i.bytes = b := by
  cases hi : P.info? t with
  | none => simp [hi] at h
  | some i =>
    simp only [hi, Option.map_some, Option.some.injEq, Prod.mk.injEq] at h
    exact ⟨i, rfl, h.1, h.2.1, h.2.2⟩

/-- A pile: its one cell, in block b, holds the slice v, which holds these things. -/
structure PileW (w : World) (base b : Nat) (v : Value) (d : Array It) : Prop where
  head : w.heap[b]? = some (.cells #[v] 78 (0, 0))
  row : RowW w base v d
  ne : v.ownBlock ≠ some b
/-- The blocks that a pile's calls may write. -/
def pileS (b : Nat) (v : Value) (k : Nat) : Prop := k = b ∨ v.ownBlock = some k
theorem PileW.lt {w : World} {base b : Nat} {v : Value} {d : Array It} (h : PileW w base b v d) : b < w.heap.size := (Array.getElem?_eq_some_iff.1 h.head).1
theorem PileW.cell {w : World} {base b : Nat} {v : Value} {d : Array It} (h : PileW w base b v d) : w.cell? ⟨b, 0, none⟩ = some v := cell_of_one h.head
theorem PileW.free {w : World} {base b : Nat} {v : Value} {d : Array It} (h : PileW w base b v d) : w.frozen? ⟨b, 0, none⟩ = false := free_of_one h.head
theorem PileW.kept {w w' : World} {base b : Nat} {v : Value} {d : Array It} {S : Nat → Prop} (h : PileW w base b v d) (hm : Mod S w w') (hb : ¬ S b) (hs : ∀ k, v.ownBlock = some k → ¬ S k) : PileW w' base b v d :=
  ⟨(hm.block b h.lt hb).trans h.head, h.row.kept hm hs, h.ne⟩
/-- The cell of a pile is written. -/
theorem PileW.set_ {w : World} {base b : Nat} {v v' : Value} {d' : Array It} (hd : w.heap[b]? = some (.cells #[v] 78 (0, 0))) (hr : RowW w base v' d') (hn : v'.ownBlock ≠ some b) : PileW (w.setCell ⟨b, 0, none⟩ v') base b v' d' := by
  refine ⟨?_, ?_, hn⟩
  · simp [World.setCell, Array.getElem?_modify, hd]
  · exact hr.kept ((Mod.refl (fun k => k = b) w).setCell (p := ⟨b, 0, none⟩) (.inr rfl) v') (fun k hk e => hn (by rw [hk, e]))
/-- What Push leaves. -/
def Pushed (w : World) (base b : Nat) (v : Value) (d : Array It) (x : It) (w' : World) : Prop :=
  ∃ g cap, PileW w' base b (.slice (some ⟨g, 0, none⟩) (d.size + 1) cap) (d.push x) ∧ Mod (pileS b v) w w' ∧ (v.ownBlock = some g ∨ w.heap.size ≤ g)

theorem pushed_of {w w1 w2 w' : World} {base b n g cap : Nat} {v : Value} {d : Array It} {x : It} (hP : PileW w1 base b v d) (hM : Mod (pileS b v) w w1) (hA : Mod (fun _ => False) w1 w2)
    (hown : w'.ownsRow base 66 2 (.slice (some ⟨g, 0, none⟩) (n + 1) cap) (n + 1) (flatL d ++ [.int .i64 x.1, .int .i64 x.2])) (hgrow : w2.grownBy w' v.ownBlock) (hfr : v.ownBlock = some g ∨ g = w2.heap.size) (hn : n = d.size) :
    Pushed w base b v d x (w'.setCell ⟨b, 0, none⟩ (.slice (some ⟨g, 0, none⟩) (n + 1) cap)) := by
  subst hn
  have hb := hP.lt
  have h2 := hA.size
  have hhead : w'.heap[b]? = some (.cells #[v] 78 (0, 0)) := by
    rw [hgrow.block b (by omega) (fun e => hP.ne e.symm), hA.block b hb (fun h => h)]
    exact hP.head
  have hgb : g ≠ b := by
    rcases hfr with h | h
    · intro e; subst e; exact hP.ne h
    · omega
  have hrow : RowW w' base (.slice (some ⟨g, 0, none⟩) (d.size + 1) cap) (d.push x) := by
    unfold RowW
    rw [Array.size_push, flatL_push]
    exact hown
  refine ⟨g, cap, PileW.set_ hhead hrow (fun e => hgb (by injection e)), ?_, ?_⟩
  · exact ((hM.trans (hA.mono fun _ _ h => h.elim)).grown hgrow (fun k e => .inr (.inr e))).setCell (.inr (.inl rfl)) _
  · have := hM.size
    exact hfr.imp id (fun h => by omega)

theorem assert_it (v : Value) (w : World) : (Instr.typeAssert (.iface 66 v) 20 66 true).run Try.prog w = .ok (.tuple #[v, .bool true]) w := by
  simp [Instr.typeAssert, run_underlying Try.underlying66]

set_option maxHeartbeats 2000000 in
set_option maxRecDepth 100000 in
theorem push_any (b base n : Nat) (v : Value) (d : Array It) (x : It) (w : World) (hn : n = d.size) (hbig : n ≤ 3000) (hP : PileW w base b v d) (hbase : base ≤ w.heap.size) :
    Calls Try.prog 64 #[.pointer (some ⟨b, 0, none⟩), .iface 66 (.agg #[.int .i64 x.1, .int .i64 x.2])] w fun e w' => e = .returned (.tuple #[]) ∧ Pushed w base b v d x w' := by
  obtain ⟨i0, hi, hz0, hz1, hz2⟩ := info_parts3 infoIt
  have HP := Lib.hid hP; clear hP
  have HN := Lib.hid hn; clear hn
  have HB := Lib.hid hbase; clear hbase
  go_enter Try.func64, Try.ntmps64
  have hta := assert_it (.agg #[.int .i64 x.1, .int .i64 x.2]) w
  go_wp2_with fail
  clear hta
  have HP1 : Hid (PileW (w.alloc (.cells #[.int .i64 x.1, .int .i64 x.2] 66)) base b v d) := Lib.hid (HP.out.kept ((Mod.refl (fun _ => False) w).alloc _) (fun h => h) (fun _ _ h => h))
  have HM1 : Hid (Mod (pileS b v) w (w.alloc (.cells #[.int .i64 x.1, .int .i64 x.2] 66))) := Lib.hid ((Mod.refl _ w).alloc _)
  have c1 : (w.alloc (.cells #[.int .i64 x.1, .int .i64 x.2] 66)).cell? ⟨w.heap.size, 0, none⟩ = some (.int .i64 x.1) := by simp
  have c2 : (w.alloc (.cells #[.int .i64 x.1, .int .i64 x.2] 66)).cell? ⟨w.heap.size, 1, none⟩ = some (.int .i64 x.2) := by simp
  have HB1 : Hid (w.heap.size ≤ (w.alloc (.cells #[.int .i64 x.1, .int .i64 x.2] 66)).heap.size) := Lib.hid (by simp)
  generalize w.alloc (.cells #[.int .i64 x.1, .int .i64 x.2] 66) = w1 at HP1 HM1 c1 c2 HB1 ⊢
  generalize w.heap.size = z at *
  have hc := HP1.out.cell
  have hf := HP1.out.free
  have hb := HP1.out.lt
  go_region_law (refine step_append_fresh rfl (.tmp 15) (.tmp 17) 76 rfl base 66 i0 _ 2 16 Try.underlying76 hi hz0 hz1 hz2 (by decide) v n (flatL d) rfl (by rw [HN.out]; exact HP1.out.row.alloc _) ⟨_, 0, none⟩ 1 [.int .i64 x.1, .int .i64 x.2] rfl rfl (by intro j u hj; match j, hj with | 0, hj => simp at hj; subst hj; simp [Addr.add] | 1, hj => simp at hj; subst hj; simp [Addr.add]) (by intro u hu; simp at hu; rcases hu with rfl | rfl <;> rfl) (by unfold maxLen; omega) (by omega) (by have := HB.out; have := HB1.out; simp; omega) ?_; intro g cap w' hown hgrow hfr; have hc2 : w'.cell? ⟨b, 0, none⟩ = some v := hgrow.cell (a := ⟨b, 0, none⟩) ((World.cell?_alloc_past _ _ _ hb).trans hc) (fun e => HP1.out.ne e.symm); have hf2 : w'.frozen? ⟨b, 0, none⟩ = false := (World.frozen?_of_block (hgrow.block b (by simp; omega) (fun e => HP1.out.ne e.symm))).trans ((World.frozen?_alloc_past _ _ _ hb).trans hf))
  all_goals
    go_end0
    exact ⟨rfl, pushed_of HP1.out HM1.out ((Mod.refl _ w1).alloc _).drew hown hgrow hfr HN.out⟩
end Go.Proofs.Ytgoegkajfhhcjaa

/- Joined: SBld, SLine, SText. -/
import Derived.Test.YtnnddmojcaicbaaDoorRows
import Derived.Test.YtnnddmojcaicbaaDoorPlA
import Derived.Test.YtnnddmojcaicbaaDoorShelfB
import Derived.Test.YtnnddmojcaicbaaDoorLdA
import Derived.WalkKit
import Derived.Laws.Rows
import Derived.Laws.Externs
import Derived.WalkLawsBesides
import Derived.Lib.Hide
import Derived.Lib.Builder
import Derived.Lib.FrozenHead2
import Derived.Lib.OthersKept
import Derived.Test.YtnnddmojcaicbaaDoorSWords
import Derived.Test.YtnnddmojcaicbaaDoorText
import Derived.Test.YtnnddmojcaicbaaDoorPiRow
import Derived.IntWalk
import Derived.Deep.LoopGhost
import Derived.LoopTactic
section
/- strings.Builder at this program: its copy check, its writers, as the package show uses them. -/
namespace Go.Proofs.YtnnddmojcaicbaaDoor
open Go.RowKit

def BldAt (B b : Nat) (l : List UInt8) (w : World) : Prop := Lib.IsBuilderF 59 5 B b (Lib.byteCells l) w
theorem bld_new (w : World) : Lib.BuilderAtF 59 5 w.heap.size w.heap.size (.pointer none) [] (w.alloc (.cells #[.pointer none, .slice none 0 0] 59)) :=
  ⟨Nat.le_refl _, .slice none 0 0, heap_alloc_new w _, World.ownsRowF_nil _ _ _ _, by simp [Value.ownBlock]⟩
theorem BldAt.later {B b : Nat} {l : List UInt8} {w w2 : World} (h : BldAt B b l w) (hb : Below w.heap.size w w2) : BldAt B b l w2 := by
  have key : ∀ p, Lib.BuilderAtF 59 5 B b p (Lib.byteCells l) w → Lib.BuilderAtF 59 5 B b p (Lib.byteCells l) w2 := fun p h => by
    have hlt := h.lt
    obtain ⟨hB, v, hv, hown, hne⟩ := h
    refine ⟨hB, v, (hb.block _ hlt).trans hv, ⟨hown.1, ?_⟩, hne⟩
    rcases hown.2 with h0 | ⟨g, cap, cur, fz, e, h1, h2, h3⟩
    · exact .inl h0
    · exact .inr ⟨g, cap, cur, fz, e, h1, (hb.block _ (Array.getElem?_eq_some_iff.1 h2).1).trans h2, h3⟩
  rcases h with h | h
  · exact .inl (key _ h)
  · exact .inr (key _ h)
theorem BldAt.lt {B b : Nat} {l : List UInt8} {w : World} (h : BldAt B b l w) : b < w.heap.size := by
  rcases h with h | h
  · exact h.lt
  · exact h.lt
theorem bld_size : ∃ j, Tryd.prog.info? 59 = some j ∧ j.size = 2 := by
  have h : (Tryd.prog.info? 59).map (·.size) = some 2 := by kernel_rfl
  obtain ⟨j, hj, h2⟩ := Option.map_eq_some_iff.1 h
  exact ⟨j, hj, h2⟩
theorem bld_lies : liesAt Tryd.prog Tryd.prog.depth 59 (2 / Tryd.prog.cellsOf 59) 0 59 1 = true := by kernel_rfl
set_option maxHeartbeats 1000000 in
set_option maxRecDepth 100000 in
theorem copy_used (b : Nat) (w : World) (h0 : w.cell? ⟨b, 0, none⟩ = some (.pointer (some ⟨b, 0, none⟩))) :
    Calls Tryd.prog 45 #[.pointer (some ⟨b, 0, none⟩)] w fun e w' => e = .returned (.tuple #[]) ∧ w' = w := by
  obtain ⟨j, hj, _⟩ := bld_size
  go_enter Tryd.func45, Tryd.ntmps45
  go_wp2
  rw [Lib.run_neq_ptr_same w _ Tryd.underlying57 hj]
  go_wp2
  go_end0
  exact ⟨rfl, rfl⟩
set_option maxHeartbeats 1000000 in
set_option maxRecDepth 100000 in
theorem copy_fresh (b : Nat) (w : World) (h0 : w.cell? ⟨b, 0, none⟩ = some (.pointer none)) (hsh : w.shape? b = some (59, 2)) (hfz : w.frozen? ⟨b, 0, none⟩ = false) :
    Calls Tryd.prog 45 #[.pointer (some ⟨b, 0, none⟩)] w fun e w' => e = .returned (.tuple #[]) ∧ w' = w.setCell ⟨b, 0, none⟩ (.pointer (some ⟨b, 0, none⟩)) := by
  obtain ⟨j, hj, hjs⟩ := bld_size
  go_enter Tryd.func45, Tryd.ntmps45
  go_wp2
  rw [Lib.run_to_unsafe w ⟨b, 0, none⟩ Tryd.underlying57 Tryd.underlying107 hj (by rw [hjs]; decide) hsh (Nat.zero_lt_succ 1)]
  simp only [Result.andThen]
  rw [Oper.upon_value]
  go_wp2
  rw [run_callFunc_extern Tryd.func59 (by kernel_rfl) (by kernel_rfl) (by kernel_rfl) (e := Extern.AbiNoEscape.same) (by kernel_rfl), Lib.run_noEscape]
  simp only [Result.andThen]
  rw [Oper.upon_value]
  go_wp2
  rw [Lib.run_from_unsafe w ⟨b, 0, none⟩ Tryd.underlying107 Tryd.underlying57 hj hsh bld_lies]
  simp only [Result.andThen]
  rw [Oper.upon_value]
  go_wp2
  go_end0
  exact ⟨rfl, rfl⟩
/-- The copy check: behind it the builder holds its own address, its bytes are as they were. -/
theorem copy_any (B b : Nat) (l : List UInt8) (w : World) (h : BldAt B b l w) :
    Calls Tryd.prog 45 #[.pointer (some ⟨b, 0, none⟩)] w fun e w' => e = .returned (.tuple #[]) ∧ Lib.BuilderAtF 59 5 B b (.pointer (some ⟨b, 0, none⟩)) (Lib.byteCells l) w' ∧ Below B w w' ∧ Lib.OthersKept 5 (some b) w w' := by
  rcases h with h | h
  · refine (copy_fresh b w h.cell0 h.shape h.frozen0).mono ?_
    rintro e w' ⟨rfl, rfl⟩
    exact ⟨rfl, h.used _, (Below.refl B w).setCell (p := ⟨b, 0, none⟩) h.1 _, (Lib.OthersKept.refl _ _ w).setCell ⟨b, 0, none⟩ rfl _⟩
  · refine (copy_used b w h.cell0).mono ?_
    rintro e w' ⟨rfl, rfl⟩
    exact ⟨rfl, h, Below.refl B _, Lib.OthersKept.refl _ _ _⟩
theorem byte_info : ∃ i, Tryd.prog.info? 5 = some i ∧ i.zero = some (.int .u8 0) ∧ i.size = 1 ∧ i.bytes = 1 := by
  have h : (Tryd.prog.info? 5).map (fun i => (i.zero, i.size, i.bytes)) = some (some (.int .u8 0), 1, 1) := by kernel_rfl
  obtain ⟨i, hi, h2⟩ := Option.map_eq_some_iff.1 h
  simp only [Prod.mk.injEq] at h2
  exact ⟨i, hi, h2⟩
theorem bytes_snoc (l : List UInt8) (c : UInt8) : Lib.byteCells (l ++ [c]) = Lib.byteCells l ++ [.int .u8 c.toNat] := by simp [Lib.byteCells]
theorem bytes_str (l : List UInt8) (s : ByteArray) : Lib.byteCells (l ++ s.data.toList) = Lib.byteCells l ++ Lib.strCells s := by simp [Lib.byteCells, Lib.strCells]
theorem bytes_len (l : List UInt8) : (Lib.byteCells l).length = l.length := by simp [Lib.byteCells]
/-- What stands behind a write: the bytes, and all blocks but the builder's and rows of bytes. -/
def Wrote (B b : Nat) (l : List UInt8) (w w' : World) : Prop := BldAt B b l w' ∧ Below B w w' ∧ Lib.OthersKept 5 (some b) w w'
set_option maxHeartbeats 2000000 in
set_option maxRecDepth 100000 in
theorem writeB_cells (B b : Nat) (l : List UInt8) (c : Int) (w : World) (h : BldAt B b l w) (hlen : l.length + 1 ≤ 100000000) (hBw : B ≤ w.heap.size) :
    Calls Tryd.prog 21 #[.pointer (some ⟨b, 0, none⟩), .int .u8 c] w fun e w' => e = .returned .nilIface ∧ Lib.BuilderAtF 59 5 B b (.pointer (some ⟨b, 0, none⟩)) (Lib.byteCells l ++ [.int .u8 c]) w' ∧ Below B w w' ∧ Lib.OthersKept 5 (some b) w w' := by
  obtain ⟨i0, hi, hz0, hz1, hz2⟩ := byte_info
  have hC := copy_any B b l w h
  obtain ⟨bs, hbs⟩ : ∃ bs, Lib.byteCells l = bs := ⟨_, rfl⟩
  have hL : bs.length + 1 ≤ 100000000 := by rw [← hbs, bytes_len]; exact hlen
  rw [hbs] at hC ⊢
  clear hbs h hlen
  go_enter Tryd.func21, Tryd.ntmps21
  go_wp2_with (go_at_call 45; refine hC.mono ?_)
  rintro e w1 ⟨rfl, h1, hb1, hk1⟩
  obtain ⟨hB, v, hbk, hown, hne⟩ := h1
  have c0 : w1.cell? ⟨b, 0, none⟩ = some (.pointer (some ⟨b, 0, none⟩)) := by rw [Lib.cell_of_heap hbk]; rfl
  have c1 : w1.cell? ⟨b, 1, none⟩ = some v := by rw [Lib.cell_of_heap hbk]; rfl
  have hlt : b < w1.heap.size := (Array.getElem?_eq_some_iff.1 hbk).1
  have hsz := hb1.size
  go_wp2_with (at_builtin; refine wpList_append_ownF _ rfl _ _ 29 rfl B 5 i0 (.int .u8 0) 1 1 Tryd.underlying29 hi hz0 hz1 hz2 rfl (by decide) _ _ _ rfl (hown.alloc _) ⟨w1.heap.size, 0, none⟩ 1 1 [.int .u8 c] rfl rfl ?c1 ?c2 ?c3 ?c4 ?c5 ?_)
  case c1 =>
    intro j u hj
    match j, hj with
    | 0, hj => simp at hj; subst hj; simp [Addr.add]
  case c2 => intro u hu; simp at hu; subst hu; rfl
  case c3 => unfold maxLen; omega
  case c4 => omega
  case c5 => simp; omega
  intro v2 w2 hown2 hgrow _
  have hb2 : w2.heap[b]? = some (.cells #[.pointer (some ⟨b, 0, none⟩), v] 59 (0, 0)) := by
    rw [hgrow.block b (by simp; omega) (fun e => hne e.symm), Lib.alloc_old w1 _ b hlt]
    exact hbk
  have d0 : w2.cell? ⟨b, 0, none⟩ = some (.pointer (some ⟨b, 0, none⟩)) := by rw [Lib.cell_of_heap hb2]; rfl
  have d1 : w2.cell? ⟨b, 1, none⟩ = some v := by rw [Lib.cell_of_heap hb2]; rfl
  have f1 : w2.frozen? ⟨b, 1, none⟩ = false := Lib.frozen_of_heap hb2 1
  obtain ⟨g, cap, rfl⟩ : ∃ g cap, v2 = .slice (some ⟨g, 0, none⟩) (bs.length + 1) cap := by
    rcases hown2.2 with ⟨_, h0⟩ | ⟨g, cap, cur, fz, hv, _⟩
    · omega
    · exact ⟨g, cap, hv⟩
  have r1 := Lib.BuilderAtF.put (bs' := bs ++ [.int .u8 c]) hB hb2 (by simpa using hown2) (by decide : (59 : TypeId) ≠ 5)
  have r2 := ((hb1.alloc (by omega) _).grown hgrow (by simp; omega) (fun k hk => (hown.lt k hk).1)).setCell (p := ⟨b, 1, none⟩) hB (.slice (some ⟨g, 0, none⟩) (bs.length + 1) cap)
  have r3 := ((hk1.alloc _).grown hgrow (Lib.ownsRowF_kind (hown.alloc _))).setCell ⟨b, 1, none⟩ rfl (.slice (some ⟨g, 0, none⟩) (bs.length + 1) cap)
  go_wp2
  go_ret
  exact ⟨rfl, r1, r2, r3⟩
set_option maxHeartbeats 2000000 in
set_option maxRecDepth 100000 in
theorem writeS_cells (B b : Nat) (l : List UInt8) (s : ByteArray) (w : World) (h : BldAt B b l w) (hlen : l.length + s.size ≤ 100000000) (hBw : B ≤ w.heap.size) :
    Calls Tryd.prog 19 #[.pointer (some ⟨b, 0, none⟩), .string s] w fun e w' => e = .returned (.tuple #[.int .i64 s.size, .nilIface]) ∧ Lib.BuilderAtF 59 5 B b (.pointer (some ⟨b, 0, none⟩)) (Lib.byteCells l ++ Lib.strCells s) w' ∧ Below B w w' ∧ Lib.OthersKept 5 (some b) w w' := by
  obtain ⟨i0, hi, hz0, hz1, hz2⟩ := byte_info
  have hC := copy_any B b l w h
  obtain ⟨bs, hbs⟩ : ∃ bs, Lib.byteCells l = bs := ⟨_, rfl⟩
  have hL : bs.length + s.size ≤ 100000000 := by rw [← hbs, bytes_len]; exact hlen
  rw [hbs] at hC ⊢
  clear hbs h hlen
  go_enter Tryd.func19, Tryd.ntmps19
  go_wp2_with (go_at_call 45; refine hC.mono ?_)
  rintro e w1 ⟨rfl, h1, hb1, hk1⟩
  obtain ⟨hB, v, hbk, hown, hne⟩ := h1
  have c0 : w1.cell? ⟨b, 0, none⟩ = some (.pointer (some ⟨b, 0, none⟩)) := by rw [Lib.cell_of_heap hbk]; rfl
  have c1 : w1.cell? ⟨b, 1, none⟩ = some v := by rw [Lib.cell_of_heap hbk]; rfl
  have hlt : b < w1.heap.size := (Array.getElem?_eq_some_iff.1 hbk).1
  have hsz := hb1.size
  go_wp2_with (at_builtin; refine Lib.wpList_append_own_stringF _ rfl _ _ 29 9 rfl B 5 i0 Tryd.underlying29 Tryd.underlying9 hi hz0 hz1 hz2 _ _ _ rfl hown s rfl ?c3 ?c4 ?c5 ?_)
  case c3 => unfold maxLen; omega
  case c4 => omega
  case c5 => omega
  intro v2 w2 hown2 hgrow _
  have hb2 : w2.heap[b]? = some (.cells #[.pointer (some ⟨b, 0, none⟩), v] 59 (0, 0)) := by
    rw [hgrow.block b hlt (fun e => hne e.symm)]
    exact hbk
  have d0 : w2.cell? ⟨b, 0, none⟩ = some (.pointer (some ⟨b, 0, none⟩)) := by rw [Lib.cell_of_heap hb2]; rfl
  have d1 : w2.cell? ⟨b, 1, none⟩ = some v := by rw [Lib.cell_of_heap hb2]; rfl
  have f1 : w2.frozen? ⟨b, 1, none⟩ = false := Lib.frozen_of_heap hb2 1
  have one : v2.oneCell' = true := by
    rcases hown2.2 with ⟨hv, _⟩ | ⟨g, cap, cur, fz, hv, _⟩
    · rw [hv]; rfl
    · rw [hv]; rfl
  have hsl : (Lib.strCells s).length = s.size := by simp only [Lib.strCells, List.length_map]; rfl
  have r1 := Lib.BuilderAtF.put (bs' := bs ++ Lib.strCells s) hB hb2 (by simpa [hsl] using hown2) (by decide : (59 : TypeId) ≠ 5)
  have r2 := (hb1.grown hgrow (by omega) (fun k hk => (hown.lt k hk).1)).setCell (p := ⟨b, 1, none⟩) hB v2
  have r3 := (hk1.grown hgrow (Lib.ownsRowF_kind hown)).setCell ⟨b, 1, none⟩ rfl v2
  obtain ⟨a, m, cap, rfl⟩ : ∃ a m cap, v2 = .slice a m cap := by
    rcases hown2.2 with ⟨hv, _⟩ | ⟨g, cap, cur, fz, hv, _⟩
    · exact ⟨_, _, _, hv⟩
    · exact ⟨_, _, _, hv⟩
  go_wp2
  go_ret2
  exact ⟨rfl, r1, r2, r3⟩
theorem writeB_any (B b : Nat) (l : List UInt8) (c : UInt8) (w : World) (h : BldAt B b l w) (hlen : l.length + 1 ≤ 100000000) (hBw : B ≤ w.heap.size) :
    Calls Tryd.prog 21 #[.pointer (some ⟨b, 0, none⟩), .int .u8 c.toNat] w fun e w' => e = .returned .nilIface ∧ Wrote B b (l ++ [c]) w w' :=
  (writeB_cells B b l c.toNat w h hlen hBw).mono fun _ _ ⟨h1, h2, h3, h4⟩ => ⟨h1, .inr (by rw [bytes_snoc]; exact h2), h3, h4⟩
theorem writeS_any (B b : Nat) (l : List UInt8) (s : ByteArray) (w : World) (h : BldAt B b l w) (hlen : l.length + s.size ≤ 100000000) (hBw : B ≤ w.heap.size) :
    Calls Tryd.prog 19 #[.pointer (some ⟨b, 0, none⟩), .string s] w fun e w' => e = .returned (.tuple #[.int .i64 s.size, .nilIface]) ∧ Wrote B b (l ++ s.data.toList) w w' :=
  (writeS_cells B b l s w h hlen hBw).mono fun _ _ ⟨h1, h2, h3, h4⟩ => ⟨h1, .inr (by rw [bytes_str]; exact h2), h3, h4⟩
theorem writeBlank (B b : Nat) (l : List UInt8) (w : World) (h : BldAt B b l w) (hlen : l.length + 1 ≤ 100000000) (hBw : B ≤ w.heap.size) :
    Calls Tryd.prog 21 #[.pointer (some ⟨b, 0, none⟩), .int .u8 32] w fun e w' => e = .returned .nilIface ∧ Wrote B b (l ++ [32]) w w' := writeB_any B b l 32 w h hlen hBw
theorem writeEnd (B b : Nat) (l : List UInt8) (w : World) (h : BldAt B b l w) (hlen : l.length + 1 ≤ 100000000) (hBw : B ≤ w.heap.size) :
    Calls Tryd.prog 21 #[.pointer (some ⟨b, 0, none⟩), .int .u8 10] w fun e w' => e = .returned .nilIface ∧ Wrote B b (l ++ [10]) w w' := writeB_any B b l 10 w h hlen hBw
theorem bldLen_any (B b : Nat) (l : List UInt8) (w : World) (h : BldAt B b l w) :
    Calls Tryd.prog 20 #[.pointer (some ⟨b, 0, none⟩)] w fun e w' => e = .returned (.int .i64 l.length) ∧ w' = w := by
  have h1 := Tryd.Builder_Len_f B b _ w h
  rw [bytes_len] at h1
  exact h1
theorem bldString_any (B b : Nat) (l : List UInt8) (w : World) (h : BldAt B b l w) (hBw : B ≤ w.heap.size) :
    Calls Tryd.prog 23 #[.pointer (some ⟨b, 0, none⟩)] w fun e w' => e = .returned (.string ⟨l.toArray⟩) ∧ Below B w w' :=
  (Tryd.Builder_String_any_k B b l w h hBw).mono fun _ _ ⟨h1, _, h2, _⟩ => ⟨h1, h2⟩
end Go.Proofs.YtnnddmojcaicbaaDoor
end
section
/- Package show's Line, for all names and numbers. -/
namespace Go.Proofs.YtnnddmojcaicbaaDoor
open Go.RowKit
open Go.Lib (itoa)

/-- The builder of a call, and that nothing that was there was written. -/
structure Bl (w : World) (b : Nat) (l : List UInt8) (wr : World) : Prop where
  bl : BldAt b b l wr
  below : Below w.heap.size w wr
  ge : w.heap.size ≤ b
theorem Bl.room {w wr : World} {b : Nat} {l : List UInt8} (h : Bl w b l wr) : b ≤ wr.heap.size := Nat.le_of_lt h.bl.lt
theorem Bl.later {w wr w2 : World} {b : Nat} {l : List UInt8} (h : Bl w b l wr) (hb : Below wr.heap.size wr w2) : Bl w b l w2 := ⟨h.bl.later hb, h.below.trans (hb.mono h.below.size), h.ge⟩
theorem Bl.wrote {w wr w2 : World} {b : Nat} {l l2 : List UInt8} (h : Bl w b l wr) (hb : Wrote b b l2 wr w2) : Bl w b l2 w2 := ⟨hb.1, h.below.trans (hb.2.1.mono h.ge), h.ge⟩
theorem Bl.new (w : World) : Bl w w.heap.size [] (w.alloc (.cells #[.pointer none, .slice none 0 0] 59)) := ⟨.inl (bld_new w), (Below.refl _ w).alloc (Nat.le_refl _) _, Nat.le_refl _⟩
set_option maxHeartbeats 4000000 in
set_option maxRecDepth 100000 in
theorem line_any (name : ByteArray) (a : Option Addr) (n cap : Nat) (l : List Int) (w : World) (ht : Tab w) (hn : name.size ≤ 300) (hl : n ≤ 100) (hz : IsNums w.heap.size w a n l) (hf : ∀ v ∈ l, Fits v) :
    Calls Tryd.prog 10 #[.string name, .slice a n cap] w fun e w' => e = .returned (.string ⟨(lineS name.data.toList l).toArray⟩) ∧ Below w.heap.size w w' := by
  have HT := Lib.hid ht
  have HNUM := Lib.hid hz
  have HFIT := Lib.hid hf
  have HLL := Lib.hid hz.1
  obtain ⟨T, hT⟩ : ∃ T : Int → ByteArray, ∀ n, T n = ⟨(itoa n).toArray⟩ := ⟨_, fun _ => rfl⟩
  have HTX : Hid (∀ (n : Int) (W0 : World), Fits n → Tab W0 → Calls Tryd.prog 22 #[.int .i64 n] W0 fun e w' => e = .returned (.string (T n)) ∧ Below W0.heap.size W0 w') := Lib.hid fun n W0 h1 h2 => by
    rw [hT]
    exact text_any n h1 W0 h2
  have HTS : Hid (∀ n, Fits n → (T n).size ≤ 20) := Lib.hid fun n h1 => by
    rw [hT]
    have := itoa_len n h1
    simpa [ByteArray.size] using this
  have HTD := Lib.hid (fun n => show (T n).data.toList = itoa n by rw [hT])
  obtain ⟨nl, hnl⟩ : ∃ nl, name.data.toList = nl := ⟨_, rfl⟩
  have hnz : nl.length = name.size := by rw [← hnl]; rfl
  have HN0 : Hid (name.data.toList = joinW (wordsS nl (l.take 0))) := Lib.hid (by
    rw [hnl]
    unfold wordsS
    simp
    split
    · rename_i h; rw [h]; rfl
    · simp [joinW, spW])
  have HB0 := Lib.hid (Bl.new w)
  rw [hnl]
  clear hz hf hT hnl ht
  go_enter Tryd.func10, Tryd.ntmps10
  go_wp2_with fail
  obtain ⟨w1, hw1⟩ : ∃ z, z = w.alloc (.cells #[.pointer none, .slice none 0 0] 59) := ⟨_, rfl⟩
  obtain ⟨bb, hbb⟩ : ∃ b, b = w.heap.size := ⟨_, rfl⟩
  rw [← hw1, ← hbb] at HB0
  rw [← hw1, ← hbb]
  clear hw1 hbb
  refine (writeS_any bb bb [] name w1 HB0.out.bl (by simp; omega) HB0.out.room).mono ?_
  rintro e w2 ⟨rfl, hq⟩
  have HB2 : Hid (Bl w bb (joinW (wordsS nl (l.take 0))) w2) := Lib.hid (by
    have h := HB0.out.wrote hq
    rw [List.nil_append, HN0.out] at h
    exact h)
  have hy0 : (joinW (wordsS nl (l.take 0))).length ≤ 300 := by rw [← HN0.out]; exact hn
  clear hq HB0
  go_wp2_with fail
  go_loopw [12] (fun iv wr => ∃ (k : Nat) (y : List UInt8), iv = .int .i64 (k : Int) ∧ k ≤ n ∧ y.length ≤ 300 + k * 21 ∧ Hid (Bl w bb y wr) ∧ Hid (y = joinW (wordsS nl (l.take k)))) (fun iv _ => n - (intOf iv).toNat)
  case atStart => exact ⟨0, _, rfl, Nat.zero_le _, by omega, HB2, Lib.hid rfl⟩
  case round =>
    obtain ⟨k, y, rfl, hk, hys, HK, HS⟩ := hrel
    clear HB2 hy0 HN0
    by_cases hlt : k < n
    · obtain ⟨b, off, v, rfl, hv, q0⟩ := (HNUM.out.later HK.out.below).at_ hlt
      have hf := HFIT.out v (List.mem_of_getElem? hv)
      have sv := HTS.out v hf
      have HF := Lib.hid hf
      have HTK := Lib.hid (show l.take (k + 1) = l.take k ++ [v] by rw [List.take_add_one, hv]; rfl)
      clear hf hv
      by_cases hw : wordsS nl (l.take k) = []
      · have hye : y = [] := by rw [HS.out, hw]; rfl
        have hd : decide ((0 : Int) < (y.length : Int)) = false := by rw [hye]; rfl
        have hd2 : decide (0 < y.length) = false := by rw [hye]; rfl
        have HS2 : Hid (y ++ (T v).data.toList = joinW (wordsS nl (l.take (k + 1)))) := Lib.hid (by
          rw [HTK.out, wordsS_snoc, joinW_snoc, if_pos hw, hw, HTD.out, hye]
          rfl)
        have hy2 : (y ++ (T v).data.toList).length ≤ 300 + (k + 1) * 21 := by
          rw [List.length_append, show (T v).data.toList.length = (T v).size from rfl]
          omega
        clear hye hw
        go_wp2_with (first
          | (go_at_call 20; refine (bldLen_any bb bb y _ HK.out.bl).mono ?_; rintro e w8 ⟨rfl, rfl⟩)
          | (go_at_call 22; refine (HTX.out v _ HF.out (HT.out.later HK.out.below)).mono ?_; rintro e w8 ⟨rfl, hb8⟩; have HK8 := Lib.hid (HK.out.later hb8); clear hb8)
          | (go_at_call 19; refine (writeS_any bb bb y (T v) _ HK8.out.bl (by omega) HK8.out.room).mono ?_; rintro e w9 ⟨rfl, hq9⟩; have HK9 := Lib.hid (HK8.out.wrote hq9); clear hq9))
        go_roundw
        case rel => exact ⟨k + 1, _, by go_num, by omega, hy2, HK9, HS2⟩
        case measure => simp [intOf]; omega
      · have hye : y ≠ [] := by rw [HS.out]; exact fun e => hw (joinW_ne.1 e)
        have hyl : 0 < y.length := List.length_pos_iff.2 hye
        have hd : decide ((0 : Int) < (y.length : Int)) = true := by simp; omega
        have hd2 : decide (0 < y.length) = true := by simp; omega
        have HS2 : Hid (y ++ [32] ++ (T v).data.toList = joinW (wordsS nl (l.take (k + 1)))) := Lib.hid (by
          rw [HTK.out, wordsS_snoc, joinW_snoc, if_neg hw, HTD.out, HS.out]
          simp)
        have hy1 : (y ++ [32]).length = y.length + 1 := by simp
        have hy2 : (y ++ [32] ++ (T v).data.toList).length ≤ 300 + (k + 1) * 21 := by
          rw [List.length_append, hy1, show (T v).data.toList.length = (T v).size from rfl]
          omega
        clear hye hw
        go_wp2_with (first
          | (go_at_call 20; refine (bldLen_any bb bb y _ HK.out.bl).mono ?_; rintro e w8 ⟨rfl, rfl⟩)
          | (go_at_call 21; refine (writeBlank bb bb y _ HK.out.bl (by omega) HK.out.room).mono ?_; rintro e w7 ⟨rfl, hq7⟩; have HK7 := Lib.hid (HK.out.wrote hq7); clear hq7)
          | (go_at_call 22; refine (HTX.out v _ HF.out (HT.out.later HK7.out.below)).mono ?_; rintro e w8 ⟨rfl, hb8⟩; have HK8 := Lib.hid (HK7.out.later hb8); clear hb8)
          | (go_at_call 19; refine (writeS_any bb bb (y ++ [32]) (T v) _ HK8.out.bl (by omega) HK8.out.room).mono ?_; rintro e w9 ⟨rfl, hq9⟩; have HK9 := Lib.hid (HK8.out.wrote hq9); clear hq9))
        go_roundw
        case rel => exact ⟨k + 1, _, by go_num, by omega, hy2, HK9, HS2⟩
        case measure => simp [intOf]; omega
    · obtain rfl : k = n := by omega
      have HZ : Hid (y ++ [10] = lineS nl l) := Lib.hid (by
        rw [HS.out, ← HLL.out, List.take_length]
        unfold lineS
        rw [line_join]
        rfl)
      go_wp2_with (first
        | (go_at_call 21; refine (writeEnd bb bb y _ HK.out.bl (by omega) HK.out.room).mono ?_; rintro e w7 ⟨rfl, hq7⟩; have HK7 := Lib.hid (HK.out.wrote hq7); clear hq7)
        | (go_at_call 23; refine (bldString_any bb bb (y ++ [10]) _ HK7.out.bl HK7.out.room).mono ?_; rintro e w8 ⟨rfl, hb8⟩; have HB8 := Lib.hid (HK7.out.below.trans (hb8.mono HK7.out.ge)); clear hb8))
      go_ret
      exact ⟨by rw [← HZ.out]; rfl, HB8.out⟩
end Go.Proofs.YtnnddmojcaicbaaDoor
end
section
/- Package show's Text, for every instance that may be. -/
namespace Go.Proofs.YtnnddmojcaicbaaDoor
open Go.RowKit
open Go.Lib (itoa)

variable {w w1 w2 wr : World} {b : Nat} {x : Ins}
theorem nums_put (w : World) (z : Nat) (l : List Int) (c : Array Value) (hc : c = (l.map (Value.int .i64)).toArray) (hz : w.heap.size = z) : IsNums (w.alloc (.cells c 2)).heap.size (w.alloc (.cells c 2)) (some ⟨z, 0, none⟩) l.length l := by
  subst hc hz
  refine ⟨rfl, .inr ⟨w.heap.size, 0, rfl, by simp, fun j x hx => ?_⟩⟩
  rw [Nat.zero_add]
  simp [hx]
theorem lineS_len (name : List UInt8) (l : List Int) (hn : name.length ≤ 300) (hl : l.length ≤ 100) (hf : ∀ v ∈ l, Fits v) : (lineS name l).length ≤ 10000 := by
  have h2 : ∀ (r : List (List UInt8)), (∀ t ∈ r, t.length ≤ 300) → (spW r).length ≤ 301 * r.length := by
    intro r
    induction r with
    | nil => simp [spW]
    | cons t r ih =>
      intro h
      have := h t (by simp)
      have := ih (fun u hu => h u (by simp [hu]))
      simp only [spW_cons, List.length_cons, List.length_append]
      omega
  have h3 : ∀ (r : List Int), (∀ v ∈ r, Fits v) → (spW (r.map itoa)).length ≤ 21 * r.length := by
    intro r
    induction r with
    | nil => simp [spW]
    | cons t r ih =>
      intro h
      have := itoa_len t (h t (by simp))
      have := ih (fun u hu => h u (by simp [hu]))
      simp only [List.map_cons, spW_cons, List.length_cons, List.length_append]
      omega
  unfold lineS
  by_cases hn0 : name = []
  · rw [if_pos hn0]
    cases l with
    | nil => simp [lineW]
    | cons v r =>
      have h4 := itoa_len v (hf v (by simp))
      have h5 := h3 r (fun u hu => hf u (by simp [hu]))
      simp only [List.map_cons, lineW, List.length_append, List.length_cons, List.length_nil] at *
      omega
  · rw [if_neg hn0]
    have h5 := h3 l hf
    simp only [lineW, List.length_append, List.length_cons, List.length_nil]
    omega
theorem Bl.line {L : List (List (List UInt8))} {s : List UInt8} {l : List (List UInt8)} (h : Bl w b (L.flatMap lineW ++ s) wr) (hs : s = lineW l) : Bl w b ((L ++ [l]).flatMap lineW) wr := by
  rw [List.flatMap_append, List.flatMap_cons, List.flatMap_nil, List.append_nil, ← hs]
  exact h
theorem pre_len (h : May x) {L M : List (List (List UInt8))} (e : linesI x = L ++ M) : (L.flatMap lineW).length ≤ 90000 := by
  have h1 := show_len h
  unfold showB at h1
  rw [e, List.flatMap_append, List.length_append] at h1
  omega
theorem pre_take {α : Type} (h : May x) {L M : List (List (List UInt8))} {l : List α} {f : α → List (List UInt8)} (e : linesI x = L ++ (l.map f ++ M)) (k : Nat) : ((L ++ (l.take k).map f).flatMap lineW).length ≤ 90000 := by
  refine pre_len h (M := (l.drop k).map f ++ M) ?_
  rw [e, List.append_assoc, ← List.append_assoc ((l.take k).map f), ← List.map_append, List.take_append_drop]
set_option maxHeartbeats 2000000 in
set_option maxRecDepth 100000 in
theorem tell_any (bb : Nat) (y : List UInt8) (name : ByteArray) (a : Option Addr) (n cap : Nat) (l : List Int) (w wr : World) (hb : Bl w bb y wr) (ht : Tab w) (hn : name.size ≤ 300) (hl : n ≤ 100) (hz : IsNums wr.heap.size wr a n l) (hf : ∀ v ∈ l, Fits v) (hy : y.length ≤ 90000) :
    Calls Tryd.prog 25 #[.string name, .slice a n cap, .pointer (some ⟨bb, 0, none⟩)] wr fun e w' => e = .returned (.tuple #[]) ∧ Bl w bb (y ++ lineS name.data.toList l) w' := by
  have HB := Lib.hid hb
  have HL := line_any name a n cap l wr (ht.later hb.below) hn hl hz hf
  have hs := lineS_len name.data.toList l hn (by rw [hz.1]; exact hl) hf
  obtain ⟨s, hss⟩ : ∃ s : ByteArray, s = ⟨(lineS name.data.toList l).toArray⟩ := ⟨_, rfl⟩
  have hsz : s.size ≤ 10000 := by rw [hss]; exact hs
  have HS : Hid (s.data.toList = lineS name.data.toList l) := Lib.hid (by rw [hss])
  rw [← hss] at HL
  rw [← HS.out]
  clear hb ht hz hf hs hss
  go_enter Tryd.func25, Tryd.ntmps25
  go_wp2_with (first
    | (go_at_call 10; refine HL.mono ?_; rintro e w8 ⟨rfl, hb8⟩; have HB8 := Lib.hid (HB.out.later hb8); clear hb8)
    | (go_at_call 19; refine (writeS_any bb bb y s _ HB8.out.bl (by omega) HB8.out.room).mono ?_; rintro e w9 ⟨rfl, hq9⟩; have HB9 := Lib.hid (HB8.out.wrote hq9); clear hq9))
  go_end0
  exact ⟨rfl, HB9.out⟩
set_option maxHeartbeats 32000000 in
set_option maxRecDepth 100000 in
theorem showText_any (A : InA) (x : Ins) (w : World) (ht : Tab w) (hi : IsIns w.heap.size w A x) (hm : May x) :
    Calls Tryd.prog 12 #[.agg (insC A x)] w fun e w' => e = .returned (.string ⟨(showB x).toArray⟩) ∧ Below w.heap.size w w' := by
  have HIW := Lib.hid hi
  have HM := Lib.hid hm
  have HX1 := Lib.hid (XBox.make (Below.refl _ w) A x)
  have HT1 := Lib.hid (ht.later HX1.out.below)
  have hmf : ∀ (fn : Fn) (first cap : Array Value) (w : World), (Instr.makeFunc fn first cap).run Tryd.prog w = .ok (.func fn first cap) w := fun _ _ _ _ => rfl
  have rok : ∀ {L : List (List Int)}, (∀ (k : Nat) (u : List Int), L[k]? = some u → u.length = x.nodes ∧ rowG k u) → ∀ (k : Nat) (u : List Int), L[k]? = some u → u.length ≤ 61 ∧ ∀ v ∈ u, Fits v := fun hL k u hk => by
    obtain ⟨h1, h2⟩ := hL k u hk
    have h3 := nodes_61 hm
    refine ⟨by omega, fun v hv => ?_⟩
    obtain ⟨j, hj, e⟩ := List.getElem_of_mem hv
    have h4 := h2 j v (by rw [List.getElem?_eq_getElem hj, e])
    simp [elB, inB_] at h4
    unfold Fits
    omega
  have HRcost := Lib.hid (rok hm.cost)
  have HRtime := Lib.hid (rok hm.time)
  have HSB : Hid (∀ s ∈ x.sats, (0 ≤ s.1 ∧ s.1 ≤ 1000000000) ∧ 0 ≤ s.2 ∧ s.2 ≤ 1000000000) := Lib.hid (fun s hs => by
    have := hm.sats s hs
    simp [satB, inB_] at this
    omega)
  have HCB : Hid (∀ s ∈ x.cus, (0 ≤ s.1 ∧ s.1 ≤ 1000000000) ∧ (0 ≤ s.2.1 ∧ s.2.1 ≤ 1000000000) ∧ (0 ≤ s.2.2.1 ∧ s.2.2.1 ≤ 1000000000) ∧ 0 ≤ s.2.2.2 ∧ s.2.2.2 ≤ 1000000000) := Lib.hid (fun s hs => by
    have := hm.cus s hs
    simp [cusB, inB_] at this
    omega)
  clear rok
  have hlc : x.cost.length ≤ 61 := by rw [hm.lc]; exact nodes_61 hm
  have hlt_ : x.time.length ≤ 61 := by rw [hm.lt]; exact nodes_61 hm
  obtain ⟨e1a, e1b⟩ := hm.en
  obtain ⟨e2a, e2b⟩ := hm.tm
  obtain ⟨e3a, e3b⟩ := hm.tr
  obtain ⟨e4a, e4b⟩ := hm.bm
  obtain ⟨e5a, e5b⟩ := hm.br
  obtain ⟨e6a, e6b⟩ := hm.ns
  obtain ⟨e7a, e7b⟩ := hm.nc
  have HL0 : Hid ((List.flatMap lineW ([] : List (List (List UInt8)))).length ≤ 90000) := Lib.hid (by simp)
  have HL1 : Hid ((List.flatMap lineW [[tWharfage, itoa x.en]]).length ≤ 90000) := Lib.hid (pre_len hm (L := [[tWharfage, itoa x.en]]) rfl)
  have HL2 : Hid ((List.flatMap lineW [[tWharfage, itoa x.en], [tTrucks, itoa x.tm, itoa x.tr]]).length ≤ 90000) := Lib.hid (pre_len hm (L := [[tWharfage, itoa x.en], [tTrucks, itoa x.tm, itoa x.tr]]) rfl)
  have HL3 : Hid ((List.flatMap lineW [[tWharfage, itoa x.en], [tTrucks, itoa x.tm, itoa x.tr], [tBikes, itoa x.bm, itoa x.br]]).length ≤ 90000) := Lib.hid (pre_len hm (L := [[tWharfage, itoa x.en], [tTrucks, itoa x.tm, itoa x.tr], [tBikes, itoa x.bm, itoa x.br]]) rfl)
  have HP0 : Hid (∀ k, (((headI x) ++ (x.sats.take k).map satW).flatMap lineW).length ≤ 90000) := Lib.hid (by
    have e : ∃ M, linesI x = (headI x) ++ (x.sats.map satW ++ M) := ⟨_, by unfold linesI; first | rfl | (simp only [List.append_assoc]; rfl)⟩
    obtain ⟨M, e⟩ := e
    exact fun k => pre_take hm e k)
  have HP1 : Hid (∀ k, (((headI x ++ x.sats.map satW ++ [[tCustomers, itoa (x.cus.length : Int)]]) ++ (x.cus.take k).map cusW).flatMap lineW).length ≤ 90000) := Lib.hid (by
    have e : ∃ M, linesI x = (headI x ++ x.sats.map satW ++ [[tCustomers, itoa (x.cus.length : Int)]]) ++ (x.cus.map cusW ++ M) := ⟨_, by unfold linesI; first | rfl | (simp only [List.append_assoc]; rfl)⟩
    obtain ⟨M, e⟩ := e
    exact fun k => pre_take hm e k)
  have HP2 : Hid (∀ k, (((headI x ++ x.sats.map satW ++ [[tCustomers, itoa (x.cus.length : Int)]] ++ x.cus.map cusW ++ [[tCost]]) ++ (x.cost.take k).map rowW).flatMap lineW).length ≤ 90000) := Lib.hid (by
    have e : ∃ M, linesI x = (headI x ++ x.sats.map satW ++ [[tCustomers, itoa (x.cus.length : Int)]] ++ x.cus.map cusW ++ [[tCost]]) ++ (x.cost.map rowW ++ M) := ⟨_, by unfold linesI; first | rfl | (simp only [List.append_assoc]; rfl)⟩
    obtain ⟨M, e⟩ := e
    exact fun k => pre_take hm e k)
  have HP3 : Hid (∀ k, (((headI x ++ x.sats.map satW ++ [[tCustomers, itoa (x.cus.length : Int)]] ++ x.cus.map cusW ++ [[tCost]] ++ x.cost.map rowW ++ [[tTime]]) ++ (x.time.take k).map rowW).flatMap lineW).length ≤ 90000) := Lib.hid (by
    have e : ∃ M, linesI x = (headI x ++ x.sats.map satW ++ [[tCustomers, itoa (x.cus.length : Int)]] ++ x.cus.map cusW ++ [[tCost]] ++ x.cost.map rowW ++ [[tTime]]) ++ (x.time.map rowW ++ M) := ⟨_, by unfold linesI; first | rfl | (simp only [List.append_assoc]; rfl)⟩
    obtain ⟨M, e⟩ := e
    exact fun k => pre_take hm e k)
  have HE5 : Hid ((headI x ++ x.sats.map satW ++ [[tCustomers, itoa (x.cus.length : Int)]] ++ x.cus.map cusW ++ [[tCost]] ++ x.cost.map rowW ++ [[tTime]] ++ x.time.map rowW) ++ [[tEnd]] = linesI x) := Lib.hid (by unfold linesI; simp only [List.append_assoc])
  clear hm hi ht
  unfold insC at *
  go_enter Tryd.func12, Tryd.ntmps12
  obtain ⟨w1, hw1⟩ : ∃ z, z = w.alloc (.cells #[.int .i64 x.en, .int .i64 x.tm, .int .i64 x.tr, .int .i64 x.bm, .int .i64 x.br, .slice A.sa x.sats.length A.sc, .slice A.ca x.cus.length A.cc, .slice A.ka x.cost.length A.kc, .slice A.ta x.time.length A.tc] 38) := ⟨_, rfl⟩
  have HBn := Lib.hid (Bl.new w1)
  go_wp2_with fail
  rw [← hw1] at HX1 HT1 ⊢
  have hz1 : w1.heap.size = w.heap.size + 1 := by rw [hw1]; simp
  clear hw1
  obtain ⟨bx, hbx⟩ : ∃ b, b = w.heap.size := ⟨_, rfl⟩
  rw [← hbx] at HX1 hz1 ⊢
  clear hbx
  obtain ⟨w2, hw2⟩ : ∃ z, z = w1.alloc (.cells #[.pointer none, .slice none 0 0] 59) := ⟨_, rfl⟩
  have hz2 : w2.heap.size = bx + 1 + 1 := by rw [hw2]; simp [hz1]
  rw [← hw2, hz1] at HBn
  rw [← hw2]
  obtain ⟨bb, hbb⟩ : ∃ b, b = bx + 1 := ⟨_, rfl⟩
  rw [← hbb] at HBn hz2 ⊢
  have HB0 : Hid (Bl w1 bb (List.flatMap lineW []) w2) := HBn
  clear hw2 hz1 hbb HBn
  refine (tell_any bb _ ⟨#[119, 104, 97, 114, 102, 97, 103, 101]⟩ (some ⟨_, 0, none⟩) 1 1 [x.en] w1 _ (HB0.out.later ((Below.refl _ _).alloc (Nat.le_refl _) (.cells #[.int .i64 x.en] 2))) HT1.out (by decide) (by decide) (nums_put _ _ [x.en] _ rfl hz2) (by intro v hv; simp at hv; unfold Fits; omega) HL0.out).mono ?_
  rintro e w3 ⟨rfl, hb⟩
  have HB1 : Hid (Bl w1 bb (List.flatMap lineW (([]) ++ [[tWharfage, itoa x.en]])) w3) := Lib.hid (Bl.line hb rfl)
  clear hb
  obtain ⟨-, c1, c2, -, -, -, -, -, -⟩ := (HX1.out.later HB1.out.below).cells
  go_wp2_with fail
  clear c1 c2
  refine (tell_any bb _ ⟨#[116, 114, 117, 99, 107, 115]⟩ (some ⟨_, 0, none⟩) 2 2 [x.tm, x.tr] w1 _ (HB1.out.later ((Below.refl _ _).alloc (Nat.le_refl _) (.cells #[.int .i64 x.tm, .int .i64 x.tr] 2))) HT1.out (by decide) (by decide) (nums_put _ _ [x.tm, x.tr] _ rfl rfl) (by intro v hv; simp at hv; unfold Fits; omega) HL1.out).mono ?_
  rintro e w4 ⟨rfl, hb⟩
  have HB2 : Hid (Bl w1 bb (List.flatMap lineW (([[tWharfage, itoa x.en]]) ++ [[tTrucks, itoa x.tm, itoa x.tr]])) w4) := Lib.hid (Bl.line hb rfl)
  clear hb
  obtain ⟨-, -, -, c3, c4, -, -, -, -⟩ := (HX1.out.later HB2.out.below).cells
  go_wp2_with fail
  clear c3 c4
  refine (tell_any bb _ ⟨#[98, 105, 107, 101, 115]⟩ (some ⟨_, 0, none⟩) 2 2 [x.bm, x.br] w1 _ (HB2.out.later ((Below.refl _ _).alloc (Nat.le_refl _) (.cells #[.int .i64 x.bm, .int .i64 x.br] 2))) HT1.out (by decide) (by decide) (nums_put _ _ [x.bm, x.br] _ rfl rfl) (by intro v hv; simp at hv; unfold Fits; omega) HL2.out).mono ?_
  rintro e w5 ⟨rfl, hb⟩
  have HB3 : Hid (Bl w1 bb (List.flatMap lineW (([[tWharfage, itoa x.en], [tTrucks, itoa x.tm, itoa x.tr]]) ++ [[tBikes, itoa x.bm, itoa x.br]])) w5) := Lib.hid (Bl.line hb rfl)
  clear hb
  obtain ⟨-, -, -, -, -, c5, -, -, -⟩ := (HX1.out.later HB3.out.below).cells
  go_wp2_with fail
  clear c5
  refine (tell_any bb _ ⟨#[115, 97, 116, 101, 108, 108, 105, 116, 101, 115]⟩ (some ⟨_, 0, none⟩) 1 1 [(x.sats.length : Int)] w1 _ (HB3.out.later ((Below.refl _ _).alloc (Nat.le_refl _) (.cells #[.int .i64 (x.sats.length : Int)] 2))) HT1.out (by decide) (by decide) (nums_put _ _ [(x.sats.length : Int)] _ rfl rfl) (by intro v hv; simp at hv; unfold Fits; omega) HL3.out).mono ?_
  rintro e w6 ⟨rfl, hb⟩
  have HB4 : Hid (Bl w1 bb (List.flatMap lineW (([[tWharfage, itoa x.en], [tTrucks, itoa x.tm, itoa x.tr], [tBikes, itoa x.bm, itoa x.br]]) ++ [[tSatellites, itoa (x.sats.length : Int)]])) w6) := Lib.hid (Bl.line hb rfl)
  clear hb
  have HBs : Hid (Bl w1 bb (List.flatMap lineW (headI x ++ (x.sats.take 0).map satW)) w6) := Lib.hid (by simpa [headI] using HB4.out)
  clear HB0 HB1 HB2 HB3 HB4 hz2
  obtain ⟨-, -, -, -, -, c5, -, -, -⟩ := (HX1.out.later HBs.out.below).cells
  go_wp2_with fail
  clear c5
  go_loopw [46] (fun iv wr => ∃ k : Nat, iv = .int .i64 (k : Int) ∧ k ≤ x.sats.length ∧ Hid (Bl w1 bb (List.flatMap lineW ((headI x) ++ (x.sats.take k).map satW)) wr)) (fun iv _ => x.sats.length - (intOf iv).toNat)
  case atStart => exact ⟨0, rfl, Nat.zero_le _, HBs⟩
  case round =>
    obtain ⟨k, rfl, hk, HK⟩ := hrel
    clear HBs
    by_cases hlt : k < x.sats.length
    · obtain ⟨b, off, q, hA, hb, hq, p0, p1⟩ := (HIW.out.sats.later (HX1.out.later HK.out.below).below).at_ hlt
      have HQ := Lib.hid hq
      have hqb := HSB.out q (List.mem_of_getElem? hq)
      obtain ⟨a, b⟩ := q
      simp only at p0 p1 hqb
      obtain ⟨⟨a1, a2⟩, b1, b2⟩ := hqb
      rw [hA]
      clear hq hA
      have HBv : Hid (Below w1.heap.size w1 ((wr.alloc (.cells #[.int .i64 a, .int .i64 b] 46)).alloc (.cells #[.int .i64 a, .int .i64 b] 2))) := Lib.hid ((HK.out.below.alloc HK.out.below.size _).alloc (Nat.le_trans HK.out.below.size (by simp)) _)
      go_wp2_with fail
      refine (tell_any bb _ ⟨#[]⟩ (some ⟨_, 0, none⟩) 2 2 [a, b] w1 _ (HK.out.later (((Below.refl _ _).alloc (Nat.le_refl _) (.cells #[.int .i64 a, .int .i64 b] 46)).alloc (by simp) (.cells #[.int .i64 a, .int .i64 b] 2))) HT1.out (by decide) (by decide) (nums_put _ _ [a, b] _ rfl (by simp)) (by intro v hv; simp at hv; unfold Fits; omega) (HP0.out k)).mono ?_
      rintro e w8 ⟨rfl, hb⟩
      have HK8 : Hid (Bl w1 bb (List.flatMap lineW (((headI x) ++ (x.sats.take k).map satW) ++ [satW (a, b)])) w8) := Lib.hid (Bl.line hb rfl)
      clear hb
      have HK9 : Hid (Bl w1 bb (List.flatMap lineW ((headI x) ++ (x.sats.take (k + 1)).map satW)) w8) := Lib.hid (by
        have h := HK8.out
        rw [List.take_add_one, HQ.out]
        simpa using h)
      clear HK8 HK
      go_wp2_with fail
      go_roundw
      case rel => exact ⟨k + 1, by go_num, by omega, HK9⟩
      case measure => simp [intOf]; omega
    · obtain rfl : k = x.sats.length := by omega
      have HBe : Hid (Bl w1 bb (List.flatMap lineW ((headI x) ++ x.sats.map satW)) wr) := Lib.hid (by have h := HK.out; rwa [List.take_length] at h)
      clear HK hlt hk
      have HPe := HP0.out x.sats.length
      rw [List.take_length] at HPe
      have HPE := Lib.hid HPe
      clear HPe
      obtain ⟨-, -, -, -, -, -, c6, -, -⟩ := (HX1.out.later HBe.out.below).cells
      go_wp2_with fail
      clear c6
      refine (tell_any bb _ ⟨#[99, 117, 115, 116, 111, 109, 101, 114, 115]⟩ (some ⟨_, 0, none⟩) 1 1 [(x.cus.length : Int)] w1 _ (HBe.out.later ((Below.refl _ _).alloc (Nat.le_refl _) (.cells #[.int .i64 (x.cus.length : Int)] 2))) HT1.out (by decide) (by decide) (nums_put _ _ [(x.cus.length : Int)] _ rfl rfl) (by intro v hv; simp at hv; unfold Fits; omega) HPE.out).mono ?_
      rintro e w7 ⟨rfl, hb⟩
      have HBf : Hid (Bl w1 bb (List.flatMap lineW ((headI x ++ x.sats.map satW) ++ [[tCustomers, itoa (x.cus.length : Int)]])) w7) := Lib.hid (Bl.line hb rfl)
      clear hb
      have HBs : Hid (Bl w1 bb (List.flatMap lineW ((headI x ++ x.sats.map satW ++ [[tCustomers, itoa (x.cus.length : Int)]]) ++ (x.cus.take 0).map cusW)) w7) := Lib.hid (by simpa using HBf.out)
      clear HBe HBf HPE
      obtain ⟨-, -, -, -, -, -, c6, -, -⟩ := (HX1.out.later HBs.out.below).cells
      go_wp2_with fail
      clear c6
      go_loopw [67] (fun iv wr => ∃ k : Nat, iv = .int .i64 (k : Int) ∧ k ≤ x.cus.length ∧ Hid (Bl w1 bb (List.flatMap lineW ((headI x ++ x.sats.map satW ++ [[tCustomers, itoa (x.cus.length : Int)]]) ++ (x.cus.take k).map cusW)) wr)) (fun iv _ => x.cus.length - (intOf iv).toNat)
      case atStart => exact ⟨0, rfl, Nat.zero_le _, HBs⟩
      case round =>
        obtain ⟨k, rfl, hk, HK⟩ := hrel
        clear HBs
        by_cases hlt : k < x.cus.length
        · obtain ⟨b, off, q, hA, hb, hq, p0, p1, p2, p3⟩ := (HIW.out.cus.later (HX1.out.later HK.out.below).below).at_ hlt
          have HQ := Lib.hid hq
          have hqb := HCB.out q (List.mem_of_getElem? hq)
          obtain ⟨a, b, c, d⟩ := q
          simp only at p0 p1 p2 p3 hqb
          obtain ⟨⟨a1, a2⟩, ⟨b1, b2⟩, ⟨c1, c2⟩, d1, d2⟩ := hqb
          rw [hA]
          clear hq hA
          have HBv : Hid (Below w1.heap.size w1 ((wr.alloc (.cells #[.int .i64 a, .int .i64 b, .int .i64 c, .int .i64 d] 55)).alloc (.cells #[.int .i64 a, .int .i64 b, .int .i64 c, .int .i64 d] 2))) := Lib.hid ((HK.out.below.alloc HK.out.below.size _).alloc (Nat.le_trans HK.out.below.size (by simp)) _)
          go_wp2_with fail
          refine (tell_any bb _ ⟨#[]⟩ (some ⟨_, 0, none⟩) 4 4 [a, b, c, d] w1 _ (HK.out.later (((Below.refl _ _).alloc (Nat.le_refl _) (.cells #[.int .i64 a, .int .i64 b, .int .i64 c, .int .i64 d] 55)).alloc (by simp) (.cells #[.int .i64 a, .int .i64 b, .int .i64 c, .int .i64 d] 2))) HT1.out (by decide) (by decide) (nums_put _ _ [a, b, c, d] _ rfl (by simp)) (by intro v hv; simp at hv; unfold Fits; omega) (HP1.out k)).mono ?_
          rintro e w8 ⟨rfl, hb⟩
          have HK8 : Hid (Bl w1 bb (List.flatMap lineW (((headI x ++ x.sats.map satW ++ [[tCustomers, itoa (x.cus.length : Int)]]) ++ (x.cus.take k).map cusW) ++ [cusW (a, b, c, d)])) w8) := Lib.hid (Bl.line hb rfl)
          clear hb
          have HK9 : Hid (Bl w1 bb (List.flatMap lineW ((headI x ++ x.sats.map satW ++ [[tCustomers, itoa (x.cus.length : Int)]]) ++ (x.cus.take (k + 1)).map cusW)) w8) := Lib.hid (by
            have h := HK8.out
            rw [List.take_add_one, HQ.out]
            simpa using h)
          clear HK8 HK
          go_wp2_with fail
          go_roundw
          case rel => exact ⟨k + 1, by go_num, by omega, HK9⟩
          case measure => simp [intOf]; omega
        · obtain rfl : k = x.cus.length := by omega
          have HBe : Hid (Bl w1 bb (List.flatMap lineW ((headI x ++ x.sats.map satW ++ [[tCustomers, itoa (x.cus.length : Int)]]) ++ x.cus.map cusW)) wr) := Lib.hid (by have h := HK.out; rwa [List.take_length] at h)
          clear HK hlt hk
          have HPe := HP1.out x.cus.length
          rw [List.take_length] at HPe
          have HPE := Lib.hid HPe
          clear HPe
          go_wp2_with fail
          refine (tell_any bb _ ⟨#[99, 111, 115, 116]⟩ none 0 0 [] w1 _ HBe.out HT1.out (by decide) (by decide) ⟨rfl, .inl rfl⟩ (by simp) HPE.out).mono ?_
          rintro e w9 ⟨rfl, hb⟩
          have HBf : Hid (Bl w1 bb (List.flatMap lineW (((headI x ++ x.sats.map satW ++ [[tCustomers, itoa (x.cus.length : Int)]]) ++ x.cus.map cusW) ++ [[tCost]])) w9) := Lib.hid (Bl.line hb rfl)
          clear hb
          have HBs : Hid (Bl w1 bb (List.flatMap lineW ((headI x ++ x.sats.map satW ++ [[tCustomers, itoa (x.cus.length : Int)]] ++ x.cus.map cusW ++ [[tCost]]) ++ (x.cost.take 0).map rowW)) w9) := Lib.hid (by simpa using HBf.out)
          clear HBe HBf HPE
          obtain ⟨-, -, -, -, -, -, -, c7, -⟩ := (HX1.out.later HBs.out.below).cells
          go_wp2_with fail
          clear c7
          go_loopw [88] (fun iv wr => ∃ k : Nat, iv = .int .i64 (k : Int) ∧ k ≤ x.cost.length ∧ Hid (Bl w1 bb (List.flatMap lineW ((headI x ++ x.sats.map satW ++ [[tCustomers, itoa (x.cus.length : Int)]] ++ x.cus.map cusW ++ [[tCost]]) ++ (x.cost.take k).map rowW)) wr)) (fun iv _ => x.cost.length - (intOf iv).toNat)
          case atStart => exact ⟨0, rfl, Nat.zero_le _, HBs⟩
          case round =>
            obtain ⟨k, rfl, hk, HK⟩ := hrel
            clear HBs
            by_cases hlt : k < x.cost.length
            · obtain ⟨b, off, r, ra, rc, hA, hb, hr, hrl, h1, hrn⟩ := (HIW.out.cost.later (HX1.out.later HK.out.below).below).at_ hlt
              have HQ := Lib.hid hr
              obtain ⟨hr61, hrv⟩ := HRcost.out k r hr
              have HTC := Lib.hid (tell_any bb _ ⟨#[]⟩ ra r.length rc r w1 wr HK.out HT1.out (by decide) (by omega) (hrn.mono (HX1.out.later HK.out.below).below.size) hrv (HP2.out k))
              rw [hA]
              clear hr hA hrn hrv
              go_wp2_with fail
              refine HTC.out.mono ?_
              rintro e w8 ⟨rfl, hb8⟩
              have HK8 : Hid (Bl w1 bb (List.flatMap lineW (((headI x ++ x.sats.map satW ++ [[tCustomers, itoa (x.cus.length : Int)]] ++ x.cus.map cusW ++ [[tCost]]) ++ (x.cost.take k).map rowW) ++ [rowW r])) w8) := Lib.hid (Bl.line hb8 rfl)
              clear hb8
              have HK9 : Hid (Bl w1 bb (List.flatMap lineW ((headI x ++ x.sats.map satW ++ [[tCustomers, itoa (x.cus.length : Int)]] ++ x.cus.map cusW ++ [[tCost]]) ++ (x.cost.take (k + 1)).map rowW)) w8) := Lib.hid (by
                have h := HK8.out
                rw [List.take_add_one, HQ.out]
                simpa using h)
              clear HK8 HK HTC
              go_wp2_with fail
              go_roundw
              case rel => exact ⟨k + 1, by go_num, by omega, HK9⟩
              case measure => simp [intOf]; omega
            · obtain rfl : k = x.cost.length := by omega
              have HBe : Hid (Bl w1 bb (List.flatMap lineW ((headI x ++ x.sats.map satW ++ [[tCustomers, itoa (x.cus.length : Int)]] ++ x.cus.map cusW ++ [[tCost]]) ++ x.cost.map rowW)) wr) := Lib.hid (by have h := HK.out; rwa [List.take_length] at h)
              clear HK hlt hk
              have HPe := HP2.out x.cost.length
              rw [List.take_length] at HPe
              have HPE := Lib.hid HPe
              clear HPe
              go_wp2_with fail
              refine (tell_any bb _ ⟨#[116, 105, 109, 101]⟩ none 0 0 [] w1 _ HBe.out HT1.out (by decide) (by decide) ⟨rfl, .inl rfl⟩ (by simp) HPE.out).mono ?_
              rintro e w10 ⟨rfl, hb⟩
              have HBf : Hid (Bl w1 bb (List.flatMap lineW (((headI x ++ x.sats.map satW ++ [[tCustomers, itoa (x.cus.length : Int)]] ++ x.cus.map cusW ++ [[tCost]]) ++ x.cost.map rowW) ++ [[tTime]])) w10) := Lib.hid (Bl.line hb rfl)
              clear hb
              have HBs : Hid (Bl w1 bb (List.flatMap lineW ((headI x ++ x.sats.map satW ++ [[tCustomers, itoa (x.cus.length : Int)]] ++ x.cus.map cusW ++ [[tCost]] ++ x.cost.map rowW ++ [[tTime]]) ++ (x.time.take 0).map rowW)) w10) := Lib.hid (by simpa using HBf.out)
              clear HBe HBf HPE
              obtain ⟨-, -, -, -, -, -, -, -, c8⟩ := (HX1.out.later HBs.out.below).cells
              go_wp2_with fail
              clear c8
              go_loopw [101] (fun iv wr => ∃ k : Nat, iv = .int .i64 (k : Int) ∧ k ≤ x.time.length ∧ Hid (Bl w1 bb (List.flatMap lineW ((headI x ++ x.sats.map satW ++ [[tCustomers, itoa (x.cus.length : Int)]] ++ x.cus.map cusW ++ [[tCost]] ++ x.cost.map rowW ++ [[tTime]]) ++ (x.time.take k).map rowW)) wr)) (fun iv _ => x.time.length - (intOf iv).toNat)
              case atStart => exact ⟨0, rfl, Nat.zero_le _, HBs⟩
              case round =>
                obtain ⟨k, rfl, hk, HK⟩ := hrel
                clear HBs
                by_cases hlt : k < x.time.length
                · obtain ⟨b, off, r, ra, rc, hA, hb, hr, hrl, h1, hrn⟩ := (HIW.out.time.later (HX1.out.later HK.out.below).below).at_ hlt
                  have HQ := Lib.hid hr
                  obtain ⟨hr61, hrv⟩ := HRtime.out k r hr
                  have HTC := Lib.hid (tell_any bb _ ⟨#[]⟩ ra r.length rc r w1 wr HK.out HT1.out (by decide) (by omega) (hrn.mono (HX1.out.later HK.out.below).below.size) hrv (HP3.out k))
                  rw [hA]
                  clear hr hA hrn hrv
                  go_wp2_with fail
                  refine HTC.out.mono ?_
                  rintro e w8 ⟨rfl, hb8⟩
                  have HK8 : Hid (Bl w1 bb (List.flatMap lineW (((headI x ++ x.sats.map satW ++ [[tCustomers, itoa (x.cus.length : Int)]] ++ x.cus.map cusW ++ [[tCost]] ++ x.cost.map rowW ++ [[tTime]]) ++ (x.time.take k).map rowW) ++ [rowW r])) w8) := Lib.hid (Bl.line hb8 rfl)
                  clear hb8
                  have HK9 : Hid (Bl w1 bb (List.flatMap lineW ((headI x ++ x.sats.map satW ++ [[tCustomers, itoa (x.cus.length : Int)]] ++ x.cus.map cusW ++ [[tCost]] ++ x.cost.map rowW ++ [[tTime]]) ++ (x.time.take (k + 1)).map rowW)) w8) := Lib.hid (by
                    have h := HK8.out
                    rw [List.take_add_one, HQ.out]
                    simpa using h)
                  clear HK8 HK HTC
                  go_wp2_with fail
                  go_roundw
                  case rel => exact ⟨k + 1, by go_num, by omega, HK9⟩
                  case measure => simp [intOf]; omega
                · obtain rfl : k = x.time.length := by omega
                  have HBe : Hid (Bl w1 bb (List.flatMap lineW ((headI x ++ x.sats.map satW ++ [[tCustomers, itoa (x.cus.length : Int)]] ++ x.cus.map cusW ++ [[tCost]] ++ x.cost.map rowW ++ [[tTime]]) ++ x.time.map rowW)) wr) := Lib.hid (by have h := HK.out; rwa [List.take_length] at h)
                  clear HK hlt hk
                  have HPe := HP3.out x.time.length
                  rw [List.take_length] at HPe
                  have HPE := Lib.hid HPe
                  clear HPe
                  go_wp2_with fail
                  refine (tell_any bb _ ⟨#[101, 110, 100]⟩ none 0 0 [] w1 _ HBe.out HT1.out (by decide) (by decide) ⟨rfl, .inl rfl⟩ (by simp) HPE.out).mono ?_
                  rintro e w11 ⟨rfl, hb⟩
                  have HBf : Hid (Bl w1 bb (List.flatMap lineW (((headI x ++ x.sats.map satW ++ [[tCustomers, itoa (x.cus.length : Int)]] ++ x.cus.map cusW ++ [[tCost]] ++ x.cost.map rowW ++ [[tTime]]) ++ x.time.map rowW) ++ [[tEnd]])) w11) := Lib.hid (Bl.line hb rfl)
                  clear hb
                  obtain ⟨yz, hyz⟩ : ∃ yz, showB x = yz := ⟨_, rfl⟩
                  have HBz : Hid (Bl w1 bb yz w11) := Lib.hid (by have h := HBf.out; rw [HE5.out] at h; rw [← hyz]; exact h)
                  have HYZ := Lib.hid hyz
                  clear hyz HBf
                  have HBX := Lib.hid (HX1.out.below)
                  go_wp2_with (go_at_call 23; refine (bldString_any bb bb yz _ HBz.out.bl HBz.out.room).mono ?_; rintro e w12 ⟨rfl, hb12⟩; have HB12 := Lib.hid (HBX.out.trans ((HBz.out.below.trans (hb12.mono HBz.out.ge)).mono HBX.out.size)); clear hb12)
                  go_ret
                  exact ⟨by rw [HYZ.out]; rfl, HB12.out⟩
end Go.Proofs.YtnnddmojcaicbaaDoor
end

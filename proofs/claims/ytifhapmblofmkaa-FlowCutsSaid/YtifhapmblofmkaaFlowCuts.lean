/- The walk of the law on Cut (of package flow). -/
import Derived.Test.YtifhapmblofmkaaFlowMosts
import Derived.Test.YtifhapmblofmkaaFAwake
import Derived.Test.YtifhapmblofmkaaResid
import Derived.StillTailTactics
import Derived.Laws.CopyOwn
import Derived.Laws.IdiomCopy
namespace Go.Proofs.Ytifhapmblofmkaa
open Go.RowKit

variable {len cap N g s t k m c0 C pb fb xl q rd : Nat} {l : List Pi} {w wa wr w2 : World} {a b : Option Addr} {much f0 t0 r0 : Int} {fl f : Nat → Int} {lv : Value} {zs : List Int} {c : Nat → Bool} {S : Nat → Prop}
theorem infoLong9 : (Try.prog.info? 2).map (·.size) = some 1 := by kernel_rfl
theorem infoBool9 : (Try.prog.info? 4).map (fun i => (i.zero, i.size, i.bytes)) = some (some (.bool false), 1, 1) := by kernel_rfl
/-- copy of what came in into a row that was just made: as many as there are, and as there is room for. -/
theorem copy_nums {sT ty : TypeId} {cc : Nat} (hi : IsNums w.heap.size w b m zs) (hg : w.heap[g]? = some (.cells (madeCells #[.int .i64 0] N) 2 (0, 0))) :
    ∃ (k : Nat) (w4 : World), (Builtin.copy_ #[30, sT] ty #[.slice (some ⟨g, 0, none⟩) N N, .slice b m cc]).run Try.prog w = .ok (.int .i64 (k : Int)) w4 ∧ w4.rowIs g 2 N (fun i => .int .i64 (zs.getD i 0)) ∧ Below g w w4 := by
  obtain ⟨k, hk⟩ : ∃ k, k = Nat.min m N := ⟨_, rfl⟩
  have hkm : k ≤ m := by rw [hk]; exact Nat.min_le_left _ _
  have hkN : k ≤ N := by rw [hk]; exact Nat.min_le_right _ _
  have hkk : k = m ∨ k = N := by
    rcases Nat.le_total m N with h | h
    · exact .inl (hk.trans (Nat.min_eq_left h))
    · exact .inr (hk.trans (Nat.min_eq_right h))
  refine ⟨k, ?_⟩
  by_cases h0 : k = 0
  · have hc := run_copy_none (P := Try.prog) w 30 sT ty 2 (some ⟨g, 0, none⟩) b N N m cc Try.underlying30 infoLong9 (hk.symm.trans h0)
    rw [h0]
    refine ⟨w, hc, ⟨_, hg, size_madeCells _ _, fun i hi2 => ?_⟩, Below.refl _ _⟩
    have hz : zs = [] := List.eq_nil_of_length_eq_zero (by rw [hi.1]; omega)
    subst hz
    simp [madeCells, hi2, Nat.mod_one]
  · obtain ⟨hl, hr⟩ := hi
    rcases hr with hr | ⟨bb, off, rfl, hb, hr⟩
    · omega
    · have hlen : (zs.take k).length = k := by rw [List.length_take]; omega
      have hc := run_copy_row (P := Try.prog) w 30 sT ty 2 g 0 N N ⟨bb, off, none⟩ m cc _ 2 ((zs.take k).map (Value.int .i64)) Try.underlying30 infoLong9 hg (by rw [List.length_map, hlen]; exact hk) (fun j v hj => by
        rw [List.getElem?_map] at hj
        cases hx : (zs.take k)[j]? with
        | none => rw [hx] at hj; cases hj
        | some x =>
          rw [hx] at hj
          injection hj with hj
          subst hj
          rw [Addr.add_lit]
          rw [List.getElem?_take] at hx
          by_cases hjN : j < k
          · rw [if_pos hjN] at hx; exact hr j x hx
          · rw [if_neg hjN] at hx; cases hx) (by rw [List.length_map, hlen, size_madeCells]; omega) (fun v hv => by
        rw [List.mem_map] at hv
        obtain ⟨y, _, rfl⟩ := hv
        rfl)
      rw [List.length_map, hlen] at hc
      refine ⟨_, hc, ⟨_, setRow_heap _ _ _ _ _ _ hg, ?_, fun i hi => ?_⟩, below_setRow (Below.refl _ _) (Nat.le_refl _) _⟩
      · simp only [List.take_zero, List.nil_append, List.size_toArray, List.length_append, List.length_map, hlen, List.length_drop, Array.length_toList, size_madeCells, Nat.zero_add]
        omega
      · simp only [List.take_zero, List.nil_append, List.getElem?_toArray, Nat.zero_add]
        by_cases him : i < k
        · have hx : zs[i]? = some (zs[i]'(by omega)) := List.getElem?_eq_getElem (by omega)
          rw [List.getElem?_append_left (by rw [List.length_map, hlen]; exact him), List.getElem?_map, List.getElem?_take, if_pos him, hx]
          simp [List.getD, hx]
        · have hn : zs[i]? = none := List.getElem?_eq_none (by omega)
          rw [List.getElem?_append_right (by rw [List.length_map, hlen]; omega), List.length_map, hlen, List.getElem?_drop, Array.getElem?_toList]
          have e : k + (i - k) = i := by omega
          rw [e]
          simp [madeCells, hi, hn, List.getD, Nat.mod_one]
/-- The marks, behind all else. -/
structure CW9 (wa wr : World) (C N : Nat) (c : Nat → Bool) : Prop where
  below : Below wa.heap.size wa wr
  marks : wr.rowIs C 4 N (fun i => .bool (c i))
  base : wa.heap.size = C
theorem CW9.later (h : CW9 wa wr C N c) (hb : Below wr.heap.size wr w2) : CW9 wa w2 C N c := ⟨h.below.trans (hb.mono h.below.size), rowIs_below h.marks hb, h.base⟩
theorem CW9.mark (h : CW9 wa wr C N c) (k : Nat) : CW9 wa (wr.setCell ⟨C, k, none⟩ (.bool true)) C N (setC c k) :=
  ⟨h.below.setCell (p := ⟨C, k, none⟩) (by rw [h.base]; exact Nat.le_refl _) _, (h.marks.set k (.bool true)).congr (fun i _ => by by_cases e : i = k <;> simp [setC, e]), h.base⟩
theorem CW9.same {v : Bool} (h : CW9 wa wr C N c) (hv : c k = v) : CW9 wa (wr.setCell ⟨C, k, none⟩ (.bool v)) C N c :=
  ⟨h.below.setCell (p := ⟨C, k, none⟩) (by rw [h.base]; exact Nat.le_refl _) _, (h.marks.set k (.bool v)).congr (fun i _ => by
    by_cases e : i = k
    · subst e; simp [hv]
    · simp [e]), h.base⟩
theorem CW9.start (wa : World) (N s : Nat) : CW9 wa (wa.alloc (.cells ((madeCells #[.bool false] N).setIfInBounds s (.bool true)) 4)) wa.heap.size N (setC (fun _ => false) s) := by
  have e1 : wa.alloc (.cells ((madeCells #[.bool false] N).setIfInBounds s (.bool true)) 4) = (wa.alloc (.cells (madeCells #[.bool false] N) 4)).setCell ⟨wa.heap.size, s, none⟩ (.bool true) := (World.setCell_alloc_at _ _ _ _ _ rfl).symm
  rw [e1]
  have h0 : CW9 wa (wa.alloc (.cells (madeCells #[.bool false] N) 4)) wa.heap.size N (fun _ => false) := ⟨(Below.refl _ _).alloc (Nat.le_refl _) _, World.rowIs_made _ _ _ _, rfl⟩
  exact h0.mark s
/-- And the pipe of the round. -/
structure RW9 (wa wr : World) (C N : Nat) (c : Nat → Bool) (pb : Nat) (f0 t0 r0 : Int) : Prop where
  cw : CW9 wa wr C N c
  p0 : wr.cell? ⟨pb, 0, none⟩ = some (.int .i64 f0)
  p1 : wr.cell? ⟨pb, 1, none⟩ = some (.int .i64 t0)
  p2 : wr.cell? ⟨pb, 2, none⟩ = some (.int .i64 r0)
  ne : C < pb
  lt : pb < wr.heap.size
theorem RW9.later (h : RW9 wa wr C N c pb f0 t0 r0) (hb : Below wr.heap.size wr w2) : RW9 wa w2 C N c pb f0 t0 r0 :=
  ⟨h.cw.later hb, (hb.cell (p := ⟨pb, 0, none⟩) h.lt).trans h.p0, (hb.cell (p := ⟨pb, 1, none⟩) h.lt).trans h.p1, (hb.cell (p := ⟨pb, 2, none⟩) h.lt).trans h.p2, h.ne, Nat.lt_of_lt_of_le h.lt hb.size⟩
theorem RW9.set_ {c2 : Nat → Bool} (h : RW9 wa wr C N c pb f0 t0 r0) (k : Nat) (v : Value) (hc : CW9 wa (wr.setCell ⟨C, k, none⟩ v) C N c2) : RW9 wa (wr.setCell ⟨C, k, none⟩ v) C N c2 pb f0 t0 r0 := by
  have hm : Mod (fun b => b = C) wr (wr.setCell ⟨C, k, none⟩ v) := (Mod.refl (fun b => b = C) wr).setCell (p := ⟨C, k, none⟩) (.inr rfl) v
  have hne := h.ne
  exact ⟨hc, (hm.cell (p := ⟨pb, 0, none⟩) h.lt (by simp only; omega)).trans h.p0, (hm.cell (p := ⟨pb, 1, none⟩) h.lt (by simp only; omega)).trans h.p1, (hm.cell (p := ⟨pb, 2, none⟩) h.lt (by simp only; omega)).trans h.p2, h.ne, Nat.lt_of_lt_of_le h.lt hm.size⟩
theorem RW9.mark (h : RW9 wa wr C N c pb f0 t0 r0) (k : Nat) : RW9 wa (wr.setCell ⟨C, k, none⟩ (.bool true)) C N (setC c k) pb f0 t0 r0 := h.set_ k _ (h.cw.mark k)
theorem RW9.same_t {v : Bool} (h : RW9 wa wr C N c pb f0 t0 r0) (hv : c k = v) : RW9 wa (wr.setCell ⟨C, k, none⟩ (.bool v)) C N c pb f0 t0 r0 := h.set_ k _ (h.cw.same hv)
theorem RW9.same_f {v : Bool} (h : RW9 wa wr C N c pb f0 t0 r0) (hv : c k = v) : RW9 wa (wr.setCell ⟨C, k, none⟩ (.bool v)) C N c pb f0 t0 r0 := h.set_ k _ (h.cw.same hv)
theorem RW9.make (h : CW9 wa wr C N c) (f t r d : Int) : RW9 wa (wr.alloc (.cells #[.int .i64 f, .int .i64 t, .int .i64 r, .int .i64 d] 40)) C N c wr.heap.size f t r :=
  ⟨h.later ((Below.refl _ _).alloc (Nat.le_refl _) _), by simp, by simp, by simp, h.marks.lt, by simp⟩
theorem boolRow_of {B : Nat} (h : w.rowIs g 4 N (fun i => .bool (c i))) (hB : B ≤ g) (hN : N ≤ maxLen) : BoolRow w B (.slice (some ⟨g, 0, none⟩) N N) N c := by
  obtain ⟨d, hb, hn, hc⟩ := h
  refine ⟨by rw [boolF_length, Nat.mul_one], .inr ⟨g, N, d, rfl, hB, hb, Nat.le_refl _, hN, by rw [Nat.mul_one]; exact hn, ?_⟩⟩
  rw [Nat.mul_one, List.take_of_length_le (by simp [hn])]
  apply List.ext_getElem?
  intro i
  rw [Array.getElem?_toList]
  by_cases hi : i < N
  · rw [hc i hi, boolF_get _ hi]
  · rw [Array.getElem?_eq_none (by omega), List.getElem?_eq_none (by rw [boolF_length]; omega)]
theorem nums_of (h : w.rowIs g 2 N (fun i => .int .i64 (f i))) : IsNums w.heap.size w (some ⟨g, 0, none⟩) N ((List.range N).map f) := by
  refine ⟨by simp, .inr ⟨g, 0, rfl, h.lt, fun j x hx => ?_⟩⟩
  have hj : j < N := by have := (List.getElem?_eq_some_iff.1 hx).1; simpa using this
  simp [hj] at hx
  subst hx
  rw [Nat.zero_add]
  exact h.cell hj
/-- Cut, where it tells. -/
theorem FlowSpec.cut9 (P : FlowSpec) (hN : 2 ≤ N) (hc : checkP (N : Int) l = 0) (hs : s < N) (hxl : l.length = xl) (cap cc : Nat) (a b : Option Addr) (w : World) (hl : IsPipes w.heap.size w a xl l) (hi : IsNums w.heap.size w b xl ((List.range xl).map f)) :
    Calls Try.prog 15 #[.agg #[.int .i64 (N : Int), .slice a xl cap], .slice b xl cc, .int .i64 (s : Int)] w fun e w' => Below w.heap.size w w' ∧ ∃ g c2 d, e = .returned (.slice (some ⟨g, 0, none⟩) N c2) ∧ BoolRow w' w.heap.size (.slice (some ⟨g, 0, none⟩) N c2) N d ∧ ∀ i, i < N → (d i = true ↔ Res l f s i) := by
  subst hxl
  exact (P.cut_ok N s l.length cap l a cc _ b w hc hs hl hi).mono fun e w' ⟨hb, v, d, he, hr, hd⟩ => ⟨hb, by
    obtain ⟨g, c2, hv, _⟩ := owns_some hr (by omega)
    subst hv
    have hf : ∀ k, k < l.length → flOf ((List.range l.length).map f) k = f k := flOf_rowF rfl
    exact ⟨g, c2, d, he, hr, fun i hi => ⟨fun h => ((hd i hi).1 h).congr hf, fun h => (hd i hi).2 (h.congr (fun k hk => (hf k hk).symm))⟩⟩⟩

attribute [local irreducible] wpStill
set_option maxHeartbeats 8000000 in
set_option maxRecDepth 100000 in
theorem flowCuts_walk (P : FlowSpec) (hawake : ∀ w, Calls Try.prog 8 #[] w fun e w' => e = .returned (.bool true) ∧ Below w.heap.size w w')
    (n : Int) (hn : (Lit.int .u8 n).wf = true) (a : Option Addr) (cap : Nat) (p : Int) (hp : (Lit.int .u8 p).wf = true) (q : Int) (hq : (Lit.int .u8 q).wf = true) (b : Option Addr) (cb : Nat) (w : World) (hbig : len ≤ maxLen) (hl : IsLP w.heap.size w a len l) (_hbm : m ≤ maxLen) (hi : IsNums w.heap.size w b m zs) :
    Calls Try.prog 4 #[.int .u8 n, .slice a len cap, .int .u8 p, .int .u8 q, .slice b m cb] w fun e w' => e = .returned (.bool true) ∧ Below w.heap.size w w' := by
  unfold maxLen at hbig
  obtain ⟨⟨hn1, hn2⟩, N, hN, hN1, hN6⟩ := law_net hn
  have hp2 := law_u8 hp
  have hq2 := law_u8 hq
  clear hn hp hq
  have HM := Lib.hid (fun W (h : IsLP W.heap.size W a len l) => net_any n hn1 (by omega) a cap W hbig h)
  have HO := Lib.hid (net_ok (N := N) (by omega) hN6 hl.small len)
  have HL := Lib.hid hl; clear hl
  have HI := Lib.hid hi; clear hi
  rw [hN] at HM
  clear hN hn1 hn2
  generalize pipesTo (N : Int) l len = xs at HM HO
  have hxl := HO.out.short
  have HP := Lib.hid hp2
  have HQ := Lib.hid hq2
  have hmk := run_make_row' (P := Try.prog) 30 2 (.int .i64 0) 8 Try.underlying30 infoLong rfl .i64 .i64 xs.length (by omega) (by omega)
  have hmk2 := run_make_row' (P := Try.prog) 38 4 (.bool false) 1 Try.underlying38 infoBool9 rfl .i64 .i64 N (by omega) (by omega)
  clear hp2 hq2
  go_enter Try.func4, Try.ntmps4
  go_wp2_with (first
    | (go_at_call 8; refine (hawake _).mono ?_; rintro e w1 ⟨rfl, hb1⟩; have HB1 := Lib.hid hb1; clear hb1)
    | (go_at_call 9; refine (HM.out _ ((HL.out.later HB1.out).mono HB1.out.size)).mono ?_; rintro e w2 ⟨lv, rfl, hrow, hb2⟩; obtain ⟨la, lc, hv⟩ := owns_shape hrow; subst hv; have HB2 := Lib.hid (HB1.out.trans (hb2.mono HB1.out.size)); have HX3 : Hid (NPA w (w2.alloc (.cells #[.int .i64 (N : Int), .slice la xs.length lc] 26)) w2.heap.size N la xs.length lc xs) := Lib.hid ⟨NBox.make HB2.out (N : Int) la xs.length lc, ((owns_pipes hrow).2.later ((Below.refl _ w2).alloc (Nat.le_refl _) (.cells #[.int .i64 (N : Int), .slice la xs.length lc] 26))).mono (by simp)⟩; clear hrow hb2)
    | (go_at_call 10; refine (ends_law N hN1 hN6 p q HP.out HQ.out la xs.length lc _).mono ?_; rintro e w3 ⟨hb3, s, tn, rfl, hs, htn, hst⟩; have HX4 := Lib.hid ((HX3.out.later hb3).later ((Below.refl _ w3).alloc (Nat.le_refl _) (.cells (madeCells #[.int .i64 0] xs.length) 2))); have x1 := (HX3.out.later hb3).box.c1; have HST := Lib.hid hst; obtain ⟨kc, w4, hcp, hrow4, hb4⟩ := copy_nums (b := b) (m := m) (zs := zs) (cc := cb) (sT := 30) (ty := 3) ((HI.out.later HX4.out.box.below).mono HX4.out.box.below.size) (heap_alloc_new w3 (.cells (madeCells #[.int .i64 0] xs.length) 2)); have HF4 := Lib.hid hrow4; have HX5 : Hid (NPA w w4 w2.heap.size N la xs.length lc xs) := Lib.hid (by
        have hlt := (HX3.out.later hb3).box.lt
        have hbl := HX4.out.box.below
        refine ⟨⟨hbl.trans (hb4.mono (Nat.le_trans (HX3.out.later hb3).box.below.size (Nat.le_refl _))), HX4.out.box.ge, (hb4.block _ hlt).trans HX4.out.box.blk⟩, ?_⟩
        exact (((HX3.out.later hb3).pipes.later (((Below.refl _ w3).alloc (Nat.le_refl _) (.cells (madeCells #[.int .i64 0] xs.length) 2)).trans hb4)).mono (Nat.le_trans (by simp) hb4.size))); have y0 := HX5.out.box.c0; have hfb : w3.heap.size < w4.heap.size := HF4.out.lt; have m0 := (World.rowIs_made w4 (.bool false) N 4).cell hs; have m1 := (World.rowIs_made w4 (.bool false) N 4).frozen s; have y1 := (HX5.out.box.alloc (.cells (madeCells #[.bool false] N) 4)).c0; have y2 := (HX5.out.box.alloc (.cells ((madeCells #[.bool false] N).setIfInBounds s (.bool true)) 4)).c0; clear hb3 hst hrow4 hb4))
  obtain ⟨fl, hfl⟩ : ∃ fl : Nat → Int, (fun i => zs.getD i 0) = fl := ⟨_, rfl⟩
  have hfl2 : (fun i => Value.int .i64 (zs.getD i 0)) = fun i => Value.int .i64 (fl i) := by rw [← hfl]
  rw [hfl2] at HF4
  have HC0 := Lib.hid (CW9.start w4 N s)
  have HR0 := Lib.hid (RRounds.begin_ (l := xs) (fl := fl) hs)
  obtain ⟨C, hC⟩ : ∃ C, w4.heap.size = C := ⟨_, rfl⟩
  obtain ⟨fb, hfbb⟩ : ∃ fb, w3.heap.size = fb := ⟨_, rfl⟩
  obtain ⟨xl, hxll⟩ : ∃ xl, xs.length = xl := ⟨_, rfl⟩
  rw [hfbb, hxll] at HF4
  rw [hC] at HC0 ⊢
  rw [hxll] at HX3 HX4 HX5 hxl ⊢
  rw [hfbb]
  have HXL := Lib.hid hxll
  have HFL : Hid (∀ wr, Below w4.heap.size w4 wr → ∀ k, k < xl → wr.cell? ⟨fb, k, none⟩ = some (.int .i64 (fl k))) := Lib.hid (fun wr hb k hk => (rowIs_below HF4.out hb).cell hk)
  clear hmk hmk2 hcp x1 y0 y1 y2 m0 m1 hfb hfl hfl2 hC hfbb hxll
  go_loopw [52] (fun iv wr => ∃ (rd : Nat) (c : Nat → Bool), iv = .int .i64 rd ∧ rd ≤ N ∧ Hid (CW9 w4 wr C N c) ∧ Hid (RRounds xs fl N s c rd)) (fun iv _ => N - (intOf iv).toNat)
  case atStart => exact ⟨0, _, rfl, Nat.zero_le _, HC0, HR0⟩
  case round =>
    obtain ⟨rd, c, rfl, hrd, HC, HR⟩ := hrel
    clear HC0 HR0
    by_cases hltr : rd < N
    · have x1 := (HX5.out.later HC.out.below).box.c1
      have HP0 := Lib.hid HR.out.pass
      go_wp2_with fail
      clear x1
      go_loopw [57] (fun kv wr => ∃ (k : Nat) (c : Nat → Bool), kv = .int .i64 k ∧ k ≤ xl ∧ Hid (CW9 w4 wr C N c) ∧ Hid (RPass xs fl N s c rd (2 * k))) (fun kv _ => xl - (intOf kv).toNat)
      case atStart => exact ⟨0, _, rfl, Nat.zero_le _, HC, HP0⟩
      case round =>
        clear HC HR HP0
        obtain ⟨k, c, rfl, hk, HC, HP⟩ := hrel
        by_cases hltk : k < xl
        · obtain ⟨bp, op, x, rfl, _, hx, e0, e1, e2, e3⟩ := ((HX5.out.later HC.out.below).pipes).at_ hltk
          have hxok := okP_true.1 (HO.out.ok x (List.mem_of_getElem? hx))
          have HXX := Lib.hid hx
          clear hx
          obtain ⟨f0, t0, r, d⟩ := x
          simp only at e0 e1 e2 e3 hxok
          obtain ⟨f, rfl⟩ : ∃ f : Nat, f0 = (f : Int) := ⟨f0.toNat, by omega⟩
          obtain ⟨t, rfl⟩ : ∃ t : Nat, t0 = (t : Int) := ⟨t0.toNat, by omega⟩
          have hf : f < N := by omega
          have ht : t < N := by omega
          have hf1 : (0 : Int) ≤ (f : Int) := by omega
          have hf2 : (f : Int) < (N : Int) := by omega
          have ht1 : (0 : Int) ≤ (t : Int) := by omega
          have ht2 : (t : Int) < (N : Int) := by omega
          have hkl : k < xs.length := by have := HXL.out; omega
          clear hxok
          obtain ⟨z, hz0⟩ : ∃ z, fl k = z := ⟨_, rfl⟩
          have HFZ := Lib.hid hz0
          have HX1 := Lib.hid (RW9.make HC.out (f : Int) (t : Int) r d)
          obtain ⟨pb, hpb⟩ : ∃ pb, wr.heap.size = pb := ⟨_, rfl⟩
          have ez := HFL.out _ HX1.out.cw.below k hltk
          rw [HFZ.out] at ez
          have d0 := HX1.out.p0
          have d1 := HX1.out.p1
          have d2 := HX1.out.p2
          rw [hpb] at HX1
          clear hz0 HC
          by_cases hzr : z < r
          · have hsf := step_forth HXX.out rfl rfl (fl := fl)
            rw [if_pos (show fl k < r by rw [HFZ.out]; exact hzr)] at hsf
            have HSF := Lib.hid hsf
            have hzb : decide (z < r) = true := by simpa using hzr
            clear hsf
            go_wp2_with fail
            go_quiet (fail)
            obtain ⟨w2, hw2⟩ : ∃ w2, w2 = World.drew ((wr.alloc (.cells #[.int .i64 (f : Int), .int .i64 (t : Int), .int .i64 r, .int .i64 d] 40)).drewN nq) := ⟨_, rfl⟩
            have HX2 : Hid (RW9 w4 w2 C N c pb (f : Int) (t : Int) r) := Lib.hid (by rw [hw2]; exact HX1.out.later (below_drewN (Below.refl _ _) nq).drew)
            clear ez d0 d1 d2
            have d0 := HX2.out.p0
            have d1 := HX2.out.p1
            have ez := HFL.out _ HX2.out.cw.below k hltk
            rw [HFZ.out] at ez
            have cf := HX2.out.cw.marks.cell hf
            have ct := HX2.out.cw.marks.cell ht
            have ft := HX2.out.cw.marks.frozen t
            go_wp2_with fail
            refine wp_region_still_tail 16 (by kernel_rfl) (by kernel_rfl) ?_
            simp only [List.take_succ_cons, List.take_zero, List.drop_succ_cons, List.drop_zero]
            change wpStill _ _ (World.drew ((wr.alloc (.cells #[.int .i64 (f : Int), .int .i64 (t : Int), .int .i64 r, .int .i64 d] 40)).drewN nq)) (fun a' => wpList _ _ _ _ a' (World.drew ((wr.alloc (.cells #[.int .i64 (f : Int), .int .i64 (t : Int), .int .i64 r, .int .i64 d] 40)).drewN nq))) _ _
            rw [← hw2]
            clear hw2
            cases hct : c t with
            | true =>
              rw [hct] at ct
              have HP1 := Lib.hid (HP.out.skip (fun f2 t2 h2 _ => by rw [HSF.out] at h2; cases h2; exact hct))
              have HS1 := Lib.hid (HX2.out.same_t hct)
              repeat still_step
              refine wpStill_nil ?_
              clear ez
              have ez := HFL.out _ HS1.out.cw.below k hltk
              rw [HFZ.out] at ez
              by_cases hz : 0 < z
              · have hsb := step_back HXX.out rfl rfl (fl := fl)
                rw [if_pos (show 0 < fl k by rw [HFZ.out]; exact hz)] at hsb
                have HSB := Lib.hid hsb
                clear hsb
                go_wp2_with fail
                obtain ⟨w3, hw3⟩ : ∃ w3, w2.setCell ⟨C, t, none⟩ (.bool true) = w3 := ⟨_, rfl⟩
                rw [hw3] at HS1 ez ⊢
                clear hw3
                obtain ⟨w5, hw5⟩ : ∃ w5, w5 = World.drew w3 := ⟨_, rfl⟩
                have HX5 : Hid (RW9 w4 w5 C N c pb (f : Int) (t : Int) r) := Lib.hid (by rw [hw5]; exact HS1.out.later (Below.refl _ _).drew)
                have d0 := HX5.out.p0
                have d1 := HX5.out.p1
                have cf := HX5.out.cw.marks.cell hf
                have ct := HX5.out.cw.marks.cell ht
                have ff := HX5.out.cw.marks.frozen f
                refine wp_region_still_tail 16 (by kernel_rfl) (by kernel_rfl) ?_
                simp only [List.take_succ_cons, List.take_zero, List.drop_succ_cons, List.drop_zero]
                change wpStill _ _ (World.drew w3) (fun a' => wpList _ _ _ _ a' (World.drew w3)) _ _
                rw [← hw5]
                clear hw5
                cases hcf2 : (c) f with
                | true =>
                  rw [hcf2] at cf
                  have HN := Lib.hid (HP1.out.skip (fun f2 t2 h2 _ => by rw [HSB.out] at h2; cases h2; exact hcf2))
                  have HS := Lib.hid (HX5.out.same_f hcf2)
                  clear hcf2
                  repeat still_step
                  refine wpStill_nil ?_
                  go_wp2_with fail
                  go_roundw
                  case rel => exact ⟨k + 1, _, by go_num, by omega, Lib.hid HS.out.cw, HN⟩
                  case measure => simp [intOf]; omega
                | false =>
                  cases hct2 : (c) t with
                  | true =>
                    rw [hcf2] at cf
                    rw [hct2] at ct
                    have HN := Lib.hid (HP1.out.mark HO.out.ok (by omega) HSB.out ht hct2 hcf2)
                    have HS := Lib.hid (HX5.out.mark f)
                    clear hcf2 hct2
                    repeat still_step
                    refine wpStill_nil ?_
                    go_wp2_with fail
                    go_roundw
                    case rel => exact ⟨k + 1, _, by go_num, by omega, Lib.hid HS.out.cw, HN⟩
                    case measure => simp [intOf]; omega
                  | false =>
                    exact absurd hct2 (by simp [hct])
              · have hsb := step_back HXX.out rfl rfl (fl := fl)
                rw [if_neg (show ¬ 0 < fl k by rw [HFZ.out]; exact hz)] at hsb
                have HN := Lib.hid (HP1.out.skip (fun f2 t2 h2 _ => by rw [hsb] at h2; cases h2))
                clear hsb
                go_wp2_with fail
                go_roundw
                case rel => exact ⟨k + 1, _, by go_num, by omega, Lib.hid HS1.out.cw, HN⟩
                case measure => simp [intOf]; omega
            | false =>
              cases hcf : c f with
              | true =>
                rw [hct] at ct
                rw [hcf] at cf
                have HP1 := Lib.hid (HP.out.mark HO.out.ok (by omega) HSF.out hf hcf hct)
                have HS1 := Lib.hid (HX2.out.mark t)
                repeat still_step
                refine wpStill_nil ?_
                clear ez
                have ez := HFL.out _ HS1.out.cw.below k hltk
                rw [HFZ.out] at ez
                by_cases hz : 0 < z
                · have hsb := step_back HXX.out rfl rfl (fl := fl)
                  rw [if_pos (show 0 < fl k by rw [HFZ.out]; exact hz)] at hsb
                  have HSB := Lib.hid hsb
                  clear hsb
                  go_wp2_with fail
                  obtain ⟨w3, hw3⟩ : ∃ w3, w2.setCell ⟨C, t, none⟩ (.bool true) = w3 := ⟨_, rfl⟩
                  rw [hw3] at HS1 ez ⊢
                  clear hw3
                  obtain ⟨w5, hw5⟩ : ∃ w5, w5 = World.drew w3 := ⟨_, rfl⟩
                  have HX5 : Hid (RW9 w4 w5 C N (setC c t) pb (f : Int) (t : Int) r) := Lib.hid (by rw [hw5]; exact HS1.out.later (Below.refl _ _).drew)
                  have d0 := HX5.out.p0
                  have d1 := HX5.out.p1
                  have cf := HX5.out.cw.marks.cell hf
                  have ct := HX5.out.cw.marks.cell ht
                  have ff := HX5.out.cw.marks.frozen f
                  refine wp_region_still_tail 16 (by kernel_rfl) (by kernel_rfl) ?_
                  simp only [List.take_succ_cons, List.take_zero, List.drop_succ_cons, List.drop_zero]
                  change wpStill _ _ (World.drew w3) (fun a' => wpList _ _ _ _ a' (World.drew w3)) _ _
                  rw [← hw5]
                  clear hw5
                  cases hcf2 : ((setC c t)) f with
                  | true =>
                    rw [hcf2] at cf
                    have HN := Lib.hid (HP1.out.skip (fun f2 t2 h2 _ => by rw [HSB.out] at h2; cases h2; exact hcf2))
                    have HS := Lib.hid (HX5.out.same_f hcf2)
                    clear hcf2
                    repeat still_step
                    refine wpStill_nil ?_
                    go_wp2_with fail
                    go_roundw
                    case rel => exact ⟨k + 1, _, by go_num, by omega, Lib.hid HS.out.cw, HN⟩
                    case measure => simp [intOf]; omega
                  | false =>
                    exact absurd hcf2 (by simp [setC, hcf])
                · have hsb := step_back HXX.out rfl rfl (fl := fl)
                  rw [if_neg (show ¬ 0 < fl k by rw [HFZ.out]; exact hz)] at hsb
                  have HN := Lib.hid (HP1.out.skip (fun f2 t2 h2 _ => by rw [hsb] at h2; cases h2))
                  clear hsb
                  go_wp2_with fail
                  go_roundw
                  case rel => exact ⟨k + 1, _, by go_num, by omega, Lib.hid HS1.out.cw, HN⟩
                  case measure => simp [intOf]; omega
              | false =>
                rw [hct] at ct
                rw [hcf] at cf
                have HP1 := Lib.hid (HP.out.skip (fun f2 t2 h2 h3 => by rw [HSF.out] at h2; cases h2; rw [hcf] at h3; cases h3))
                have HS1 := Lib.hid (HX2.out.same_t hct)
                repeat still_step
                refine wpStill_nil ?_
                clear ez
                have ez := HFL.out _ HS1.out.cw.below k hltk
                rw [HFZ.out] at ez
                by_cases hz : 0 < z
                · have hsb := step_back HXX.out rfl rfl (fl := fl)
                  rw [if_pos (show 0 < fl k by rw [HFZ.out]; exact hz)] at hsb
                  have HSB := Lib.hid hsb
                  clear hsb
                  go_wp2_with fail
                  obtain ⟨w3, hw3⟩ : ∃ w3, w2.setCell ⟨C, t, none⟩ (.bool false) = w3 := ⟨_, rfl⟩
                  rw [hw3] at HS1 ez ⊢
                  clear hw3
                  obtain ⟨w5, hw5⟩ : ∃ w5, w5 = World.drew w3 := ⟨_, rfl⟩
                  have HX5 : Hid (RW9 w4 w5 C N c pb (f : Int) (t : Int) r) := Lib.hid (by rw [hw5]; exact HS1.out.later (Below.refl _ _).drew)
                  have d0 := HX5.out.p0
                  have d1 := HX5.out.p1
                  have cf := HX5.out.cw.marks.cell hf
                  have ct := HX5.out.cw.marks.cell ht
                  have ff := HX5.out.cw.marks.frozen f
                  refine wp_region_still_tail 16 (by kernel_rfl) (by kernel_rfl) ?_
                  simp only [List.take_succ_cons, List.take_zero, List.drop_succ_cons, List.drop_zero]
                  change wpStill _ _ (World.drew w3) (fun a' => wpList _ _ _ _ a' (World.drew w3)) _ _
                  rw [← hw5]
                  clear hw5
                  cases hcf2 : (c) f with
                  | true =>
                    exact absurd hcf2 (by simp [hcf])
                  | false =>
                    cases hct2 : (c) t with
                    | true =>
                      exact absurd hct2 (by simp [hct])
                    | false =>
                      rw [hcf2] at cf
                      rw [hct2] at ct
                      have HN := Lib.hid (HP1.out.skip (fun f2 t2 h2 h3 => by rw [HSB.out] at h2; cases h2; rw [hct2] at h3; cases h3))
                      have HS := Lib.hid (HX5.out.same_f hcf2)
                      clear hcf2 hct2
                      repeat still_step
                      refine wpStill_nil ?_
                      go_wp2_with fail
                      go_roundw
                      case rel => exact ⟨k + 1, _, by go_num, by omega, Lib.hid HS.out.cw, HN⟩
                      case measure => simp [intOf]; omega
                · have hsb := step_back HXX.out rfl rfl (fl := fl)
                  rw [if_neg (show ¬ 0 < fl k by rw [HFZ.out]; exact hz)] at hsb
                  have HN := Lib.hid (HP1.out.skip (fun f2 t2 h2 _ => by rw [hsb] at h2; cases h2))
                  clear hsb
                  go_wp2_with fail
                  go_roundw
                  case rel => exact ⟨k + 1, _, by go_num, by omega, Lib.hid HS1.out.cw, HN⟩
                  case measure => simp [intOf]; omega
          · have hsf := step_forth HXX.out rfl rfl (fl := fl)
            rw [if_neg (show ¬ fl k < r by rw [HFZ.out]; exact hzr)] at hsf
            have HP1 := Lib.hid (HP.out.skip (fun f2 t2 h2 _ => by rw [hsf] at h2; cases h2))
            have hzb : decide (z < r) = false := by simpa using hzr
            clear hsf
            go_wp2_with fail
            go_quiet (fail)
            have HS1 := Lib.hid (HX1.out.later (below_drewN (Below.refl _ _) nq))
            generalize ((wr.alloc (.cells #[.int .i64 (f : Int), .int .i64 (t : Int), .int .i64 r, .int .i64 d] 40)).drewN nq) = w3 at HS1 ⊢
            clear ez d0 d1 d2
            have d0 := HS1.out.p0
            have d1 := HS1.out.p1
            have d2 := HS1.out.p2
            have ez := HFL.out _ HS1.out.cw.below k hltk
            rw [HFZ.out] at ez
            by_cases hz : 0 < z
            · have hsb := step_back HXX.out rfl rfl (fl := fl)
              rw [if_pos (show 0 < fl k by rw [HFZ.out]; exact hz)] at hsb
              have HSB := Lib.hid hsb
              clear hsb
              go_wp2_with fail
              obtain ⟨w5, hw5⟩ : ∃ w5, w5 = World.drew w3 := ⟨_, rfl⟩
              have HX5 : Hid (RW9 w4 w5 C N c pb (f : Int) (t : Int) r) := Lib.hid (by rw [hw5]; exact HS1.out.later (Below.refl _ _).drew)
              have d0 := HX5.out.p0
              have d1 := HX5.out.p1
              have cf := HX5.out.cw.marks.cell hf
              have ct := HX5.out.cw.marks.cell ht
              have ff := HX5.out.cw.marks.frozen f
              refine wp_region_still_tail 16 (by kernel_rfl) (by kernel_rfl) ?_
              simp only [List.take_succ_cons, List.take_zero, List.drop_succ_cons, List.drop_zero]
              change wpStill _ _ (World.drew w3) (fun a' => wpList _ _ _ _ a' (World.drew w3)) _ _
              rw [← hw5]
              clear hw5
              cases hcf2 : (c) f with
              | true =>
                rw [hcf2] at cf
                have HN := Lib.hid (HP1.out.skip (fun f2 t2 h2 _ => by rw [HSB.out] at h2; cases h2; exact hcf2))
                have HS := Lib.hid (HX5.out.same_f hcf2)
                clear hcf2
                repeat still_step
                refine wpStill_nil ?_
                go_wp2_with fail
                go_roundw
                case rel => exact ⟨k + 1, _, by go_num, by omega, Lib.hid HS.out.cw, HN⟩
                case measure => simp [intOf]; omega
              | false =>
                cases hct2 : (c) t with
                | true =>
                  rw [hcf2] at cf
                  rw [hct2] at ct
                  have HN := Lib.hid (HP1.out.mark HO.out.ok (by omega) HSB.out ht hct2 hcf2)
                  have HS := Lib.hid (HX5.out.mark f)
                  clear hcf2 hct2
                  repeat still_step
                  refine wpStill_nil ?_
                  go_wp2_with fail
                  go_roundw
                  case rel => exact ⟨k + 1, _, by go_num, by omega, Lib.hid HS.out.cw, HN⟩
                  case measure => simp [intOf]; omega
                | false =>
                  rw [hcf2] at cf
                  rw [hct2] at ct
                  have HN := Lib.hid (HP1.out.skip (fun f2 t2 h2 h3 => by rw [HSB.out] at h2; cases h2; rw [hct2] at h3; cases h3))
                  have HS := Lib.hid (HX5.out.same_f hcf2)
                  clear hcf2 hct2
                  repeat still_step
                  refine wpStill_nil ?_
                  go_wp2_with fail
                  go_roundw
                  case rel => exact ⟨k + 1, _, by go_num, by omega, Lib.hid HS.out.cw, HN⟩
                  case measure => simp [intOf]; omega
            · have hsb := step_back HXX.out rfl rfl (fl := fl)
              rw [if_neg (show ¬ 0 < fl k by rw [HFZ.out]; exact hz)] at hsb
              have HN := Lib.hid (HP1.out.skip (fun f2 t2 h2 _ => by rw [hsb] at h2; cases h2))
              clear hsb
              go_wp2_with fail
              go_roundw
              case rel => exact ⟨k + 1, _, by go_num, by omega, Lib.hid HS1.out.cw, HN⟩
              case measure => simp [intOf]; omega
        · have HN := Lib.hid (HP.out.done (by have := HXL.out; omega))
          go_wp2_with fail
          go_roundw
          case rel => exact ⟨rd + 1, c, by go_num, by omega, HC, HN⟩
          case measure => simp [intOf]; omega
    · obtain rfl : N = rd := by omega
      have HD : Hid (∀ i, i < N → (c i = true ↔ Res xs fl s i)) := Lib.hid (fun i hi => HR.out.done hi)
      have HXA := Lib.hid (HX5.out.later HC.out.below)
      have HNA : Hid (IsNums wr.heap.size wr (some ⟨fb, 0, none⟩) xl ((List.range xl).map fl)) := Lib.hid (nums_of (rowIs_below HF4.out HC.out.below))
      have x0 := HXA.out.box.c0
      have x1 := HXA.out.box.c1
      have hs1 : (0 : Int) ≤ (s : Int) := by omega
      have hs2 : (s : Int) < (N : Int) := by omega
      have ht1 : (0 : Int) ≤ (tn : Int) := by omega
      have ht2 : (tn : Int) < (N : Int) := by omega
      clear HR
      go_wp2_with (first
        | (go_at_call_of 15 (Value.slice (some ⟨fb, 0, none⟩) xl xl); refine (P.cut9 (f := fl) hN1 HO.out.check hs HXL.out lc xl la (some ⟨fb, 0, none⟩) _ HXA.out.pipes HNA.out).mono ?_; rintro e w6 ⟨hb6, g6, c6, d6, rfl, hr6, hd6⟩; have HX6 := Lib.hid (HXA.out.later hb6); have HR6 := Lib.hid hr6; have HM6 : Hid (BoolRow w6 0 (.slice (some ⟨C, 0, none⟩) N N) N c) := Lib.hid (boolRow_of (rowIs_below HC.out.marks hb6) (Nat.zero_le _) (by unfold maxLen; omega)); have HSM : Hid (∀ i, i < N → d6 i = c i) := Lib.hid (fun i hi => by have h1 := hd6 i hi; have h2 := HD.out i hi; cases h3 : d6 i <;> cases h4 : c i <;> first | rfl | (exfalso; simp [h3, h4] at h1 h2; first | exact h2 h1 | exact h1 h2)); clear hb6 hr6 hd6)
        | (go_at_call 14; refine (eqBoolRows HR6.out HM6.out (by omega) HSM.out).mono ?_; rintro e w7 ⟨rfl, hb7⟩; have HX7 := Lib.hid (HX6.out.later hb7); have y0 := HX7.out.box.c0; have y1 := HX7.out.box.c1; clear hb7)
        | (go_at_call 11; refine (P.most_ok N s tn xl lc xs la _ (HO.out.ends hs htn HST.out) HX7.out.pipes).mono ?_; rintro e w8 ⟨hb8, v8, fl2, much, rfl, hr8, hm8⟩; have HX8 := Lib.hid (HX7.out.later hb8); have z0 := HX8.out.box.c0; have z1 := HX8.out.box.c1; obtain ⟨va, vc, hv8⟩ := owns_shape hr8; subst hv8; have HN8 := Lib.hid hr8.nums0; have HM8 := Lib.hid hm8; clear hb8 hr8 hm8)
        | (go_at_call 15; refine (P.cut9 (f := fl2) hN1 HO.out.check hs HXL.out lc vc la va _ HX8.out.pipes HN8.out).mono ?_; rintro e w9 ⟨hb9, g9, c9, d9, rfl, hr9, hd9⟩; obtain ⟨k1, k2, k3⟩ := HM8.out.reach HO.out.ok hs htn HST.out hd9; have HX9 := Lib.hid (HX8.out.later hb9); have HR9 := Lib.hid hr9; have HK3 := Lib.hid k3; have v0 := HX9.out.box.c0; have v1 := HX9.out.box.c1; have v2 := hr9.cell hs; have v3 := hr9.cell htn; rw [k1] at v2; rw [k2] at v3; obtain ⟨hc1, hc2⟩ := hr9.cap_ (by omega); unfold maxLen at hc2; clear hb9 hr9 hd9 k1 k2 k3))
      have HS0 : Hid (capOut xs d9 0 = 0) := Lib.hid rfl
      have HB0 := Lib.hid (Below.refl w9.heap.size w9)
      clear v0 v1 v2 v3 x0 x1 y0 y1 z0 z1
      go_loopw [22, 152] (fun sv kv wr => ∃ (k : Nat) (d : Int), kv = .int .i64 k ∧ sv = .int .i64 d ∧ k ≤ xl ∧ Hid (capOut xs d9 k = d) ∧ Hid (Below w9.heap.size w9 wr)) (fun _ kv _ => xl - (intOf kv).toNat)
      case atStart => exact ⟨0, 0, rfl, rfl, Nat.zero_le _, HS0, HB0⟩
      case round =>
        clear HS0 HB0
        obtain ⟨k, d, rfl, rfl, hk, HDD, HB⟩ := hrel
        by_cases hltk : k < xl
        · obtain ⟨bp, op, x, rfl, _, hx, e0, e1, e2, e3⟩ := ((HX9.out.later HB.out).pipes).at_ hltk
          have hxn := HO.out.nodes x (List.mem_of_getElem? hx)
          have hxr := HO.out.rooms x (List.mem_of_getElem? hx)
          have hsm := capOut_small HO.out.rooms d9 k
          have hst : capOut xs d9 (k + 1) = d + (if outB d9 x = true then x.2.2.1 else 0) := by
            have := HDD.out
            unfold capOut at this ⊢
            rw [sumP_step hx, this]
          rw [HDD.out] at hsm
          obtain ⟨f0, t0, r, q9⟩ := x
          simp only at e0 e1 e2 e3 hxn hxr hst
          obtain ⟨f, rfl⟩ : ∃ f : Nat, f0 = (f : Int) := ⟨f0.toNat, by omega⟩
          obtain ⟨t, rfl⟩ : ∃ t : Nat, t0 = (t : Int) := ⟨t0.toNat, by omega⟩
          have hf : f < N := by omega
          have ht : t < N := by omega
          have hf1 : (0 : Int) ≤ (f : Int) := by omega
          have hf2 : (f : Int) < (N : Int) := by omega
          have hu1 : (0 : Int) ≤ (t : Int) := by omega
          have hu2 : (t : Int) < (N : Int) := by omega
          have HB1 := Lib.hid (HB.out.alloc HB.out.size (.cells #[.int .i64 (f : Int), .int .i64 (t : Int), .int .i64 r, .int .i64 q9] 40))
          have v2 := (HR9.out.below HB1.out).cell hf
          have v3 := (HR9.out.below HB1.out).cell ht
          simp only [outB, Int.toNat_natCast] at hst
          clear hx hxn
          cases g1 : d9 f with
          | true =>
            rw [g1] at v2
            cases g2 : d9 t with
            | true =>
              rw [g2] at v3
              have HN : Hid (capOut xs d9 (k + 1) = d) := Lib.hid (by rw [hst]; simp [g1, g2])
              clear g1 g2 hst
              go_wp2_with fail
              go_roundw
              case rel => exact ⟨k + 1, _, by go_num, rfl, by omega, HN, HB1⟩
              case measure => simp [intOf]; omega
            | false =>
              rw [g2] at v3
              have HN : Hid (capOut xs d9 (k + 1) = d + r) := Lib.hid (by rw [hst]; simp [g1, g2])
              clear g1 g2 hst
              go_wp2_with fail
              go_roundw
              case rel => exact ⟨k + 1, _, by go_num, rfl, by omega, HN, HB1⟩
              case measure => simp [intOf]; omega
          | false =>
            rw [g1] at v2
            have HN : Hid (capOut xs d9 (k + 1) = d) := Lib.hid (by rw [hst]; simp [g1])
            clear g1 hst v3
            go_wp2_with fail
            go_roundw
            case rel => exact ⟨k + 1, _, by go_num, rfl, by omega, HN, HB1⟩
            case measure => simp [intOf]; omega
        · have hdm : d = much := by
            rw [← HK3.out, ← HDD.out]
            rw [show k = xs.length from by have := HXL.out; omega]
          subst hdm
          go_wp2_with fail
          go_ret
          exact ⟨rfl, (HX9.out.later HB.out).box.below⟩
end Go.Proofs.Ytifhapmblofmkaa

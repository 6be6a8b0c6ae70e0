/- Layer 17's law: which error a plan has, by definition. -/
import Derived.Test.YtmnbpnjakbihdaaPlLi
import Derived.Deep.Cut
namespace Go.Proofs.Ytmnbpnjakbihdaa
open Go.RowKit

variable {w wr w2 : World} {A : InA} {x : Ins} {B n g N : Nat} {P : PlA} {p : Pl} {f : Nat → Int}
theorem infoIntCo : (Try.prog.info? 3).map (fun i => (i.zero, i.size, i.bytes)) = some (some (.int .i64 0), 1, 8) := by kernel_rfl
/-- A made row of ints. -/
def IRow (w : World) (g N : Nat) (f : Nat → Int) : Prop := w.rowIs g 3 N (fun i => .int .i64 (f i))
theorem IRow.later (h : IRow w g N f) (hb : Below w.heap.size w w2) : IRow w2 g N f := rowIs_below h hb
theorem IRow.congr {f2 : Nat → Int} (h : IRow w g N f) (e : ∀ i, i < N → f i = f2 i) : IRow w g N f2 := World.rowIs.congr h (fun i hi => by rw [e i hi])
theorem IRow.set_ (h : IRow w g N f) (i : Nat) (z : Int) : IRow (w.setCell ⟨g, i, none⟩ (.int .i64 z)) g N (fun j => if j = i then z else f j) := (World.rowIs.set h i _).congr (fun j _ => by by_cases e : j = i <;> simp [e])
theorem IRow.lt (h : IRow w g N f) : g < w.heap.size := World.rowIs.lt h
theorem IRow.other {b k : Nat} {v : Value} (h : IRow w g N f) (hb : g ≠ b) : IRow (w.setCell ⟨b, k, none⟩ v) g N f := World.rowIs.of_block h (heap_setCell_other _ _ _ _ hb)
/-- A bool tells this; if a bool is true, this. -/
def Ib (b : Bool) (p : Prop) : Prop := b = true ↔ p
def Mb (b : Bool) (p : Prop) : Prop := b = true → p
/-- Is such a satellite there? -/
theorem there_any (A : InA) (x : Ins) (s : Int) (g : Nat) (w : World) (hg : w.heap[g]? = some (.cells (insC A x) 37 (0, 0))) (b : Bool) (hb : amB s x.sats.length = b) :
    Calls Try.prog 34 #[.int .i64 s, .pointer (some ⟨g, 0, none⟩)] w fun e w' => e = .returned (.bool b) ∧ w' = w := by
  have hc : w.cell? ⟨g, 5, none⟩ = some (.slice A.sa x.sats.length A.sc) := by simp [World.cell?, hg, insC]
  obtain ⟨N, hN⟩ : ∃ N, x.sats.length = N := ⟨_, rfl⟩
  rw [hN] at hc hb
  clear hN hg
  by_cases h1 : 0 ≤ s
  · have d1 : decide (s ≥ 0) = true := decide_eq_true h1
    by_cases h2 : s < (N : Int)
    · have e : b = true := by rw [← hb]; exact amB_true.2 ⟨h1, h2⟩
      have d2 : decide (s < (N : Int)) = true := decide_eq_true h2
      subst e
      go_enter Try.func34, Try.ntmps34
      go_wp2_with fail
      go_ret
      exact ⟨rfl, rfl⟩
    · have e : b = false := by rw [← hb]; exact amB_false.2 (fun h => h2 h.2)
      have d2 : decide (s < (N : Int)) = false := decide_eq_false h2
      subst e
      go_enter Try.func34, Try.ntmps34
      go_wp2_with fail
      go_ret
      exact ⟨rfl, rfl⟩
  · have d1 : decide (s ≥ 0) = false := decide_eq_false h1
    have e : b = false := by rw [← hb]; exact amB_false.2 (fun h => h1 h.1)
    subst e
    go_enter Try.func34, Try.ntmps34
    go_wp2_with fail
    go_ret
    exact ⟨rfl, rfl⟩
/-- The boxes, and the three rows. -/
structure CdW (w wr : World) (A : InA) (x : Ins) (P : PlA) (p : Pl) (gs gd gl : Nat) (sv dr ld : Nat → Int) : Prop where
  box : PX w wr A x P p
  sv : IRow wr gs x.cus.length sv
  dr : MRow wr gd x.sats.length dr
  ld : MRow wr gl x.sats.length ld
  ge : w.heap.size + 1 < gs ∧ w.heap.size + 1 < gd ∧ w.heap.size + 1 < gl
  ne : gs ≠ gd ∧ gs ≠ gl ∧ gd ≠ gl
variable {gs gd gl : Nat} {sv dr ld : Nat → Int}
theorem CdW.later (h : CdW w wr A x P p gs gd gl sv dr ld) (hb : Below wr.heap.size wr w2) : CdW w w2 A x P p gs gd gl sv dr ld := ⟨h.box.later hb, h.sv.later hb, h.dr.later hb, h.ld.later hb, h.ge, h.ne⟩
theorem CdW.alloc (h : CdW w wr A x P p gs gd gl sv dr ld) (o : Obj) : CdW w (wr.alloc o) A x P p gs gd gl sv dr ld := h.later ((Below.refl _ _).alloc (Nat.le_refl _) _)
theorem PX.set_ {b k : Nat} {v : Value} (h : PX w wr A x P p) (hb : w.heap.size + 1 < b) : PX w (wr.setCell ⟨b, k, none⟩ v) A x P p :=
  ⟨h.below.setCell (by show w.heap.size ≤ b; omega) _, (heap_setCell_other _ _ _ _ (fun e => by have e : w.heap.size = b := e; omega)).trans h.inst, (heap_setCell_other _ _ _ _ (fun e => by have e : w.heap.size + 1 = b := e; omega)).trans h.plan⟩
theorem CdW.setD (h : CdW w wr A x P p gs gd gl sv dr ld) (s : Nat) (z : Int) : CdW w (wr.setCell ⟨gd, s, none⟩ (.int .i64 z)) A x P p gs gd gl sv (fun j => if j = s then z else dr j) ld :=
  ⟨h.box.set_ h.ge.2.1, h.sv.other h.ne.1, h.dr.set_ s z, h.ld.other (Ne.symm h.ne.2.2), h.ge, h.ne⟩
theorem CdW.setL (h : CdW w wr A x P p gs gd gl sv dr ld) (s : Nat) (z : Int) : CdW w (wr.setCell ⟨gl, s, none⟩ (.int .i64 z)) A x P p gs gd gl sv dr (fun j => if j = s then z else ld j) :=
  ⟨h.box.set_ h.ge.2.2, h.sv.other h.ne.2.1, h.dr.other h.ne.2.2, h.ld.set_ s z, h.ge, h.ne⟩
theorem CdW.setS (h : CdW w wr A x P p gs gd gl sv dr ld) (s : Nat) (z : Int) : CdW w (wr.setCell ⟨gs, s, none⟩ (.int .i64 z)) A x P p gs gd gl (fun j => if j = s then z else sv j) dr ld :=
  ⟨h.box.set_ h.ge.1, h.sv.set_ s z, h.dr.other (Ne.symm h.ne.1), h.ld.other (Ne.symm h.ne.2.1), h.ge, h.ne⟩
theorem cd_make {W1 : World} (hX : PX w W1 A x P p) (hS : IRow W1 gs x.cus.length (fun _ => 0)) (hge : w.heap.size + 1 < gs) (hgs : gs < W1.heap.size) :
    CdW w ((W1.alloc (.cells (madeCells #[Value.int .i64 0] x.sats.length) 2)).alloc (.cells (madeCells #[Value.int .i64 0] x.sats.length) 2)).drew A x P p gs W1.heap.size (W1.heap.size + 1) (fun _ => 0) (fun _ => 0) (fun _ => 0) ∧
    CdW w ((W1.alloc (.cells (madeCells #[Value.int .i64 0] x.sats.length) 2)).alloc (.cells (madeCells #[Value.int .i64 0] x.sats.length) 2)).drew A x P p gs (W1.heap.size + 1) W1.heap.size (fun _ => 0) (fun _ => 0) (fun _ => 0) := by
  obtain ⟨V, hV⟩ : ∃ V, W1.alloc (.cells (madeCells #[Value.int .i64 0] x.sats.length) 2) = V := ⟨_, rfl⟩
  have b1 : Below W1.heap.size W1 V := by rw [← hV]; exact (Below.refl _ _).alloc (Nat.le_refl _) _
  have hz : V.heap.size = W1.heap.size + 1 := by rw [← hV]; simp
  have m1 : MRow V W1.heap.size x.sats.length (fun _ => 0) := by rw [← hV]; exact World.rowIs_made W1 (.int .i64 0) x.sats.length 2
  rw [hV]
  have m2 : MRow (V.alloc (.cells (madeCells #[Value.int .i64 0] x.sats.length) 2)) (W1.heap.size + 1) x.sats.length (fun _ => 0) := by
    rw [← hz]; exact World.rowIs_made V (.int .i64 0) x.sats.length 2
  have b2 : Below V.heap.size V (V.alloc (.cells (madeCells #[Value.int .i64 0] x.sats.length) 2)).drew := ((Below.refl _ _).alloc (Nat.le_refl _) _).drew
  have hX2 := (hX.later b1).later b2
  have hS2 := (hS.later b1).later b2
  have m1' := m1.later b2
  have m2' := m2.later (Below.refl _ _).drew
  exact ⟨⟨hX2, hS2, m1', m2', ⟨hge, by omega, by omega⟩, ⟨by omega, by omega, by omega⟩⟩, ⟨hX2, hS2, m2', m1', ⟨hge, by omega, by omega⟩, ⟨by omega, by omega, by omega⟩⟩⟩
theorem blk_alloc {o : Obj} (h : w.heap[g]? = some o) (_o : Obj) : (w.alloc _o).heap[g]? = some o := (((Below.refl w.heap.size w).alloc (Nat.le_refl _) _o).block g (Array.getElem?_eq_some_iff.1 h).1).trans h
theorem blk_ne {C : Array Value} {T : TypeId} {g2 : Nat} (h : w.heap[g]? = some (.cells C T (0, 0))) (hr : w.rowIs g2 2 N (fun i => .int .i64 (f i))) (hT : T ≠ 2) (e : g = g2) : False := by
  obtain ⟨cur, h2⟩ := rowIs_block hr
  exact blk_types h h2 hT e
theorem okTo_mem {ns j : Nat} {t : List (Int × Int)} (h : okTo ns t j) : ∀ s ∈ t.take j, 1 ≤ s.2 ∧ s.2 ≤ 1000000000 := fun s hs => by
  obtain ⟨k, hk⟩ := List.getElem?_of_mem hs
  rw [List.getElem?_take] at hk
  by_cases e : k < j
  · rw [if_pos e] at hk
    have := (h k s e hk).2.2
    omega
  · rw [if_neg e] at hk; cases hk
theorem okTo_le {ns j : Nat} {t : List (Int × Int)} (h : okTo ns t j) (hj : j ≤ t.length) : j ≤ ns := by
  have := distinct_le (f := fun s : Int × Int => s.1) (n := ns) (l := t.take j) fun k s hk => by
    rw [List.getElem?_take] at hk
    by_cases e : k < j
    · rw [if_pos e] at hk
      have h1 := h k s e hk
      refine ⟨amB_true.1 h1.1, fun o ho => h1.2.1 o ?_⟩
      rw [List.take_take, Nat.min_eq_left (by omega)] at ho
      exact ho
    · rw [if_neg e] at hk; cases hk
  rw [List.length_take] at this
  omega
theorem leftS_to {l : List (List (Int × Int))} {ns i : Nat} (h : tgoTo ns l i) (hi : i ≤ 1000) (hns : ns ≤ 12) (s : Nat) : 0 ≤ leftS (l.take i) s ∧ leftS (l.take i) s ≤ 1000000000000000 := by
  have hg : TGo ns (l.take i) := fun k t hk => by
    rw [List.getElem?_take] at hk
    by_cases e : k < i
    · rw [if_pos e] at hk; exact h k t e hk
    · rw [if_neg e] at hk; cases hk
  have := leftS_in hg hns (show 1000 ≤ 1000 by omega) s
  rwa [List.take_of_length_le (by rw [List.length_take]; omega)] at this
theorem leftT_to {t : List (Int × Int)} {ns j : Nat} (h : okTo ns t (j + 1)) (hj : j ≤ 1000) (s : Nat) : 0 ≤ leftT (t.take j) s ∧ leftT (t.take j) s ≤ 1000000000000 := by
  have := leftT_in (okTo_mem h) hj s
  rwa [List.take_take, Nat.min_eq_left (by omega)] at this
theorem blk_neI {C : Array Value} {T : TypeId} {g2 : Nat} (h : w.heap[g]? = some (.cells C T (0, 0))) (hr : w.rowIs g2 3 N (fun i => .int .i64 (f i))) (hT : T ≠ 3) (e : g = g2) : False := by
  obtain ⟨cur, h2⟩ := rowIs_block hr
  exact blk_types h h2 hT e
theorem IsPipes.cell0 {a : Option Addr} {len b off k : Nat} {l : List Pi} {y : Pi} (h : IsPipes B w a len l) (ha : a = some ⟨b, off, none⟩) (hk : l[k]? = some y) : w.cell? ⟨b, off + k * 4, none⟩ = some (.int .i64 y.1) := by
  have hl : k < len := by have := (List.getElem?_eq_some_iff.1 hk).1; have := h.1; omega
  obtain ⟨b', off', x', e, _, hx, p0, _⟩ := h.at_ hl
  rw [ha] at e
  injection e with e
  injection e with e1 e2
  subst e1 e2
  rw [hk] at hx
  injection hx with hx
  subst hx
  exact p0
theorem okC_le {nc j : Nat} {F l : List Int} (h : okCTo nc F l j) (hj : j ≤ l.length) : j ≤ nc := by
  have := distinct_le (f := fun c : Int => c) (n := nc) (l := l.take j) fun k s hk => by
    rw [List.getElem?_take] at hk
    by_cases e : k < j
    · rw [if_pos e] at hk
      have h1 := h k s e hk
      refine ⟨amB_true.1 h1.1, fun o ho e2 => h1.2 ?_⟩
      rw [List.take_take, Nat.min_eq_left (by omega)] at ho
      exact List.mem_append_right _ (by rwa [← e2])
    · rw [if_neg e] at hk; cases hk
  rw [List.length_take] at this
  omega
theorem loadS_to {l : List (Int × List Int)} {ns nc i : Nat} (hm : May x) (h : bgoTo ns nc l i) (hi : i ≤ 60) (hnc : nc ≤ 48) (s : Nat) : 0 ≤ loadS x (l.take i) s ∧ loadS x (l.take i) s ≤ 1000000000000000 := by
  have := loadS_in hm (l := l.take i) (k := i) (fun b hb => by
    obtain ⟨k, hk⟩ := List.getElem?_of_mem hb
    rw [List.getElem?_take] at hk
    by_cases e : k < i
    · rw [if_pos e] at hk
      have := goB_le (h k b e hk)
      omega
    · rw [if_neg e] at hk; cases hk) (by omega) s
  rwa [List.take_take, Nat.min_self] at this
set_option maxHeartbeats 8000000 in
set_option maxRecDepth 100000 in
theorem code_any (A : InA) (x : Ins) (P : PlA) (p : Pl) (w : World) (hx : IsIns w.heap.size w A x) (hp : IsPl w.heap.size w P p) (hm : May x) :
    Calls Try.prog 13 #[.agg (insC A x), .agg (plC P p)] w fun e w' => ∃ u, e = .returned (.int .i64 u) ∧ PErr x p u ∧ Below w.heap.size w w' := by
  have H0 := Lib.hid (PX.make w A x P p)
  obtain ⟨c0, c1, c2, c3, c4, c5, c6, c7, c8, d0, d1⟩ := H0.out.cells
  have HI := Lib.hid hx
  have HP := Lib.hid hp
  have HM := Lib.hid hm
  have hns := hm.ns
  have hnc := hm.nc
  have htm := hm.tm
  have hbm := hm.bm
  clear hx hp hm
  by_cases h1 : (p.tr.length : Int) > x.tm
  · have e1 : decide ((p.tr.length : Int) > x.tm) = true := decide_eq_true h1
    have HE : Hid (PErr x p 11) := Lib.hid (.inl ⟨.inl (by omega), rfl⟩)
    unfold insC plC at *
    go_enter Try.func13, Try.ntmps13
    go_wp2_with fail
    go_ret
    exact ⟨_, rfl, HE.out, H0.out.below⟩
  have e1 : decide ((p.tr.length : Int) > x.tm) = false := decide_eq_false h1
  by_cases h2 : (p.bk.length : Int) > x.bm
  · have e2 : decide ((p.bk.length : Int) > x.bm) = true := decide_eq_true h2
    have HE : Hid (PErr x p 11) := Lib.hid (.inl ⟨.inr (by omega), rfl⟩)
    unfold insC plC at *
    go_enter Try.func13, Try.ntmps13
    go_wp2_with fail
    go_ret
    exact ⟨_, rfl, HE.out, H0.out.below⟩
  have e2 : decide ((p.bk.length : Int) > x.bm) = false := decide_eq_false h2
  have HCN : Hid ((p.tr.length : Int) ≤ x.tm ∧ (p.bk.length : Int) ≤ x.bm) := Lib.hid ⟨by omega, by omega⟩
  have hn60 : p.tr.length ≤ 60 := by omega
  have hm60 : p.bk.length ≤ 60 := by omega
  have hmi := run_make_row' (P := Try.prog) 53 3 (.int .i64 0) 8 Try.underlying53 infoIntCo rfl .i64 .i64 x.cus.length (by omega) (by omega)
  have hml := run_make_row' (P := Try.prog) 60 2 (.int .i64 0) 8 Try.underlying60 infoLongPl rfl .i64 .i64 x.sats.length (by omega) (by omega)
  obtain ⟨W0, hW0⟩ : ∃ W0, ((w.alloc (.cells (insC A x) 37)).alloc (.cells (plC P p) 42)) = W0 := ⟨_, rfl⟩
  have HC0 : Hid (PX w W0 A x P p) := Lib.hid (by rw [← hW0]; exact H0.out)
  have hz0 : W0.heap.size = w.heap.size + 2 := by rw [← hW0]; simp
  have HZ0 := Lib.hid hz0
  clear h1 h2 c0 c1 c2 c3 c4 c5 c6 c7 c8 d0 d1
  obtain ⟨c0, c1, c2, c3, c4, c5, c6, c7, c8, d0, d1⟩ := H0.out.cells
  rw [hW0] at c0 c1 c2 c3 c4 c5 c6 c7 c8 d0 d1
  unfold insC plC at *
  go_enter Try.func13, Try.ntmps13
  go_upto_region 1 with fail
  clear hW0 H0 hz0
  go_upto_region 3 with fail
  have HX1 := Lib.hid (HC0.out.later ((Below.refl _ _).alloc (Nat.le_refl _) (.cells (madeCells #[Value.int .i64 0] x.cus.length) 3)).drew)
  have HR1 : Hid (IRow (W0.alloc (.cells (madeCells #[Value.int .i64 0] x.cus.length) 3)).drew W0.heap.size x.cus.length (fun _ => 0)) := Lib.hid (World.rowIs_made W0 (.int .i64 0) x.cus.length 3)
  have q6 := (HC0.out.later ((Below.refl _ _).alloc (Nat.le_refl _) (.cells (madeCells #[Value.int .i64 0] x.cus.length) 3))).cells.2.2.2.2.2.2.1
  go_region
  clear q6 c0 c1 c2 c3 c4 c5 c6 c7 c8 d0 d1 e1 e2 hmi
  obtain ⟨W1, hW1⟩ : ∃ W1, (W0.alloc (.cells (madeCells #[Value.int .i64 0] x.cus.length) 3)).drew = W1 := ⟨_, rfl⟩
  rw [hW1] at HX1 HR1 ⊢
  have HZ1 : Hid (W1.heap.size = W0.heap.size + 1) := Lib.hid (by rw [← hW1]; simp)
  clear hW1
  obtain ⟨c0, c1, c2, c3, c4, c5, c6, c7, c8, d0, d1⟩ := HX1.out.cells
  have q5 := (HX1.out.later ((Below.refl _ _).alloc (Nat.le_refl _) (.cells (madeCells #[Value.int .i64 0] x.sats.length) 2))).cells.2.2.2.2.2.1
  go_upto_region 6 with fail
  go_cut [10, 11] from 52 to 59 (fun dv lv wx => ∃ gd gl, dv = .slice (some ⟨gd, 0, none⟩) x.sats.length x.sats.length ∧ lv = .slice (some ⟨gl, 0, none⟩) x.sats.length x.sats.length ∧ CdW w wx A x P p W0.heap.size gd gl (fun _ => 0) (fun _ => 0) (fun _ => 0))
  case first =>
    have HAA := Lib.hid (cd_make HX1.out HR1.out (by have := HZ0.out; omega) (by have := HZ1.out; omega))
    go_region
    all_goals go_wp2_with fail
    all_goals go_meet
    all_goals first | exact ⟨_, _, rfl, rfl, HAA.out.1⟩ | exact ⟨_, _, rfl, rfl, HAA.out.2⟩
  case rest =>
  obtain ⟨gd, gl, rfl, rfl, hcd⟩ := hcut
  have HC := Lib.hid hcd
  obtain ⟨gs, hgs⟩ : ∃ gs, W0.heap.size = gs := ⟨_, rfl⟩
  rw [hgs] at HC ⊢
  clear hcd hgs c0 c1 c2 c3 c4 c5 c6 c7 c8 d0 d1 q5 hml HX1 HR1 HZ1 HC0 HZ0
  obtain ⟨c0, c1, c2, c3, c4, c5, c6, c7, c8, d0, d1⟩ := HC.out.box.cells
  have HT0 : Hid (Ib true (tgoTo x.sats.length p.tr 0)) := Lib.hid ⟨fun _ i t hi => by omega, fun _ => rfl⟩
  have HL0 : Hid (Mb true (Ib true (∀ (j : Nat) (t : List (Int × Int)), j < 0 → p.tr[j]? = some t → tload t ≤ x.tr))) := Lib.hid (fun _ => ⟨fun _ j t hj => by omega, fun _ => rfl⟩)
  have HD0 : Hid (Mb true (∀ s, s < x.sats.length → (fun _ : Nat => (0 : Int)) s = leftS (p.tr.take 0) s)) := Lib.hid (fun _ s _ => by rw [List.take_zero]; rfl)
  go_wp2_with fail
  clear c0 c1 c2 c3 c4 c5 c6 c7 c8 d0 d1
  go_loopw [8, 9, 63] (fun rv lv iv wr => ∃ (i : Nat) (r l : Bool) (dr : Nat → Int), iv = .int .i64 (i : Int) ∧ rv = .bool r ∧ lv = .bool l ∧ i ≤ p.tr.length ∧ Hid (Ib r (tgoTo x.sats.length p.tr i)) ∧ Hid (Mb r (Ib l (∀ (j : Nat) (t : List (Int × Int)), j < i → p.tr[j]? = some t → tload t ≤ x.tr))) ∧ Hid (Mb r (∀ s, s < x.sats.length → dr s = leftS (p.tr.take i) s)) ∧ Hid (CdW w wr A x P p gs gd gl (fun _ => 0) dr (fun _ => 0))) (fun _ _ iv _ => p.tr.length - (intOf iv).toNat)
  case atStart => exact ⟨0, true, true, _, rfl, rfl, rfl, Nat.zero_le _, HT0, HL0, HD0, HC⟩
  case round =>
    obtain ⟨i, r, l, dr, rfl, rfl, rfl, hi, HT, HL, HDR, HCR⟩ := hrel
    clear HT0 HL0 HD0 HC
    by_cases hlt : i < p.tr.length
    · obtain ⟨tb, to_, t, ra, rc, hta, htb, hg, htl, q0, hpr, hrc⟩ := HP.out.tr.atC hlt
      have q0 := (HCR.out.box.below.cell (p := ⟨tb, to_ + i, none⟩) htb).trans q0
      have HPR := Lib.hid hpr
      have HG := Lib.hid hg
      rw [hta]
      clear hta htb hg hpr
      obtain ⟨m, hmm⟩ : ∃ m, t.length = m := ⟨_, rfl⟩
      rw [hmm] at q0 htl HPR hrc
      have HMM := Lib.hid hmm
      have HC2 := Lib.hid (HCR.out.alloc (.cells #[.slice ra m rc] 58))
      have HT2 : Hid ((wr.alloc (.cells #[.slice ra m rc] 58)).heap[wr.heap.size]? = some (.cells #[.slice ra m rc] 58 (0, 0))) := Lib.hid (heap_alloc_new _ _)
      clear hmm
      go_upto_region 11 with fail
      obtain ⟨gt, hgt⟩ : ∃ gt, wr.heap.size = gt := ⟨_, rfl⟩
      obtain ⟨W2, hW2⟩ : ∃ W2, wr.alloc (.cells #[.slice ra m rc] 58) = W2 := ⟨_, rfl⟩
      rw [hW2] at HC2 HT2 ⊢
      rw [hgt] at HT2 ⊢
      clear hW2 hgt q0 HCR
      have k0 : W2.cell? ⟨gt, 0, none⟩ = some (.slice ra m rc) := by simp [World.cell?, HT2.out]
      go_cut [8] from 67 to 73 (fun rv wx => rv = .bool (r && decide (0 < m)) ∧ wx = W2)
      case first =>
        cases r with
        | false =>
          go_wp2_with fail
          go_meet
          exact ⟨rfl, rfl⟩
        | true =>
          have dm : decide ((m : Int) > 0) = decide (0 < m) := decide_eq_decide.2 (by omega)
          go_wp2_with fail
          go_meet
          exact ⟨by first | rfl | simp [dm] | (rw [dm]; rfl), rfl⟩
      case rest =>
      obtain ⟨rfl, rfl⟩ := hcut
      obtain ⟨r1, hr1⟩ : ∃ r1, (r && decide (0 < m)) = r1 := ⟨_, rfl⟩
      have HR1 : Hid (r1 = true ↔ r = true ∧ 0 < m) := Lib.hid (by rw [← hr1]; simp)
      rw [hr1]
      clear hr1
      have HO0 : Hid (Ib r1 (r1 = true ∧ okTo x.sats.length t 0)) := Lib.hid ⟨fun h => ⟨h, fun j s hj => by omega⟩, fun h => h.1⟩
      have HS0 : Hid (Mb r1 ((0 : Int) = sumF (·.2) (t.take 0))) := Lib.hid (fun _ => by rw [List.take_zero]; rfl)
      have HDQ : Hid (Mb r1 (∀ s, s < x.sats.length → dr s = leftS (p.tr.take i) s + leftT (t.take 0) s)) := Lib.hid (fun h s hs => by rw [HDR.out (HR1.out.1 h).1 s hs, List.take_zero]; unfold leftT; rw [sumF_nil]; omega)
      go_wp2_with fail
      clear k0
      go_loopw [8, 14, 77] (fun rv uv iv wr => ∃ (j : Nat) (r2 : Bool) (u : Int) (dr2 : Nat → Int), iv = .int .i64 (j : Int) ∧ rv = .bool r2 ∧ uv = .int .i64 u ∧ j ≤ m ∧ Hid (Ib r2 (r1 = true ∧ okTo x.sats.length t j)) ∧ Hid (Mb r2 (u = sumF (·.2) (t.take j))) ∧ Hid (Mb r2 (∀ s, s < x.sats.length → dr2 s = leftS (p.tr.take i) s + leftT (t.take j) s)) ∧ Hid (CdW w wr A x P p gs gd gl (fun _ => 0) dr2 (fun _ => 0)) ∧ Hid (wr.heap[gt]? = some (.cells #[.slice ra m rc] 58 (0, 0)))) (fun _ _ iv _ => m - (intOf iv).toNat)
      case atStart => exact ⟨0, r1, 0, dr, rfl, rfl, rfl, Nat.zero_le _, HO0, HS0, HDQ, HC2, HT2⟩
      case round =>
        obtain ⟨j, r2, u, dr2, rfl, rfl, rfl, hj, HO, HS, HDS, HCS, HTS⟩ := hrel
        clear HC2 HT2 HO0 HS0 HDQ
        by_cases hjt : j < m
        · obtain ⟨b2, off, s, rfl, hb2, hgs, q0, q1⟩ := (HPR.out.later HCS.out.box.below).at_ hjt
          have HGS := Lib.hid hgs
          have HC3 := Lib.hid (HCS.out.alloc (.cells #[.int .i64 s.1, .int .i64 s.2] 63))
          have HT3 := Lib.hid (blk_alloc HTS.out (.cells #[.int .i64 s.1, .int .i64 s.2] 63))
          have HZ3 : Hid ((wr.alloc (.cells #[.int .i64 s.1, .int .i64 s.2] 63)).heap[wr.heap.size]? = some (.cells #[.int .i64 s.1, .int .i64 s.2] 63 (0, 0))) := Lib.hid (heap_alloc_new _ _)
          have hlb := HCS.out.dr.lt
          have HTB := Lib.hid (HO.out)
          clear hgs hb2
          go_upto_region 15 with fail
          obtain ⟨gz, hgz⟩ : ∃ gz, wr.heap.size = gz := ⟨_, rfl⟩
          obtain ⟨W3, hW3⟩ : ∃ W3, wr.alloc (.cells #[.int .i64 s.1, .int .i64 s.2] 63) = W3 := ⟨_, rfl⟩
          rw [hW3] at HC3 HT3 HZ3 ⊢
          rw [hgz] at HZ3 hlb ⊢
          clear hW3 hgz q0 q1 HCS HTS
          obtain ⟨z0, z1⟩ := cells2r HZ3.out
          have k0 : W3.cell? ⟨gt, 0, none⟩ = some (.slice (some ⟨b2, off, none⟩) m rc) := by simp [World.cell?, HT3.out]
          go_cut [8] from 82 to 98 (fun rv wx => rv = .bool (r2 && (amB s.1 x.sats.length && (decide (1 ≤ s.2) && decide (s.2 ≤ 1000000000)))) ∧ wx = W3)
          case first =>
            cases r2 with
            | false =>
              go_wp2_with fail
              go_meet
              exact ⟨rfl, rfl⟩
            | true =>
              cases ham : amB s.1 x.sats.length with
              | false =>
                have HTH := Lib.hid (there_any A x s.1 w.heap.size W3 HC3.out.box.inst false ham)
                have HAM := Lib.hid ham
                clear ham
                go_wp2_with (go_at_call 34; refine HTH.out.mono ?_; rintro e w9 ⟨rfl, rfl⟩)
                go_meet
                exact ⟨by rw [HAM.out]; rfl, rfl⟩
              | true =>
                have HTH := Lib.hid (there_any A x s.1 w.heap.size W3 HC3.out.box.inst true ham)
                have HAM := Lib.hid ham
                clear ham
                by_cases g1 : 1 ≤ s.2
                · have e1 : decide (s.2 ≥ 1) = true := decide_eq_true g1
                  have HB1 : Hid (decide (1 ≤ s.2) = true) := Lib.hid (decide_eq_true g1)
                  by_cases g2 : s.2 ≤ 1000000000
                  · have e2 : decide (s.2 ≤ 1000000000) = true := decide_eq_true g2
                    have HB2 := Lib.hid e2
                    go_wp2_with (go_at_call 34; refine HTH.out.mono ?_; rintro e w9 ⟨rfl, rfl⟩)
                    go_meet
                    exact ⟨by rw [HAM.out, HB1.out, HB2.out]; rfl, rfl⟩
                  · have e2 : decide (s.2 ≤ 1000000000) = false := decide_eq_false g2
                    have HB2 := Lib.hid e2
                    go_wp2_with (go_at_call 34; refine HTH.out.mono ?_; rintro e w9 ⟨rfl, rfl⟩)
                    go_meet
                    exact ⟨by rw [HAM.out, HB1.out, HB2.out]; rfl, rfl⟩
                · have e1 : decide (s.2 ≥ 1) = false := decide_eq_false g1
                  have HB1 : Hid (decide (1 ≤ s.2) = false) := Lib.hid (decide_eq_false g1)
                  go_wp2_with (go_at_call 34; refine HTH.out.mono ?_; rintro e w9 ⟨rfl, rfl⟩)
                  go_meet
                  exact ⟨by rw [HAM.out, HB1.out]; rfl, rfl⟩
          case rest =>
          obtain ⟨rfl, rfl⟩ := hcut
          obtain ⟨r3, hr3⟩ : ∃ r3, (r2 && (amB s.1 x.sats.length && (decide (1 ≤ s.2) && decide (s.2 ≤ 1000000000)))) = r3 := ⟨_, rfl⟩
          have HR3 : Hid (r3 = true ↔ r2 = true ∧ amB s.1 x.sats.length = true ∧ 1 ≤ s.2 ∧ s.2 ≤ 1000000000) := Lib.hid (by rw [← hr3]; simp)
          rw [hr3]
          clear hr3
          have HQ0 : Hid (Ib r3 (r3 = true ∧ ∀ o ∈ t.take 0, o.1 ≠ s.1)) := Lib.hid ⟨fun h => ⟨h, fun o ho => by simp at ho⟩, fun h => h.1⟩
          go_wp2_with fail
          clear k0 z0 z1
          go_loopw [8, 104] (fun rv iv wr => ∃ (k : Nat) (r4 : Bool), iv = .int .i64 (k : Int) ∧ rv = .bool r4 ∧ k ≤ j ∧ Hid (Ib r4 (r3 = true ∧ ∀ o ∈ t.take k, o.1 ≠ s.1)) ∧ Hid (CdW w wr A x P p gs gd gl (fun _ => 0) dr2 (fun _ => 0)) ∧ Hid (wr.heap[gt]? = some (.cells #[.slice (some ⟨b2, off, none⟩) m rc] 58 (0, 0))) ∧ Hid (wr.heap[gz]? = some (.cells #[.int .i64 s.1, .int .i64 s.2] 63 (0, 0)))) (fun _ iv _ => j - (intOf iv).toNat)
          case atStart => exact ⟨0, r3, rfl, rfl, Nat.zero_le _, HQ0, HC3, HT3, HZ3⟩
          case round =>
            obtain ⟨k, r4, rfl, rfl, hk, HQ, HCT, HTT, HZT⟩ := hrel
            clear HC3 HT3 HZ3 HQ0
            by_cases hkj : k < j
            · obtain ⟨b4, off4, o, e4, hb4, hgo, q0, q1⟩ := (HPR.out.later HCT.out.box.below).at_ (show k < m by omega)
              injection e4 with e4
              injection e4 with e5 e6
              subst e5 e6
              have HNQ : Hid (∀ q, q ∈ t.take (k + 1) ↔ q ∈ t.take k ∨ q = o) := Lib.hid (fun q => by rw [List.take_add_one, hgo]; simp)
              have HC4 := Lib.hid (HCT.out.alloc (.cells #[.int .i64 o.1, .int .i64 o.2] 63))
              have HT4 := Lib.hid (blk_alloc HTT.out (.cells #[.int .i64 o.1, .int .i64 o.2] 63))
              have HZ4 := Lib.hid (blk_alloc HZT.out (.cells #[.int .i64 o.1, .int .i64 o.2] 63))
              obtain ⟨z0, z1⟩ := cells2r HZ4.out
              clear hgo hb4
              cases r4 with
              | false =>
                have HQN : Hid (Ib false (r3 = true ∧ ∀ q ∈ t.take (k + 1), q.1 ≠ s.1)) := Lib.hid ⟨fun h => (by cases h), fun h => HQ.out.2 ⟨h.1, fun q hq => h.2 q ((HNQ.out q).2 (.inl hq))⟩⟩
                go_wp2_with fail
                go_roundw
                case rel => exact ⟨k + 1, false, by go_num, rfl, by omega, HQN, HC4, HT4, HZ4⟩
                case measure => simp [intOf]; omega
              | true =>
                obtain ⟨bq, hbq⟩ : ∃ bq, (o.1 != s.1) = bq := ⟨_, rfl⟩
                have HQN : Hid (Ib bq (r3 = true ∧ ∀ q ∈ t.take (k + 1), q.1 ≠ s.1)) := Lib.hid (by
                  unfold Ib
                  rw [← hbq]
                  have h3 := HQ.out.1 rfl
                  constructor
                  · intro h
                    refine ⟨h3.1, fun q hq => ?_⟩
                    rcases (HNQ.out q).1 hq with hq | rfl
                    · exact h3.2 q hq
                    · simpa using h
                  · intro h
                    have := h.2 o ((HNQ.out o).2 (.inr rfl))
                    simpa using this)
                go_wp2_with fail
                go_roundw
                case rel => exact ⟨k + 1, bq, by go_num, by first | rfl | rw [hbq], by omega, HQN, HC4, HT4, HZ4⟩
                case measure => simp [intOf]; omega
            · obtain rfl : j = k := by omega
              obtain ⟨z0, z1⟩ := cells2r HZT.out
              have HOK : Hid (Ib r4 (r1 = true ∧ okTo x.sats.length t (j + 1))) := Lib.hid (by
                have hq : (r4 = true ↔ _) := HQ.out
                have ho : (r2 = true ↔ _) := HO.out
                unfold Ib
                rw [hq, HR3.out, ho]
                constructor
                · rintro ⟨⟨⟨h1, h2⟩, h3, h4, h5⟩, h6⟩
                  exact ⟨h1, okTo_next h2 HGS.out ⟨h3, h6, h4, h5⟩⟩
                · rintro ⟨h1, h2⟩
                  have h3 := h2 j s (by omega) HGS.out
                  exact ⟨⟨⟨h1, fun j2 s2 h => h2 j2 s2 (by omega)⟩, h3.1, h3.2.2.1, h3.2.2.2⟩, h3.2.1⟩)
              cases r4 with
              | false =>
                have HSN : Hid (Mb false (u = sumF (·.2) (t.take (j + 1)))) := Lib.hid (fun h => by cases h)
                have HDN : Hid (Mb false (∀ s, s < x.sats.length → dr2 s = leftS (p.tr.take i) s + leftT (t.take (j + 1)) s)) := Lib.hid (fun h => by cases h)
                go_wp2_with fail
                go_roundw
                case rel => exact ⟨j + 1, false, u, dr2, by go_num, rfl, rfl, by omega, HOK, HSN, HDN, HCT, HTT⟩
                case measure => simp [intOf]; omega
              | true =>
                obtain ⟨h1, h2⟩ := HOK.out.1 rfl
                obtain ⟨h31, h32⟩ := HQ.out.1 rfl
                have hsb := (HR3.out.1 h31).2.2
                have ham := amB_true.1 (HR3.out.1 h31).2.1
                have hr2 := (HR3.out.1 h31).1
                have hjn : j + 1 ≤ x.sats.length := okTo_le h2 (by rw [HMM.out]; omega)
                have htg := HT.out.1 (HR1.out.1 h1).1
                have hu := HS.out hr2
                have hub := sumF_take_in (f := fun z : Int × Int => z.2) (M := 1000000000) (l := t.take (j + 1)) (k := j) (fun c hc => by have := okTo_mem h2 c hc; omega) (by omega) (by omega)
                rw [List.take_take, Nat.min_eq_left (by omega), ← hu] at hub
                obtain ⟨sn, hsn⟩ : ∃ sn : Nat, s.1 = (sn : Int) := ⟨s.1.toNat, by omega⟩
                have hsN : sn < x.sats.length := by omega
                have hd := HDS.out hr2 sn hsN
                have hd1 := leftS_to htg (show i ≤ 1000 by omega) (show x.sats.length ≤ 12 by omega) sn
                have hd2 := leftT_to h2 (show j ≤ 1000 by omega) sn
                obtain ⟨v, hv⟩ : ∃ v, dr2 sn = v := ⟨_, rfl⟩
                rw [hv] at hd
                have wu : IntKind.i64.wrap (u + s.2) = u + s.2 := by rw [IntKind.wrap_i64]; omega
                have wv : IntKind.i64.wrap (v + s.2) = v + s.2 := by rw [IntKind.wrap_i64]; omega
                have HSN : Hid (Mb true (u + s.2 = sumF (·.2) (t.take (j + 1)))) := Lib.hid (fun _ => by rw [sumF_next HGS.out, ← hu])
                have HDN : Hid (Mb true (∀ q, q < x.sats.length → (fun k => if k = sn then v + s.2 else dr2 k) q = leftS (p.tr.take i) q + leftT (t.take (j + 1)) q)) := Lib.hid (fun _ q hq => by
                  rw [leftT_next HGS.out, hsn]
                  by_cases e : q = sn
                  · subst e; simp only [if_true]; omega
                  · simp only [e, if_false]
                    rw [if_neg (by omega), HDS.out hr2 q hq]
                    omega)
                have HC5 := Lib.hid (HCT.out.setD sn (v + s.2))
                have HT5 : Hid ((wr.setCell ⟨gd, sn, none⟩ (.int .i64 (v + s.2))).heap[gt]? = some (.cells #[.slice (some ⟨b2, off, none⟩) m rc] 58 (0, 0))) := Lib.hid ((heap_setCell_other _ _ _ _ (fun e => blk_ne HTT.out HCT.out.dr (by decide) e)).trans HTT.out)
                have r0 := World.rowIs.cell HCT.out.dr hsN
                have rf := World.rowIs.frozen HCT.out.dr sn
                rw [hv] at r0
                rw [hsn] at z0 ⊢
                have ham1 : (0 : Int) ≤ (sn : Int) := by omega
                have ham2 : (sn : Int) < (x.sats.length : Int) := by omega
                clear h1 h2 h31 h32 hsb ham hr2 htg hu hub hd hd1 hd2 hv
                go_upto_region 23 with fail
                go_region
                go_wp2_with fail
                go_roundw
                case rel => exact ⟨j + 1, true, u + s.2, _, by go_num, rfl, rfl, by omega, HOK, HSN, HDN, Lib.hid (HC5.out.later (Below.refl _ _).drew), Lib.hid HT5.out⟩
                case measure => simp [intOf]; omega
        · obtain rfl : m = j := by omega
          obtain ⟨c0, c1, c2, c3, c4, c5, c6, c7, c8, d0, d1⟩ := HCS.out.box.cells
          have HTM : Hid (t.take m = t) := Lib.hid (List.take_of_length_le (by rw [HMM.out]; exact Nat.le_refl _))
          have HTN : Hid (Ib r2 (tgoTo x.sats.length p.tr (i + 1))) := Lib.hid (by
            have ho : (r2 = true ↔ _) := HO.out
            have ht : (r = true ↔ _) := HT.out
            unfold Ib
            rw [ho, HR1.out, ht]
            constructor
            · rintro ⟨⟨h1, h2⟩, h3⟩
              exact tgo_next h1 HG.out ⟨fun e => by rw [e] at HMM; have := HMM.out; simp at this; omega, fun j2 s2 hs2 => h3 j2 s2 (by have := (List.getElem?_eq_some_iff.1 hs2).1; have := HMM.out; omega) hs2⟩
            · intro h
              have hg := h i t (by omega) HG.out
              refine ⟨⟨fun i2 t2 h2 => h i2 t2 (by omega), ?_⟩, fun j2 s2 _ hs2 => hg.2 j2 s2 hs2⟩
              have := HMM.out
              have h0 : t.length ≠ 0 := fun e => hg.1 (List.eq_nil_of_length_eq_zero e)
              omega)
          have HDN : Hid (Mb r2 (∀ s, s < x.sats.length → dr2 s = leftS (p.tr.take (i + 1)) s)) := Lib.hid (fun h s hs => by rw [HDS.out h s hs, leftS_next HG.out, HTM.out])
          have hup : Mb r2 (u = tload t) := fun h => by
            have := HS.out h
            rw [HTM.out] at this
            exact this
          have HUP := Lib.hid hup
          have HRR : Hid (r2 = true → r = true) := Lib.hid (fun h => (HR1.out.1 (HO.out.1 h).1).1)
          clear hup
          cases l with
          | false =>
            have HLN : Hid (Mb r2 (Ib false (∀ (j : Nat) (t : List (Int × Int)), j < i + 1 → p.tr[j]? = some t → tload t ≤ x.tr))) := Lib.hid (fun h => ⟨fun h2 => (by cases h2), fun h2 => (HL.out (HRR.out h)).2 (fun j2 t2 h3 h4 => h2 j2 t2 (by omega) h4)⟩)
            go_wp2_with fail
            go_roundw
            case rel => exact ⟨i + 1, r2, false, dr2, by go_num, rfl, rfl, by omega, HTN, HLN, HDN, HCS⟩
            case measure => simp [intOf]; omega
          | true =>
            obtain ⟨bq, hbq⟩ : ∃ bq, decide (u ≤ x.tr) = bq := ⟨_, rfl⟩
            have HLN : Hid (Mb r2 (Ib bq (∀ (j : Nat) (t : List (Int × Int)), j < i + 1 → p.tr[j]? = some t → tload t ≤ x.tr))) := Lib.hid (fun h => by
              unfold Ib
              rw [← hbq, decide_eq_true_eq, HUP.out h]
              constructor
              · intro h2
                exact all_next (q := fun t => tload t ≤ x.tr) ((HL.out (HRR.out h)).1 rfl) HG.out h2
              · intro h2
                exact h2 i t (by omega) HG.out)
            go_wp2_with fail
            go_roundw
            case rel => exact ⟨i + 1, r2, bq, dr2, by go_num, rfl, by first | rfl | rw [hbq], by omega, HTN, HLN, HDN, HCS⟩
            case measure => simp [intOf]; omega
    · obtain rfl : i = p.tr.length := by omega
      have HTG : Hid (Ib r (TGo x.sats.length p.tr)) := Lib.hid (by
        have ht : (r = true ↔ _) := HT.out
        unfold Ib
        rw [ht]
        exact ⟨fun h k t hk => h k t (List.getElem?_eq_some_iff.1 hk).1 hk, fun h k t _ hk => h k t hk⟩)
      have HTF : Hid (Mb r (Ib l (∀ t ∈ p.tr, tload t ≤ x.tr))) := Lib.hid (fun h => by
        have hl : (l = true ↔ _) := HL.out h
        unfold Ib
        rw [hl]
        exact ⟨fun h => all_all (q := fun t => tload t ≤ x.tr) h (Nat.le_refl _), fun h j t _ hj => h t (List.mem_of_getElem? hj)⟩)
      have HDF : Hid (Mb r (∀ s, s < x.sats.length → dr s = leftS p.tr s)) := Lib.hid (fun h s hs => by rw [HDR.out h s hs, List.take_of_length_le (Nat.le_refl _)])
      obtain ⟨rt, hrt⟩ : ∃ rt, r = rt := ⟨_, rfl⟩
      obtain ⟨lt, hlt'⟩ : ∃ lt, l = lt := ⟨_, rfl⟩
      subst hrt hlt'
      have HB0 : Hid (Ib r (TGo x.sats.length p.tr ∧ bgoTo x.sats.length x.cus.length p.bk 0)) := Lib.hid (by
        have ht : (r = true ↔ _) := HTG.out
        unfold Ib
        rw [ht]
        exact ⟨fun h => ⟨h, fun i t hi => by omega⟩, fun h => h.1⟩)
      have HL0 : Hid (Mb r (Ib l ((∀ t ∈ p.tr, tload t ≤ x.tr) ∧ ∀ (j : Nat) (b : Int × List Int), j < 0 → p.bk[j]? = some b → bload x b.2 ≤ x.br))) := Lib.hid (fun h => by
        have hl : (l = true ↔ _) := HTF.out h
        unfold Ib
        rw [hl]
        exact ⟨fun h => ⟨h, fun j b hj => by omega⟩, fun h => h.1⟩)
      have HS0 : Hid (Mb r (∀ c : Nat, c < x.cus.length → (fun _ : Nat => (0 : Int)) c = if (c : Int) ∈ flatB (p.bk.take 0) then 1 else 0)) := Lib.hid (fun _ c _ => by simp [flatB])
      have HLD0 : Hid (Mb r (∀ s, s < x.sats.length → (fun _ : Nat => (0 : Int)) s = loadS x (p.bk.take 0) s)) := Lib.hid (fun _ s _ => by rw [List.take_zero]; rfl)
      obtain ⟨c0, c1, c2, c3, c4, c5, c6, c7, c8, d0, d1⟩ := HCR.out.box.cells
      clear HL HDR HT
      go_wp2_with fail
      clear c0 c1 c2 c3 c4 c5 c6 c7 c8 d0 d1
      obtain ⟨r0, hr0⟩ : ∃ r0, r0 = r := ⟨_, rfl⟩
      have HR0 := Lib.hid hr0
      rw [← hr0] at HTG HDF HB0 HL0 HS0 HLD0 ⊢
      clear hr0
      go_loopw [8, 9, 144] (fun rv lv iv wr => ∃ (i : Nat) (r l : Bool) (sv ld : Nat → Int), iv = .int .i64 (i : Int) ∧ rv = .bool r ∧ lv = .bool l ∧ i ≤ p.bk.length ∧ Hid (Ib r (TGo x.sats.length p.tr ∧ bgoTo x.sats.length x.cus.length p.bk i)) ∧ Hid (Mb r (Ib l ((∀ t ∈ p.tr, tload t ≤ x.tr) ∧ ∀ (j : Nat) (b : Int × List Int), j < i → p.bk[j]? = some b → bload x b.2 ≤ x.br))) ∧ Hid (Mb r (∀ c : Nat, c < x.cus.length → sv c = if (c : Int) ∈ flatB (p.bk.take i) then 1 else 0)) ∧ Hid (Mb r (∀ s, s < x.sats.length → ld s = loadS x (p.bk.take i) s)) ∧ Hid (CdW w wr A x P p gs gd gl sv dr ld)) (fun _ _ iv _ => p.bk.length - (intOf iv).toNat)
      case atStart => exact ⟨0, r0, l, _, _, rfl, rfl, rfl, Nat.zero_le _, HB0, HL0, HS0, HLD0, HCR⟩
      case round =>
        obtain ⟨i, r, l, sv, ld, rfl, rfl, rfl, hi, HB, HL, HSV, HLD, HCR⟩ := hrel
        clear HB0 HL0 HS0 HLD0
        by_cases hlt : i < p.bk.length
        · obtain ⟨tb, to_, t, ra, rc, hta, htb, hg, htl, q0, q1, hpr⟩ := HP.out.bk.at_ hlt
          have q0 := (HCR.out.box.below.cell (p := ⟨tb, to_ + i * 2, none⟩) htb).trans q0
          have q1 := (HCR.out.box.below.cell (p := ⟨tb, to_ + i * 2 + 1, none⟩) htb).trans q1
          have HPR := Lib.hid hpr
          have HG := Lib.hid hg
          have HFN := Lib.hid (flatB_next hg)
          have HLN : Hid (∀ s : Nat, loadS x (p.bk.take (i + 1)) s = loadS x (p.bk.take i) s + if t.1 = (s : Int) then bload x t.2 else 0) := Lib.hid (fun s => loadS_next hg)
          rw [hta]
          clear hta htb hg hpr
          obtain ⟨m, hmm⟩ : ∃ m, t.2.length = m := ⟨_, rfl⟩
          rw [hmm] at q1 htl HPR
          have HMM := Lib.hid hmm
          have HC2 := Lib.hid (HCR.out.alloc (.cells #[.int .i64 t.1, .slice ra m rc] 55))
          have HT2 : Hid ((wr.alloc (.cells #[.int .i64 t.1, .slice ra m rc] 55)).heap[wr.heap.size]? = some (.cells #[.int .i64 t.1, .slice ra m rc] 55 (0, 0))) := Lib.hid (heap_alloc_new _ _)
          clear hmm
          go_upto_region 31 with fail
          obtain ⟨gt, hgt⟩ : ∃ gt, wr.heap.size = gt := ⟨_, rfl⟩
          obtain ⟨W2, hW2⟩ : ∃ W2, wr.alloc (.cells #[.int .i64 t.1, .slice ra m rc] 55) = W2 := ⟨_, rfl⟩
          rw [hW2] at HC2 HT2 ⊢
          rw [hgt] at HT2 ⊢
          clear hW2 hgt q0 q1 HCR
          obtain ⟨k0, k1⟩ := cells2r HT2.out
          go_cut [8] from 148 to 160 (fun rv wx => rv = .bool (r && (decide (0 < m) && amB t.1 x.sats.length)) ∧ wx = W2)
          case first =>
            cases r with
            | false =>
              go_wp2_with fail
              go_meet
              exact ⟨rfl, rfl⟩
            | true =>
              by_cases hm0 : 0 < m
              · have dm : decide ((m : Int) > 0) = true := decide_eq_true (by omega)
                have HDM : Hid (decide (0 < m) = true) := Lib.hid (decide_eq_true hm0)
                cases ham : amB t.1 x.sats.length with
                | false =>
                  have HTH := Lib.hid (there_any A x t.1 w.heap.size W2 HC2.out.box.inst false ham)
                  have HAM := Lib.hid ham
                  clear ham
                  go_wp2_with (go_at_call 34; refine HTH.out.mono ?_; rintro e w9 ⟨rfl, rfl⟩)
                  go_meet
                  exact ⟨by rw [HAM.out, HDM.out]; rfl, rfl⟩
                | true =>
                  have HTH := Lib.hid (there_any A x t.1 w.heap.size W2 HC2.out.box.inst true ham)
                  have HAM := Lib.hid ham
                  clear ham
                  go_wp2_with (go_at_call 34; refine HTH.out.mono ?_; rintro e w9 ⟨rfl, rfl⟩)
                  go_meet
                  exact ⟨by rw [HAM.out, HDM.out]; rfl, rfl⟩
              · have dm : decide ((m : Int) > 0) = false := decide_eq_false (by omega)
                have HDM : Hid (decide (0 < m) = false) := Lib.hid (decide_eq_false hm0)
                go_wp2_with fail
                go_meet
                exact ⟨by rw [HDM.out]; rfl, rfl⟩
          case rest =>
          obtain ⟨rfl, rfl⟩ := hcut
          obtain ⟨r1, hr1⟩ : ∃ r1, (r && (decide (0 < m) && amB t.1 x.sats.length)) = r1 := ⟨_, rfl⟩
          have HR1 : Hid (r1 = true ↔ r = true ∧ 0 < m ∧ amB t.1 x.sats.length = true) := Lib.hid (by rw [← hr1]; simp)
          rw [hr1]
          clear hr1
          obtain ⟨F, hF⟩ : ∃ F, flatB (p.bk.take i) = F := ⟨_, rfl⟩
          have HF := Lib.hid hF
          rw [hF] at HFN HSV
          clear hF
          have HO0 : Hid (Ib r1 (r1 = true ∧ okCTo x.cus.length F t.2 0)) := Lib.hid ⟨fun h => ⟨h, fun j s hj => by omega⟩, fun h => h.1⟩
          have HS0 : Hid (Mb r1 ((0 : Int) = bload x (t.2.take 0))) := Lib.hid (fun _ => by rw [List.take_zero]; rfl)
          have HV0 : Hid (Mb r1 (∀ c : Nat, c < x.cus.length → sv c = if (c : Int) ∈ F ++ t.2.take 0 then 1 else 0)) := Lib.hid (fun h c hc => by rw [List.take_zero, List.append_nil]; exact HSV.out (HR1.out.1 h).1 c hc)
          have HD0 : Hid (Mb r1 (∀ s, s < x.sats.length → ld s = loadS x (p.bk.take i) s + if t.1 = (s : Int) then bload x (t.2.take 0) else 0)) := Lib.hid (fun h s hs => by rw [HLD.out (HR1.out.1 h).1 s hs, List.take_zero]; unfold bload; rw [sumF_nil]; split <;> omega)
          go_wp2_with fail
          clear k0 k1
          go_loopw [8, 21, 164] (fun rv uv iv wr => ∃ (j : Nat) (r2 : Bool) (u : Int) (sv2 ld2 : Nat → Int), iv = .int .i64 (j : Int) ∧ rv = .bool r2 ∧ uv = .int .i64 u ∧ j ≤ m ∧ Hid (Ib r2 (r1 = true ∧ okCTo x.cus.length F t.2 j)) ∧ Hid (Mb r2 (u = bload x (t.2.take j))) ∧ Hid (Mb r2 (∀ c : Nat, c < x.cus.length → sv2 c = if (c : Int) ∈ F ++ t.2.take j then 1 else 0)) ∧ Hid (Mb r2 (∀ s, s < x.sats.length → ld2 s = loadS x (p.bk.take i) s + if t.1 = (s : Int) then bload x (t.2.take j) else 0)) ∧ Hid (CdW w wr A x P p gs gd gl sv2 dr ld2) ∧ Hid (wr.heap[gt]? = some (.cells #[.int .i64 t.1, .slice ra m rc] 55 (0, 0)))) (fun _ _ iv _ => m - (intOf iv).toNat)
          case atStart => exact ⟨0, r1, 0, sv, ld, rfl, rfl, rfl, Nat.zero_le _, HO0, HS0, HV0, HD0, HC2, HT2⟩
          case round =>
            obtain ⟨j, r2, u, sv2, ld2, rfl, rfl, rfl, hj, HO, HS, HV, HDS, HCS, HTS⟩ := hrel
            clear HC2 HT2 HO0 HS0 HD0 HV0
            by_cases hjt : j < m
            · obtain ⟨b2, off, c, rfl, hgs, q0⟩ := (HPR.out.later HCS.out.box.below).at_ hjt
              have HGS := Lib.hid hgs
              clear hgs
              go_upto_region 35 with fail
              clear q0
              go_cut [8] from 168 to 177 (fun rv wx => rv = .bool (r2 && amB c x.cus.length) ∧ wx = wr)
              case first =>
                cases r2 with
                | false =>
                  go_wp2_with fail
                  go_meet
                  exact ⟨rfl, rfl⟩
                | true =>
                  by_cases g1 : 0 ≤ c
                  · have e1 : decide (c ≥ 0) = true := decide_eq_true g1
                    by_cases g2 : c < (x.cus.length : Int)
                    · have e2 : decide (c < (x.cus.length : Int)) = true := decide_eq_true g2
                      have HAM : Hid (amB c x.cus.length = true) := Lib.hid (amB_true.2 ⟨g1, g2⟩)
                      go_wp2_with fail
                      go_meet
                      exact ⟨by rw [HAM.out]; rfl, rfl⟩
                    · have e2 : decide (c < (x.cus.length : Int)) = false := decide_eq_false g2
                      have HAM : Hid (amB c x.cus.length = false) := Lib.hid (amB_false.2 (fun h => g2 h.2))
                      go_wp2_with fail
                      go_meet
                      exact ⟨by rw [HAM.out]; rfl, rfl⟩
                  · have e1 : decide (c ≥ 0) = false := decide_eq_false g1
                    have HAM : Hid (amB c x.cus.length = false) := Lib.hid (amB_false.2 (fun h => g1 h.1))
                    go_wp2_with fail
                    go_meet
                    exact ⟨by rw [HAM.out]; rfl, rfl⟩
              case rest =>
              obtain ⟨rfl, rfl⟩ := hcut
              obtain ⟨r3, hr3⟩ : ∃ r3, (r2 && amB c x.cus.length) = r3 := ⟨_, rfl⟩
              have HR3 : Hid (r3 = true ↔ r2 = true ∧ amB c x.cus.length = true) := Lib.hid (by rw [← hr3]; simp)
              rw [hr3]
              clear hr3
              cases r3 with
              | false =>
                have HON : Hid (Ib false (r1 = true ∧ okCTo x.cus.length F t.2 (j + 1))) := Lib.hid ⟨fun h => (by cases h), fun h => (by
                  have h3 := h.2 j c (by omega) HGS.out
                  have h2 := HO.out.2 ⟨h.1, fun j2 c2 h4 => h.2 j2 c2 (by omega)⟩
                  exact HR3.out.2 ⟨h2, h3.1⟩)⟩
                have HSN : Hid (Mb false (u = bload x (t.2.take (j + 1)))) := Lib.hid (fun h => by cases h)
                have HVN : Hid (Mb false (∀ c : Nat, c < x.cus.length → sv2 c = if (c : Int) ∈ F ++ t.2.take (j + 1) then 1 else 0)) := Lib.hid (fun h => by cases h)
                have HDN : Hid (Mb false (∀ s, s < x.sats.length → ld2 s = loadS x (p.bk.take i) s + if t.1 = (s : Int) then bload x (t.2.take (j + 1)) else 0)) := Lib.hid (fun h => by cases h)
                go_wp2_with fail
                go_roundw
                case rel => exact ⟨j + 1, false, u, sv2, ld2, by go_num, rfl, rfl, by omega, HON, HSN, HVN, HDN, HCS, HTS⟩
                case measure => simp [intOf]; omega
              | true =>
                obtain ⟨hr2, ham⟩ := HR3.out.1 rfl
                obtain ⟨h1, hok⟩ := HO.out.1 hr2
                obtain ⟨hrr, hm0, hat⟩ := HR1.out.1 h1
                obtain ⟨a1, a2⟩ := amB_true.1 ham
                obtain ⟨a3, a4⟩ := amB_true.1 hat
                obtain ⟨cn, rfl⟩ : ∃ cn : Nat, c = (cn : Int) := ⟨c.toNat, by omega⟩
                obtain ⟨sn, hsn⟩ : ∃ sn : Nat, t.1 = (sn : Int) := ⟨t.1.toNat, by omega⟩
                have hcM : cn < x.cus.length := by omega
                have hsN : sn < x.sats.length := by omega
                have hjn : j ≤ x.cus.length := okC_le hok (by rw [HMM.out]; omega)
                have hsv := HV.out hr2 cn hcM
                have hld := HDS.out hr2 sn hsN
                rw [if_pos hsn] at hld
                have hub := bload_in HM.out (l := t.2.take j) (by rw [List.length_take]; omega)
                have hu := HS.out hr2
                have hlb := loadS_to HM.out ((HB.out.1 hrr).2) (show i ≤ 60 by omega) (show x.cus.length ≤ 48 by omega) sn
                have hwb := wantL_in HM.out (cn : Int)
                rw [← hu] at hub
                obtain ⟨bc, oc, y, hca, hbc, hy, p0, p1, p2, p3⟩ := ((HI.out.later HCS.out.box.below).mono HCS.out.box.below.size).cus.at_ hcM
                have hwant : wantL x (cn : Int) = y.1 := by
                  unfold wantL
                  rw [ham, if_pos rfl, show ((cn : Int).toNat) = cn from by omega, List.getD, hy]; rfl
                rw [hwant] at hwb
                obtain ⟨c0, c1, c2, c3, c4, c5, c6, c7, c8, d0, d1⟩ := HCS.out.box.cells
                rw [hca] at c6
                obtain ⟨v, hv⟩ : ∃ v, sv2 cn = v := ⟨_, rfl⟩
                obtain ⟨q, hq⟩ : ∃ q, ld2 sn = q := ⟨_, rfl⟩
                rw [hv] at hsv
                rw [hq, ← hu] at hld
                have hvb : 0 ≤ v ∧ v ≤ 1 := by rw [hsv]; split <;> omega
                have wv : IntKind.i64.wrap (v + 1) = v + 1 := by rw [IntKind.wrap_i64]; omega
                have wu : IntKind.i64.wrap (u + y.1) = u + y.1 := by rw [IntKind.wrap_i64]; omega
                have wq : IntKind.i64.wrap (q + y.1) = q + y.1 := by rw [IntKind.wrap_i64]; omega
                obtain ⟨bq, hbq⟩ : ∃ bq, ((v + 1 : Int) == 1) = bq := ⟨_, rfl⟩
                have HBQ : Hid (bq = true ↔ ¬ (cn : Int) ∈ F ++ t.2.take j) := Lib.hid (by
                  rw [← hbq, hsv]
                  split <;> rename_i hin <;> simp [hin])
                have HON : Hid (Ib bq (r1 = true ∧ okCTo x.cus.length F t.2 (j + 1))) := Lib.hid (by
                  unfold Ib
                  rw [HBQ.out]
                  exact ⟨fun h => ⟨h1, okC_next hok HGS.out ⟨ham, h⟩⟩, fun h => (h.2 j _ (by omega) HGS.out).2⟩)
                have HTK : Hid (bload x (t.2.take (j + 1)) = u + y.1) := Lib.hid (by
                  rw [hu, ← hwant]
                  exact sumF_next HGS.out)
                have HSN : Hid (Mb bq (u + y.1 = bload x (t.2.take (j + 1)))) := Lib.hid (fun _ => HTK.out.symm)
                have HVN : Hid (Mb bq (∀ k : Nat, k < x.cus.length → (fun k => if k = cn then v + 1 else sv2 k) k = if (k : Int) ∈ F ++ t.2.take (j + 1) then 1 else 0)) := Lib.hid (fun h k hk => by
                  have hno := HBQ.out.1 h
                  have e9 : F ++ t.2.take (j + 1) = (F ++ t.2.take j) ++ [(cn : Int)] := by rw [List.take_add_one, HGS.out]; simp
                  rw [e9]
                  by_cases e : k = cn
                  · subst e
                    simp only [if_true]
                    rw [if_neg hno] at hsv
                    rw [if_pos (by simp)]
                    omega
                  · simp only [e, if_false]
                    rw [HV.out hr2 k hk]
                    have : ((k : Int) ∈ (F ++ t.2.take j) ++ [(cn : Int)]) ↔ (k : Int) ∈ F ++ t.2.take j := by
                      rw [List.mem_append, List.mem_singleton]
                      constructor
                      · rintro (h | h)
                        · exact h
                        · omega
                      · intro h
                        exact .inl h
                    simp only [this])
                have HDN : Hid (Mb bq (∀ s, s < x.sats.length → (fun k => if k = sn then q + y.1 else ld2 k) s = loadS x (p.bk.take i) s + if t.1 = (s : Int) then bload x (t.2.take (j + 1)) else 0)) := Lib.hid (fun _ s hs => by
                  rw [HTK.out]
                  by_cases e : s = sn
                  · subst e
                    simp only [if_true]
                    rw [if_pos hsn]
                    omega
                  · simp only [e, if_false]
                    rw [HDS.out hr2 s hs, if_neg (by omega), if_neg (by omega)])
                have HC5 := Lib.hid (HCS.out.setS cn (v + 1))
                have HC6 := Lib.hid ((HC5.out.later (Below.refl _ _).drew).setL sn (q + y.1))
                have s0 := World.rowIs.cell HCS.out.sv hcM
                have sf := World.rowIs.frozen HCS.out.sv cn
                have r0' := World.rowIs.cell HC5.out.ld hsN
                have rf := World.rowIs.frozen HC5.out.ld sn
                have s1 := World.rowIs.cell HC5.out.sv hcM
                dsimp only at s1
                rw [if_pos rfl] at s1
                rw [hv] at s0
                rw [hq] at r0'
                have HT5 : Hid ((wc.setCell ⟨gs, cn, none⟩ (.int .i64 (v + 1))).heap[gt]? = some (.cells #[.int .i64 t.1, .slice (some ⟨b2, off, none⟩) m rc] 55 (0, 0))) := Lib.hid ((heap_setCell_other _ _ _ _ (fun e => blk_neI HTS.out HCS.out.sv (by decide) e)).trans HTS.out)
                have HT6 : Hid (((wc.setCell ⟨gs, cn, none⟩ (.int .i64 (v + 1))).drew.setCell ⟨gl, sn, none⟩ (.int .i64 (q + y.1))).heap[gt]? = some (.cells #[.int .i64 t.1, .slice (some ⟨b2, off, none⟩) m rc] 55 (0, 0))) := Lib.hid ((heap_setCell_other _ _ _ _ (fun e => blk_ne HT5.out HC5.out.ld (by decide) e)).trans HT5.out)
                obtain ⟨k0, k1⟩ := cells2r HT5.out
                rw [hsn] at k0
                obtain ⟨e0, e1, e2, e3, e4, e5, e6, e7, e8, e9, e10⟩ := HC5.out.box.cells
                rw [hca] at e6
                have p0' : (wc.setCell ⟨gs, cn, none⟩ (.int .i64 (v + 1))).cell? ⟨bc, oc + cn * 4, none⟩ = some (.int .i64 y.1) := ((((HI.out.later HC5.out.box.below).mono HC5.out.box.below.size).cus.cell0 hca hy))
                clear hy hca hwant hv hq hsv hld hub hlb hwb hu hr2 h1 hok hrr ham hat hvb
                go_upto_region 40 with fail
                go_region
                go_wp2_with fail
                go_roundw
                case rel => exact ⟨j + 1, bq, u + y.1, _, _, by go_num, by first | rfl | rw [hbq], rfl, by omega, HON, HSN, HVN, HDN, HC6, HT6⟩
                case measure => simp [intOf]; omega
            · obtain rfl : m = j := by omega
              obtain ⟨c0, c1, c2, c3, c4, c5, c6, c7, c8, d0, d1⟩ := HCS.out.box.cells
              have HTM : Hid (t.2.take m = t.2) := Lib.hid (List.take_of_length_le (by rw [HMM.out]; exact Nat.le_refl _))
              have HBN : Hid (Ib r2 (TGo x.sats.length p.tr ∧ bgoTo x.sats.length x.cus.length p.bk (i + 1))) := Lib.hid (by
                have ho : (r2 = true ↔ _) := HO.out
                have ht : (r = true ↔ _) := HB.out
                unfold Ib
                rw [ho, HR1.out, ht]
                constructor
                · rintro ⟨⟨⟨h0, h1⟩, h2, h3⟩, h4⟩
                  refine ⟨h0, bgo_next h1 HG.out ⟨h3, fun e => by have := HMM.out; rw [e] at this; simp at this; omega, fun j2 s2 hs2 => ?_⟩⟩
                  rw [HF.out]
                  exact h4 j2 s2 (by have := (List.getElem?_eq_some_iff.1 hs2).1; have := HMM.out; omega) hs2
                · rintro ⟨h0, h⟩
                  have hg := h i t (by omega) HG.out
                  refine ⟨⟨⟨h0, fun i2 t2 h2 => h i2 t2 (by omega)⟩, ?_, hg.1⟩, fun j2 s2 _ hs2 => ?_⟩
                  · have := HMM.out
                    have h0 : t.2.length ≠ 0 := fun e => hg.2.1 (List.eq_nil_of_length_eq_zero e)
                    omega
                  · have := hg.2.2 j2 s2 hs2
                    rwa [HF.out] at this)
              have HSN : Hid (Mb r2 (∀ c : Nat, c < x.cus.length → sv2 c = if (c : Int) ∈ flatB (p.bk.take (i + 1)) then 1 else 0)) := Lib.hid (fun h c hc => by rw [HFN.out, HV.out h c hc, HTM.out])
              have HDN : Hid (Mb r2 (∀ s, s < x.sats.length → ld2 s = loadS x (p.bk.take (i + 1)) s)) := Lib.hid (fun h s hs => by rw [HDS.out h s hs, HLN.out s, HTM.out])
              have HUP : Hid (Mb r2 (u = bload x t.2)) := Lib.hid (fun h => by
                have := HS.out h
                rw [HTM.out] at this
                exact this)
              have HRR : Hid (r2 = true → r = true) := Lib.hid (fun h => (HR1.out.1 (HO.out.1 h).1).1)
              cases l with
              | false =>
                have HLN2 : Hid (Mb r2 (Ib false ((∀ t ∈ p.tr, tload t ≤ x.tr) ∧ ∀ (j : Nat) (b : Int × List Int), j < i + 1 → p.bk[j]? = some b → bload x b.2 ≤ x.br))) := Lib.hid (fun h => ⟨fun h2 => (by cases h2), fun h2 => (HL.out (HRR.out h)).2 ⟨h2.1, fun j2 t2 h3 h4 => h2.2 j2 t2 (by omega) h4⟩⟩)
                go_wp2_with fail
                go_roundw
                case rel => exact ⟨i + 1, r2, false, sv2, ld2, by go_num, rfl, rfl, by omega, HBN, HLN2, HSN, HDN, HCS⟩
                case measure => simp [intOf]; omega
              | true =>
                obtain ⟨bq, hbq⟩ : ∃ bq, decide (u ≤ x.br) = bq := ⟨_, rfl⟩
                have HLN2 : Hid (Mb r2 (Ib bq ((∀ t ∈ p.tr, tload t ≤ x.tr) ∧ ∀ (j : Nat) (b : Int × List Int), j < i + 1 → p.bk[j]? = some b → bload x b.2 ≤ x.br))) := Lib.hid (fun h => by
                  have h1 := (HL.out (HRR.out h)).1 rfl
                  unfold Ib
                  rw [← hbq, decide_eq_true_eq, HUP.out h]
                  constructor
                  · intro h2
                    exact ⟨h1.1, all_next (q := fun b : Int × List Int => bload x b.2 ≤ x.br) h1.2 HG.out h2⟩
                  · intro h2
                    exact h2.2 i t (by omega) HG.out)
                go_wp2_with fail
                go_roundw
                case rel => exact ⟨i + 1, r2, bq, sv2, ld2, by go_num, rfl, by first | rfl | rw [hbq], by omega, HBN, HLN2, HSN, HDN, HCS⟩
                case measure => simp [intOf]; omega
        · obtain rfl : i = p.bk.length := by omega
          have HPE0 : Hid (∀ u, ((¬ (TGo x.sats.length p.tr ∧ BGo x.sats.length x.cus.length p.bk) ∧ u = 15) ∨ (TGo x.sats.length p.tr ∧ BGo x.sats.length x.cus.length p.bk ∧ ((¬ (∀ c : Nat, c < x.cus.length → (c : Int) ∈ flatB p.bk) ∧ u = 8) ∨ ((∀ c : Nat, c < x.cus.length → (c : Int) ∈ flatB p.bk) ∧ ((¬ FitsP x p ∧ u = 10) ∨ (FitsP x p ∧ ((¬ (∀ s, s < x.sats.length → leftS p.tr s = loadS x p.bk s) ∧ u = 13) ∨ ((∀ s, s < x.sats.length → leftS p.tr s = loadS x p.bk s) ∧ u = 0)))))))) → PErr x p u) := Lib.hid (fun u h => .inr ⟨HCN.out.1, HCN.out.2, h⟩)
          have HBG : Hid (Ib r (TGo x.sats.length p.tr ∧ BGo x.sats.length x.cus.length p.bk)) := Lib.hid (by
            have hb : (r = true ↔ _) := HB.out
            unfold Ib
            rw [hb]
            exact ⟨fun h => ⟨h.1, fun k t hk => h.2 k t (List.getElem?_eq_some_iff.1 hk).1 hk⟩, fun h => ⟨h.1, fun k t _ hk => h.2 k t hk⟩⟩)
          cases r with
          | false =>
            have HE : Hid (PErr x p 15) := Lib.hid (HPE0.out _ (.inl ⟨fun h => (by have := HBG.out.2 h; cases this), rfl⟩))
            go_wp2_with fail
            go_ret
            exact ⟨_, rfl, HE.out, HCR.out.box.below⟩
          | true =>
            have HTB := Lib.hid (HBG.out.1 rfl)
            have HRT : Hid (r0 = true) := Lib.hid (HTG.out.2 HTB.out.1)
            have HS2 : Hid (∀ c : Nat, c < x.cus.length → sv c = if (c : Int) ∈ flatB p.bk then 1 else 0) := Lib.hid (fun c hc => by rw [HSV.out rfl c hc, List.take_of_length_le (Nat.le_refl _)])
            have HD2 : Hid (∀ s, s < x.sats.length → dr s = leftS p.tr s) := HDF.out HRT.out |> Lib.hid
            have HL2 : Hid (∀ s, s < x.sats.length → ld s = loadS x p.bk s) := Lib.hid (fun s hs => by rw [HLD.out rfl s hs, List.take_of_length_le (Nat.le_refl _)])
            have HLL : Hid (Ib l ((∀ t ∈ p.tr, tload t ≤ x.tr) ∧ ∀ b ∈ p.bk, bload x b.2 ≤ x.br)) := Lib.hid (by
              have hl : (l = true ↔ _) := HL.out rfl
              unfold Ib
              rw [hl]
              exact ⟨fun h => ⟨h.1, all_all (q := fun b : Int × List Int => bload x b.2 ≤ x.br) h.2 (Nat.le_refl _)⟩, fun h => ⟨h.1, fun j b _ hj => h.2 b (List.mem_of_getElem? hj)⟩⟩)
            have HA0 : Hid (∀ c : Nat, c < 0 → (c : Int) ∈ flatB p.bk) := Lib.hid (fun c h => by omega)
            clear HB HL HSV HLD HTG HDF
            go_wp2_with fail
            go_loopw [225] (fun iv wr => ∃ k : Nat, iv = .int .i64 (k : Int) ∧ k ≤ x.cus.length ∧ Hid (∀ c : Nat, c < k → (c : Int) ∈ flatB p.bk) ∧ Hid (CdW w wr A x P p gs gd gl sv dr ld)) (fun iv _ => x.cus.length - (intOf iv).toNat)
            case atStart => exact ⟨0, rfl, Nat.zero_le _, HA0, HCR⟩
            case round =>
              obtain ⟨k, rfl, hk, HA, HCS⟩ := hrel
              clear HA0 HCR
              by_cases hkc : k < x.cus.length
              · have s0 := World.rowIs.cell HCS.out.sv hkc
                by_cases hin : (k : Int) ∈ flatB p.bk
                · have hv : sv k = 1 := by rw [HS2.out k hkc, if_pos hin]
                  have HAN : Hid (∀ c : Nat, c < k + 1 → (c : Int) ∈ flatB p.bk) := Lib.hid (fun c hc => by
                    by_cases e : c = k
                    · rw [e]; exact hin
                    · exact HA.out c (by omega))
                  rw [hv] at s0
                  have h10 : ((1 : Int) == 0) = false := rfl
                  clear hin hv
                  go_wp2_with fail
                  go_roundw
                  case rel => exact ⟨k + 1, by go_num, by omega, HAN, HCS⟩
                  case measure => simp [intOf]; omega
                · have hv : sv k = 0 := by rw [HS2.out k hkc, if_neg hin]
                  have HE : Hid (PErr x p 8) := Lib.hid (HPE0.out _ (.inr ⟨HTB.out.1, HTB.out.2, .inl ⟨fun h => hin (h k hkc), rfl⟩⟩))
                  rw [hv] at s0
                  have h00 : ((0 : Int) == 0) = true := rfl
                  clear hin hv
                  go_wp2_with fail
                  go_ret
                  exact ⟨_, rfl, HE.out, HCS.out.box.below⟩
              · obtain rfl : k = x.cus.length := by omega
                have HR0 : Hid (Ib l (((∀ t ∈ p.tr, tload t ≤ x.tr) ∧ ∀ b ∈ p.bk, bload x b.2 ≤ x.br) ∧ ∀ s, s < 0 → loadS x p.bk s ≤ (x.sats.getD s (0, 0)).1)) := Lib.hid (by
                  have hl : (l = true ↔ _) := HLL.out
                  unfold Ib
                  rw [hl]
                  exact ⟨fun h => ⟨h, fun s hs => by omega⟩, fun h => h.1⟩)
                go_wp2_with fail
                go_loopw [9, 234] (fun lv iv wr => ∃ (k : Nat) (l2 : Bool), iv = .int .i64 (k : Int) ∧ lv = .bool l2 ∧ k ≤ x.sats.length ∧ Hid (Ib l2 (((∀ t ∈ p.tr, tload t ≤ x.tr) ∧ ∀ b ∈ p.bk, bload x b.2 ≤ x.br) ∧ ∀ s, s < k → loadS x p.bk s ≤ (x.sats.getD s (0, 0)).1)) ∧ Hid (CdW w wr A x P p gs gd gl sv dr ld)) (fun _ iv _ => x.sats.length - (intOf iv).toNat)
                case atStart => exact ⟨0, l, rfl, rfl, Nat.zero_le _, HR0, HCS⟩
                case round =>
                  obtain ⟨k, l2, rfl, rfl, hk, HRM, HCT⟩ := hrel
                  clear HR0 HCS
                  by_cases hks : k < x.sats.length
                  · have s0 := World.rowIs.cell HCT.out.ld hks
                    have hv := HL2.out k hks
                    obtain ⟨b2, off, z, hsa, hb2, hgs2, q0, q1⟩ := ((HI.out.later HCT.out.box.below).mono HCT.out.box.below.size).sats.at_ hks
                    obtain ⟨c0, c1, c2, c3, c4, c5, c6, c7, c8, d0, d1⟩ := HCT.out.box.cells
                    have HZ : Hid ((x.sats.getD k (0, 0)).1 = z.1) := Lib.hid (by rw [List.getD, hgs2]; rfl)
                    rw [hsa] at c5
                    obtain ⟨u, hu⟩ : ∃ u, ld k = u := ⟨_, rfl⟩
                    rw [hu] at s0 hv
                    have HV := Lib.hid hv
                    clear hgs2 hb2 hsa hu hv
                    cases l2 with
                    | false =>
                      have HRN : Hid (Ib false (((∀ t ∈ p.tr, tload t ≤ x.tr) ∧ ∀ b ∈ p.bk, bload x b.2 ≤ x.br) ∧ ∀ s, s < k + 1 → loadS x p.bk s ≤ (x.sats.getD s (0, 0)).1)) := Lib.hid ⟨fun h => (by cases h), fun h => HRM.out.2 ⟨h.1, fun s hs => h.2 s (by omega)⟩⟩
                      go_wp2_with fail
                      go_roundw
                      case rel => exact ⟨k + 1, false, by go_num, rfl, by omega, HRN, HCT⟩
                      case measure => simp [intOf]; omega
                    | true =>
                      obtain ⟨bq, hbq⟩ : ∃ bq, decide (u ≤ z.1) = bq := ⟨_, rfl⟩
                      have HRN : Hid (Ib bq (((∀ t ∈ p.tr, tload t ≤ x.tr) ∧ ∀ b ∈ p.bk, bload x b.2 ≤ x.br) ∧ ∀ s, s < k + 1 → loadS x p.bk s ≤ (x.sats.getD s (0, 0)).1)) := Lib.hid (by
                        have h1 := HRM.out.1 rfl
                        unfold Ib
                        rw [← hbq, decide_eq_true_eq]
                        constructor
                        · intro h2
                          refine ⟨h1.1, fun s hs => ?_⟩
                          by_cases e : s = k
                          · subst e; rw [← HV.out, HZ.out]; exact h2
                          · exact h1.2 s (by omega)
                        · intro h2
                          have := h2.2 k (by omega)
                          rw [← HV.out, HZ.out] at this
                          exact this)
                      go_wp2_with fail
                      go_roundw
                      case rel => exact ⟨k + 1, bq, by go_num, by first | rfl | rw [hbq], by omega, HRN, HCT⟩
                      case measure => simp [intOf]; omega
                  · obtain rfl : k = x.sats.length := by omega
                    have HFT : Hid (Ib l2 (FitsP x p)) := Lib.hid (by
                      have hl : (l2 = true ↔ _) := HRM.out
                      unfold Ib
                      rw [hl]
                      exact ⟨fun h => ⟨h.1.1, h.1.2, h.2⟩, fun h => ⟨⟨h.tr, h.bk⟩, h.sat⟩⟩)
                    have HALL : Hid (∀ c : Nat, c < x.cus.length → (c : Int) ∈ flatB p.bk) := Lib.hid HA.out
                    cases l2 with
                    | false =>
                      have HE : Hid (PErr x p 10) := Lib.hid (HPE0.out _ (.inr ⟨HTB.out.1, HTB.out.2, .inr ⟨HALL.out, .inl ⟨fun h => (by have := HFT.out.2 h; cases this), rfl⟩⟩⟩))
                      go_wp2_with fail
                      go_ret
                      exact ⟨_, rfl, HE.out, HCT.out.box.below⟩
                    | true =>
                      have HF2 := Lib.hid (HFT.out.1 rfl)
                      by_cases h7 : ∀ s, s < x.sats.length → leftS p.tr s = loadS x p.bk s
                      · have HE : Hid (PErr x p 0) := Lib.hid (HPE0.out _ (.inr ⟨HTB.out.1, HTB.out.2, .inr ⟨HALL.out, .inr ⟨HF2.out, .inr ⟨h7, rfl⟩⟩⟩⟩))
                        have HD : Hid (decide ((List.range x.sats.length).map ld = (List.range x.sats.length).map dr) = true) := Lib.hid (decide_eq_true (List.map_congr_left (fun s hs => by rw [HL2.out s (List.mem_range.1 hs), HD2.out s (List.mem_range.1 hs), h7 s (List.mem_range.1 hs)])))
                        clear h7
                        go_wp2_with (go_at_call 23; refine (eq64_any _ HCT.out.ld.nums HCT.out.dr.nums (by omega)).mono ?_; rw [HD.out]; rintro e w9 ⟨rfl, m9, rfl⟩)
                        go_ret
                        exact ⟨_, rfl, HE.out, below_drewN HCT.out.box.below _⟩
                      · have HE : Hid (PErr x p 13) := Lib.hid (HPE0.out _ (.inr ⟨HTB.out.1, HTB.out.2, .inr ⟨HALL.out, .inr ⟨HF2.out, .inl ⟨h7, rfl⟩⟩⟩⟩))
                        have HD : Hid (decide ((List.range x.sats.length).map ld = (List.range x.sats.length).map dr) = false) := Lib.hid (decide_eq_false (fun e => h7 (fun s hs => by
                          have e2 := congrArg (fun l => l[s]?) e
                          simp [hs] at e2
                          rw [← HL2.out s hs, ← HD2.out s hs, e2])))
                        clear h7
                        go_wp2_with (go_at_call 23; refine (eq64_any _ HCT.out.ld.nums HCT.out.dr.nums (by omega)).mono ?_; rw [HD.out]; rintro e w9 ⟨rfl, m9, rfl⟩)
                        go_ret
                        exact ⟨_, rfl, HE.out, below_drewN HCT.out.box.below _⟩
end Go.Proofs.Ytmnbpnjakbihdaa

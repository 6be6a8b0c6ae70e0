/- The walk of the law on Right (of package least). -/
import Derived.Test.YtbenmebmfihleaaMLaws
import Derived.Test.YtbenmebmfihleaaMCopy
import Derived.Deep.CutRange
import Derived.BigRegion
namespace Go.Proofs.Ytbenmebmfihleaa
open Go.RowKit

variable {len cap N g s t k m hm fc hc C gx gr xl : Nat} {l xs : List Pi} {w wr w2 : World} {a b fa ha la : Option Addr} {lc : Nat} {c much want : Int} {fl : Nat → Int} {ys hs : List Int}
/-- What Least answers, whatever it is: a result, as rows. -/
theorem LeastSpec.least_some (P : LeastSpec) (N s t len cap : Nat) (want : Int) (l : List Pi) (a : Option Addr) (w : World) (he : endsP (N : Int) l (s : Int) (t : Int) = 0) (hr : RangeL l want) (hN : N ≤ 1000) (hlen : len ≤ 1000) (hl : IsPipes w.heap.size w a len l) :
    Calls Try.prog 12 #[.agg #[.int .i64 (N : Int), .slice a len cap], .int .i64 (s : Int), .int .i64 (t : Int), .int .i64 want] w fun e w' => Below w.heap.size w w' ∧
      ∃ e0 a1 m1 c1 a2 m2 c2 c ys hs, e = .returned (.tuple #[.agg #[.slice a1 m1 c1, .int .i64 c, .slice a2 m2 c2], .int .i64 e0]) ∧ m1 ≤ 1000 ∧ m2 ≤ 1000 ∧ IsNums w'.heap.size w' a1 m1 ys ∧ IsNums w'.heap.size w' a2 m2 hs := by
  refine (P.least_any N s t len cap want l a w he hr hl).mono ?_
  rintro e w' ⟨hb, ⟨a1, c1, a2, c2, rfl, _⟩ | ⟨v, u, f, h, c, rfl, hv, hu, _, _, _⟩⟩
  · exact ⟨hb, 8, a1, 0, c1, a2, 0, c2, 0, [], [], rfl, by omega, by omega, ⟨rfl, .inl rfl⟩, ⟨rfl, .inl rfl⟩⟩
  · obtain ⟨a1, c1, rfl⟩ := owns_shape hv
    obtain ⟨a2, c2, rfl⟩ := owns_shape hu
    exact ⟨hb, 0, a1, len, c1, a2, N, c2, c, _, _, rfl, hlen, hN, hv.nums0, hu.nums0⟩
/-- The net's box, its pipes ahead of it. -/
structure NP2 (w wr : World) (gx N : Nat) (la : Option Addr) (xl lc : Nat) (xs : List Pi) : Prop where
  box : NBox w wr gx (N : Int) la xl lc
  pipes : IsPipes gx wr la xl xs
theorem NP2.later (h : NP2 w wr gx N la xl lc xs) (hb : Below wr.heap.size wr w2) : NP2 w w2 gx N la xl lc xs := ⟨h.box.later hb, h.pipes.later (hb.mono (Nat.le_of_lt h.box.lt))⟩
theorem NP2.here (h : NP2 w wr gx N la xl lc xs) : IsPipes wr.heap.size wr la xl xs := h.pipes.mono (Nat.le_of_lt h.box.lt)
theorem NP2.kept {S : Nat → Prop} (h : NP2 w wr gx N la xl lc xs) (hm : Mod S wr w2) (hS : ∀ k, S k → gx < k) : NP2 w w2 gx N la xl lc xs := by
  have h1 := h.box.lt
  have h2 := h.box.ge
  exact ⟨h.box.kept hm (fun k hk => by have := hS k hk; omega) (fun hk => by have := hS _ hk; omega), h.pipes.later (hm.below (by omega) (fun k hk => by have := hS k hk; omega))⟩
/-- The law's own net and result in memory, wherever their rows lie. -/
structure RS (w wr : World) (gx gr N : Nat) (la : Option Addr) (xl lc : Nat) (xs : List Pi) (fa : Option Addr) (m fc : Nat) (c : Int) (ha : Option Addr) (hm hc : Nat) (ys hs : List Int) : Prop where
  net : NP2 w wr gx N la xl lc xs
  res : RBox w.heap.size wr gr fa m fc c ha hm hc
  fl : IsNums wr.heap.size wr fa m ys
  hi : IsNums wr.heap.size wr ha hm hs
  ne : gx < gr
theorem RS.later (h : RS w wr gx gr N la xl lc xs fa m fc c ha hm hc ys hs) (hb : Below wr.heap.size wr w2) : RS w w2 gx gr N la xl lc xs fa m fc c ha hm hc ys hs :=
  ⟨h.net.later hb, h.res.later hb, (h.fl.later hb).mono hb.size, (h.hi.later hb).mono hb.size, h.ne⟩
/-- What came in. -/
structure RIn (w wr : World) (g0 : Nat) (fa : Option Addr) (m fc : Nat) (c : Int) (ha : Option Addr) (hm hc : Nat) (ys hs : List Int) : Prop where
  box : RBox w.heap.size wr g0 fa m fc c ha hm hc
  fl : IsNums w.heap.size wr fa m ys
  hi : IsNums w.heap.size wr ha hm hs
theorem RIn.later {g0 : Nat} (h : RIn w wr g0 fa m fc c ha hm hc ys hs) (hw : w.heap.size ≤ wr.heap.size) (hb : Below wr.heap.size wr w2) : RIn w w2 g0 fa m fc c ha hm hc ys hs :=
  ⟨h.box.later hb, h.fl.later (hb.mono hw), h.hi.later (hb.mono hw)⟩
theorem RBox.cells {B g : Nat} (h : RBox B wr g fa m fc c ha hm hc) : wr.cell? ⟨g, 0, none⟩ = some (.slice fa m fc) ∧ wr.cell? ⟨g, 1, none⟩ = some (.int .i64 c) ∧ wr.cell? ⟨g, 2, none⟩ = some (.slice ha hm hc) := ⟨h.c0, h.c1, h.c2⟩
theorem RBox.stores {B g : Nat} (h : RBox B wr g fa m fc c ha hm hc) : wr.cell? ⟨g, 0, none⟩ = some (.slice fa m fc) ∧ wr.cell? ⟨g, 1, none⟩ = some (.int .i64 c) ∧ wr.cell? ⟨g, 2, none⟩ = some (.slice ha hm hc) ∧ ∀ k, wr.frozen? ⟨g, k, none⟩ = false := ⟨h.c0, h.c1, h.c2, fun k => by simp [World.frozen?, h.blk]⟩
theorem res_two {B g : Nat} (h : RBox B wr g fa m fc c ha hm hc) (fa2 : Option Addr) (m2 fc2 : Nat) : (wr.setCell ⟨g, 0, none⟩ (.slice fa2 m2 fc2)).cell? ⟨g, 2, none⟩ = some (.slice ha hm hc) ∧ ∀ k, (wr.setCell ⟨g, 0, none⟩ (.slice fa2 m2 fc2)).frozen? ⟨g, k, none⟩ = false := by
  have h1 := heap_setCell_same wr g 0 _ _ (.slice fa2 m2 fc2) h.blk
  exact ⟨by simp [World.cell?, h1], fun k => by simp [World.frozen?, h1]⟩
/-- Where what came in is taken instead. -/
theorem RS.with_ {g0 m2 fc2 hm2 hc2 : Nat} {fa2 ha2 : Option Addr} {c2 : Int} {ys2 hs2 : List Int} (h : RS w wr gx gr N la xl lc xs fa m fc c ha hm hc ys hs) (r : RIn w wr g0 fa2 m2 fc2 c2 ha2 hm2 hc2 ys2 hs2) :
    RS w (((wr.setCell ⟨gr, 0, none⟩ (.slice fa2 m2 fc2)).setCell ⟨gr, 1, none⟩ (.int .i64 c2)).setCell ⟨gr, 2, none⟩ (.slice ha2 hm2 hc2)) gx gr N la xl lc xs fa2 m2 fc2 c2 ha2 hm2 hc2 ys2 hs2 := by
  have hM : Mod (fun b => b = gr) wr (((wr.setCell ⟨gr, 0, none⟩ (.slice fa2 m2 fc2)).setCell ⟨gr, 1, none⟩ (.int .i64 c2)).setCell ⟨gr, 2, none⟩ (.slice ha2 hm2 hc2)) :=
    (((Mod.refl (fun b => b = gr) wr).setCell (p := ⟨gr, 0, none⟩) (.inr rfl) _).setCell (p := ⟨gr, 1, none⟩) (.inr rfl) _).setCell (p := ⟨gr, 2, none⟩) (.inr rfl) _
  have hB : Below w.heap.size wr _ := hM.below h.net.box.below.size (fun k hk => by rw [hk]; exact h.res.ge)
  have h1 := heap_setCell_same wr gr 0 _ _ (.slice fa2 m2 fc2) h.res.blk
  have h2 := heap_setCell_same _ gr 1 _ _ (.int .i64 c2) h1
  have h3 := heap_setCell_same _ gr 2 _ _ (.slice ha2 hm2 hc2) h2
  have hz := h.net.box.below.size
  exact ⟨h.net.kept hM (fun k hk => by rw [hk]; exact h.ne), ⟨h.res.ge, h3⟩, (r.fl.later hB).mono (Nat.le_trans hz hM.size), (r.hi.later hB).mono (Nat.le_trans hz hM.size), h.ne⟩
/-- Where both rows are the call's own, apart from each other. -/
structure RT (w wr : World) (gx gr C N : Nat) (la : Option Addr) (xl lc : Nat) (xs : List Pi) (fa : Option Addr) (m fc : Nat) (c : Int) (ha : Option Addr) (hm hc : Nat) (f h : Nat → Int) : Prop where
  net : NP2 w wr gx N la xl lc xs
  res : RBox w.heap.size wr gr fa m fc c ha hm hc
  fl : LongRow wr C (.slice fa m fc) m f
  hi : LongRow wr C (.slice ha hm hc) hm h
  ap : ∀ g, (Value.slice fa m fc).ownBlock = some g → ¬ (Value.slice ha hm hc).ownBlock = some g
  ne : gx < gr
  lt : gr < C
variable {f h : Nat → Int}
theorem RT.rs (H : RT w wr gx gr C N la xl lc xs fa m fc c ha hm hc f h) : RS w wr gx gr N la xl lc xs fa m fc c ha hm hc ((List.range m).map f) ((List.range hm).map h) :=
  ⟨H.net, H.res, H.fl.nums0, H.hi.nums0, H.ne⟩
theorem RT.drew (H : RT w wr gx gr C N la xl lc xs fa m fc c ha hm hc f h) : RT w wr.drew gx gr C N la xl lc xs fa m fc c ha hm hc f h :=
  ⟨H.net.later (Below.refl _ _).drew, H.res.later (Below.refl _ _).drew, H.fl.below (Below.refl _ _).drew, H.hi.below (Below.refl _ _).drew, H.ap, H.ne, H.lt⟩
/-- Behind the two clones. -/
theorem RS.cloned {fa2 ha2 : Option Addr} {fc2 hc2 : Nat} (H : RS w wr gx gr N la xl lc xs fa m fc c ha hm hc ys hs) (hb : Below wr.heap.size wr w2) (hf : LongRow w2 wr.heap.size (.slice fa2 m fc2) m f) (hh : LongRow w2 wr.heap.size (.slice ha2 hm hc2) hm h) (ap : ∀ g, (Value.slice fa2 m fc2).ownBlock = some g → ¬ (Value.slice ha2 hm hc2).ownBlock = some g) :
    RT w ((w2.setCell ⟨gr, 0, none⟩ (.slice fa2 m fc2)).setCell ⟨gr, 2, none⟩ (.slice ha2 hm hc2)) gx gr wr.heap.size N la xl lc xs fa2 m fc2 c ha2 hm hc2 f h := by
  have hM : Mod (fun b => b = gr) w2 ((w2.setCell ⟨gr, 0, none⟩ (.slice fa2 m fc2)).setCell ⟨gr, 2, none⟩ (.slice ha2 hm hc2)) :=
    ((Mod.refl (fun b => b = gr) w2).setCell (p := ⟨gr, 0, none⟩) (.inr rfl) _).setCell (p := ⟨gr, 2, none⟩) (.inr rfl) _
  have hr := (H.res.later hb).blk
  have h1 := heap_setCell_same w2 gr 0 _ _ (.slice fa2 m fc2) hr
  have h2 := heap_setCell_same _ gr 2 _ _ (.slice ha2 hm hc2) h1
  have hl := H.res.lt
  exact ⟨(H.net.later hb).kept hM (fun k hk => by rw [hk]; exact H.ne), ⟨H.res.ge, h2⟩, hf.kept hM (fun k hk (e : k = gr) => by have := (World.ownsRow.lt hf k hk).1; omega), hh.kept hM (fun k hk (e : k = gr) => by have := (World.ownsRow.lt hh k hk).1; omega), ap, H.ne, hl⟩
theorem rt_kept {g : Nat} {v : Value} (H : RT w wr gx gr C N la xl lc xs fa m fc c ha hm hc f h) (hg : C ≤ g) : NP2 w (wr.setCell ⟨g, k, none⟩ v) gx N la xl lc xs ∧ RBox w.heap.size (wr.setCell ⟨g, k, none⟩ v) gr fa m fc c ha hm hc := by
  have hM : Mod (fun b => b = g) wr (wr.setCell ⟨g, k, none⟩ v) := (Mod.refl (fun b => b = g) wr).setCell (p := ⟨g, k, none⟩) (.inr rfl) v
  have h1 := H.ne
  have h2 := H.lt
  exact ⟨H.net.kept hM (fun i hi => by rw [hi]; omega), ⟨H.res.ge, (hM.block _ H.res.lt (by omega)).trans H.res.blk⟩⟩
/-- One number of what flows is another one. -/
theorem RT.setF {g : Nat} (H : RT w wr gx gr C N la xl lc xs (some ⟨g, 0, none⟩) m fc c ha hm hc f h) (hk : k < m) (z : Int) : RS w (wr.setCell ⟨g, k, none⟩ (.int .i64 z)) gx gr N la xl lc xs (some ⟨g, 0, none⟩) m fc c ha hm hc ((List.range m).map (fun j => if j = k then z else f j)) ((List.range hm).map h) := by
  obtain ⟨h1, h2⟩ := rt_kept (k := k) (v := .int .i64 z) H H.fl.base_.1
  have hM : Mod (fun b => b = g) wr (wr.setCell ⟨g, k, none⟩ (.int .i64 z)) := (Mod.refl (fun b => b = g) wr).setCell (p := ⟨g, k, none⟩) (.inr rfl) _
  exact ⟨h1, h2, (H.fl.set_ hk z).nums0, (H.hi.kept hM (fun i hi (e : i = g) => H.ap g rfl (by rw [← e]; exact hi))).nums0, H.ne⟩
/-- One of how high nodes lie. -/
theorem RT.setH {g : Nat} (H : RT w wr gx gr C N la xl lc xs fa m fc c (some ⟨g, 0, none⟩) hm hc f h) (hk : k < hm) (z : Int) : RS w (wr.setCell ⟨g, k, none⟩ (.int .i64 z)) gx gr N la xl lc xs fa m fc c (some ⟨g, 0, none⟩) hm hc ((List.range m).map f) ((List.range hm).map (fun j => if j = k then z else h j)) := by
  obtain ⟨h1, h2⟩ := rt_kept (k := k) (v := .int .i64 z) H H.hi.base_.1
  have hM : Mod (fun b => b = g) wr (wr.setCell ⟨g, k, none⟩ (.int .i64 z)) := (Mod.refl (fun b => b = g) wr).setCell (p := ⟨g, k, none⟩) (.inr rfl) _
  exact ⟨h1, h2, (H.fl.kept hM (fun i hi (e : i = g) => H.ap i hi (by rw [e]; rfl))).nums0, (H.hi.set_ hk z).nums0, H.ne⟩
/-- What it costs. -/
theorem RT.setC (H : RT w wr gx gr C N la xl lc xs fa m fc c ha hm hc f h) (z : Int) : RS w (wr.setCell ⟨gr, 1, none⟩ (.int .i64 z)) gx gr N la xl lc xs fa m fc z ha hm hc ((List.range m).map f) ((List.range hm).map h) := by
  have hM : Mod (fun b => b = gr) wr (wr.setCell ⟨gr, 1, none⟩ (.int .i64 z)) := (Mod.refl (fun b => b = gr) wr).setCell (p := ⟨gr, 1, none⟩) (.inr rfl) _
  have hl := H.lt
  exact ⟨H.net.kept hM (fun k hk => by rw [hk]; exact H.ne), ⟨H.res.ge, heap_setCell_same wr gr 1 _ _ _ H.res.blk⟩, (H.fl.kept hM (fun k hk (e : k = gr) => by have := (World.ownsRow.lt H.fl k hk).1; omega)).nums0, (H.hi.kept hM (fun k hk (e : k = gr) => by have := (World.ownsRow.lt H.hi k hk).1; omega)).nums0, H.ne⟩
/-- Both say the same, where so much may be wanted. -/
theorem right_both (h1 : endsP (N : Int) l (s : Int) (t : Int) = 0) (h2 : RangeL l want) : rightLV (N : Int) l ys hs (s : Int) (t : Int) want c = rightL l N ys hs s t want c := by
  apply Bool.eq_iff_iff.2
  simp only [rightLV, rightL, decide_eq_true_eq, Int.toNat_natCast]
  exact ⟨fun h => h.2.2, fun h => ⟨h1, h2, h⟩⟩
theorem right_out (h2 : ¬ (0 ≤ want ∧ want ≤ 10000)) : rightLV (N : Int) l ys hs (s : Int) (t : Int) want c = false := by
  apply Bool.eq_false_iff.2
  simp only [rightLV, ne_eq, decide_eq_true_eq]
  exact fun h => h2 h.2.1.1
set_option maxHeartbeats 8000000 in
set_option maxRecDepth 100000 in
theorem leastRights_walk (P : LeastSpec) (hawake : ∀ w, Calls Try.prog 8 #[] w fun e w' => e = .returned (.bool true) ∧ Below w.heap.size w w')
    (n : Int) (hn : (Lit.int .u8 n).wf = true) (a : Option Addr) (cap : Nat) (p : Int) (hp : (Lit.int .u8 p).wf = true) (q : Int) (hq : (Lit.int .u8 q).wf = true) (z : Int) (hz : (Lit.int .u16 z).wf = true)
    (fa : Option Addr) (m fc : Nat) (c : Int) (ha : Option Addr) (hm hc : Nat) (tn : Int) (htn : (Lit.int .u8 tn).wf = true) (at_ : Int) (hat : (Lit.int .u8 at_).wf = true) (by_ : Int) (hby : (Lit.int .i16 by_).wf = true)
    (w : World) (hbig : len ≤ maxLen) (hl : IsLP w.heap.size w a len l) (hbm : m ≤ maxLen) (hi : IsNums w.heap.size w fa m ys) (hbh : hm ≤ maxLen) (hh : IsNums w.heap.size w ha hm hs) :
    Calls Try.prog 4 #[.int .u8 n, .slice a len cap, .int .u8 p, .int .u8 q, .int .u16 z, .agg #[.slice fa m fc, .int .i64 c, .slice ha hm hc], .int .u8 tn, .int .u8 at_, .int .i16 by_] w fun e w' => e = .returned (.bool true) ∧ Below w.heap.size w w' := by
  unfold maxLen at hbig hbm hbh
  obtain ⟨⟨hn1, hn2⟩, N, hN, hN1, hN6⟩ := law_net hn
  have hp2 := law_u8 hp
  have hq2 := law_u8 hq
  have hz2 := law_u16 hz
  have htn2 := law_u8 htn
  have hat2 := law_u8 hat
  have hby2 : -32768 ≤ by_ ∧ by_ ≤ 32767 := by
    simp [Lit.wf, IntKind.min, IntKind.max, IntKind.signed, IntKind.bits] at hby
    exact hby
  clear hn hp hq hz htn hat hby
  have HM := Lib.hid (fun W (h : IsLP W.heap.size W a len l) => net_any n hn1 (by omega) a cap W hbig h)
  have HO := Lib.hid (net_ok (N := N) (by omega) hN6 hl.small len)
  have HL := Lib.hid hl; clear hl
  have HRW0 : Hid (RIn w (w.alloc (.cells #[.slice fa m fc, .int .i64 c, .slice ha hm hc] 36)) w.heap.size fa m fc c ha hm hc ys hs) := Lib.hid (by
    have hb := (Below.refl w.heap.size w).alloc (Nat.le_refl _) (.cells #[.slice fa m fc, .int .i64 c, .slice ha hm hc] 36)
    exact ⟨RBox.make (Nat.le_refl _) fa m fc c ha hm hc, hi.later hb, hh.later hb⟩)
  clear hi hh
  rw [hN] at HM
  clear hN hn1 hn2
  generalize pipesTo (N : Int) l len = xs at HM HO
  have hxl := HO.out.short
  have HP := Lib.hid hp2
  have HQ := Lib.hid hq2
  have HT := Lib.hid htn2
  have HA := Lib.hid hat2
  have HBY := Lib.hid hby2
  clear hp2 hq2 htn2 hat2 hby2
  obtain ⟨hz1, hz3⟩ := hz2
  have hB0 : Hid (Below w.heap.size w (w.alloc (.cells #[.slice fa m fc, .int .i64 c, .slice ha hm hc] 36))) := Lib.hid ((Below.refl w.heap.size w).alloc (Nat.le_refl _) _)
  go_enter Try.func4, Try.ntmps4
  by_cases hm30 : 30 < m
  · go_wp2_with (go_at_call 8; refine (hawake _).mono ?_; rintro e w1 ⟨rfl, hb1⟩; have HB1 := Lib.hid (hB0.out.trans (hb1.mono hB0.out.size)); have HRW1 := Lib.hid (HRW0.out.later hB0.out.size hb1); have y0 := HRW1.out.box.c0; have y2 := HRW1.out.box.c2; clear hb1)
    go_ret
    exact ⟨rfl, HB1.out⟩
  have hmb : decide (30 < m) = false := by simp; omega
  have hmc : decide ((30 : Int) < (m : Int)) = false := by simp; omega
  by_cases hh30 : 30 < hm
  · go_wp2_with (go_at_call 8; refine (hawake _).mono ?_; rintro e w1 ⟨rfl, hb1⟩; have HB1 := Lib.hid (hB0.out.trans (hb1.mono hB0.out.size)); have HRW1 := Lib.hid (HRW0.out.later hB0.out.size hb1); have y0 := HRW1.out.box.c0; have y2 := HRW1.out.box.c2; clear hb1)
    go_ret
    exact ⟨rfl, HB1.out⟩
  have hhb : decide (30 < hm) = false := by simp; omega
  have hhc : decide ((30 : Int) < (hm : Int)) = false := by simp; omega
  go_wp2_with (first
    | (go_at_call 8; refine (hawake _).mono ?_; rintro e w1 ⟨rfl, hb1⟩; have HB1 := Lib.hid (hB0.out.trans (hb1.mono hB0.out.size)); have HRW1 := Lib.hid (HRW0.out.later hB0.out.size hb1); have y0 := HRW1.out.box.c0; have y2 := HRW1.out.box.c2; clear hb1)
    | (go_at_call 9; refine (HM.out _ ((HL.out.later HB1.out).mono HB1.out.size)).mono ?_; rintro e w2 ⟨lv, rfl, hrow, hb2⟩; obtain ⟨la, lc, hv⟩ := owns_shape hrow; subst hv; have HB2 := Lib.hid (HB1.out.trans (hb2.mono HB1.out.size)); have HX3 : Hid (NP2 w (w2.alloc (.cells #[.int .i64 (N : Int), .slice la xs.length lc] 27)) w2.heap.size N la xs.length lc xs) := Lib.hid ⟨NBox.make HB2.out (N : Int) la xs.length lc, (owns_pipes hrow).2.later ((Below.refl _ w2).alloc (Nat.le_refl _) (.cells #[.int .i64 (N : Int), .slice la xs.length lc] 27))⟩; have HRW3 := Lib.hid ((HRW1.out.later HB1.out.size hb2).later HB2.out.size ((Below.refl _ w2).alloc (Nat.le_refl _) (.cells #[.int .i64 (N : Int), .slice la xs.length lc] 27))); clear hrow hb2)
    | (go_at_call 10; refine (ends_law N hN1 hN6 p q HP.out HQ.out la xs.length lc _).mono ?_; rintro e w4 ⟨hb4, s, t, rfl, hs_, ht_, hst⟩; have HX4 := Lib.hid (HX3.out.later hb4); have HRW4 := Lib.hid (HRW3.out.later HX3.out.box.below.size hb4); have x0 := HX4.out.box.c0; have x1 := HX4.out.box.c1; have HST := Lib.hid hst; clear hb4 hst))
  have hW1 : 0 ≤ z % 400 := by omega
  have hW2 : z % 400 ≤ 399 := by omega
  generalize z % 400 = W at hW1 hW2 ⊢
  refine (P.least_some N s t xs.length lc W xs la _ (HO.out.ends hs_ ht_ HST.out) (HO.out.range hW1 (by omega)) (by omega) (by omega) HX4.out.here).mono ?_
  rintro e w5 ⟨hb5, e0, a1, m1, c1, a2, m2, c2, cz, ys1, hs1, rfl, hm1, hm2, hy1, hh1⟩
  have HX5 := Lib.hid (HX4.out.later hb5)
  have HRW5 := Lib.hid (HRW4.out.later HX4.out.box.below.size hb5)
  have HBA := Lib.hid ((Below.refl w5.heap.size w5).alloc (Nat.le_refl _) (.cells #[.slice a1 m1 c1, .int .i64 cz, .slice a2 m2 c2] 36))
  have HS6 : Hid (RS w (w5.alloc (.cells #[.slice a1 m1 c1, .int .i64 cz, .slice a2 m2 c2] 36)) w2.heap.size w5.heap.size N la xs.length lc xs a1 m1 c1 cz a2 m2 c2 ys1 hs1) := Lib.hid ⟨HX5.out.later HBA.out, RBox.make HX5.out.box.below.size _ _ _ _ _ _ _, (hy1.later HBA.out).mono HBA.out.size, (hh1.later HBA.out).mono HBA.out.size, HX5.out.box.lt⟩
  have HRW6 := Lib.hid (HRW5.out.later HX5.out.box.below.size HBA.out)
  clear hb5 hy1 hh1 HRW5 HX5 x0 x1 y0 y2
  go_upto_region 9 with fail
  obtain ⟨gr, hgr⟩ : ∃ g, w5.heap.size = g := ⟨_, rfl⟩
  obtain ⟨gx, hgx⟩ : ∃ g, w2.heap.size = g := ⟨_, rfl⟩
  obtain ⟨w6, hw6⟩ : ∃ W, w5.alloc (.cells #[.slice a1 m1 c1, .int .i64 cz, .slice a2 m2 c2] 36) = W := ⟨_, rfl⟩
  rw [hgr, hgx, hw6] at HS6
  rw [hw6] at HRW6
  rw [hgr, hgx, hw6]
  clear hgr hgx hw6 HBA HX4 HRW4 HX3 HRW3 HRW1
  go_cut [64] from 58 to 64 (fun bv wx => ∃ b : Bool, bv = .bool b ∧ wx = w6)
  case first =>
    by_cases he0 : e0 = 0
    · subst he0
      go_wp2_with fail
      all_goals (go_meet; exact ⟨_, rfl, rfl⟩)
    · have heb : (e0 != 0) = true := by simpa using he0
      go_wp2_with fail
      go_meet
      exact ⟨_, rfl, rfl⟩
  case rest =>
    obtain ⟨bt, rfl, rfl⟩ := hcut
    go_upto_if 64 with fail
    go_cut [] from 64 to 65 (fun wx => ∃ fa m fc c ha hm hc ys hs, m ≤ 1000 ∧ hm ≤ 1000 ∧ RS w wx gx gr N la xs.length lc xs fa m fc c ha hm hc ys hs)
    case first =>
      obtain ⟨y0, y1, y2⟩ := HRW6.out.box.cells
      obtain ⟨r0, r1, r2, r3⟩ := HS6.out.res.stores
      cases bt with
      | true =>
        go_wp2_with fail
        go_meet
        exact ⟨fa, m, fc, c, ha, hm, hc, ys, hs, by omega, by omega, HS6.out.with_ HRW6.out⟩
      | false =>
        go_wp2_with fail
        go_meet
        exact ⟨_, _, _, _, _, _, _, _, _, hm1, hm2, HS6.out⟩
    case rest =>
      obtain ⟨fa, m, fc, c, ha, hm, hc, ys, hs, hm1, hm2, hS⟩ := hcut
      have HSd := Lib.hid (hS.later (Below.refl _ _).drew)
      clear hS HRW6 HS6
      go_upto_region 11 with fail
      go_cut [] from 66 to 73 (fun wx => ∃ fa fc ha hc C, RT w wx gx gr C N la xs.length lc xs fa m fc c ha hm hc (flOf ys) (flOf hs))
      case first =>
        obtain ⟨r0, r1, r2, r3⟩ := HSd.out.res.stores
        go_region_with (first
          | (go_at_call_of 15 (Value.slice fa m fc); refine (clone64 m fc fa ys _ (by omega) HSd.out.fl).mono ?_; rintro e w7 ⟨hb7, v1, rfl, hr7⟩; obtain ⟨fa2, fc2, hv7⟩ := owns_shape hr7; subst hv7; have HS7 := Lib.hid (HSd.out.later hb7); have HR7 := Lib.hid hr7; have HB7 := Lib.hid hb7; clear r0 r1 r2 r3 hr7 hb7; obtain ⟨r0, r1, r2, r3⟩ := HS7.out.res.stores)
          | (go_at_call_of 15 (Value.slice ha hm hc); refine (clone64 hm hc ha hs _ (by omega) HS7.out.hi).mono ?_; rintro e w8 ⟨hb8, v2, rfl, hr8⟩; obtain ⟨ha2, hc2, hv8⟩ := owns_shape hr8; subst hv8; have HS8 := Lib.hid (HS7.out.later hb8); have HR8 := Lib.hid hr8; have HB8 := Lib.hid hb8; clear r0 r1 r2 r3 hr8 hb8; obtain ⟨r0, r1, r2, r3⟩ := HS8.out.res.stores; have q2 := res_two HS8.out.res fa2 m fc2))
        all_goals (go_wp2_with fail; go_meet; exact ⟨fa2, fc2, ha2, hc2, _, HSd.out.cloned (HB7.out.trans (HB8.out.mono HB7.out.size)) (HR7.out.below HB8.out) (HR8.out.rebase HB7.out.size) (fun g h1 h2 => by have e1 := (World.ownsRow.lt HR7.out g h1).2; have e2 := (World.ownsRow.lt HR8.out g h2).1; omega)⟩)
      case rest =>
        obtain ⟨fa, fc, ha, hc, C, hRT⟩ := hcut
        have HRT := Lib.hid hRT
        clear hRT HSd
        obtain ⟨r0, r1, r2, r3⟩ := HRT.out.res.stores
        have ht1 := HT.out.1
        have ht2 := HT.out.2
        have h6 : tn % 6 = 0 ∨ tn % 6 = 1 ∨ tn % 6 = 2 ∨ tn % 6 = 3 ∨ tn % 6 = 4 ∨ tn % 6 = 5 := by omega
        rcases h6 with h6 | h6 | h6 | h6 | h6 | h6
        · have HF := Lib.hid HRT.out.rs
          clear HRT
          obtain ⟨x0, x1⟩ := And.intro HF.out.net.box.c0 HF.out.net.box.c1
          obtain ⟨r0, r1, r2, r3⟩ := HF.out.res.stores
          have hg1 : decide (0 ≤ W) = true := by simp; omega
          have hg2 : decide (W ≤ 10000) = true := by simp; omega
          go_wp2_with (first
            | (go_at_call 14; refine (P.right_any (N : Int) s t W _ xs.length lc xs la _ _ _ _ _ _ _ _ _ (by omega) (by omega) (by omega) HF.out.net.here HF.out.fl HF.out.hi).mono ?_; rw [right_both (HO.out.ends hs_ ht_ HST.out) (HO.out.range (by omega) (by omega))]; rintro e w9 ⟨hb9, rfl⟩; have HF9 := Lib.hid (HF.out.later hb9); clear hb9 x0 x1 r0 r1 r2 r3; obtain ⟨x0, x1⟩ := And.intro HF9.out.net.box.c0 HF9.out.net.box.c1; obtain ⟨r0, r1, r2, r3⟩ := HF9.out.res.stores)
            | (go_at_call 13; refine (lawRight_any (by omega) (by omega) HO.out.ok hs_ ht_ (safe_small (fun x hx => (HO.out.rooms x hx).2) HO.out.costs) (by omega) (by omega) la lc W _ _ _ _ _ _ HF9.out.net.here HF9.out.fl HF9.out.hi).mono ?_; rintro e w10 ⟨rfl, hb10⟩; have HF10 := Lib.hid (HF9.out.later hb10); clear hb10))
          go_ret
          exact ⟨by simp, HF10.out.net.box.below⟩
        · by_cases hm0 : 0 < m
          · have hml : (0 : Int) < (m : Int) := by omega
            have hmn : ¬ (m : Int) = 0 := by omega
            have hmb0 : ((m : Int) == 0) = false := by simp; omega
            obtain ⟨gf, cf, hfe, hq1, hq2, hq3, hq4⟩ := HRT.out.fl.some_ hm0
            injection hfe with e1 _ e3
            subst e1 e3
            have ha1 := HA.out.1
            have ha2 := HA.out.2
            have hb1 := HBY.out.1
            have hb2 := HBY.out.2
            obtain ⟨k, hk⟩ : ∃ k : Nat, at_ % (m : Int) = (k : Int) := ⟨(at_ % (m : Int)).toNat, by have := Int.emod_nonneg at_ hmn; omega⟩
            have hk2 : at_ % (m : Int) < (m : Int) := Int.emod_lt_of_pos _ hml
            have hkm : k < m := by omega
            have hkt : Int.tmod at_ (m : Int) = (k : Int) := by rw [Int.tmod_eq_emod_of_nonneg ha1]; exact hk
            have hcv : IntKind.i64.wrap at_ = at_ := by rw [IntKind.wrap_i64]; omega
            have hkw : IntKind.i64.wrap (k : Int) = (k : Int) := by rw [IntKind.wrap_i64]; omega
            have hcb : IntKind.i64.wrap by_ = by_ := by rw [IntKind.wrap_i64]; omega
            have q0 := HRT.out.fl.cell hkm
            have q1 := HRT.out.fl.frozen k
            obtain ⟨y, hy⟩ : ∃ y, flOf ys k = y := ⟨_, rfl⟩
            rw [hy] at q0
            obtain ⟨zc, hzc⟩ : ∃ z, IntKind.i64.wrap (y + by_) = z := ⟨_, rfl⟩
            have HF := Lib.hid ((HRT.out.setF hkm zc).later (Below.refl _ _).drew)
            clear hk2 hy
            go_wp2_with fail
            go_region
            clear q0 q1 hzc hkt hcv hkw hcb hk hq1 hq2 hq3 hq4 hmb0 hmn r0 r1 r2 r3
            clear HRT
            obtain ⟨x0, x1⟩ := And.intro HF.out.net.box.c0 HF.out.net.box.c1
            obtain ⟨r0, r1, r2, r3⟩ := HF.out.res.stores
            have hg1 : decide (0 ≤ W) = true := by simp; omega
            have hg2 : decide (W ≤ 10000) = true := by simp; omega
            go_wp2_with (first
              | (go_at_call 14; refine (P.right_any (N : Int) s t W _ xs.length lc xs la _ _ _ _ _ _ _ _ _ (by omega) (by omega) (by omega) HF.out.net.here HF.out.fl HF.out.hi).mono ?_; rw [right_both (HO.out.ends hs_ ht_ HST.out) (HO.out.range (by omega) (by omega))]; rintro e w9 ⟨hb9, rfl⟩; have HF9 := Lib.hid (HF.out.later hb9); clear hb9 x0 x1 r0 r1 r2 r3; obtain ⟨x0, x1⟩ := And.intro HF9.out.net.box.c0 HF9.out.net.box.c1; obtain ⟨r0, r1, r2, r3⟩ := HF9.out.res.stores)
              | (go_at_call 13; refine (lawRight_any (by omega) (by omega) HO.out.ok hs_ ht_ (safe_small (fun x hx => (HO.out.rooms x hx).2) HO.out.costs) (by omega) (by omega) la lc W _ _ _ _ _ _ HF9.out.net.here HF9.out.fl HF9.out.hi).mono ?_; rintro e w10 ⟨rfl, hb10⟩; have HF10 := Lib.hid (HF9.out.later hb10); clear hb10))
            go_ret
            exact ⟨by simp, HF10.out.net.box.below⟩
          · obtain rfl : m = 0 := by omega
            have HF := Lib.hid HRT.out.rs
            clear HRT
            obtain ⟨x0, x1⟩ := And.intro HF.out.net.box.c0 HF.out.net.box.c1
            obtain ⟨r0, r1, r2, r3⟩ := HF.out.res.stores
            have hg1 : decide (0 ≤ W) = true := by simp; omega
            have hg2 : decide (W ≤ 10000) = true := by simp; omega
            go_wp2_with (first
              | (go_at_call 14; refine (P.right_any (N : Int) s t W _ xs.length lc xs la _ _ _ _ _ _ _ _ _ (by omega) (by omega) (by omega) HF.out.net.here HF.out.fl HF.out.hi).mono ?_; rw [right_both (HO.out.ends hs_ ht_ HST.out) (HO.out.range (by omega) (by omega))]; rintro e w9 ⟨hb9, rfl⟩; have HF9 := Lib.hid (HF.out.later hb9); clear hb9 x0 x1 r0 r1 r2 r3; obtain ⟨x0, x1⟩ := And.intro HF9.out.net.box.c0 HF9.out.net.box.c1; obtain ⟨r0, r1, r2, r3⟩ := HF9.out.res.stores)
              | (go_at_call 13; refine (lawRight_any (by omega) (by omega) HO.out.ok hs_ ht_ (safe_small (fun x hx => (HO.out.rooms x hx).2) HO.out.costs) (by omega) (by omega) la lc W _ _ _ _ _ _ HF9.out.net.here HF9.out.fl HF9.out.hi).mono ?_; rintro e w10 ⟨rfl, hb10⟩; have HF10 := Lib.hid (HF9.out.later hb10); clear hb10))
            go_ret
            exact ⟨by simp, HF10.out.net.box.below⟩
        · by_cases hm0 : 0 < hm
          · have hml : (0 : Int) < (hm : Int) := by omega
            have hmn : ¬ (hm : Int) = 0 := by omega
            have hmb0 : ((hm : Int) == 0) = false := by simp; omega
            obtain ⟨gf, cf, hfe, hq1, hq2, hq3, hq4⟩ := HRT.out.hi.some_ hm0
            injection hfe with e1 _ e3
            subst e1 e3
            have ha1 := HA.out.1
            have ha2 := HA.out.2
            have hb1 := HBY.out.1
            have hb2 := HBY.out.2
            obtain ⟨k, hk⟩ : ∃ k : Nat, at_ % (hm : Int) = (k : Int) := ⟨(at_ % (hm : Int)).toNat, by have := Int.emod_nonneg at_ hmn; omega⟩
            have hk2 : at_ % (hm : Int) < (hm : Int) := Int.emod_lt_of_pos _ hml
            have hkm : k < hm := by omega
            have hkt : Int.tmod at_ (hm : Int) = (k : Int) := by rw [Int.tmod_eq_emod_of_nonneg ha1]; exact hk
            have hcv : IntKind.i64.wrap at_ = at_ := by rw [IntKind.wrap_i64]; omega
            have hkw : IntKind.i64.wrap (k : Int) = (k : Int) := by rw [IntKind.wrap_i64]; omega
            have hcb : IntKind.i64.wrap by_ = by_ := by rw [IntKind.wrap_i64]; omega
            have q0 := HRT.out.hi.cell hkm
            have q1 := HRT.out.hi.frozen k
            obtain ⟨y, hy⟩ : ∃ y, flOf hs k = y := ⟨_, rfl⟩
            rw [hy] at q0
            obtain ⟨zc, hzc⟩ : ∃ z, IntKind.i64.wrap (y + by_) = z := ⟨_, rfl⟩
            have HF := Lib.hid ((HRT.out.setH hkm zc).later (Below.refl _ _).drew)
            clear hk2 hy
            go_wp2_with fail
            go_region
            clear q0 q1 hzc hkt hcv hkw hcb hk hq1 hq2 hq3 hq4 hmb0 hmn r0 r1 r2 r3
            clear HRT
            obtain ⟨x0, x1⟩ := And.intro HF.out.net.box.c0 HF.out.net.box.c1
            obtain ⟨r0, r1, r2, r3⟩ := HF.out.res.stores
            have hg1 : decide (0 ≤ W) = true := by simp; omega
            have hg2 : decide (W ≤ 10000) = true := by simp; omega
            go_wp2_with (first
              | (go_at_call 14; refine (P.right_any (N : Int) s t W _ xs.length lc xs la _ _ _ _ _ _ _ _ _ (by omega) (by omega) (by omega) HF.out.net.here HF.out.fl HF.out.hi).mono ?_; rw [right_both (HO.out.ends hs_ ht_ HST.out) (HO.out.range (by omega) (by omega))]; rintro e w9 ⟨hb9, rfl⟩; have HF9 := Lib.hid (HF.out.later hb9); clear hb9 x0 x1 r0 r1 r2 r3; obtain ⟨x0, x1⟩ := And.intro HF9.out.net.box.c0 HF9.out.net.box.c1; obtain ⟨r0, r1, r2, r3⟩ := HF9.out.res.stores)
              | (go_at_call 13; refine (lawRight_any (by omega) (by omega) HO.out.ok hs_ ht_ (safe_small (fun x hx => (HO.out.rooms x hx).2) HO.out.costs) (by omega) (by omega) la lc W _ _ _ _ _ _ HF9.out.net.here HF9.out.fl HF9.out.hi).mono ?_; rintro e w10 ⟨rfl, hb10⟩; have HF10 := Lib.hid (HF9.out.later hb10); clear hb10))
            go_ret
            exact ⟨by simp, HF10.out.net.box.below⟩
          · obtain rfl : hm = 0 := by omega
            have HF := Lib.hid HRT.out.rs
            clear HRT
            obtain ⟨x0, x1⟩ := And.intro HF.out.net.box.c0 HF.out.net.box.c1
            obtain ⟨r0, r1, r2, r3⟩ := HF.out.res.stores
            have hg1 : decide (0 ≤ W) = true := by simp; omega
            have hg2 : decide (W ≤ 10000) = true := by simp; omega
            go_wp2_with (first
              | (go_at_call 14; refine (P.right_any (N : Int) s t W _ xs.length lc xs la _ _ _ _ _ _ _ _ _ (by omega) (by omega) (by omega) HF.out.net.here HF.out.fl HF.out.hi).mono ?_; rw [right_both (HO.out.ends hs_ ht_ HST.out) (HO.out.range (by omega) (by omega))]; rintro e w9 ⟨hb9, rfl⟩; have HF9 := Lib.hid (HF.out.later hb9); clear hb9 x0 x1 r0 r1 r2 r3; obtain ⟨x0, x1⟩ := And.intro HF9.out.net.box.c0 HF9.out.net.box.c1; obtain ⟨r0, r1, r2, r3⟩ := HF9.out.res.stores)
              | (go_at_call 13; refine (lawRight_any (by omega) (by omega) HO.out.ok hs_ ht_ (safe_small (fun x hx => (HO.out.rooms x hx).2) HO.out.costs) (by omega) (by omega) la lc W _ _ _ _ _ _ HF9.out.net.here HF9.out.fl HF9.out.hi).mono ?_; rintro e w10 ⟨rfl, hb10⟩; have HF10 := Lib.hid (HF9.out.later hb10); clear hb10))
            go_ret
            exact ⟨by simp, HF10.out.net.box.below⟩
        · have hb1 := HBY.out.1
          have hb2 := HBY.out.2
          have hcb : IntKind.i64.wrap by_ = by_ := by rw [IntKind.wrap_i64]; omega
          obtain ⟨zc, hzc⟩ : ∃ z, IntKind.i64.wrap (c + by_) = z := ⟨_, rfl⟩
          have HF := Lib.hid (HRT.out.setC zc)
          have o1 := r1
          have o3 := r3 1
          clear HRT
          obtain ⟨x0, x1⟩ := And.intro HF.out.net.box.c0 HF.out.net.box.c1
          obtain ⟨r0, r1, r2, r3⟩ := HF.out.res.stores
          have hg1 : decide (0 ≤ W) = true := by simp; omega
          have hg2 : decide (W ≤ 10000) = true := by simp; omega
          go_wp2_with (first
            | (go_at_call 14; refine (P.right_any (N : Int) s t W _ xs.length lc xs la _ _ _ _ _ _ _ _ _ (by omega) (by omega) (by omega) HF.out.net.here HF.out.fl HF.out.hi).mono ?_; rw [right_both (HO.out.ends hs_ ht_ HST.out) (HO.out.range (by omega) (by omega))]; rintro e w9 ⟨hb9, rfl⟩; have HF9 := Lib.hid (HF.out.later hb9); clear hb9 x0 x1 r0 r1 r2 r3; obtain ⟨x0, x1⟩ := And.intro HF9.out.net.box.c0 HF9.out.net.box.c1; obtain ⟨r0, r1, r2, r3⟩ := HF9.out.res.stores)
            | (go_at_call 13; refine (lawRight_any (by omega) (by omega) HO.out.ok hs_ ht_ (safe_small (fun x hx => (HO.out.rooms x hx).2) HO.out.costs) (by omega) (by omega) la lc W _ _ _ _ _ _ HF9.out.net.here HF9.out.fl HF9.out.hi).mono ?_; rintro e w10 ⟨rfl, hb10⟩; have HF10 := Lib.hid (HF9.out.later hb10); clear hb10))
          go_ret
          exact ⟨by simp, HF10.out.net.box.below⟩
        · have hb1 := HBY.out.1
          have hb2 := HBY.out.2
          have hcb : IntKind.i64.wrap by_ = by_ := by rw [IntKind.wrap_i64]; omega
          have hww : IntKind.i64.wrap (W + by_) = W + by_ := by rw [IntKind.wrap_i64]; omega
          have HF := Lib.hid HRT.out.rs
          obtain ⟨V, hV⟩ : ∃ V, W + by_ = V := ⟨_, rfl⟩
          rw [hV] at hww
          have hV1 : -32768 ≤ V ∧ V ≤ 33166 := by omega
          by_cases hlo : 0 ≤ V
          · by_cases hhi : V ≤ 10000
            · clear HRT
              obtain ⟨x0, x1⟩ := And.intro HF.out.net.box.c0 HF.out.net.box.c1
              obtain ⟨r0, r1, r2, r3⟩ := HF.out.res.stores
              have hg1 : decide (0 ≤ V) = true := by simp; omega
              have hg2 : decide (V ≤ 10000) = true := by simp; omega
              go_wp2_with (first
                | (go_at_call 14; refine (P.right_any (N : Int) s t V _ xs.length lc xs la _ _ _ _ _ _ _ _ _ (by omega) (by omega) (by omega) HF.out.net.here HF.out.fl HF.out.hi).mono ?_; rw [right_both (HO.out.ends hs_ ht_ HST.out) (HO.out.range (by omega) (by omega))]; rintro e w9 ⟨hb9, rfl⟩; have HF9 := Lib.hid (HF.out.later hb9); clear hb9 x0 x1 r0 r1 r2 r3; obtain ⟨x0, x1⟩ := And.intro HF9.out.net.box.c0 HF9.out.net.box.c1; obtain ⟨r0, r1, r2, r3⟩ := HF9.out.res.stores)
                | (go_at_call 13; refine (lawRight_any (by omega) (by omega) HO.out.ok hs_ ht_ (safe_small (fun x hx => (HO.out.rooms x hx).2) HO.out.costs) (by omega) (by omega) la lc V _ _ _ _ _ _ HF9.out.net.here HF9.out.fl HF9.out.hi).mono ?_; rintro e w10 ⟨rfl, hb10⟩; have HF10 := Lib.hid (HF9.out.later hb10); clear hb10))
              go_ret
              exact ⟨by simp, HF10.out.net.box.below⟩
            · clear HRT
              obtain ⟨x0, x1⟩ := And.intro HF.out.net.box.c0 HF.out.net.box.c1
              obtain ⟨r0, r1, r2, r3⟩ := HF.out.res.stores
              have hg1 : decide (0 ≤ V) = true := by simp; omega
              have hg2 : decide (V ≤ 10000) = false := by simp; omega
              go_wp2_with (go_at_call 14; refine (P.right_any (N : Int) s t V _ xs.length lc xs la _ _ _ _ _ _ _ _ _ (by omega) (by omega) (by omega) HF.out.net.here HF.out.fl HF.out.hi).mono ?_; rw [right_out (by omega)]; rintro e w9 ⟨hb9, rfl⟩; have HF9 := Lib.hid (HF.out.later hb9); clear hb9 x0 x1 r0 r1 r2 r3; obtain ⟨x0, x1⟩ := And.intro HF9.out.net.box.c0 HF9.out.net.box.c1; obtain ⟨r0, r1, r2, r3⟩ := HF9.out.res.stores)
              go_ret
              exact ⟨by simp, HF9.out.net.box.below⟩
          · clear HRT
            obtain ⟨x0, x1⟩ := And.intro HF.out.net.box.c0 HF.out.net.box.c1
            obtain ⟨r0, r1, r2, r3⟩ := HF.out.res.stores
            have hg1 : decide (0 ≤ V) = false := by simp; omega
            go_wp2_with (go_at_call 14; refine (P.right_any (N : Int) s t V _ xs.length lc xs la _ _ _ _ _ _ _ _ _ (by omega) (by omega) (by omega) HF.out.net.here HF.out.fl HF.out.hi).mono ?_; rw [right_out (by omega)]; rintro e w9 ⟨hb9, rfl⟩; have HF9 := Lib.hid (HF.out.later hb9); clear hb9 x0 x1 r0 r1 r2 r3; obtain ⟨x0, x1⟩ := And.intro HF9.out.net.box.c0 HF9.out.net.box.c1; obtain ⟨r0, r1, r2, r3⟩ := HF9.out.res.stores)
            go_ret
            exact ⟨by simp, HF9.out.net.box.below⟩
        · have HF := Lib.hid HRT.out.rs
          clear HRT
          obtain ⟨x0, x1⟩ := And.intro HF.out.net.box.c0 HF.out.net.box.c1
          obtain ⟨r0, r1, r2, r3⟩ := HF.out.res.stores
          have hg1 : decide (0 ≤ W) = true := by simp; omega
          have hg2 : decide (W ≤ 10000) = true := by simp; omega
          go_wp2_with (first
            | (go_at_call 14; refine (P.right_any (N : Int) s t W _ xs.length lc xs la _ _ _ _ _ _ _ _ _ (by omega) (by omega) (by omega) HF.out.net.here HF.out.fl HF.out.hi).mono ?_; rw [right_both (HO.out.ends hs_ ht_ HST.out) (HO.out.range (by omega) (by omega))]; rintro e w9 ⟨hb9, rfl⟩; have HF9 := Lib.hid (HF.out.later hb9); clear hb9 x0 x1 r0 r1 r2 r3; obtain ⟨x0, x1⟩ := And.intro HF9.out.net.box.c0 HF9.out.net.box.c1; obtain ⟨r0, r1, r2, r3⟩ := HF9.out.res.stores)
            | (go_at_call 13; refine (lawRight_any (by omega) (by omega) HO.out.ok hs_ ht_ (safe_small (fun x hx => (HO.out.rooms x hx).2) HO.out.costs) (by omega) (by omega) la lc W _ _ _ _ _ _ HF9.out.net.here HF9.out.fl HF9.out.hi).mono ?_; rintro e w10 ⟨rfl, hb10⟩; have HF10 := Lib.hid (HF9.out.later hb10); clear hb10))
          go_ret
          exact ⟨by simp, HF10.out.net.box.below⟩
end Go.Proofs.Ytbenmebmfihleaa

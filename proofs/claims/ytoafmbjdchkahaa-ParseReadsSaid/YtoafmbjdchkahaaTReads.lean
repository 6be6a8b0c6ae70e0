/- The law's own reading of an instance. -/
import Derived.Test.YtoafmbjdchkahaaTBase
import Derived.Test.YtoafmbjdchkahaaQParse
import Derived.Test.YtoafmbjdchkahaaRWords
import Derived.Deep.RegionHeld3
import Derived.Deep.LoopGhost
import Derived.LoopTactic
namespace Go.Proofs.Ytoafmbjdchkahaa
open Go.RowKit

variable {base T n k bx : Nat} {v : Value} {ws : List W} {W0 w w2 : World} {F : Rr} {en tm tr bm br : Int} {sv cv kv tv : Value} {B cb j : Nat} {a b c d : Int} {xv : Value} {l : List Pi}
/-- A customer on its way, in a box of its own. -/
structure CusR (base T : Nat) (v : Value) (ws : List W) (n k : Nat) (cc : Int) (bx : Nat) (W0 w : World) (en tm tr bm br : Int) (sv cv kv tv : Value) (cb : Nat) (a b c d : Int) (xv : Value) (j : Nat) (l : List Pi) : Prop where
  box : BoxL base T v ws n k cc bx W0 w en tm tr bm br sv cv kv tv
  own : w.ownsRow W0.heap.size 64 4 xv j (flatC l)
  cus : w.heap[cb]? = some (.cells #[.int .i64 a, .int .i64 b, .int .i64 c, .int .i64 d] 64 (0, 0))
  ge : W0.heap.size ≤ cb
  ne : ∀ b, xv.ownBlock = some b → b < cb
theorem CusR.read {k2 : Nat} {c1 c2 : Int} (h : CusR base T v ws n k c1 bx W0 w en tm tr bm br sv cv kv tv cb a b c d xv j l) (hm : Mod (· = T) w w2) (hr : Tl base T v ws n k2 c2 w2) : CusR base T v ws n k2 c2 bx W0 w2 en tm tr bm br sv cv kv tv cb a b c d xv j l :=
  ⟨h.box.read hm hr, owns_kept h.own hm (fun b hb e => by have := (World.ownsRow.lt h.own b hb).1; have := h.box.Tlt; omega), (hm.block cb (lt_of_block h.cus) (by have := h.ge; have := h.box.Tlt; omega)).trans h.cus, h.ge, h.ne⟩
theorem CusR.put {c1 : Int} {o : Nat} {u : Value} {a' b' c' d' : Int} (h : CusR base T v ws n k c1 bx W0 w en tm tr bm br sv cv kv tv cb a b c d xv j l) (e : (#[.int .i64 a, .int .i64 b, .int .i64 c, .int .i64 d] : Array Value).setIfInBounds o u = #[.int .i64 a', .int .i64 b', .int .i64 c', .int .i64 d']) :
    CusR base T v ws n k c1 bx W0 (w.setCell ⟨cb, o, none⟩ u) en tm tr bm br sv cv kv tv cb a' b' c' d' xv j l :=
  ⟨h.box.side h.ge, owns_kept h.own ((Mod.refl (fun b => b = cb) w).setCell (p := ⟨cb, o, none⟩) (.inr rfl) u) (fun b hb e => by have := h.ne b hb; omega), by rw [← e]; exact set_block h.cus u, h.ge, h.ne⟩
theorem CusR.cells {c1 : Int} (h : CusR base T v ws n k c1 bx W0 w en tm tr bm br sv cv kv tv cb a b c d xv j l) : w.cell? ⟨cb, 0, none⟩ = some (.int .i64 a) ∧ w.cell? ⟨cb, 1, none⟩ = some (.int .i64 b) ∧ w.cell? ⟨cb, 2, none⟩ = some (.int .i64 c) ∧ w.cell? ⟨cb, 3, none⟩ = some (.int .i64 d) ∧ ∀ o, w.frozen? ⟨cb, o, none⟩ = false := by
  simp [World.cell?, World.frozen?, h.cus]
theorem BoxL.start {c : Int} (h : Tl base T v ws n k c w) (hb : w.heap[bx]? = some (.cells #[.int .i64 en, .int .i64 tm, .int .i64 tr, .int .i64 bm, .int .i64 br, sv, cv, kv, tv] 29 (0, 0))) (hne : bx ≠ T) (hv : ∀ b, v.ownBlock = some b → b < T ∧ b < bx) :
    BoxL base T v ws n k c bx w w en tm tr bm br sv cv kv tv := ⟨h, hb, Mod.refl _ _, hne, fun b hb' => ⟨by have := (hv b hb').2; omega, by have := (hv b hb').1; have := h.lt; omega⟩, h.lt, lt_of_block hb⟩
theorem storeI_far {r b o : Nat} {y0 y1 y2 y3 y4 y5 y6 y7 y8 u : Value} (h : b ≠ r) (hu : w.cell? ⟨b, o, none⟩ = some u) : (storeI w r y0 y1 y2 y3 y4 y5 y6 y7 y8).cell? ⟨b, o, none⟩ = some u := by
  rw [World.cell?_of_block (w := w)]
  · exact hu
  · exact (storeI_mod (S := fun b => b = r) (Mod.refl (fun b => b = r) w) rfl).block b (World.block_lt_of_cell? _ _ hu) h
set_option maxHeartbeats 16000000 in
set_option maxRecDepth 100000 in
/-- A text whose bytes may all stand. -/
theorem reads_good (s : ByteArray) (w : World) (hs : s.size ≤ 131072) (hg : toN badB s.data.toList = s.size) : Calls Try.prog 10 #[.string s] w (ParseP s.data.toList w) := by
  obtain ⟨i0, hi0, hz0, hz1, hz2⟩ := info_parts infoSatM
  obtain ⟨i1, hi1, hy0, hy1, hy2⟩ := info_parts infoCusM
  have hl : s.data.toList.length = s.size := by simp
  have HQI : Hid (textI s.data.toList = ansI (cutL s.data.toList 0) (runR (cutL s.data.toList 0) instP 0)) := Lib.hid (by rw [textI, if_neg (by omega)])
  have HQA : Hid (textAt s.data.toList = ansAt (cutL s.data.toList 0) s.size (runR (cutL s.data.toList 0) instP 0)) := Lib.hid (by rw [textAt, if_neg (by omega), hl])
  have HQC : Hid (textC s.data.toList = ansC (cutL s.data.toList 0) (runR (cutL s.data.toList 0) instP 0)) := Lib.hid (by rw [textC, if_neg (by omega)])
  have HW := Lib.hid fun Wd => words_good s Wd hs hg
  have htx : ∀ x ∈ cutL s.data.toList 0, x.1.length ≤ 1000000 := fun x hx => by
    obtain ⟨_, _, _, h4, _⟩ := cutL_mem s.data.toList.length s.data.toList 0 (Nat.le_refl _) x.1 x.2 hx
    omega
  have hwl : (cutL s.data.toList 0).length ≤ 1000000 := words_few s hs
  have HTX := Lib.hid htx
  have HWL := Lib.hid hwl
  unfold ParseP
  generalize textI s.data.toList = X at *
  generalize textAt s.data.toList = p at *
  generalize textC s.data.toList = code at *
  generalize cutL s.data.toList 0 = ws at *
  obtain ⟨F, hF⟩ : ∃ F, runR ws instP 0 = F := ⟨_, rfl⟩
  rw [hF] at HQI HQA HQC
  have HF : Hid (Flow ws 0 0 instP F) := Lib.hid (.good hF)
  clear hF hl hg htx hwl
  go_enter Try.func10, Try.ntmps10
  go_wp2_with fail
  refine (HW.out _).mono ?_
  rintro e w1 ⟨u, rfl, hu, hb1⟩
  have hsz1 := hb1.size
  simp only [World.size_alloc] at hsz1
  obtain ⟨ua, uc, hv⟩ := hu.shape
  subst hv
  have hbase : (w.alloc (.cells #[.int .i64 0, .int .i64 0, .int .i64 0, .int .i64 0, .int .i64 0, .slice none 0 0, .slice none 0 0, .slice none 0 0, .slice none 0 0] 29)).heap.size = w.heap.size + 1 := by simp
  have hres0 : w1.heap[w.heap.size]? = some (.cells #[.int .i64 0, .int .i64 0, .int .i64 0, .int .i64 0, .int .i64 0, .slice none 0 0, .slice none 0 0, .slice none 0 0, .slice none 0 0] 29 (0, 0)) := (hb1.block w.heap.size (by simp)).trans (heap_alloc_new w _)
  have hb0 : Below w.heap.size w w1 := ((Below.refl w.heap.size w).alloc (Nat.le_refl _) _).trans (hb1.mono (by simp))
  obtain ⟨wS, hwS⟩ : ∃ z, z = (w1.alloc (.cells #[.slice ua ws.length uc, .int .i64 0, .int .i64 (s.size : Int), .int .i64 0] 72)).alloc (.cells #[.int .i64 0, .int .i64 0, .int .i64 0, .int .i64 0, .int .i64 0, .slice none 0 0, .slice none 0 0, .slice none 0 0, .slice none 0 0] 29) := ⟨_, rfl⟩
  have hAT := (Below.refl w1.heap.size w1).alloc (Nat.le_refl _) (.cells #[.slice ua ws.length uc, .int .i64 0, .int .i64 (s.size : Int), .int .i64 0] 72)
  have hsT : (w1.alloc (.cells #[.slice ua ws.length uc, .int .i64 0, .int .i64 (s.size : Int), .int .i64 0] 72)).heap.size = w1.heap.size + 1 := by simp
  have hAX := (Below.refl (w1.heap.size + 1) (w1.alloc (.cells #[.slice ua ws.length uc, .int .i64 0, .int .i64 (s.size : Int), .int .i64 0] 72))).alloc (by omega) (.cells #[.int .i64 0, .int .i64 0, .int .i64 0, .int .i64 0, .int .i64 0, .slice none 0 0, .slice none 0 0, .slice none 0 0, .slice none 0 0] 29)
  rw [← hwS] at hAX
  have hTl : Tl (w.heap.size + 1) w1.heap.size (.slice ua ws.length uc) ws s.size 0 0 wS := by
    refine ⟨(hAX.block _ (by omega)).trans (heap_alloc_new _ _), ((hbase ▸ hu : WRow _ w1 (w.heap.size + 1) _ ws).below hAT).below (hAX.mono (by omega)), fun e => by have := (World.ownsRow.lt hu _ e).2; omega, Nat.zero_le _, HWL.out⟩
  have hbox : wS.heap[w1.heap.size + 1]? = some (.cells #[.int .i64 0, .int .i64 0, .int .i64 0, .int .i64 0, .int .i64 0, .slice none 0 0, .slice none 0 0, .slice none 0 0, .slice none 0 0] 29 (0, 0)) := by rw [hwS, ← hsT]; exact heap_alloc_new _ _
  have hB0 := BoxL.start (bx := w1.heap.size + 1) hTl hbox (by omega) (fun b hb => by have := (World.ownsRow.lt hu b hb).2; omega)
  have HB := Lib.hid hB0
  have hbS : Below w.heap.size w wS := (hb0.trans (hAT.mono (by omega))).trans (hAX.mono (by omega))
  have HBW := Lib.hid hbS
  have HRES : Hid (wS.heap[w.heap.size]? = some (.cells #[.int .i64 0, .int .i64 0, .int .i64 0, .int .i64 0, .int .i64 0, .slice none 0 0, .slice none 0 0, .slice none 0 0, .slice none 0 0] 29 (0, 0))) := Lib.hid ((hAX.block _ (by omega)).trans ((hAT.block _ (by omega)).trans hres0))
  have hsS : w1.heap.size + 2 = wS.heap.size := by rw [hwS]; simp
  have hwSu := hwS
  clear HW hu hb1 hbase hres0 hb0 hAT hsT hAX hTl hbox hB0 hbS hwS HWL
  go_wp2_with fail
  rw [← hwSu]
  clear hwSu
  obtain ⟨T, hT⟩ : ∃ T, w1.heap.size = T := ⟨_, rfl⟩
  rw [hT] at HB hsz1 hsS ⊢
  clear hT
  obtain ⟨bx, hbx⟩ : ∃ bx, T + 1 = bx := ⟨_, rfl⟩
  rw [hbx] at HB ⊢
  obtain ⟨base, hba⟩ : ∃ b, w.heap.size + 1 = b := ⟨_, rfl⟩
  rw [hba] at HB
  obtain ⟨v, hv⟩ : ∃ v, v = Value.slice ua ws.length uc := ⟨_, rfl⟩
  rw [← hv] at HB
  obtain ⟨n, hn⟩ : ∃ n, s.size = n := ⟨_, rfl⟩
  have HNS := Lib.hid hn
  rw [hn] at HB
  have HVS := Lib.hid hv
  clear hv hn hba
  have HM0 : Hid (Mod (fun b => b = T ∨ b = bx) wS wS) := Lib.hid (Mod.refl _ _)
  go_wp2_with fail
  refine (mustT HB.out.rd _ tWharfage rfl HF.out).mono ?_
  rintro e w2 ⟨rfl, hm, kx, cx, hr, hF⟩
  have HBn := Lib.hid (HB.out.read hm hr)
  have HFn := Lib.hid hF
  clear hm hr hF HB HF
  have HB := HBn
  have HF := HFn
  clear HBn HFn
  go_wp2_with fail
  refine (numT HB.out.rd HTX.out (by omega) HF.out).mono ?_
  rintro e w3 ⟨en, rfl, hq, hm, kx, cx, hr, hF⟩
  have HBn := Lib.hid (HB.out.read hm hr)
  have HFn := Lib.hid hF
  clear hm hr hF HB HF
  have c0 := HBn.out.cells.1
  have f0 := HBn.out.cells.2.2.2.2.2.2.2.2.2 0
  have HB := Lib.hid (HBn.out.set_ (o := 0) (u := .int .i64 en) rfl)
  have HF := HFn
  clear HBn HFn hq
  go_wp2_with fail
  refine (mustT HB.out.rd _ tTrucks rfl HF.out).mono ?_
  rintro e w4 ⟨rfl, hm, kx, cx, hr, hF⟩
  have HBn := Lib.hid (HB.out.read hm hr)
  have HFn := Lib.hid hF
  clear hm hr hF HB HF
  have HB := HBn
  have HF := HFn
  clear HBn HFn
  clear c0 f0
  go_wp2_with fail
  refine (numT HB.out.rd HTX.out (by omega) HF.out).mono ?_
  rintro e w5 ⟨tm, rfl, hq, hm, kx, cx, hr, hF⟩
  have HBn := Lib.hid (HB.out.read hm hr)
  have HFn := Lib.hid hF
  clear hm hr hF HB HF
  have c1 := HBn.out.cells.2.1
  have f1 := HBn.out.cells.2.2.2.2.2.2.2.2.2 1
  have HB := Lib.hid (HBn.out.set_ (o := 1) (u := .int .i64 tm) rfl)
  have HF := HFn
  clear HBn HFn hq
  skip
  go_wp2_with fail
  refine (numT HB.out.rd HTX.out (by omega) HF.out).mono ?_
  rintro e w6 ⟨tr, rfl, hq, hm, kx, cx, hr, hF⟩
  have HBn := Lib.hid (HB.out.read hm hr)
  have HFn := Lib.hid hF
  clear hm hr hF HB HF
  have c2 := HBn.out.cells.2.2.1
  have f2 := HBn.out.cells.2.2.2.2.2.2.2.2.2 2
  have HB := Lib.hid (HBn.out.set_ (o := 2) (u := .int .i64 tr) rfl)
  have HF := HFn
  clear HBn HFn hq
  go_wp2_with fail
  refine (mustT HB.out.rd _ tBikes rfl HF.out).mono ?_
  rintro e w7 ⟨rfl, hm, kx, cx, hr, hF⟩
  have HBn := Lib.hid (HB.out.read hm hr)
  have HFn := Lib.hid hF
  clear hm hr hF HB HF
  have HB := HBn
  have HF := HFn
  clear HBn HFn
  clear c1 f1 c2 f2
  go_wp2_with fail
  refine (numT HB.out.rd HTX.out (by omega) HF.out).mono ?_
  rintro e w8 ⟨bm, rfl, hq, hm, kx, cx, hr, hF⟩
  have HBn := Lib.hid (HB.out.read hm hr)
  have HFn := Lib.hid hF
  clear hm hr hF HB HF
  have c3 := HBn.out.cells.2.2.2.1
  have f3 := HBn.out.cells.2.2.2.2.2.2.2.2.2 3
  have HB := Lib.hid (HBn.out.set_ (o := 3) (u := .int .i64 bm) rfl)
  have HF := HFn
  clear HBn HFn hq
  go_wp2_with fail
  refine (numT HB.out.rd HTX.out (by omega) HF.out).mono ?_
  rintro e w9 ⟨br, rfl, hq, hm, kx, cx, hr, hF⟩
  have HBn := Lib.hid (HB.out.read hm hr)
  have HFn := Lib.hid hF
  clear hm hr hF HB HF
  have c4 := HBn.out.cells.2.2.2.2.1
  have f4 := HBn.out.cells.2.2.2.2.2.2.2.2.2 4
  have HB := Lib.hid (HBn.out.set_ (o := 4) (u := .int .i64 br) rfl)
  have HF := HFn
  clear HBn HFn hq
  go_wp2_with fail
  refine (mustT HB.out.rd _ tSatellites rfl HF.out).mono ?_
  rintro e w10 ⟨rfl, hm, kx, cx, hr, hF⟩
  have HBn := Lib.hid (HB.out.read hm hr)
  have HFn := Lib.hid hF
  clear hm hr hF HB HF
  have HB := HBn
  have HF := HFn
  clear HBn HFn
  clear c3 f3 c4 f4
  go_wp2_with fail
  refine (numT HB.out.rd HTX.out (by omega) HF.out).mono ?_
  rintro e wA ⟨q, rfl, hq, hm, kx, cx, hr, hF⟩
  have HBn := Lib.hid (HB.out.read hm hr)
  have HFn := Lib.hid hF
  clear hm hr hF HB HF
  obtain ⟨ms, hnm⟩ : ∃ m : Nat, q = (m : Int) := ⟨q.toNat, by omega⟩
  subst hnm
  obtain ⟨_, ms2⟩ := hq
  have HB := HBn
  have HF := HFn
  clear HBn HFn
  have HM1 := Lib.hid (HM0.out.trans HB.out.mod)
  have HBn := Lib.hid HB.out.restart
  clear HB
  have HB := HBn
  clear HBn
  have HTA := Lib.hid HB.out.Tlt
  have HXA := Lib.hid HB.out.bxlt
  go_wp2_with fail
  have HS0 : Hid (wA.ownsRow wA.heap.size 61 2 (.slice none 0 0) 0 []) := Lib.hid nil_owned
  have HL0 : Hid (Flow ws _ _ (satsP (ms - 0) [] (cusQ en tm tr bm br)) F) := Lib.hid (by have h := HF.out; rwa [Int.toNat_natCast] at h)
  clear HF
  go_loopw [55] (fun iv wr => ∃ (j k : Nat) (c : Int) (xv : Value) (l : List (Int × Int)), iv = .int .i64 (j : Int) ∧ j ≤ ms ∧ Hid (l.length = j) ∧ Hid (BoxL base T v ws n k c bx wA wr en tm tr bm br xv (.slice none 0 0) (.slice none 0 0) (.slice none 0 0)) ∧ Hid (wr.ownsRow wA.heap.size 61 2 xv j (flatS l)) ∧ Hid (Flow ws c k (satsP (ms - j) l (cusQ en tm tr bm br)) F)) (fun iv _ => ms - (intOf iv).toNat)
  case atStart => exact ⟨0, _, _, _, [], rfl, Nat.zero_le _, Lib.hid rfl, HB, HS0, HL0⟩
  case round =>
    obtain ⟨j, kr, cr, xv, l, rfl, hj, HL, HBR, HS, HF⟩ := hrel
    clear HS0 HL0 HB
    obtain ⟨xaA, xcA, hxv⟩ := owns_shape HS.out
    subst hxv
    by_cases hlt : j < ms
    · have hF2 := HF.out
      rw [show ms - j = (ms - (j + 1)) + 1 by omega, satsP] at hF2
      have HFx := Lib.hid hF2
      have HBS := HBR.out.mod.size
      have hTl := HBR.out.Tlt
      have hXl := HBR.out.bxlt
      clear hF2 HF
      go_wp2_with fail
      refine (numT HBR.out.rd HTX.out (by omega) HFx.out).mono ?_
      rintro e w2 ⟨a, rfl, hq2, hm2, k2, c2, hr2, hF2⟩
      have HB2 := Lib.hid (HBR.out.read hm2 hr2)
      have HS2 : Hid (w2.ownsRow wA.heap.size 61 2 (.slice xaA j xcA) j (flatS l)) := Lib.hid (owns_kept HS.out hm2 (fun b hb e => by have := (World.ownsRow.lt HS.out b hb).1; omega))
      have HF2 := Lib.hid hF2
      have c5 := HB2.out.cells.2.2.2.2.2.1
      have hs2 := hm2.size
      clear hm2 hr2 hF2 HFx
      go_wp2_with fail
      refine wp_region_held_drew (S := fun _ => True) (by kernel_rfl) trivial (fun hHeld => ?_)
      refine wpAnyH_take (i := 0) (v := ?_) rfl (by kernel_rfl) (by kernel_rfl) (by kernel_rfl) (fun _ _ _ h => h) (Or.inl ⟨by rfl, ?_⟩) hHeld ?_
      rotate_left
      · intro Wz hWz; go_simp; (try with_reducible rfl)
      try simp only [Act.put, List.setIfInBounds_toArray, List.set_cons_zero, List.set_cons_succ, List.getElem_toArray, List.getElem_cons_zero]
      refine wpAnyH_take (i := 2) (v := ?_) rfl (by kernel_rfl) (by kernel_rfl) (by kernel_rfl) (fun _ _ _ h => h) (Or.inl ⟨by rfl, ?_⟩) hHeld ?_
      rotate_left
      · intro Wz hWz; go_simp; (try with_reducible rfl)
      try simp only [Act.put, List.setIfInBounds_toArray, List.set_cons_zero, List.set_cons_succ, List.getElem_toArray, List.getElem_cons_zero, List.getElem_cons_succ]
      refine wpAnyH_take (i := 3) (v := ?_) rfl (by kernel_rfl) (by kernel_rfl) (by kernel_rfl) (fun _ _ _ h => h) (Or.inl ⟨by rfl, ?_⟩) hHeld ?_
      rotate_left
      · intro Wz hWz; go_simp; (try with_reducible rfl)
      try simp only [Act.put, List.setIfInBounds_toArray, List.set_cons_zero, List.set_cons_succ, List.getElem_toArray, List.getElem_cons_zero, List.getElem_cons_succ]
      refine wpAnyH_ready (rs := [1, 4]) (by kernel_rfl) (by simp) ?_
      refine AllReadyH.cons rfl (fun K hK => ?_) (AllReadyH.cons rfl (fun K hK => ?_) AllReadyH.nil)
      · go_simp
        refine hK.out _ _ ?_ (fun hHeld => ?_)
        · exact trivial
        clear hK K
        try simp only [Act.put, List.setIfInBounds_toArray, List.set_cons_zero, List.set_cons_succ, List.getElem_toArray, List.getElem_cons_zero, List.getElem_cons_succ]
        refine wpAnyH_ready (rs := [4]) (by kernel_rfl) (by simp) ?_
        refine AllReadyH.cons rfl (fun K hK => ?_) AllReadyH.nil
        go_simp
        refine (numT HB2.out.drew.rd HTX.out (by omega) HF2.out).mono ?_
        rintro e w3 ⟨b, rfl, hq3, hm3, k3, c3, hr3, hF3⟩
        have HB3 := Lib.hid (HB2.out.drew.read hm3 hr3)
        have HF3 := Lib.hid hF3
        have HS3 : Hid (w3.ownsRow wA.heap.size 61 2 (.slice xaA j xcA) j (flatS l)) := Lib.hid (owns_kept HS2.out (((Mod.refl (fun b => b = T) w2).drew).trans hm3) (fun b hb e => by have := (World.ownsRow.lt HS2.out b hb).1; omega))
        have c5 := HB3.out.cells.2.2.2.2.2.1
        have hs3 : w2.heap.size ≤ w3.heap.size := hm3.size
        clear hm3 hr3 hF3
        refine hK.out _ _ ?_ (fun hHeld => ?_)
        · exact trivial
        clear hK K
        try simp only [Act.put, List.setIfInBounds_toArray, List.set_cons_zero, List.set_cons_succ, List.getElem_toArray, List.getElem_cons_zero, List.getElem_cons_succ]
        refine wpAnyH_take (i := 5) (v := ?_) rfl (by kernel_rfl) (by kernel_rfl) (by kernel_rfl) (fun _ _ _ h => h) (Or.inl ⟨by rfl, ?_⟩) hHeld ?_
        rotate_left
        · intro Wz hWz; go_simp; (try with_reducible rfl)
        try simp only [Act.put, List.setIfInBounds_toArray, List.set_cons_zero, List.set_cons_succ, List.getElem_toArray, List.getElem_cons_zero, List.getElem_cons_succ]
        refine wpAnyH_ready (rs := [6]) (by kernel_rfl) (by simp) ?_
        refine AllReadyH.cons rfl (fun K hK => ?_) AllReadyH.nil
        go_simp
        have HB4 := Lib.hid (HB3.out.later ((Below.refl _ _).alloc (Nat.le_refl _) (.cells #[.int .i64 a, .int .i64 b] 61)))
        have HS4 := Lib.hid (owns_below HS3.out ((Below.refl _ _).alloc (Nat.le_refl _) (.cells #[.int .i64 a, .int .i64 b] 61)))
        have c5 := HB4.out.cells.2.2.2.2.2.1
        refine hK.out _ _ ?_ (fun hHeld => ?_)
        · exact trivial
        clear hK K
        try simp only [Act.put, List.setIfInBounds_toArray, List.set_cons_zero, List.set_cons_succ, List.getElem_toArray, List.getElem_cons_zero, List.getElem_cons_succ]
        refine wpAnyH_ready (rs := [7]) (by kernel_rfl) (by simp) ?_
        refine AllReadyH.cons rfl (fun K hK => ?_) AllReadyH.nil
        refine step_append_fresh rfl (.tmp 60) (.tmp 65) 25 rfl wA.heap.size 61 i0 _ 2 16 Try.underlying25 hi0 hz0 hz1 hz2 (by decide) (.slice xaA j xcA) j (flatS l) rfl HS4.out ⟨w3.heap.size, 0, none⟩ 1 (encS (a, b)) rfl rfl (newsS_at _ (a, b) _ _ rfl) (oneS _) (by unfold maxLen; omega) (by omega) (by simp; omega) ?_
        intro g cp4 w4 hown hgrow hfr
        have HB5 := Lib.hid (HB4.out.grown hgrow (fun k hk => (World.ownsRow.lt HS4.out k hk).1))
        have HS5 : Hid ((w4.setCell ⟨bx, 5, none⟩ (.slice (some ⟨g, 0, none⟩) (j + 1) cp4)).ownsRow wA.heap.size 61 2 (.slice (some ⟨g, 0, none⟩) (j + 1) cp4) (j + 1) (flatS (l ++ [(a, b)]))) := Lib.hid (by
          rw [flatS_snoc]
          exact owns_kept hown ((Mod.refl (fun b => b = bx) w4).setCell (p := ⟨bx, 5, none⟩) (.inr rfl) _) (fun b hb e => by have := (World.ownsRow.lt hown b hb).1; omega))
        have c5 := HB5.out.cells.2.2.2.2.2.1
        have fz := HB5.out.cells.2.2.2.2.2.2.2.2.2 5
        have HB6 : Hid (BoxL base T v ws n k3 c3 bx wA (w4.setCell ⟨bx, 5, none⟩ (.slice (some ⟨g, 0, none⟩) (j + 1) cp4)) en tm tr bm br (.slice (some ⟨g, 0, none⟩) (j + 1) cp4) (.slice none 0 0) (.slice none 0 0) (.slice none 0 0)) := Lib.hid (HB5.out.set_ (o := 5) rfl)
        clear hown hgrow hfr
        refine hK.out _ _ ?_ (fun hHeld => ?_)
        · exact trivial
        clear hK K
        try simp only [Act.put, List.setIfInBounds_toArray, List.set_cons_zero, List.set_cons_succ, List.getElem_toArray, List.getElem_cons_zero, List.getElem_cons_succ]
        refine wpAnyH_take (i := 8) (v := ?_) rfl (by kernel_rfl) (by kernel_rfl) (by kernel_rfl) (fun _ _ _ h => h) (Or.inl ⟨by rfl, ?_⟩) hHeld ?_
        rotate_left
        · intro Wz hWz; go_simp; (try with_reducible rfl)
        try simp only [Act.put, List.setIfInBounds_toArray, List.set_cons_zero, List.set_cons_succ, List.getElem_toArray, List.getElem_cons_zero, List.getElem_cons_succ]
        refine wpAnyH_ready (rs := [9]) (by kernel_rfl) (by simp) ?_
        refine AllReadyH.cons rfl (fun K hK => ?_) AllReadyH.nil
        go_simp
        refine hK.out _ _ ?_ (fun hHeld => ?_)
        · exact trivial
        clear hK K
        try simp only [Act.put, List.setIfInBounds_toArray, List.set_cons_zero, List.set_cons_succ, List.getElem_toArray, List.getElem_cons_zero, List.getElem_cons_succ]
        refine wpAnyH_done (by kernel_rfl) ?_ _
        clear hHeld
        go_wp2_with fail
        go_roundw
        case rel => exact ⟨j + 1, _, _, _, _, by go_num, by omega, Lib.hid (by simp [HL.out]), HB6, HS5, HF3⟩
        case measure => simp [intOf]; omega
      · go_simp
        refine (numT HB2.out.drew.rd HTX.out (by omega) HF2.out).mono ?_
        rintro e w3 ⟨b, rfl, hq3, hm3, k3, c3, hr3, hF3⟩
        have HB3 := Lib.hid (HB2.out.drew.read hm3 hr3)
        have HF3 := Lib.hid hF3
        have HS3 : Hid (w3.ownsRow wA.heap.size 61 2 (.slice xaA j xcA) j (flatS l)) := Lib.hid (owns_kept HS2.out (((Mod.refl (fun b => b = T) w2).drew).trans hm3) (fun b hb e => by have := (World.ownsRow.lt HS2.out b hb).1; omega))
        have c5 := HB3.out.cells.2.2.2.2.2.1
        have hs3 : w2.heap.size ≤ w3.heap.size := hm3.size
        clear hm3 hr3 hF3
        refine hK.out _ _ ?_ (fun hHeld => ?_)
        · exact trivial
        clear hK K
        try simp only [Act.put, List.setIfInBounds_toArray, List.set_cons_zero, List.set_cons_succ, List.getElem_toArray, List.getElem_cons_zero, List.getElem_cons_succ]
        refine wpAnyH_take (i := 5) (v := ?_) rfl (by kernel_rfl) (by kernel_rfl) (by kernel_rfl) (fun _ _ _ h => h) (Or.inl ⟨by rfl, ?_⟩) hHeld ?_
        rotate_left
        · intro Wz hWz; go_simp; (try with_reducible rfl)
        try simp only [Act.put, List.setIfInBounds_toArray, List.set_cons_zero, List.set_cons_succ, List.getElem_toArray, List.getElem_cons_zero, List.getElem_cons_succ]
        refine wpAnyH_ready (rs := [1, 6]) (by kernel_rfl) (by simp) ?_
        refine AllReadyH.cons rfl (fun K hK => ?_) (AllReadyH.cons rfl (fun K hK => ?_) AllReadyH.nil)
        · go_simp
          refine hK.out _ _ ?_ (fun hHeld => ?_)
          · exact trivial
          clear hK K
          try simp only [Act.put, List.setIfInBounds_toArray, List.set_cons_zero, List.set_cons_succ, List.getElem_toArray, List.getElem_cons_zero, List.getElem_cons_succ]
          refine wpAnyH_ready (rs := [6]) (by kernel_rfl) (by simp) ?_
          refine AllReadyH.cons rfl (fun K hK => ?_) AllReadyH.nil
          go_simp
          have HB4 := Lib.hid (HB3.out.later ((Below.refl _ _).alloc (Nat.le_refl _) (.cells #[.int .i64 a, .int .i64 b] 61)))
          have HS4 := Lib.hid (owns_below HS3.out ((Below.refl _ _).alloc (Nat.le_refl _) (.cells #[.int .i64 a, .int .i64 b] 61)))
          have c5 := HB4.out.cells.2.2.2.2.2.1
          refine hK.out _ _ ?_ (fun hHeld => ?_)
          · exact trivial
          clear hK K
          try simp only [Act.put, List.setIfInBounds_toArray, List.set_cons_zero, List.set_cons_succ, List.getElem_toArray, List.getElem_cons_zero, List.getElem_cons_succ]
          refine wpAnyH_ready (rs := [7]) (by kernel_rfl) (by simp) ?_
          refine AllReadyH.cons rfl (fun K hK => ?_) AllReadyH.nil
          refine step_append_fresh rfl (.tmp 60) (.tmp 65) 25 rfl wA.heap.size 61 i0 _ 2 16 Try.underlying25 hi0 hz0 hz1 hz2 (by decide) (.slice xaA j xcA) j (flatS l) rfl HS4.out ⟨w3.heap.size, 0, none⟩ 1 (encS (a, b)) rfl rfl (newsS_at _ (a, b) _ _ rfl) (oneS _) (by unfold maxLen; omega) (by omega) (by simp; omega) ?_
          intro g cp4 w4 hown hgrow hfr
          have HB5 := Lib.hid (HB4.out.grown hgrow (fun k hk => (World.ownsRow.lt HS4.out k hk).1))
          have HS5 : Hid ((w4.setCell ⟨bx, 5, none⟩ (.slice (some ⟨g, 0, none⟩) (j + 1) cp4)).ownsRow wA.heap.size 61 2 (.slice (some ⟨g, 0, none⟩) (j + 1) cp4) (j + 1) (flatS (l ++ [(a, b)]))) := Lib.hid (by
            rw [flatS_snoc]
            exact owns_kept hown ((Mod.refl (fun b => b = bx) w4).setCell (p := ⟨bx, 5, none⟩) (.inr rfl) _) (fun b hb e => by have := (World.ownsRow.lt hown b hb).1; omega))
          have c5 := HB5.out.cells.2.2.2.2.2.1
          have fz := HB5.out.cells.2.2.2.2.2.2.2.2.2 5
          have HB6 : Hid (BoxL base T v ws n k3 c3 bx wA (w4.setCell ⟨bx, 5, none⟩ (.slice (some ⟨g, 0, none⟩) (j + 1) cp4)) en tm tr bm br (.slice (some ⟨g, 0, none⟩) (j + 1) cp4) (.slice none 0 0) (.slice none 0 0) (.slice none 0 0)) := Lib.hid (HB5.out.set_ (o := 5) rfl)
          clear hown hgrow hfr
          refine hK.out _ _ ?_ (fun hHeld => ?_)
          · exact trivial
          clear hK K
          try simp only [Act.put, List.setIfInBounds_toArray, List.set_cons_zero, List.set_cons_succ, List.getElem_toArray, List.getElem_cons_zero, List.getElem_cons_succ]
          refine wpAnyH_take (i := 8) (v := ?_) rfl (by kernel_rfl) (by kernel_rfl) (by kernel_rfl) (fun _ _ _ h => h) (Or.inl ⟨by rfl, ?_⟩) hHeld ?_
          rotate_left
          · intro Wz hWz; go_simp; (try with_reducible rfl)
          try simp only [Act.put, List.setIfInBounds_toArray, List.set_cons_zero, List.set_cons_succ, List.getElem_toArray, List.getElem_cons_zero, List.getElem_cons_succ]
          refine wpAnyH_ready (rs := [9]) (by kernel_rfl) (by simp) ?_
          refine AllReadyH.cons rfl (fun K hK => ?_) AllReadyH.nil
          go_simp
          refine hK.out _ _ ?_ (fun hHeld => ?_)
          · exact trivial
          clear hK K
          try simp only [Act.put, List.setIfInBounds_toArray, List.set_cons_zero, List.set_cons_succ, List.getElem_toArray, List.getElem_cons_zero, List.getElem_cons_succ]
          refine wpAnyH_done (by kernel_rfl) ?_ _
          clear hHeld
          go_wp2_with fail
          go_roundw
          case rel => exact ⟨j + 1, _, _, _, _, by go_num, by omega, Lib.hid (by simp [HL.out]), HB6, HS5, HF3⟩
          case measure => simp [intOf]; omega
        · go_simp
          have HB4 := Lib.hid (HB3.out.later ((Below.refl _ _).alloc (Nat.le_refl _) (.cells #[.int .i64 a, .int .i64 b] 61)))
          have HS4 := Lib.hid (owns_below HS3.out ((Below.refl _ _).alloc (Nat.le_refl _) (.cells #[.int .i64 a, .int .i64 b] 61)))
          have c5 := HB4.out.cells.2.2.2.2.2.1
          refine hK.out _ _ ?_ (fun hHeld => ?_)
          · exact trivial
          clear hK K
          try simp only [Act.put, List.setIfInBounds_toArray, List.set_cons_zero, List.set_cons_succ, List.getElem_toArray, List.getElem_cons_zero, List.getElem_cons_succ]
          refine wpAnyH_ready (rs := [1]) (by kernel_rfl) (by simp) ?_
          refine AllReadyH.cons rfl (fun K hK => ?_) AllReadyH.nil
          go_simp
          refine hK.out _ _ ?_ (fun hHeld => ?_)
          · exact trivial
          clear hK K
          try simp only [Act.put, List.setIfInBounds_toArray, List.set_cons_zero, List.set_cons_succ, List.getElem_toArray, List.getElem_cons_zero, List.getElem_cons_succ]
          refine wpAnyH_ready (rs := [7]) (by kernel_rfl) (by simp) ?_
          refine AllReadyH.cons rfl (fun K hK => ?_) AllReadyH.nil
          refine step_append_fresh rfl (.tmp 60) (.tmp 65) 25 rfl wA.heap.size 61 i0 _ 2 16 Try.underlying25 hi0 hz0 hz1 hz2 (by decide) (.slice xaA j xcA) j (flatS l) rfl HS4.out ⟨w3.heap.size, 0, none⟩ 1 (encS (a, b)) rfl rfl (newsS_at _ (a, b) _ _ rfl) (oneS _) (by unfold maxLen; omega) (by omega) (by simp; omega) ?_
          intro g cp4 w4 hown hgrow hfr
          have HB5 := Lib.hid (HB4.out.grown hgrow (fun k hk => (World.ownsRow.lt HS4.out k hk).1))
          have HS5 : Hid ((w4.setCell ⟨bx, 5, none⟩ (.slice (some ⟨g, 0, none⟩) (j + 1) cp4)).ownsRow wA.heap.size 61 2 (.slice (some ⟨g, 0, none⟩) (j + 1) cp4) (j + 1) (flatS (l ++ [(a, b)]))) := Lib.hid (by
            rw [flatS_snoc]
            exact owns_kept hown ((Mod.refl (fun b => b = bx) w4).setCell (p := ⟨bx, 5, none⟩) (.inr rfl) _) (fun b hb e => by have := (World.ownsRow.lt hown b hb).1; omega))
          have c5 := HB5.out.cells.2.2.2.2.2.1
          have fz := HB5.out.cells.2.2.2.2.2.2.2.2.2 5
          have HB6 : Hid (BoxL base T v ws n k3 c3 bx wA (w4.setCell ⟨bx, 5, none⟩ (.slice (some ⟨g, 0, none⟩) (j + 1) cp4)) en tm tr bm br (.slice (some ⟨g, 0, none⟩) (j + 1) cp4) (.slice none 0 0) (.slice none 0 0) (.slice none 0 0)) := Lib.hid (HB5.out.set_ (o := 5) rfl)
          clear hown hgrow hfr
          refine hK.out _ _ ?_ (fun hHeld => ?_)
          · exact trivial
          clear hK K
          try simp only [Act.put, List.setIfInBounds_toArray, List.set_cons_zero, List.set_cons_succ, List.getElem_toArray, List.getElem_cons_zero, List.getElem_cons_succ]
          refine wpAnyH_take (i := 8) (v := ?_) rfl (by kernel_rfl) (by kernel_rfl) (by kernel_rfl) (fun _ _ _ h => h) (Or.inl ⟨by rfl, ?_⟩) hHeld ?_
          rotate_left
          · intro Wz hWz; go_simp; (try with_reducible rfl)
          try simp only [Act.put, List.setIfInBounds_toArray, List.set_cons_zero, List.set_cons_succ, List.getElem_toArray, List.getElem_cons_zero, List.getElem_cons_succ]
          refine wpAnyH_ready (rs := [9]) (by kernel_rfl) (by simp) ?_
          refine AllReadyH.cons rfl (fun K hK => ?_) AllReadyH.nil
          go_simp
          refine hK.out _ _ ?_ (fun hHeld => ?_)
          · exact trivial
          clear hK K
          try simp only [Act.put, List.setIfInBounds_toArray, List.set_cons_zero, List.set_cons_succ, List.getElem_toArray, List.getElem_cons_zero, List.getElem_cons_succ]
          refine wpAnyH_done (by kernel_rfl) ?_ _
          clear hHeld
          go_wp2_with fail
          go_roundw
          case rel => exact ⟨j + 1, _, _, _, _, by go_num, by omega, Lib.hid (by simp [HL.out]), HB6, HS5, HF3⟩
          case measure => simp [intOf]; omega
    · obtain rfl : ms = j := by omega
      have hF2 := HF.out
      rw [Nat.sub_self, satsP] at hF2
      have HFn := Lib.hid hF2
      clear hF2 HF
      obtain ⟨wA2, hren⟩ : ∃ z, z = wr := ⟨_, rfl⟩
      subst hren
      obtain ⟨lA, hren⟩ : ∃ z, z = l := ⟨_, rfl⟩
      subst hren
      have HM2 := Lib.hid (HM1.out.trans HBR.out.mod)
      have HLA := HL
      have HSA := HS
      have HB := Lib.hid HBR.out.restart
      have HF := HFn
      clear HL HS HBR HFn hlt hj
      go_wp2_with fail
      refine (mustT HB.out.rd _ tCustomers rfl HF.out).mono ?_
      rintro e w11 ⟨rfl, hm, kx, cx, hr, hF⟩
      have HBn := Lib.hid (HB.out.read hm hr)
      have HFn := Lib.hid hF
      clear hm hr hF HB HF
      have HB := HBn
      have HF := HFn
      clear HBn HFn
      go_wp2_with fail
      refine (numT HB.out.rd HTX.out (by omega) HF.out).mono ?_
      rintro e wB ⟨q, rfl, hq, hm, kx, cx, hr, hF⟩
      have HBn := Lib.hid (HB.out.read hm hr)
      have HFn := Lib.hid hF
      clear hm hr hF HB HF
      obtain ⟨mc, hnm⟩ : ∃ m : Nat, q = (m : Int) := ⟨q.toNat, by omega⟩
      subst hnm
      obtain ⟨_, mc2⟩ := hq
      have HB := HBn
      have HF := HFn
      clear HBn HFn
      have HM3 := Lib.hid (HM2.out.trans HB.out.mod)
      have HSA := Lib.hid (HB.out.owns HTA.out HXA.out HSA.out)
      have HBn := Lib.hid HB.out.restart
      clear HB
      have HB := HBn
      clear HBn
      have HTB := Lib.hid HB.out.Tlt
      have HXB := Lib.hid HB.out.bxlt
      go_wp2_with fail
      have HS0 : Hid (wB.ownsRow wB.heap.size 64 4 (.slice none 0 0) 0 []) := Lib.hid nil_owned
      have HL0 : Hid (Flow ws _ _ (cusP (mc - 0) [] (costP en tm tr bm br lA)) F) := Lib.hid (by have h := HF.out; rwa [Int.toNat_natCast] at h)
      clear HF
      go_loopw [73] (fun iv wr => ∃ (j k : Nat) (c : Int) (xv : Value) (l : List Pi), iv = .int .i64 (j : Int) ∧ j ≤ mc ∧ Hid (l.length = j) ∧ Hid (BoxL base T v ws n k c bx wB wr en tm tr bm br (.slice xaA ms xcA) xv (.slice none 0 0) (.slice none 0 0)) ∧ Hid (wr.ownsRow wB.heap.size 64 4 xv j (flatC l)) ∧ Hid (Flow ws c k (cusP (mc - j) l (costP en tm tr bm br lA)) F)) (fun iv _ => mc - (intOf iv).toNat)
      case atStart => exact ⟨0, _, _, _, [], rfl, Nat.zero_le _, Lib.hid rfl, HB, HS0, HL0⟩
      case round =>
        obtain ⟨j, kr, cr, xv, l, rfl, hj, HL, HBR, HS, HF⟩ := hrel
        clear HS0 HL0 HB
        obtain ⟨xaB, xcB, hxv⟩ := owns_shape HS.out
        subst hxv
        by_cases hlt : j < mc
        · have hF2 := HF.out
          rw [show mc - j = (mc - (j + 1)) + 1 by omega, cusP] at hF2
          have HFx := Lib.hid hF2
          have HBS := HBR.out.mod.size
          have hTl := HBR.out.Tlt
          have hXl := HBR.out.bxlt
          clear hF2 HF
          have hcb0 := heap_alloc_new wr (.cells #[.int .i64 0, .int .i64 0, .int .i64 0, .int .i64 0] 64)
          have HC : Hid (CusR base T v ws n kr cr bx wB (wr.alloc (.cells #[.int .i64 0, .int .i64 0, .int .i64 0, .int .i64 0] 64)) en tm tr bm br (.slice xaA ms xcA) (.slice xaB j xcB) (.slice none 0 0) (.slice none 0 0) wr.heap.size 0 0 0 0 (.slice xaB j xcB) j l) := Lib.hid ⟨HBR.out.later ((Below.refl _ _).alloc (Nat.le_refl _) _), owns_below HS.out ((Below.refl _ _).alloc (Nat.le_refl _) _), hcb0, HBS, fun b hb => by have := (World.ownsRow.lt HS.out b hb).2; omega⟩
          obtain ⟨cb, hcb⟩ : ∃ cb, wr.heap.size = cb := ⟨_, rfl⟩
          clear hcb0
          skip
          go_wp2_with fail
          rw [hcb] at HC
          have HF2 := HFx
          clear HFx
          refine (numT HC.out.box.rd HTX.out (by omega) HF2.out).mono ?_
          rintro e w3 ⟨a, rfl, hq0, hm, k3, c3', hr, hF⟩
          have HCn := Lib.hid (HC.out.read hm hr)
          have HF3 := Lib.hid hF
          clear hm hr hF HC HF2
          have hcx := HCn.out.cells
          have cf := hcx.2.2.2.2 0
          have cx := hcx.1
          have HC : Hid (CusR base T v ws n k3 c3' bx wB (w3.setCell ⟨cb, 0, none⟩ (.int .i64 a)) en tm tr bm br (.slice xaA ms xcA) (.slice xaB j xcB) (.slice none 0 0) (.slice none 0 0) cb a 0 0 0 (.slice xaB j xcB) j l) := Lib.hid (HCn.out.put (o := 0) rfl)
          have HF2 := HF3
          clear HCn HF3 hcx
          go_wp2_with fail
          refine (numT HC.out.box.rd HTX.out (by omega) HF2.out).mono ?_
          rintro e w4 ⟨b, rfl, hq1, hm, k4, c4', hr, hF⟩
          have HCn := Lib.hid (HC.out.read hm hr)
          have HF4 := Lib.hid hF
          clear hm hr hF HC HF2
          have hcx := HCn.out.cells
          have cf := hcx.2.2.2.2 1
          have cx := hcx.2.1
          have HC : Hid (CusR base T v ws n k4 c4' bx wB (w4.setCell ⟨cb, 1, none⟩ (.int .i64 b)) en tm tr bm br (.slice xaA ms xcA) (.slice xaB j xcB) (.slice none 0 0) (.slice none 0 0) cb a b 0 0 (.slice xaB j xcB) j l) := Lib.hid (HCn.out.put (o := 1) rfl)
          have HF2 := HF4
          clear HCn HF4 hcx
          obtain ⟨cb0, cb1, cb2, cb3, _⟩ := HC.out.cells
          go_wp2_with fail
          refine (numT HC.out.box.rd HTX.out (by omega) HF2.out).mono ?_
          rintro e w5 ⟨c, rfl, hq2, hm, k5, c5', hr, hF⟩
          have HCn := Lib.hid (HC.out.read hm hr)
          have HF5 := Lib.hid hF
          clear hm hr hF HC HF2
          have hcx := HCn.out.cells
          have cf := hcx.2.2.2.2 2
          have cx := hcx.2.2.1
          have HC : Hid (CusR base T v ws n k5 c5' bx wB (w5.setCell ⟨cb, 2, none⟩ (.int .i64 c)) en tm tr bm br (.slice xaA ms xcA) (.slice xaB j xcB) (.slice none 0 0) (.slice none 0 0) cb a b c 0 (.slice xaB j xcB) j l) := Lib.hid (HCn.out.put (o := 2) rfl)
          have HF2 := HF5
          clear HCn HF5 hcx
          clear cb0 cb1 cb2 cb3
          go_wp2_with fail
          refine (numT HC.out.box.rd HTX.out (by omega) HF2.out).mono ?_
          rintro e w6 ⟨d, rfl, hq3, hm, k6, c6', hr, hF⟩
          have HCn := Lib.hid (HC.out.read hm hr)
          have HF6 := Lib.hid hF
          clear hm hr hF HC HF2
          have hcx := HCn.out.cells
          have cf := hcx.2.2.2.2 3
          have cx := hcx.2.2.2.1
          have HC : Hid (CusR base T v ws n k6 c6' bx wB (w6.setCell ⟨cb, 3, none⟩ (.int .i64 d)) en tm tr bm br (.slice xaA ms xcA) (.slice xaB j xcB) (.slice none 0 0) (.slice none 0 0) cb a b c d (.slice xaB j xcB) j l) := Lib.hid (HCn.out.put (o := 3) rfl)
          have HF2 := HF6
          clear HCn HF6 hcx
          obtain ⟨cb0, cb1, cb2, cb3, _⟩ := HC.out.cells
          have c6 := HC.out.box.cells.2.2.2.2.2.2.1
          have HB4 := Lib.hid (HC.out.box.later ((Below.refl _ _).alloc (Nat.le_refl _) (.cells #[.int .i64 a, .int .i64 b, .int .i64 c, .int .i64 d] 64)))
          have HS4 := Lib.hid (owns_below HC.out.own ((Below.refl _ _).alloc (Nat.le_refl _) (.cells #[.int .i64 a, .int .i64 b, .int .i64 c, .int .i64 d] 64)))
          have hs4 : wB.heap.size ≤ ((w6.setCell ⟨cb, 3, none⟩ (.int .i64 d)).alloc (.cells #[.int .i64 a, .int .i64 b, .int .i64 c, .int .i64 d] 64)).heap.size := HB4.out.mod.size
          go_wp2_with (at_builtin; refine wpList_append_fresh rfl (.tmp 90) (.tmp 92) 26 rfl wB.heap.size 64 i1 _ 4 32 Try.underlying26 hi1 hy0 hy1 hy2 (by decide) (.slice xaB j xcB) j (flatC l) rfl HS4.out ⟨_, 0, none⟩ 1 (encP (a, b, c, d)) rfl rfl (newsC_at _ (a, b, c, d) _ _ (by simp)) (oneC _) (by unfold maxLen; omega) (by omega) hs4 ?_; intro g cp4 w7 hown hgrow hfr; have HB5 := Lib.hid (HB4.out.grown hgrow (fun k hk => (World.ownsRow.lt HS4.out k hk).1)); have HS5 : Hid ((w7.setCell ⟨bx, 6, none⟩ (.slice (some ⟨g, 0, none⟩) (j + 1) cp4)).ownsRow wB.heap.size 64 4 (.slice (some ⟨g, 0, none⟩) (j + 1) cp4) (j + 1) (flatC (l ++ [(a, b, c, d)]))) := Lib.hid (by rw [flatC_snoc]; exact owns_kept hown ((Mod.refl (fun b => b = bx) w7).setCell (p := ⟨bx, 6, none⟩) (.inr rfl) _) (fun b hb e => by have := (World.ownsRow.lt hown b hb).1; omega)); have c6' := HB5.out.cells.2.2.2.2.2.2.1; have fz := HB5.out.cells.2.2.2.2.2.2.2.2.2 6; have HB6 := Lib.hid (HB5.out.set_ (o := 6) (u := .slice (some ⟨g, 0, none⟩) (j + 1) cp4) rfl); clear hown hgrow hfr)
          go_roundw
          case rel => exact ⟨j + 1, _, _, _, _, by go_num, by omega, Lib.hid (by simp [HL.out]), HB6, HS5, HF2⟩
          case measure => simp [intOf]; omega
        · obtain rfl : mc = j := by omega
          have hF2 := HF.out
          rw [Nat.sub_self, cusP] at hF2
          have HFn := Lib.hid hF2
          clear hF2 HF
          obtain ⟨wB2, hren⟩ : ∃ z, z = wr := ⟨_, rfl⟩
          subst hren
          obtain ⟨lB, hren⟩ : ∃ z, z = l := ⟨_, rfl⟩
          subst hren
          have HM4 := Lib.hid (HM3.out.trans HBR.out.mod)
          have HLB := HL
          have HSB := HS
          have HSA := Lib.hid (HBR.out.owns HTA.out HXA.out HSA.out)
          have HB := Lib.hid HBR.out.restart
          have HF := HFn
          clear HL HS HBR HFn hlt hj
          obtain ⟨N, hN⟩ : ∃ N, 1 + ms + mc = N := ⟨_, rfl⟩
          have hN61 : N ≤ 61 := by omega
          have hN1 : 1 ≤ N := by omega
          have hNi : (1 + (ms : Int) + (mc : Int)) = (N : Int) := by omega
          have HNI := Lib.hid hNi
          clear hNi
          have hF2 := HF.out
          unfold costP at hF2
          rw [HLA.out, HLB.out, hN] at hF2
          have HFn := Lib.hid hF2
          clear hF2 HF
          have HF := HFn
          clear HFn
          have HNN := Lib.hid hN
          clear hN
          have c5 := HB.out.cells.2.2.2.2.2.1
          have c6 := HB.out.cells.2.2.2.2.2.2.1
          go_wp2_with fail
          rw [HNI.out]
          clear c5 c6
          refine (rowsT HB.out.rd HTX.out _ tCost rfl (by omega) hN1 HF.out).mono ?_
          rintro e w12 ⟨rv, vsC, lC, rfl, hrs, hl, hn, hm, kx, cx, hr, hF⟩
          have HM5 := Lib.hid (HM4.out.trans HB.out.mod)
          have HTC := Lib.hid HB.out.rd.lt
          have HXC := Lib.hid (lt_of_block HB.out.box)
          have HSA := Lib.hid (HB.out.owns HTA.out HXA.out HSA.out)
          have HSB := Lib.hid (HB.out.owns HTB.out HXB.out HSB.out)
          have HBr := Lib.hid HB.out.restart
          have HBn := Lib.hid (HBr.out.read hm hr)
          have HSA := Lib.hid (HBn.out.owns HTA.out HXA.out HSA.out)
          have HSB := Lib.hid (HBn.out.owns HTB.out HXB.out HSB.out)
          have HFn := Lib.hid hF
          have HLC := Lib.hid hl
          have HNC := Lib.hid hn
          obtain ⟨xaC, xcC, hxv⟩ := owns_shape hrs.outer
          subst hxv
          have hvl : vsC.length = N := by rw [hrs.len, hl]
          rw [hvl] at hrs ⊢
          have HSr := Lib.hid hrs
          have c7 := HBn.out.cells.2.2.2.2.2.2.2.1
          have f7 := HBn.out.cells.2.2.2.2.2.2.2.2.2 7
          have HB := Lib.hid (HBn.out.set_ (o := 7) (u := .slice xaC N xcC) rfl)
          have HSC : Hid (OwnRs _ _ (.slice xaC N xcC) vsC lC) := Lib.hid (HSr.out.kept ((Mod.refl (fun b => b = bx) w12).setCell (p := ⟨bx, 7, none⟩) (.inr rfl) (.slice xaC N xcC)) (fun b hb _ e => by have := HXC.out; omega))
          have HF := HFn
          clear hm hr hF hl hn hrs hvl HBn HBr HFn HSr
          have hF2 := HF.out
          unfold timeP at hF2
          rw [HLA.out, HLB.out, HNN.out] at hF2
          have HFn := Lib.hid hF2
          clear hF2 HF
          have HF := HFn
          clear HFn
          have HSAn := Lib.hid (owns_kept HSA.out ((Mod.refl (fun b => b = bx) w12).setCell (p := ⟨bx, 7, none⟩) (.inr rfl) (.slice xaC N xcC)) (fun b hb e => by have := (World.ownsRow.lt HSA.out b hb).1; have := HXA.out; omega))
          clear HSA
          have HSA := HSAn
          clear HSAn
          have HSBn := Lib.hid (owns_kept HSB.out ((Mod.refl (fun b => b = bx) w12).setCell (p := ⟨bx, 7, none⟩) (.inr rfl) (.slice xaC N xcC)) (fun b hb e => by have := (World.ownsRow.lt HSB.out b hb).1; have := HXB.out; omega))
          clear HSB
          have HSB := HSBn
          clear HSBn
          have HM6 := Lib.hid (HM5.out.trans HB.out.mod)
          have HBz := Lib.hid HB.out.restart
          clear HB
          have HB := HBz
          clear HBz
          go_wp2_with fail
          clear c7 f7
          refine (rowsT HB.out.rd HTX.out _ tTime rfl (by omega) hN1 HF.out).mono ?_
          rintro e w13 ⟨rv, vsD, lD, rfl, hrs, hl, hn, hm, kx, cx, hr, hF⟩
          have HM7 := Lib.hid (HM6.out.trans HB.out.mod)
          have HTD := Lib.hid HB.out.rd.lt
          have HXD := Lib.hid (lt_of_block HB.out.box)
          have HSA := Lib.hid (HB.out.owns HTA.out HXA.out HSA.out)
          have HSB := Lib.hid (HB.out.owns HTB.out HXB.out HSB.out)
          have HSC := Lib.hid (HB.out.rows HTC.out HXC.out HSC.out)
          have HBr := Lib.hid HB.out.restart
          have HBn := Lib.hid (HBr.out.read hm hr)
          have HSA := Lib.hid (HBn.out.owns HTA.out HXA.out HSA.out)
          have HSB := Lib.hid (HBn.out.owns HTB.out HXB.out HSB.out)
          have HSC := Lib.hid (HBn.out.rows HTC.out HXC.out HSC.out)
          have HFn := Lib.hid hF
          have HLD := Lib.hid hl
          have HND := Lib.hid hn
          obtain ⟨xaD, xcD, hxv⟩ := owns_shape hrs.outer
          subst hxv
          have hvl : vsD.length = N := by rw [hrs.len, hl]
          rw [hvl] at hrs ⊢
          have HSr := Lib.hid hrs
          have c8 := HBn.out.cells.2.2.2.2.2.2.2.2.1
          have f8 := HBn.out.cells.2.2.2.2.2.2.2.2.2 8
          have HB := Lib.hid (HBn.out.set_ (o := 8) (u := .slice xaD N xcD) rfl)
          have HSD : Hid (OwnRs _ _ (.slice xaD N xcD) vsD lD) := Lib.hid (HSr.out.kept ((Mod.refl (fun b => b = bx) w13).setCell (p := ⟨bx, 8, none⟩) (.inr rfl) (.slice xaD N xcD)) (fun b hb _ e => by have := HXD.out; omega))
          have HF := HFn
          clear hm hr hF hl hn hrs hvl HBn HBr HFn HSr
          have HSAn := Lib.hid (owns_kept HSA.out ((Mod.refl (fun b => b = bx) w13).setCell (p := ⟨bx, 8, none⟩) (.inr rfl) (.slice xaD N xcD)) (fun b hb e => by have := (World.ownsRow.lt HSA.out b hb).1; have := HXA.out; omega))
          clear HSA
          have HSA := HSAn
          clear HSAn
          have HSBn := Lib.hid (owns_kept HSB.out ((Mod.refl (fun b => b = bx) w13).setCell (p := ⟨bx, 8, none⟩) (.inr rfl) (.slice xaD N xcD)) (fun b hb e => by have := (World.ownsRow.lt HSB.out b hb).1; have := HXB.out; omega))
          clear HSB
          have HSB := HSBn
          clear HSBn
          have HSCn := Lib.hid (HSC.out.kept ((Mod.refl (fun b => b = bx) w13).setCell (p := ⟨bx, 8, none⟩) (.inr rfl) (.slice xaD N xcD)) (fun b hb _ e => by have := HXC.out; omega))
          clear HSC
          have HSC := HSCn
          clear HSCn
          have HM8 := Lib.hid (HM7.out.trans HB.out.mod)
          have HBz := Lib.hid HB.out.restart
          clear HB
          have HB := HBz
          clear HBz
          go_wp2_with fail
          clear c8 f8
          refine (mustT HB.out.rd _ tEnd rfl HF.out).mono ?_
          rintro e wE ⟨rfl, hm, kE, cE, hr, hF⟩
          have HBn := Lib.hid (HB.out.read hm hr)
          have HSA := Lib.hid (HBn.out.owns HTA.out HXA.out HSA.out)
          have HSB := Lib.hid (HBn.out.owns HTB.out HXB.out HSB.out)
          have HSC := Lib.hid (HBn.out.rows HTC.out HXC.out HSC.out)
          have HSD := Lib.hid (HBn.out.rows HTD.out HXD.out HSD.out)
          have HM9 := Lib.hid (HM8.out.trans HBn.out.mod)
          have HF := Lib.hid hF
          clear hm hr hF HB
          have HB := HBn
          clear HBn
          have HNE : Hid (w.heap.size ≠ T ∧ w.heap.size ≠ bx ∧ w.heap.size < wE.heap.size) := Lib.hid ⟨by omega, by omega, by have := HM9.out.size; omega⟩
          have hr1 : wE.heap[w.heap.size]? = some (.cells #[.int .i64 0, .int .i64 0, .int .i64 0, .int .i64 0, .int .i64 0, .slice none 0 0, .slice none 0 0, .slice none 0 0, .slice none 0 0] 29 (0, 0)) := (HM9.out.block w.heap.size (by omega) (by intro h; rcases h with h | h <;> omega)).trans HRES.out
          have HR1 := Lib.hid hr1
          have HB1 : Hid (Below w.heap.size w wE) := Lib.hid (HBW.out.trans (HM9.out.below (B := w.heap.size) (by omega) (fun b hb => by rcases hb with hb | hb <;> omega)))
          clear HRES HBW
          obtain ⟨t0, t1, t2, t3, tf⟩ := HB.out.rd.cells
          have tf3 := tf 3
          have hkl := HB.out.rd.kle
          have hwl := HB.out.rd.len
          have HTE := Lib.hid HB.out.rd
          rw [HVS.out] at t0
          clear hr1 t2 tf
          by_cases hc : cE = 0
          · subst hc
            have hFk : Hid (F = .ok ⟨en, tm, tr, bm, br, lA, lB, lC, lD⟩ kE) := Lib.hid (HF.out.1 rfl).symm
            by_cases hk : kE < ws.length
            · have hX : Hid (X = zeroI ∧ p = placeK ws s.size kE ∧ code = 6) := Lib.hid ⟨by rw [HQI.out, hFk.out, ansI, if_pos hk], by rw [HQA.out, hFk.out, ansAt, if_pos hk], by rw [HQC.out, hFk.out, ansC, if_pos hk]⟩
              go_wp2_with fail
              go_quiet (fail)
              have HTF : Hid (Tl base T v ws n kE 6 ((wE.drewN nq).setCell ⟨T, 3, none⟩ (.int .i64 6))) := Lib.hid ((HTE.out.drewN nq).stop 6)
              have HRF : Hid (((wE.drewN nq).setCell ⟨T, 3, none⟩ (.int .i64 6)).heap[w.heap.size]? = some (.cells #[.int .i64 0, .int .i64 0, .int .i64 0, .int .i64 0, .int .i64 0, .slice none 0 0, .slice none 0 0, .slice none 0 0, .slice none 0 0] 29 (0, 0))) := Lib.hid ((heap_setCell_other _ _ _ _ (fun e => HNE.out.1 e)).trans HR1.out)
              have HBF : Hid (Below w.heap.size w ((wE.drewN nq).setCell ⟨T, 3, none⟩ (.int .i64 6))) := Lib.hid ((below_drewN HB1.out nq).setCell (p := ⟨T, 3, none⟩) (by have := HNE.out.1; simp; omega) _)
              go_wp2_with fail
              obtain ⟨wF, hwF⟩ : ∃ z, z = (wE.drewN nq).setCell ⟨T, 3, none⟩ (.int .i64 6) := ⟨_, rfl⟩
              rw [← hwF] at HTF HRF HBF ⊢
              clear hwF
              obtain ⟨n0, n1, n2, n3, n4, n5, n6, n7, n8, nf⟩ := cells9 HRF.out
              obtain ⟨hXI, hXp, hXc⟩ := hX.out
              have y3 := HTF.out.cells.2.2.2.1
              have HAT := Lib.hid (atT HTF.out.drew)
              have HLT : Hid (w.heap.size < wF.drew.heap.size) := Lib.hid (Array.getElem?_eq_some_iff.1 HRF.out).1
              have HBD : Hid (Below w.heap.size w wF.drew) := Lib.hid HBF.out.drew
              have HST : Hid (∀ w', w'.cell? ⟨T, 3, none⟩ = some (.int .i64 6) → (storeI w' w.heap.size (.int .i64 0) (.int .i64 0) (.int .i64 0) (.int .i64 0) (.int .i64 0) (.slice none 0 0) (.slice none 0 0) (.slice none 0 0) (.slice none 0 0)).cell? ⟨T, 3, none⟩ = some (.int .i64 6)) := Lib.hid (fun w' h => storeI_far (fun e => HNE.out.1 e.symm) h)
              unfold storeI at HST
              clear t0 t1 t3 tf3
              refine wp_region_held_drew (S := fun w' => w'.cell? ⟨T, 3, none⟩ = some (.int .i64 6)) (by kernel_rfl) y3 (fun hHeld => ?_)
              refine wpAnyH_take (i := 0) (v := ?_) rfl (by kernel_rfl) (by kernel_rfl) (by kernel_rfl) (fun _ _ _ h => h) (Or.inl ⟨by rfl, ?_⟩) hHeld ?_
              rotate_left
              · intro Wz hWz; have hWq : Wz.cell? ⟨T, 3, none⟩ = some (.int .i64 6) := hWz; clear hWz; go_simp; (try with_reducible rfl)
              try simp only [Act.put, List.setIfInBounds_toArray, List.set_cons_zero, List.set_cons_succ, List.getElem_toArray, List.getElem_cons_zero]
              refine wpAnyH_take (i := 1) (v := ?_) rfl (by kernel_rfl) (by kernel_rfl) (by kernel_rfl) (fun _ _ _ h => h) (Or.inl ⟨by rfl, ?_⟩) hHeld ?_
              rotate_left
              · intro Wz hWz; have hWq : Wz.cell? ⟨T, 3, none⟩ = some (.int .i64 6) := hWz; clear hWz; go_simp; (try with_reducible rfl)
              try simp only [Act.put, List.setIfInBounds_toArray, List.set_cons_zero, List.set_cons_succ, List.getElem_toArray, List.getElem_cons_zero, List.getElem_cons_succ]
              refine wpAnyH_take (i := 3) (v := ?_) rfl (by kernel_rfl) (by kernel_rfl) (by kernel_rfl) (fun _ _ _ h => h) (Or.inl ⟨by rfl, ?_⟩) hHeld ?_
              rotate_left
              · intro Wz hWz; have hWq : Wz.cell? ⟨T, 3, none⟩ = some (.int .i64 6) := hWz; clear hWz; go_simp; (try with_reducible rfl)
              try simp only [Act.put, List.setIfInBounds_toArray, List.set_cons_zero, List.set_cons_succ, List.getElem_toArray, List.getElem_cons_zero, List.getElem_cons_succ]
              refine wpAnyH_take (i := 4) (v := ?_) rfl (by kernel_rfl) (by kernel_rfl) (by kernel_rfl) (fun _ _ _ h => h) (Or.inl ⟨by rfl, ?_⟩) hHeld ?_
              rotate_left
              · intro Wz hWz; have hWq : Wz.cell? ⟨T, 3, none⟩ = some (.int .i64 6) := hWz; clear hWz; go_simp; (try with_reducible rfl)
              try simp only [Act.put, List.setIfInBounds_toArray, List.set_cons_zero, List.set_cons_succ, List.getElem_toArray, List.getElem_cons_zero, List.getElem_cons_succ]
              refine wpAnyH_take (i := 5) (v := ?_) rfl (by kernel_rfl) (by kernel_rfl) (by kernel_rfl) (fun _ _ _ h => h) (Or.inl ⟨by rfl, ?_⟩) hHeld ?_
              rotate_left
              · intro Wz hWz; have hWq : Wz.cell? ⟨T, 3, none⟩ = some (.int .i64 6) := hWz; clear hWz; go_simp; (try with_reducible rfl)
              try simp only [Act.put, List.setIfInBounds_toArray, List.set_cons_zero, List.set_cons_succ, List.getElem_toArray, List.getElem_cons_zero, List.getElem_cons_succ]
              refine wpAnyH_take (i := 6) (v := ?_) rfl (by kernel_rfl) (by kernel_rfl) (by kernel_rfl) (fun _ _ _ h => h) (Or.inl ⟨by rfl, ?_⟩) hHeld ?_
              rotate_left
              · intro Wz hWz; have hWq : Wz.cell? ⟨T, 3, none⟩ = some (.int .i64 6) := hWz; clear hWz; go_simp; (try with_reducible rfl)
              try simp only [Act.put, List.setIfInBounds_toArray, List.set_cons_zero, List.set_cons_succ, List.getElem_toArray, List.getElem_cons_zero, List.getElem_cons_succ]
              refine wpAnyH_ready (rs := [2]) (by kernel_rfl) (by simp) ?_
              refine AllReadyH.cons rfl (fun K hK => ?_) AllReadyH.nil
              go_simp
              refine HAT.out.mono ?_
              rintro e w2 ⟨rfl, hb2⟩
              have y2 : w2.cell? ⟨T, 3, none⟩ = some (.int .i64 6) := (hb2.cell (p := ⟨T, 3, none⟩) (World.block_lt_of_cell? _ _ y3)).trans y3
              have HR2 := Lib.hid ((hb2.block _ HLT.out).trans HRF.out)
              have HB2 := Lib.hid (HBD.out.trans (hb2.mono HBD.out.size))
              have HZ := Lib.hid (HST.out w2 y2)
              obtain ⟨m0, m1, m2, m3, m4, m5, m6, m7, m8, mf⟩ := cells9 HR2.out
              clear hb2
              refine hK.out _ _ ?_ (fun hHeld => ?_)
              · exact y2
              clear hK K
              try simp only [Act.put, List.setIfInBounds_toArray, List.set_cons_zero, List.set_cons_succ, List.getElem_toArray, List.getElem_cons_zero, List.getElem_cons_succ]
              refine wpAnyH_ready (rs := [7]) (by kernel_rfl) (by simp) ?_
              refine AllReadyH.cons rfl (fun K hK => ?_) AllReadyH.nil
              go_simp
              refine hK.out _ _ ?_ (fun hHeld => ?_)
              · exact HZ.out
              clear hK K
              try simp only [Act.put, List.setIfInBounds_toArray, List.set_cons_zero, List.set_cons_succ, List.getElem_toArray, List.getElem_cons_zero, List.getElem_cons_succ]
              refine wpAnyH_take (i := 8) (v := ?_) rfl (by kernel_rfl) (by kernel_rfl) (by kernel_rfl) (fun _ _ _ h => h) (Or.inl ⟨by rfl, ?_⟩) hHeld ?_
              rotate_left
              · intro Wz hWz; have hWq : Wz.cell? ⟨T, 3, none⟩ = some (.int .i64 6) := hWz; clear hWz; go_simp; (try with_reducible rfl)
              try simp only [Act.put, List.setIfInBounds_toArray, List.set_cons_zero, List.set_cons_succ, List.getElem_toArray, List.getElem_cons_zero, List.getElem_cons_succ]
              refine wpAnyH_take (i := 9) (v := ?_) rfl (by kernel_rfl) (by kernel_rfl) (by kernel_rfl) (fun _ _ _ h => h) (Or.inl ⟨by rfl, ?_⟩) hHeld ?_
              rotate_left
              · intro Wz hWz; have hWq : Wz.cell? ⟨T, 3, none⟩ = some (.int .i64 6) := hWz; clear hWz; go_simp; (try with_reducible rfl)
              try simp only [Act.put, List.setIfInBounds_toArray, List.set_cons_zero, List.set_cons_succ, List.getElem_toArray, List.getElem_cons_zero, List.getElem_cons_succ]
              refine wpAnyH_done (by kernel_rfl) ?_ _
              clear hHeld
              go_wp2_with fail
              have hb9 := storeI_blk (y0 := .int .i64 0) (y1 := .int .i64 0) (y2 := .int .i64 0) (y3 := .int .i64 0) (y4 := .int .i64 0) (y5 := .slice none 0 0) (y6 := .slice none 0 0) (y7 := .slice none 0 0) (y8 := .slice none 0 0) HR2.out
              obtain ⟨z0, z1, z2, z3, z4, z5, z6, z7, z8, _⟩ := cells9 hb9
              unfold storeI at z0 z1 z2 z3 z4 z5 z6 z7 z8
              refine bodyPost_ret (v := .tuple #[.agg (insC ⟨none, 0, none, 0, none, 0, none, 0⟩ zeroI), .int .i64 (placeK ws n kE : Int), .int .i64 6]) ?_ rfl ⟨⟨none, 0, none, 0, none, 0, none, 0⟩, by rw [hXI, hXp, hXc, HNS.out], by rw [hXI]; exact zeroI_is _, storeI_below HB2.out (Nat.le_refl _)⟩
              unfold insC zeroI
              clear m0 m1 m2 m3 m4 m5 m6 m7 m8 mf n0 n1 n2 n3 n4 n5 n6 n7 n8 nf hb9
              simp only [results, Try.results10]
              simp [go_sem, z0, z1, z2, z3, z4, z5, z6, z7, z8]
            · have hX : Hid (X = ⟨en, tm, tr, bm, br, lA, lB, lC, lD⟩ ∧ p = 0 ∧ code = 0) := Lib.hid ⟨by rw [HQI.out, hFk.out, ansI, if_neg hk], by rw [HQA.out, hFk.out, ansAt, if_neg hk], by rw [HQC.out, hFk.out, ansC, if_neg hk]⟩
              obtain ⟨b0, b1, b2, b3, b4, b5, b6, b7, b8, _⟩ := HB.out.cells
              obtain ⟨n0, n1, n2, n3, n4, n5, n6, n7, n8, nf⟩ := cells9 HR1.out
              obtain ⟨hXI, hXp, hXc⟩ := hX.out
              go_wp2_with fail
              go_quiet (fail)
              go_wp2_with fail
              have HRN : (wE.drewN nq).heap[w.heap.size]? = some (.cells #[.int .i64 0, .int .i64 0, .int .i64 0, .int .i64 0, .int .i64 0, .slice none 0 0, .slice none 0 0, .slice none 0 0, .slice none 0 0] 29 (0, 0)) := HR1.out
              have hb9 := storeI_blk (y0 := .int .i64 en) (y1 := .int .i64 tm) (y2 := .int .i64 tr) (y3 := .int .i64 bm) (y4 := .int .i64 br) (y5 := .slice xaA ms xcA) (y6 := .slice xaB mc xcB) (y7 := .slice xaC N xcC) (y8 := .slice xaD N xcD) HRN
              obtain ⟨z0, z1, z2, z3, z4, z5, z6, z7, z8, _⟩ := cells9 hb9
              unfold storeI at z0 z1 z2 z3 z4 z5 z6 z7 z8
              clear b0 b1 b2 b3 b4 b5 b6 b7 b8 n0 n1 n2 n3 n4 n5 n6 n7 n8 nf t0 t1 t3 tf3
              have hA : insC ⟨xaA, xcA, xaB, xcB, xaC, xcC, xaD, xcD⟩ ⟨en, tm, tr, bm, br, lA, lB, lC, lD⟩ = #[.int .i64 en, .int .i64 tm, .int .i64 tr, .int .i64 bm, .int .i64 br, .slice xaA ms xcA, .slice xaB mc xcB, .slice xaC N xcC, .slice xaD N xcD] := by simp only [insC, HLA.out, HLB.out, HLC.out, HLD.out]
              have hsm : Mod (fun b => b = w.heap.size) wE (storeI (wE.drewN nq) w.heap.size (.int .i64 en) (.int .i64 tm) (.int .i64 tr) (.int .i64 bm) (.int .i64 br) (.slice xaA ms xcA) (.slice xaB mc xcB) (.slice xaC N xcC) (.slice xaD N xcD)) := storeI_mod (S := fun b => b = w.heap.size) ((Mod.refl _ wE).drewN nq) rfl
              have hw2 : w.heap.size < wE.heap.size := HNE.out.2.2
              refine bodyPost_ret (v := .tuple #[.agg #[.int .i64 en, .int .i64 tm, .int .i64 tr, .int .i64 bm, .int .i64 br, .slice xaA ms xcA, .slice xaB mc xcB, .slice xaC N xcC, .slice xaD N xcD], .int .i64 0, .int .i64 0]) ?_ rfl ⟨⟨xaA, xcA, xaB, xcB, xaC, xcC, xaD, xcD⟩, by rw [hXI, hXp, hXc, hA]; rfl, ?_, storeI_below (below_drewN HB1.out nq) (Nat.le_refl _)⟩
              · simp only [results, Try.results10]
                simp [go_sem, z0, z1, z2, z3, z4, z5, z6, z7, z8]
              · rw [hXI]
                have hTA := HTA.out
                have hTB := HTB.out
                have hTC := HTC.out
                have hTD := HTD.out
                obtain ⟨a1, c1, e1, hcr⟩ := (HSC.out.kept hsm (fun b hb _ e => by omega)).rows (fun r hr => by have := HNC.out r hr; omega)
                obtain ⟨a2, c2, e2, hdr⟩ := (HSD.out.kept hsm (fun b hb _ e => by omega)).rows (fun r hr => by have := HND.out r hr; omega)
                injection e1 with e1
                injection e2 with e2
                subst e1 e2
                refine ⟨?_, ?_, hcr, hdr⟩
                · have h := owns_sats (owns_kept HSA.out hsm (fun b hb e => by have := (World.ownsRow.lt HSA.out b hb).1; omega)) HLA.out
                  simp only [HLA.out]
                  exact h
                · have h := owns_cus (owns_kept HSB.out hsm (fun b hb e => by have := (World.ownsRow.lt HSB.out b hb).1; omega)) HLB.out
                  simp only [HLB.out]
                  exact h
          · have hd : (cE != 0) = true := by simpa using hc
            have hd0 : (cE == 0) = false := by simpa using hc
            have hFk : Hid (F = .no kE cE) := Lib.hid (HF.out.2 hc)
            have hX : Hid (X = zeroI ∧ p = placeK ws s.size kE ∧ code = cE) := Lib.hid ⟨by rw [HQI.out, hFk.out, ansI], by rw [HQA.out, hFk.out, ansAt], by rw [HQC.out, hFk.out, ansC]⟩
            clear hc
            go_wp2_with fail
            go_quiet (fail)
            have HTF : Hid (Tl base T v ws n kE cE (wE.drewN nq)) := Lib.hid (HTE.out.drewN nq)
            have HRF : Hid ((wE.drewN nq).heap[w.heap.size]? = some (.cells #[.int .i64 0, .int .i64 0, .int .i64 0, .int .i64 0, .int .i64 0, .slice none 0 0, .slice none 0 0, .slice none 0 0, .slice none 0 0] 29 (0, 0))) := Lib.hid HR1.out
            have HBF : Hid (Below w.heap.size w (wE.drewN nq)) := Lib.hid (below_drewN HB1.out nq)
            go_wp2_with fail
            obtain ⟨wF, hwF⟩ : ∃ z, z = wE.drewN nq := ⟨_, rfl⟩
            rw [← hwF] at HTF HRF HBF ⊢
            clear hwF
            obtain ⟨n0, n1, n2, n3, n4, n5, n6, n7, n8, nf⟩ := cells9 HRF.out
            obtain ⟨hXI, hXp, hXc⟩ := hX.out
            have y3 := HTF.out.cells.2.2.2.1
            have HAT := Lib.hid (atT HTF.out.drew)
            have HLT : Hid (w.heap.size < wF.drew.heap.size) := Lib.hid (Array.getElem?_eq_some_iff.1 HRF.out).1
            have HBD : Hid (Below w.heap.size w wF.drew) := Lib.hid HBF.out.drew
            have HST : Hid (∀ w', w'.cell? ⟨T, 3, none⟩ = some (.int .i64 cE) → (storeI w' w.heap.size (.int .i64 0) (.int .i64 0) (.int .i64 0) (.int .i64 0) (.int .i64 0) (.slice none 0 0) (.slice none 0 0) (.slice none 0 0) (.slice none 0 0)).cell? ⟨T, 3, none⟩ = some (.int .i64 cE)) := Lib.hid (fun w' h => storeI_far (fun e => HNE.out.1 e.symm) h)
            unfold storeI at HST
            clear t0 t1 t3 tf3
            refine wp_region_held_drew (S := fun w' => w'.cell? ⟨T, 3, none⟩ = some (.int .i64 cE)) (by kernel_rfl) y3 (fun hHeld => ?_)
            refine wpAnyH_take (i := 0) (v := ?_) rfl (by kernel_rfl) (by kernel_rfl) (by kernel_rfl) (fun _ _ _ h => h) (Or.inl ⟨by rfl, ?_⟩) hHeld ?_
            rotate_left
            · intro Wz hWz; have hWq : Wz.cell? ⟨T, 3, none⟩ = some (.int .i64 cE) := hWz; clear hWz; go_simp; (try with_reducible rfl)
            try simp only [Act.put, List.setIfInBounds_toArray, List.set_cons_zero, List.set_cons_succ, List.getElem_toArray, List.getElem_cons_zero]
            refine wpAnyH_take (i := 1) (v := ?_) rfl (by kernel_rfl) (by kernel_rfl) (by kernel_rfl) (fun _ _ _ h => h) (Or.inl ⟨by rfl, ?_⟩) hHeld ?_
            rotate_left
            · intro Wz hWz; have hWq : Wz.cell? ⟨T, 3, none⟩ = some (.int .i64 cE) := hWz; clear hWz; go_simp; (try with_reducible rfl)
            try simp only [Act.put, List.setIfInBounds_toArray, List.set_cons_zero, List.set_cons_succ, List.getElem_toArray, List.getElem_cons_zero, List.getElem_cons_succ]
            refine wpAnyH_take (i := 3) (v := ?_) rfl (by kernel_rfl) (by kernel_rfl) (by kernel_rfl) (fun _ _ _ h => h) (Or.inl ⟨by rfl, ?_⟩) hHeld ?_
            rotate_left
            · intro Wz hWz; have hWq : Wz.cell? ⟨T, 3, none⟩ = some (.int .i64 cE) := hWz; clear hWz; go_simp; (try with_reducible rfl)
            try simp only [Act.put, List.setIfInBounds_toArray, List.set_cons_zero, List.set_cons_succ, List.getElem_toArray, List.getElem_cons_zero, List.getElem_cons_succ]
            refine wpAnyH_take (i := 4) (v := ?_) rfl (by kernel_rfl) (by kernel_rfl) (by kernel_rfl) (fun _ _ _ h => h) (Or.inl ⟨by rfl, ?_⟩) hHeld ?_
            rotate_left
            · intro Wz hWz; have hWq : Wz.cell? ⟨T, 3, none⟩ = some (.int .i64 cE) := hWz; clear hWz; go_simp; (try with_reducible rfl)
            try simp only [Act.put, List.setIfInBounds_toArray, List.set_cons_zero, List.set_cons_succ, List.getElem_toArray, List.getElem_cons_zero, List.getElem_cons_succ]
            refine wpAnyH_take (i := 5) (v := ?_) rfl (by kernel_rfl) (by kernel_rfl) (by kernel_rfl) (fun _ _ _ h => h) (Or.inl ⟨by rfl, ?_⟩) hHeld ?_
            rotate_left
            · intro Wz hWz; have hWq : Wz.cell? ⟨T, 3, none⟩ = some (.int .i64 cE) := hWz; clear hWz; go_simp; (try with_reducible rfl)
            try simp only [Act.put, List.setIfInBounds_toArray, List.set_cons_zero, List.set_cons_succ, List.getElem_toArray, List.getElem_cons_zero, List.getElem_cons_succ]
            refine wpAnyH_take (i := 6) (v := ?_) rfl (by kernel_rfl) (by kernel_rfl) (by kernel_rfl) (fun _ _ _ h => h) (Or.inl ⟨by rfl, ?_⟩) hHeld ?_
            rotate_left
            · intro Wz hWz; have hWq : Wz.cell? ⟨T, 3, none⟩ = some (.int .i64 cE) := hWz; clear hWz; go_simp; (try with_reducible rfl)
            try simp only [Act.put, List.setIfInBounds_toArray, List.set_cons_zero, List.set_cons_succ, List.getElem_toArray, List.getElem_cons_zero, List.getElem_cons_succ]
            refine wpAnyH_ready (rs := [2]) (by kernel_rfl) (by simp) ?_
            refine AllReadyH.cons rfl (fun K hK => ?_) AllReadyH.nil
            go_simp
            refine HAT.out.mono ?_
            rintro e w2 ⟨rfl, hb2⟩
            have y2 : w2.cell? ⟨T, 3, none⟩ = some (.int .i64 cE) := (hb2.cell (p := ⟨T, 3, none⟩) (World.block_lt_of_cell? _ _ y3)).trans y3
            have HR2 := Lib.hid ((hb2.block _ HLT.out).trans HRF.out)
            have HB2 := Lib.hid (HBD.out.trans (hb2.mono HBD.out.size))
            have HZ := Lib.hid (HST.out w2 y2)
            obtain ⟨m0, m1, m2, m3, m4, m5, m6, m7, m8, mf⟩ := cells9 HR2.out
            clear hb2
            refine hK.out _ _ ?_ (fun hHeld => ?_)
            · exact y2
            clear hK K
            try simp only [Act.put, List.setIfInBounds_toArray, List.set_cons_zero, List.set_cons_succ, List.getElem_toArray, List.getElem_cons_zero, List.getElem_cons_succ]
            refine wpAnyH_ready (rs := [7]) (by kernel_rfl) (by simp) ?_
            refine AllReadyH.cons rfl (fun K hK => ?_) AllReadyH.nil
            go_simp
            refine hK.out _ _ ?_ (fun hHeld => ?_)
            · exact HZ.out
            clear hK K
            try simp only [Act.put, List.setIfInBounds_toArray, List.set_cons_zero, List.set_cons_succ, List.getElem_toArray, List.getElem_cons_zero, List.getElem_cons_succ]
            refine wpAnyH_take (i := 8) (v := ?_) rfl (by kernel_rfl) (by kernel_rfl) (by kernel_rfl) (fun _ _ _ h => h) (Or.inl ⟨by rfl, ?_⟩) hHeld ?_
            rotate_left
            · intro Wz hWz; have hWq : Wz.cell? ⟨T, 3, none⟩ = some (.int .i64 cE) := hWz; clear hWz; go_simp; (try with_reducible rfl)
            try simp only [Act.put, List.setIfInBounds_toArray, List.set_cons_zero, List.set_cons_succ, List.getElem_toArray, List.getElem_cons_zero, List.getElem_cons_succ]
            refine wpAnyH_take (i := 9) (v := ?_) rfl (by kernel_rfl) (by kernel_rfl) (by kernel_rfl) (fun _ _ _ h => h) (Or.inl ⟨by rfl, ?_⟩) hHeld ?_
            rotate_left
            · intro Wz hWz; have hWq : Wz.cell? ⟨T, 3, none⟩ = some (.int .i64 cE) := hWz; clear hWz; go_simp; (try with_reducible rfl)
            try simp only [Act.put, List.setIfInBounds_toArray, List.set_cons_zero, List.set_cons_succ, List.getElem_toArray, List.getElem_cons_zero, List.getElem_cons_succ]
            refine wpAnyH_done (by kernel_rfl) ?_ _
            clear hHeld
            go_wp2_with fail
            have hb9 := storeI_blk (y0 := .int .i64 0) (y1 := .int .i64 0) (y2 := .int .i64 0) (y3 := .int .i64 0) (y4 := .int .i64 0) (y5 := .slice none 0 0) (y6 := .slice none 0 0) (y7 := .slice none 0 0) (y8 := .slice none 0 0) HR2.out
            obtain ⟨z0, z1, z2, z3, z4, z5, z6, z7, z8, _⟩ := cells9 hb9
            unfold storeI at z0 z1 z2 z3 z4 z5 z6 z7 z8
            refine bodyPost_ret (v := .tuple #[.agg (insC ⟨none, 0, none, 0, none, 0, none, 0⟩ zeroI), .int .i64 (placeK ws n kE : Int), .int .i64 cE]) ?_ rfl ⟨⟨none, 0, none, 0, none, 0, none, 0⟩, by rw [hXI, hXp, hXc, HNS.out], by rw [hXI]; exact zeroI_is _, storeI_below HB2.out (Nat.le_refl _)⟩
            unfold insC zeroI
            clear m0 m1 m2 m3 m4 m5 m6 m7 m8 mf n0 n1 n2 n3 n4 n5 n6 n7 n8 nf hb9
            simp only [results, Try.results10]
            simp [go_sem, z0, z1, z2, z3, z4, z5, z6, z7, z8]
end Go.Proofs.Ytoafmbjdchkahaa

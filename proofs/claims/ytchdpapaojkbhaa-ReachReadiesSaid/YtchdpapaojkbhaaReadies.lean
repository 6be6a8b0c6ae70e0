/- The law's own Readies: the soonest that bikes may leave each satellite. -/
import Derived.Test.YtchdpapaojkbhaaRApart
import Derived.Test.YtchdpapaojkbhaaRSp
import Derived.Test.YtchdpapaojkbhaaIMake
import Derived.StillTailTactics
namespace Go.Proofs.Ytchdpapaojkbhaa
open Go.RowKit

variable {w wr w2 : World} {A : InA} {x : Ins} {N : Nat}
theorem nodesR (A : InA) (x : Ins) (N : Nat) (hN : x.nodes = N) (w : World) (h : x.sats.length + x.cus.length ≤ 1000) :
    Calls Try.prog 24 #[.agg (insC A x)] w fun e w' => e = .returned (.int .i64 (N : Int)) ∧ Below w.heap.size w w' := by
  have h1 := nodes_law x.en x.tm x.tr x.bm x.br A.sa x.sats.length A.sc A.ca x.cus.length A.cc A.ka A.ta x.cost.length A.kc x.time.length A.tc w h
  rw [← hN]
  exact h1
theorem atR (A : InA) (x : Ins) (c : Nat) (w : World) (h : x.sats.length + c ≤ 1000) :
    Calls Try.prog 29 #[.agg (insC A x), .int .i64 (c : Int)] w fun e w' => e = .returned (.int .i64 ((1 + x.sats.length + c : Nat) : Int)) ∧ Below w.heap.size w w' := by
  have HG := Lib.hid (XBox.make (Below.refl _ w) A x)
  obtain ⟨_, _, _, _, _, c5, _⟩ := HG.out.cells
  unfold insC at *
  go_enter Try.func29, Try.ntmps29
  go_wp2_with fail
  go_ret
  refine ⟨?_, HG.out.below⟩
  have e : (1 + (x.sats.length : Int) + (c : Int)) = ((1 + x.sats.length + c : Nat) : Int) := by omega
  rw [← e]
  rfl
theorem boolInfo : (Try.prog.info? 4).map (fun i => (i.zero, i.size, i.bytes)) = some (some (.bool false), 1, 1) := by kernel_rfl
theorem longInfoR : (Try.prog.info? 2).map (fun i => (i.zero, i.size, i.bytes)) = some (some (.int .i64 0), 1, 8) := by kernel_rfl
theorem mk_bools (n : Nat) (h : n ≤ 1000) (W : World) : (Instr.makeSlice 48 (.int .i64 (n : Int)) (.int .i64 (n : Int))).run Try.prog W = .ok (.slice (some ⟨W.heap.size, 0, none⟩) n n) (W.alloc (.cells (madeCells #[.bool false] n) 4)) :=
  run_make_row' 48 4 (.bool false) 1 Try.underlying48 boolInfo rfl .i64 .i64 n (by omega) (by omega) W
theorem mk_longs (n : Nat) (h : n ≤ 1000) (W : World) : (Instr.makeSlice 37 (.int .i64 (n : Int)) (.int .i64 (n : Int))).run Try.prog W = .ok (.slice (some ⟨W.heap.size, 0, none⟩) n n) (W.alloc (.cells (madeCells #[.int .i64 0] n) 2)) :=
  run_make_row' 37 2 (.int .i64 0) 8 Try.underlying37 longInfoR rfl .i64 .i64 n (by omega) (by omega) W
theorem nums_of_row {g : Nat} {f : Nat → Int} (h : w.rowIs g 2 N (fun j => .int .i64 (f j))) : IsNums w.heap.size w (some ⟨g, 0, none⟩) N (rowL N f) :=
  ⟨rowL_length N f, .inr ⟨g, 0, rfl, h.lt, fun j v hj => by
    have hjN : j < N := by have := (List.getElem?_eq_some_iff.1 hj).1; rwa [rowL_length] at this
    rw [rowL_get f hjN] at hj
    injection hj with hj
    subst hj
    rw [Nat.zero_add]
    exact h.cell hjN⟩⟩
theorem heap_alloc_lt {W : World} {b : Nat} (o : Obj) (h : b < W.heap.size) : (W.alloc o).heap[b]? = W.heap[b]? := by
  exact ((Below.refl W.heap.size W).alloc (Nat.le_refl _) o).block b h
/-- A row of the call's own, as numbers that came in. -/
theorem nums_own {B n : Nat} {a : Option Addr} {c : Nat} {l : List Int} (h : w.ownsRow B 2 1 (.slice a n c) n (numsV l)) (hl : l.length = n) (h0 : 0 < n) : IsNums w.heap.size w a n l := by
  obtain ⟨g, cap, e, _, hg, _⟩ := owns_some h h0
  injection e with e1 _ e3
  subst e1
  refine ⟨hl, .inr ⟨g, 0, rfl, hg, fun j v hj => ?_⟩⟩
  rw [Nat.zero_add]
  exact nums_cell h hj
set_option maxHeartbeats 8000000 in
set_option maxRecDepth 100000 in
theorem readies_any (A : InA) (x : Ins) (w : World) (hi : IsIns w.heap.size w A x) (hm : May x) :
    Calls Try.prog 12 #[.agg (insC A x)] w fun e w' => ∃ (l : List Int) (a : Option Addr) (c : Nat), e = .returned (.slice a l.length c) ∧ IsNums w'.heap.size w' a l.length l ∧ ReadyOf x l ∧ Below w.heap.size w w' := by
  have HIW := Lib.hid hi
  have HM := Lib.hid hm
  have HX1 := Lib.hid (XBox.make (Below.refl _ w) A x)
  have hn61 := nodes_61 hm
  have hns := hm.ns
  have hnc := hm.nc
  have hnodes : x.nodes = 1 + x.sats.length + x.cus.length := rfl
  obtain ⟨N, hN⟩ : ∃ N, x.nodes = N := ⟨_, rfl⟩
  have HN := Lib.hid hN
  rw [hN] at hn61 hnodes
  have HTL : Hid (x.time.length = N) := Lib.hid (by rw [hm.lt, hN])
  have HND := Lib.hid (fun W => nodesR A x N hN W (by omega))
  have hmb := fun W => mk_bools N (by omega) W
  have hml := fun W => mk_longs N (by omega) W
  obtain ⟨c0, c1, c2, c3, c4, c5, c6, c7, c8⟩ := HX1.out.cells
  have hnb : 1 + x.sats.length < N := by omega
  have HNE := Lib.hid hnodes
  clear hi hm hN hnodes
  unfold insC at *
  go_enter Try.func12, Try.ntmps12
  go_wp2_with fail
  refine (HND.out _).mono ?_
  rintro e w2 ⟨rfl, hb2⟩
  have HX2 := Lib.hid (HX1.out.later hb2)
  have hz := Lib.hid ((Nat.lt_irrefl 0))
  obtain ⟨gx, hgx⟩ : ∃ g, g = w.heap.size := ⟨_, rfl⟩
  rw [← hgx] at HX2 ⊢
  clear hgx hb2 HX1 c0 c1 c2 c3 c4 c5 c6 c7 c8 hz
  have HX3 := Lib.hid (HX2.out.later ((Below.refl w2.heap.size w2).alloc (Nat.le_refl _) (.cells (madeCells #[.bool false] N) 4)))
  have HR3 := Lib.hid (World.rowIs_made w2 (.bool false) N 4)
  obtain ⟨-, -, -, -, -, c5, -, -, -⟩ := HX3.out.cells
  go_wp2_with fail
  obtain ⟨w3, hw3⟩ : ∃ z, z = w2.alloc (.cells (madeCells #[.bool false] N) 4) := ⟨_, rfl⟩
  obtain ⟨gb, hgb⟩ : ∃ g, g = w2.heap.size := ⟨_, rfl⟩
  rw [← hw3] at HX3 HR3 ⊢
  rw [← hgb] at HR3 ⊢
  have HG0 : Hid (w.heap.size ≤ gb) := Lib.hid (by rw [hgb]; exact HX2.out.below.size)
  have HGX : Hid (gx < gb) := Lib.hid (by rw [hgb]; exact HX2.out.lt)
  have HR4 : Hid (w3.rowIs gb 4 N (fun j => .bool (decide (j < 0)))) := Lib.hid (HR3.out.congr fun j _ => by simp)
  clear hw3 hgb HX2 HR3 c5 hmb
  go_loopw [18] (fun iv wr => ∃ i : Nat, iv = .int .i64 (i : Int) ∧ i ≤ 1 + x.sats.length ∧ Hid (XBox w wr gx A x) ∧ Hid (wr.rowIs gb 4 N (fun j => .bool (decide (j < i))))) (fun iv _ => 1 + x.sats.length - (intOf iv).toNat)
  case atStart => exact ⟨0, rfl, Nat.zero_le _, HX3, HR4⟩
  case round =>
    obtain ⟨i, rfl, hi, HX, HR⟩ := hrel
    clear HX3 HR4
    by_cases hlt : i < 1 + x.sats.length
    · have k1 := HR.out.cell (i := i) (by omega)
      have k2 := HR.out.frozen i
      have hle : decide ((i : Int) < 1 + (x.sats.length : Int)) = true := by simp; omega
      have HR2 : Hid ((wr.setCell ⟨gb, i, none⟩ (.bool true)).rowIs gb 4 N (fun j => .bool (decide (j < i + 1)))) := Lib.hid ((HR.out.set i (.bool true)).congr fun j _ => by
        by_cases e : j = i
        · subst e; simp
        · rw [if_neg e]
          congr 1
          exact decide_eq_decide.2 (by omega))
      have HX2 : Hid (XBox w (wr.setCell ⟨gb, i, none⟩ (.bool true)) gx A x) := Lib.hid ⟨HX.out.below.setCell (p := ⟨gb, i, none⟩) HG0.out (.bool true), HX.out.ge, (heap_setCell_other _ _ _ _ (by have := HGX.out; show gx ≠ gb; omega)).trans HX.out.blk⟩
      go_wp2_with fail
      go_roundw
      case rel => exact ⟨i + 1, by go_num, by omega, HX2, HR2⟩
      case measure => simp [intOf]; omega
    · obtain rfl : i = 1 + x.sats.length := by omega
      have hle : decide (((1 + x.sats.length : Nat) : Int) < 1 + (x.sats.length : Int)) = false := by simp
      go_wp2_with fail
      have HX4 := Lib.hid (HX.out.later (Below.refl _ _).drew)
      have HR4 : Hid (wr.drew.rowIs gb 4 N (fun j => .bool (inS x j))) := Lib.hid HR.out
      refine wp_region_held_drew (S := (fun Wz => Wz.heap[gx]? = some (.cells #[.int .i64 x.en, .int .i64 x.tm, .int .i64 x.tr, .int .i64 x.bm, .int .i64 x.br, .slice A.sa x.sats.length A.sc, .slice A.ca x.cus.length A.cc, .slice A.ka x.cost.length A.kc, .slice A.ta x.time.length A.tc] 34 (0, 0)))) (by kernel_rfl) HX4.out.blk (fun hHeld => ?_)
      obtain ⟨v, hv⟩ : ∃ v, v = wr.drew := ⟨_, rfl⟩
      rw [← hv] at HX4 HR4 hHeld ⊢
      clear hv HX HR
      refine wpAnyH_take (i := 0) (v := ?_) rfl (by kernel_rfl) (by kernel_rfl) (by kernel_rfl) (fun _ _ _ h => h) (Or.inl ⟨by rfl, ?_⟩) hHeld ?_
      rotate_left
      · intro Wz hWz; clear hWz; go_simp; (try with_reducible rfl)
      try simp only [Act.put, List.setIfInBounds_toArray, List.set_cons_zero, List.set_cons_succ, List.getElem_toArray, List.getElem_cons_zero]
      refine wpAnyH_take (i := 1) (v := ?_) rfl (by kernel_rfl) (by kernel_rfl) (by kernel_rfl) (fun _ _ _ h => h) (Or.inl ⟨by rfl, ?_⟩) hHeld ?_
      rotate_left
      · intro Wz hWz; obtain ⟨k0, k1, k2, k3, k4, k5, k6, k7, k8, _⟩ := cells9 hWz; go_simp; (try with_reducible rfl)
      try simp only [Act.put, List.setIfInBounds_toArray, List.set_cons_zero, List.set_cons_succ, List.getElem_toArray, List.getElem_cons_zero, List.getElem_cons_succ]
      refine wpAnyH_take (i := 2) (v := ?_) rfl (by kernel_rfl) (by kernel_rfl) (by kernel_rfl) (fun _ _ _ h => h) (Or.inl ⟨by rfl, ?_⟩) hHeld ?_
      rotate_left
      · intro Wz hWz; clear hWz; go_simp; (try with_reducible rfl)
      try simp only [Act.put, List.setIfInBounds_toArray, List.set_cons_zero, List.set_cons_succ, List.getElem_toArray, List.getElem_cons_zero, List.getElem_cons_succ]
      refine wpAnyH_take (i := 4) (v := ?_) rfl (by kernel_rfl) (by kernel_rfl) (by kernel_rfl) (fun _ _ _ h => h) (Or.inl ⟨by rfl, ?_⟩) hHeld ?_
      rotate_left
      · intro Wz hWz; clear hWz; go_simp; (try with_reducible rfl)
      try simp only [Act.put, List.setIfInBounds_toArray, List.set_cons_zero, List.set_cons_succ, List.getElem_toArray, List.getElem_cons_zero, List.getElem_cons_succ]
      refine wpAnyH_ready (rs := [3]) (by kernel_rfl) (by simp) ?_
      refine AllReadyH.cons rfl (fun K hK => ?_) AllReadyH.nil
      go_simp
      have hb5 := (Below.refl v.heap.size v).alloc (Nat.le_refl _) (.cells (madeCells #[.int .i64 0] N) 2)
      have HX5 := Lib.hid (HX4.out.later hb5)
      have HR5 := Lib.hid (HR4.out.alloc (.cells (madeCells #[.int .i64 0] N) 2))
      have HL5 := Lib.hid (World.rowIs_made v (.int .i64 0) N 2)
      obtain ⟨gs, hgs⟩ : ∃ g, g = v.heap.size := ⟨_, rfl⟩
      refine hK.out _ _ ?_ (fun hHeld => ?_)
      · exact HX5.out.blk
      clear hK K hb5 HX4 HR4
      try simp only [Act.put, List.setIfInBounds_toArray, List.set_cons_zero, List.set_cons_succ, List.getElem_toArray, List.getElem_cons_zero, List.getElem_cons_succ]
      obtain ⟨v5, hv5⟩ : ∃ z, z = v.alloc (.cells (madeCells #[.int .i64 0] N) 2) := ⟨_, rfl⟩
      rw [← hv5] at HX5 HR5 HL5 hHeld ⊢
      rw [← hgs] at HL5 ⊢
      clear hv5 hgs
      have HTR : Hid (IsRows v5.heap.size v5 A.ta N ((List.range N).map (fun i => rowL N (tmI x i)))) := Lib.hid (by
        have h := (HX5.out.pipesHere HIW.out).time
        rw [HM.out.time_rows, HN.out] at h
        simpa [rowL] using h)
      have HAP := Lib.hid (apart_any A.ta (some ⟨gs, 0, none⟩) (some ⟨gb, 0, none⟩) A.tc N N N (tmI x) (fun _ => 0) (inS x) v5 (by omega) HTR.out (nums_of_row HL5.out) (IsBools.made HR5.out)
        (fun i k h1 h2 => HM.out.tm_in (by rw [HN.out]; exact h1) (by rw [HN.out]; exact h2)) (fun _ _ => by omega))
      have htl := HTL.out
      rw [htl]
      clear htl
      refine wpAnyH_ready (rs := [5]) (by kernel_rfl) (by simp) ?_
      refine AllReadyH.cons rfl (fun K hK => ?_) AllReadyH.nil
      go_simp
      refine HAP.out.mono ?_
      rintro e v6 ⟨go, V, C, D, rfl, hd, hsw, hb⟩
      have HX6 := Lib.hid (HX5.out.later hb)
      have HD6 := Lib.hid hd
      have HSW := Lib.hid hsw
      refine hK.out _ _ ?_ (fun hHeld => ?_)
      · have h9 := HX6.out.blk
        unfold insC at h9
        rw [HTL.out] at h9
        exact h9
      clear hK K hd hsw hb HAP HTR HL5 HR5 HX5
      try simp only [Act.put, List.setIfInBounds_toArray, List.set_cons_zero, List.set_cons_succ, List.getElem_toArray, List.getElem_cons_zero, List.getElem_cons_succ]
      refine wpAnyH_take (i := 6) (v := ?_) rfl (by kernel_rfl) (by kernel_rfl) (by kernel_rfl) (fun _ _ _ h => h) (Or.inl ⟨by rfl, ?_⟩) hHeld ?_
      rotate_left
      · intro Wz hWz; clear hWz; go_simp; (try with_reducible rfl)
      try simp only [Act.put, List.setIfInBounds_toArray, List.set_cons_zero, List.set_cons_succ, List.getElem_toArray, List.getElem_cons_zero, List.getElem_cons_succ]
      refine wpAnyH_done (by kernel_rfl) ?_ _
      clear hHeld
      have HO6 : Hid (v6.ownsRow v6.heap.size 2 1 (.slice none 0 0) 0 (numsV [])) := Lib.hid ⟨by simp [numsV], .inl ⟨rfl, rfl⟩⟩
      have HB6 := Lib.hid (Below.refl v6.heap.size v6)
      obtain ⟨-, -, -, -, -, c5, -, -, -⟩ := HX6.out.cells
      go_wp2_with fail
      clear c5
      go_loopw [7, 34] (fun ov iv wr => ∃ (s : Nat) (l : List Int), iv = .int .i64 (s : Int) ∧ s ≤ x.sats.length ∧ Hid (wr.ownsRow v6.heap.size 2 1 ov s (numsV l)) ∧ Hid (Below v6.heap.size v6 wr) ∧ Hid (l.length = s ∧ ∀ j, j < s → l[j]? = some (D 0 (1 + j) + (x.sats.getD j (0, 0)).2))) (fun _ iv _ => x.sats.length - (intOf iv).toNat)
      case atStart => exact ⟨0, [], rfl, Nat.zero_le _, HO6, HB6, Lib.hid ⟨rfl, fun j h => absurd h (by omega)⟩⟩
      case round =>
        obtain ⟨s, l, rfl, hs, HO, HB, HL⟩ := hrel
        clear HO6 HB6
        obtain ⟨oa, oc, rfl⟩ := owns_shape HO.out
        by_cases hst : s < x.sats.length
        · have hbw := HX6.out.later HB.out
          obtain ⟨b, off, q, hA, hb, hq, p0, p1⟩ := (HIW.out.sats.later hbw.below).at_ hst
          have hqb := HM.out.hold_in hq
          have HQ := Lib.hid hq
          obtain ⟨r0, h0⟩ := q
          simp only at p0 p1 hqb
          rw [hA]
          have hd := HD6.out.later HB.out
          have k1 := hd.at_ (i := 0) (by omega) (Nat.le_refl _)
          have k2 := hd.get (i := 0) (k := 1 + s) (by omega) (by omega)
          have hdb : 0 ≤ D 0 (1 + s) ∧ D 0 (1 + s) ≤ 1000000000 := by
            have m0 : inS x 0 = true := by simp [inS]; omega
            have m1 : inS x (1 + s) = true := by simp [inS]; omega
            have h1 := HSW.out.pos (i := 0) (k := 1 + s) (fun i k h1 h2 => (HM.out.tm_in (by rw [HN.out]; exact h1) (by rw [HN.out]; exact h2)).1) (fun _ _ => Int.le_refl _) (by omega) (by omega) m0 m1
            have h2 := HSW.out.le 0 (1 + s) (by omega) (by omega) m0 m1 (by omega)
            have h3 := HM.out.tm_in (i := 0) (k := 1 + s) (by rw [HN.out]; omega) (by rw [HN.out]; omega)
            omega
          clear hq hbw hA
          go_wp2_with fail
          obtain ⟨i0, hi0, hz0, hz1, hz2⟩ := info_parts longInfoR
          have hN0 : 0 < N := by omega
          have h1s : 1 + s < N := by omega
          obtain ⟨w7, hw7⟩ : ∃ w7, w7 = World.drew (wr.alloc (.cells #[.int .i64 r0, .int .i64 h0] 61)) := ⟨_, rfl⟩
          have hb7 : Below wr.heap.size wr w7 := by rw [hw7]; exact ((Below.refl wr.heap.size wr).alloc (Nat.le_refl _) (.cells #[.int .i64 r0, .int .i64 h0] 61)).drew
          have d1 : w7.cell? ⟨wr.heap.size, 1, none⟩ = some (.int .i64 h0) := by rw [hw7]; simp
          have d2 := (hd.later hb7).at_ (i := 0) (by omega) (Nat.le_refl _)
          have d3 := (hd.later hb7).get (i := 0) (k := 1 + s) (by omega) (by omega)
          have l1 : go < v6.heap.size := HD6.out.outer.lt
          have l2 : V 0 < v6.heap.size := ((HD6.out.row 0 (by omega)).base_).2
          have l4 : wr.heap.size < w7.heap.size := by rw [hw7]; simp
          have l5 := World.ownsRow.lt HO.out
          have HO7 : Hid (w7.ownsRow v6.heap.size 2 1 (.slice oa s oc) s (numsV l)) := Lib.hid (owns_below HO.out hb7)
          have HB7 : Hid (Below v6.heap.size v6 w7) := Lib.hid (HB.out.trans (hb7.mono HB.out.size))
          clear hd k1 k2 p0 p1 hb7
          obtain ⟨dv, hdv⟩ : ∃ dv, D 0 (1 + s) = dv := ⟨_, rfl⟩
          rw [hdv] at d3 hdb
          have hw1 : IntKind.i64.wrap (dv + h0) = dv + h0 := by rw [IntKind.wrap_i64]; omega
          have HL2 : Hid ((l ++ [dv + h0]).length = s + 1 ∧ ∀ j, j < s + 1 → (l ++ [dv + h0])[j]? = some (D 0 (1 + j) + (x.sats.getD j (0, 0)).2)) := Lib.hid ⟨by simp [HL.out.1], fun j hj => by
            by_cases e : j = s
            · subst e
              rw [hdv, List.getElem?_append_right (by have := HL.out.1; omega)]
              simp [HL.out.1, HQ.out]
            · rw [List.getElem?_append_left (by have := HL.out.1; omega)]
              exact HL.out.2 j (by omega)⟩
          have hsl := HL.out.1
          have HLS := Lib.hid hsl
          clear hdv hsl
          have hw0 : IntKind.i64.wrap (1 + (s : Int)) = ((1 + s : Nat) : Int) := by rw [IntKind.wrap_i64]; omega
          obtain ⟨m, hm⟩ : ∃ m, 1 + s = m := ⟨_, rfl⟩
          rw [hm] at d3 h1s hw0
          clear hm
          have hsz : v6.heap.size ≤ w7.heap.size := HB7.out.size
          have HO8 : Hid ((w7.alloc (.cells #[.int .i64 (dv + h0)] 2)).ownsRow v6.heap.size 2 1 (.slice oa s oc) s (numsV l)) := Lib.hid (HO7.out.alloc _)
          refine wp_region_held_drew (S := (fun Wz => Wz.heap[go]? = w7.heap[go]? ∧ Wz.heap[V 0]? = w7.heap[V 0]? ∧ Wz.heap[wr.heap.size]? = w7.heap[wr.heap.size]?)) (by kernel_rfl) (by rw [hw7]; exact ⟨rfl, rfl, rfl⟩) (fun hHeld => ?_)
          rw [← hw7] at hHeld ⊢
          clear hw7
          refine wpAnyH_take (i := 0) (v := ?_) rfl (by kernel_rfl) (by kernel_rfl) (by kernel_rfl) (fun _ _ _ h => h) (Or.inl ⟨by rfl, ?_⟩) hHeld ?_
          rotate_left
          · intro Wz hWz; clear hWz; go_simp; (try with_reducible rfl)
          try simp only [Act.put, List.setIfInBounds_toArray, List.set_cons_zero, List.set_cons_succ, List.getElem_toArray, List.getElem_cons_zero]
          refine wpAnyH_take (i := 1) (v := ?_) rfl (by kernel_rfl) (by kernel_rfl) (by kernel_rfl) (fun _ _ _ h => h) (Or.inl ⟨by rfl, ?_⟩) hHeld ?_
          rotate_left
          · intro Wz hWz; clear hWz; go_simp; (try with_reducible rfl)
          try simp only [Act.put, List.setIfInBounds_toArray, List.set_cons_zero, List.set_cons_succ, List.getElem_toArray, List.getElem_cons_zero, List.getElem_cons_succ]
          refine wpAnyH_take (i := 2) (v := ?_) rfl (by kernel_rfl) (by kernel_rfl) (by kernel_rfl) (fun _ _ _ h => h) (Or.inl ⟨by rfl, ?_⟩) hHeld ?_
          rotate_left
          · intro Wz hWz; clear hWz; go_simp; (try with_reducible rfl)
          try simp only [Act.put, List.setIfInBounds_toArray, List.set_cons_zero, List.set_cons_succ, List.getElem_toArray, List.getElem_cons_zero, List.getElem_cons_succ]
          refine wpAnyH_take (i := 3) (v := ?_) rfl (by kernel_rfl) (by kernel_rfl) (by kernel_rfl) (fun _ _ _ h => h) (Or.inl ⟨by rfl, ?_⟩) hHeld ?_
          rotate_left
          · intro Wz hWz; obtain ⟨e1, e2, e3⟩ := hWz; have r1 := (cell_sameR e1 0).trans d2; have r2 := (cell_sameR e2 m).trans d3; have r3 := (cell_sameR e3 1).trans d1; clear e1 e2 e3; go_simp; (try with_reducible rfl)
          try simp only [Act.put, List.setIfInBounds_toArray, List.set_cons_zero, List.set_cons_succ, List.getElem_toArray, List.getElem_cons_zero, List.getElem_cons_succ]
          refine wpAnyH_take (i := 4) (v := ?_) rfl (by kernel_rfl) (by kernel_rfl) (by kernel_rfl) (fun _ _ _ h => h) (Or.inl ⟨by rfl, ?_⟩) hHeld ?_
          rotate_left
          · intro Wz hWz; clear hWz; go_simp; (try with_reducible rfl)
          try simp only [Act.put, List.setIfInBounds_toArray, List.set_cons_zero, List.set_cons_succ, List.getElem_toArray, List.getElem_cons_zero, List.getElem_cons_succ]
          refine wpAnyH_take (i := 5) (v := ?_) rfl (by kernel_rfl) (by kernel_rfl) (by kernel_rfl) (fun _ _ _ h => h) (Or.inl ⟨by rfl, ?_⟩) hHeld ?_
          rotate_left
          · intro Wz hWz; clear hWz; go_simp; (try with_reducible rfl)
          try simp only [Act.put, List.setIfInBounds_toArray, List.set_cons_zero, List.set_cons_succ, List.getElem_toArray, List.getElem_cons_zero, List.getElem_cons_succ]
          refine wpAnyH_take (i := 6) (v := ?_) rfl (by kernel_rfl) (by kernel_rfl) (by kernel_rfl) (fun _ _ _ h => h) (Or.inl ⟨by rfl, ?_⟩) hHeld ?_
          rotate_left
          · intro Wz hWz; clear hWz; go_simp; (try with_reducible rfl)
          try simp only [Act.put, List.setIfInBounds_toArray, List.set_cons_zero, List.set_cons_succ, List.getElem_toArray, List.getElem_cons_zero, List.getElem_cons_succ]
          refine wpAnyH_take (i := 7) (v := ?_) rfl (by kernel_rfl) (by kernel_rfl) (by kernel_rfl) (fun _ _ _ h => h) (Or.inl ⟨by rfl, ?_⟩) hHeld ?_
          rotate_left
          · intro Wz hWz; obtain ⟨e1, e2, e3⟩ := hWz; have r1 := (cell_sameR e1 0).trans d2; have r2 := (cell_sameR e2 m).trans d3; have r3 := (cell_sameR e3 1).trans d1; clear e1 e2 e3; go_simp; (try with_reducible rfl)
          try simp only [Act.put, List.setIfInBounds_toArray, List.set_cons_zero, List.set_cons_succ, List.getElem_toArray, List.getElem_cons_zero, List.getElem_cons_succ]
          refine wpAnyH_take (i := 8) (v := ?_) rfl (by kernel_rfl) (by kernel_rfl) (by kernel_rfl) (fun _ _ _ h => h) (Or.inl ⟨by rfl, ?_⟩) hHeld ?_
          rotate_left
          · intro Wz hWz; clear hWz; go_simp; (try with_reducible rfl)
          try simp only [Act.put, List.setIfInBounds_toArray, List.set_cons_zero, List.set_cons_succ, List.getElem_toArray, List.getElem_cons_zero, List.getElem_cons_succ]
          refine wpAnyH_take (i := 9) (v := ?_) rfl (by kernel_rfl) (by kernel_rfl) (by kernel_rfl) (fun _ _ _ h => h) (Or.inl ⟨by rfl, ?_⟩) hHeld ?_
          rotate_left
          · intro Wz hWz; obtain ⟨e1, e2, e3⟩ := hWz; have r1 := (cell_sameR e1 0).trans d2; have r2 := (cell_sameR e2 m).trans d3; have r3 := (cell_sameR e3 1).trans d1; clear e1 e2 e3; go_simp; (try with_reducible rfl)
          try simp only [Act.put, List.setIfInBounds_toArray, List.set_cons_zero, List.set_cons_succ, List.getElem_toArray, List.getElem_cons_zero, List.getElem_cons_succ]
          refine wpAnyH_take (i := 10) (v := ?_) rfl (by kernel_rfl) (by kernel_rfl) (by kernel_rfl) (fun _ _ _ h => h) (Or.inl ⟨by rfl, ?_⟩) hHeld ?_
          rotate_left
          · intro Wz hWz; clear hWz; go_simp; (try with_reducible rfl)
          try simp only [Act.put, List.setIfInBounds_toArray, List.set_cons_zero, List.set_cons_succ, List.getElem_toArray, List.getElem_cons_zero, List.getElem_cons_succ]
          refine wpAnyH_ready (rs := [11]) (by kernel_rfl) (by simp) ?_
          refine AllReadyH.cons rfl (fun K hK => ?_) AllReadyH.nil
          go_simp
          refine hK.out _ _ ?_ (fun hHeld => ?_)
          · exact ⟨heap_alloc_lt _ (by omega), heap_alloc_lt _ (by omega), heap_alloc_lt _ (by omega)⟩
          clear hK K
          try simp only [Act.put, List.setIfInBounds_toArray, List.set_cons_zero, List.set_cons_succ, List.getElem_toArray, List.getElem_cons_zero, List.getElem_cons_succ]
          refine wpAnyH_ready (rs := [12]) (by kernel_rfl) (by simp) ?_
          refine AllReadyH.cons rfl (fun K hK => ?_) AllReadyH.nil
          refine step_append_fresh rfl (.tmp 39) (.tmp 50) 37 rfl v6.heap.size 2 i0 _ 1 8 Try.underlying37 hi0 hz0 hz1 hz2 (by decide) (.slice oa s oc) s (numsV l) rfl HO8.out ⟨w7.heap.size, 0, none⟩ 1 [.int .i64 (dv + h0)] rfl rfl (news_at _ _ _ _ rfl) (one_int _) (by unfold maxLen; omega) (by omega) (by simp; omega) ?_
          intro g9 c9 w9 hown hgrow _
          have hnb : ∀ b, b < v6.heap.size ∨ b = wr.heap.size → ¬ (Value.slice oa s oc).ownBlock = some b := fun b hb e => by have := l5 b e; omega
          have HOW : Hid (w9.ownsRow v6.heap.size 2 1 (.slice (some ⟨g9, 0, none⟩) (s + 1) c9) (s + 1) (numsV (l ++ [dv + h0]))) := Lib.hid (by rw [numsV_snoc]; exact hown)
          have HBW : Hid (Below v6.heap.size v6 w9) := Lib.hid ((HB7.out.alloc HB7.out.size _).grown hgrow (by simp; omega) (fun k hk => (l5 k hk).1))
          refine hK.out _ _ ?_ (fun hHeld => ?_)
          · exact ⟨(hgrow.block _ (by simp; omega) (fun e => hnb go (.inl l1) e.symm)).trans (heap_alloc_lt _ (by omega)), (hgrow.block _ (by simp; omega) (fun e => hnb (V 0) (.inl l2) e.symm)).trans (heap_alloc_lt _ (by omega)), (hgrow.block _ (by simp; omega) (fun e => hnb wr.heap.size (.inr rfl) e.symm)).trans (heap_alloc_lt _ (by omega))⟩
          clear hK K hown hgrow hnb HO8 HO7 HB7 l1 l2 l4 l5
          try simp only [Act.put, List.setIfInBounds_toArray, List.set_cons_zero, List.set_cons_succ, List.getElem_toArray, List.getElem_cons_zero, List.getElem_cons_succ]
          refine wpAnyH_take (i := 13) (v := ?_) rfl (by kernel_rfl) (by kernel_rfl) (by kernel_rfl) (fun _ _ _ h => h) (Or.inl ⟨by rfl, ?_⟩) hHeld ?_
          rotate_left
          · intro Wz hWz; clear hWz; go_simp; (try with_reducible rfl)
          try simp only [Act.put, List.setIfInBounds_toArray, List.set_cons_zero, List.set_cons_succ, List.getElem_toArray, List.getElem_cons_zero, List.getElem_cons_succ]
          refine wpAnyH_done (by kernel_rfl) ?_ _
          clear hHeld
          go_wp2_with fail
          go_roundw
          case rel => exact ⟨s + 1, _, by go_num, by omega, HOW, HBW, HL2⟩
          case measure => simp [intOf]; omega
        · obtain rfl : s = x.sats.length := by omega
          have HRD : Hid (ReadyOf x l) := Lib.hid ⟨HL.out.1, fun j hj => ⟨D 0 (1 + j) + 0, by
            have h := HSW.out.least (i := 0) (k := 1 + j) (fun i k h1 h2 => (HM.out.tm_in (by rw [HN.out]; exact h1) (by rw [HN.out]; exact h2)).1) (fun _ _ => Int.le_refl _) (by omega) (by omega) (by omega) (by simp [inS]; omega) (by simp [inS]; omega) (by omega)
            unfold arcS
            rw [HN.out]
            exact h, by rw [HL.out.2 j hj]; simp⟩⟩
          have HLS := Lib.hid HL.out.1
          go_wp2_with fail
          go_ret
          have hll := HLS.out
          refine ⟨l, oa, oc, by rw [hll]; rfl, ?_, HRD.out, HX6.out.below.trans (HB.out.mono HX6.out.below.size)⟩
          rw [hll]
          exact nums_own HO.out HLS.out (by omega)
end Go.Proofs.Ytchdpapaojkbhaa

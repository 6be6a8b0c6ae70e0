/- Package path: looker's closure. -/
import Derived.Test.YtmmhdjibigopfaaLookW
import Derived.Deep.RegionHeld3
import Derived.Deep.QuietTactic
import Derived.BigQuiet
namespace Go.Proofs.Ytmmhdjibigopfaa
open Go.RowKit

variable {w wr w2 : World} {a : Option Addr} {len cap B co g tb gf cf gb cb cl L N i j k t s R ab : Nat} {l : List Ar} {V : Nat → Value} {by_ : Nat → Int} {late d u p c : Int} {snap far : Nat → Option Int} {T : Nat → Nat} {S : Nat → Prop}
/-- What the round's last region reads: the tree's slices, the arc. -/
def LkR (tb gf cf gb cb N ab : Nat) (t : Int) (c : Int) (W : World) : Prop := W.cell? ⟨tb, 0, none⟩ = some (.slice (some ⟨gf, 0, none⟩) N cf) ∧ W.cell? ⟨tb, 1, none⟩ = some (.slice (some ⟨gb, 0, none⟩) N cb) ∧ W.cell? ⟨ab, 1, none⟩ = some (.int .i64 t) ∧ W.cell? ⟨ab, 2, none⟩ = some (.int .i64 c) ∧ tb < W.heap.size ∧ ab < W.heap.size
theorem LkR.mod {t c : Int} (h : LkR tb gf cf gb cb N ab t c w) (hm : Mod S w w2) (h1 : ¬ S tb) (h2 : ¬ S ab) : LkR tb gf cf gb cb N ab t c w2 :=
  ⟨(hm.cell (p := ⟨tb, 0, none⟩) h.2.2.2.2.1 h1).trans h.1, (hm.cell (p := ⟨tb, 1, none⟩) h.2.2.2.2.1 h1).trans h.2.1, (hm.cell (p := ⟨ab, 1, none⟩) h.2.2.2.2.2 h2).trans h.2.2.1, (hm.cell (p := ⟨ab, 2, none⟩) h.2.2.2.2.2 h2).trans h.2.2.2.1, Nat.lt_of_lt_of_le h.2.2.2.2.1 hm.size, Nat.lt_of_lt_of_le h.2.2.2.2.2 hm.size⟩
theorem LookW.row (h : LookW B wr co g tb gf cf gb cb cl L N a len cap V l (valI far) by_ late) (hi : i < N) {va : Option Addr} {vc n : Nat} (hv : V i = .slice va n vc) (hj : j < (outK l i).length) :
    ∃ (gv k : Nat) (x : Ar), va = some ⟨gv, 0, none⟩ ∧ (outK l i)[j]? = some (k : Int) ∧ wr.cell? ⟨gv, j, none⟩ = some (.int .i64 (k : Int)) ∧ l[k]? = some x ∧ x.1 = (i : Int) ∧ k < len := by
  have hr := h.adj.row i hi
  obtain ⟨gv, cv, e, _, _, _, _⟩ := owns_some hr (by omega)
  have e2 := hv.symm.trans e
  simp only [Value.slice.injEq] at e2
  obtain ⟨rfl, rfl, rfl⟩ := e2
  have hx := List.getElem?_eq_getElem hj
  obtain ⟨k, x, h1, h2, h3⟩ := mem_outK.1 (List.mem_of_getElem? hx)
  rw [h1] at hx
  rw [e] at hr
  have hl := h.arcs.1
  have hk : k < l.length := (List.getElem?_eq_some_iff.1 h2).1
  exact ⟨gv, k, x, rfl, hx, nums_cell hr hx, h2, h3, by omega⟩

set_option maxHeartbeats 4000000 in
set_option maxRecDepth 100000 in
theorem look_any (hR : R ≤ 1000) (_hN : N ≤ 1000) (hlen : len ≤ 20000) (hok : ∀ x ∈ l, okA (N : Int) x = true) (hi : i < N) (hp : snap i = some p) (w : World)
    (hW : LookW B w co g tb gf cf gb cb cl L N a len cap V l (valI far) by_ late) (hr : Rnd l s N snap far by_ T R (Upto l i) late) :
    Calls Try.prog 39 #[.int .i64 (i : Int), .int .i64 p, .func (.func 35) #[] #[.pointer (some ⟨cl, 0, none⟩)], .pointer (some ⟨co, 0, none⟩), .pointer (some ⟨g, 0, none⟩), .pointer (some ⟨tb, 0, none⟩)] w fun e w' =>
      e = .returned (.tuple #[]) ∧ ∃ far2 by2 T2 late2, LookW B w' co g tb gf cf gb cb cl L N a len cap V l (valI far2) by2 late2 ∧ Rnd l s N snap far2 by2 T2 R (Upto l (i + 1)) late2 ∧ Mod (LookS gf gb cl) w w' := by
  have HOK := Lib.hid hok; clear hok
  have HP := Lib.hid hp
  have hps := hr.jac.small2 HOK.out hR hp
  clear hp
  have hi1 : (0 : Int) ≤ (i : Int) := by omega
  have hi2 : (i : Int) < (N : Int) := by omega
  obtain ⟨va, vc, hv⟩ := owns_shape (hW.adj.row i hi)
  have hml : (outK l i).length ≤ 20000 := Nat.le_trans (outK_le _ _) (by have := hW.arcs.1; omega)
  have x0 := hW.adj.cell
  have x1 := hW.adj.out.cell hi
  rw [hv] at x1
  have HV := Lib.hid hv; clear hv
  have HW0 := Lib.hid hW; clear hW
  have HR0 : Hid (Rnd l s N snap far by_ T R (UptoK l i 0) late) := Lib.hid (hr.sub (fun _ h => h.begin_)); clear hr
  have HM0 : Hid (Mod (LookS gf gb cl) w w) := Lib.hid (Mod.refl _ _)
  obtain ⟨n, hn⟩ : ∃ n, (outK l i).length = n := ⟨_, rfl⟩
  rw [hn] at x1 hml HV
  have HN := Lib.hid hn; clear hn
  go_enter Try.func39, Try.ntmps39
  go_wp2_with fail
  clear x0 x1
  go_loopw [17] (fun jv wr => ∃ (j : Nat) (far2 : Nat → Option Int) (by2 : Nat → Int) (T2 : Nat → Nat) (late2 : Int), jv = .int .i64 j ∧ j ≤ n ∧ Hid (LookW B wr co g tb gf cf gb cb cl L N a len cap V l (valI far2) by2 late2) ∧ Hid (Rnd l s N snap far2 by2 T2 R (UptoK l i j) late2) ∧ Hid (Mod (LookS gf gb cl) w wr)) (fun jv _ => n - (intOf jv).toNat)
  case atStart => exact ⟨0, _, _, _, _, rfl, Nat.zero_le _, HW0, HR0, HM0⟩
  case round =>
    obtain ⟨j, far2, by2, T2, late2, rfl, hj, HX, HR, HM⟩ := hrel
    clear HW0 HR0 HM0
    by_cases hlt : j < n
    · obtain ⟨gv, k, x, rfl, hx1, x0, hx2, hx3, hk⟩ := HX.out.row (j := j) hi HV.out (by have := HN.out; omega)
      obtain ⟨b, off, x', rfl, hb, hx', e0, e1, e2⟩ := HX.out.arcs.at_ hk
      rw [hx2] at hx'
      cases hx'
      have hxok := okA_true.1 (HOK.out x (List.mem_of_getElem? hx2))
      have HX1 := Lib.hid hx1
      have HX2 := Lib.hid hx2
      clear hx1 hx2 hb
      obtain ⟨f0, t0, c⟩ := x
      simp only at hx3 e0 e1 e2 hxok
      subst hx3
      obtain ⟨t, rfl⟩ : ∃ t : Nat, t0 = (t : Int) := ⟨t0.toNat, by omega⟩
      have ht : t < N := by omega
      have u1 : (0 : Int) ≤ (t : Int) := by omega
      have u2 : (t : Int) < (N : Int) := by omega
      have hc1 : -1099511627776 ≤ c := hxok.2.2.1
      have hc2 : c ≤ 1099511627776 := hxok.2.2.2
      clear hxok
      have u3 : (0 : Int) ≤ (k : Int) := by omega
      have u4 : (k : Int) < (len : Int) := by omega
      have x1 := HX.out.gcell
      have HXA := Lib.hid (HX.out.later ((Below.refl wr.heap.size wr).alloc (Nat.le_refl _) (.cells #[.int .i64 (i : Int), .int .i64 (t : Int), .int .i64 c] 41)))
      have y0 := HXA.out.t0
      have y1 := HXA.out.t1
      have y2 := HXA.out.far.cell ht
      have hw1 : IntKind.i64.wrap (p + c) = p + c := by rw [IntKind.wrap_i64]; omega
      by_cases hge : p + c < valI far2 t
      · have HGE := Lib.hid hge
        generalize hy : valI far2 t = y at y2 hge
        have HY := Lib.hid hy; clear hy
        have hgb : decide (p + c < y) = true := by simpa using hge
        clear hge
        go_wp2_with fail
        go_quiet (fail)
        go_wp2_with fail
        have HX5 := Lib.hid (HXA.out.later ((below_drewN (Below.refl _ _) nq).drew))
        have HT := Lib.hid HX5.out.lt
        have HNE : Hid ((¬ tb = gf ∧ ¬ wr.heap.size = gf ∧ ¬ tb = gb ∧ ¬ wr.heap.size = gb) ∧ ¬ cl = gf ∧ ¬ cl = gb) := Lib.hid (by
          have a1 := HX.out.o1; have a2 := HX.out.o2; have a3 := HX.out.o3; have a4 := HX.out.o4; have a5 := HX.out.o5; have a6 := HX.out.adj.lt; have a7 := HX.out.far.base_; have a8 := HX.out.by_.base_; omega)
        have z3 := HXA.out.by_.cell ht
        have z4 := HXA.out.far.frozen t
        have z5 := HXA.out.by_.frozen t
        have z6 := HXA.out.ne
        generalize by2 t = oldk at z3
        have HA0 : Hid (LkR tb gf cf gb cb N wr.heap.size (t : Int) c (World.drew (World.drewN (wr.alloc (.cells #[.int .i64 (i : Int), .int .i64 (t : Int), .int .i64 c] 41)) nq))) := Lib.hid ⟨y0, y1, by simp, by simp, (Array.getElem?_eq_some_iff.1 HX5.out.tr).1, by simp⟩
        have HTL : Hid (((((wr.alloc (.cells #[.int .i64 (i : Int), .int .i64 (t : Int), .int .i64 c] 41)).drewN nq).drew.setCell ⟨gf, t, none⟩ (.int .i64 (p + c))).setCell ⟨gb, t, none⟩ (.int .i64 (k : Int))).heap[cl]? = some (.cells #[.int .i64 late2] 3 (0, 0))) := Lib.hid (by
          rw [heap_setCell_other _ _ _ _ HNE.out.2.2, heap_setCell_other _ _ _ _ HNE.out.2.1]
          exact HX5.out.lt)
        refine wp_region_held_drew (S := LkR tb gf cf gb cb N wr.heap.size (t : Int) c) (by kernel_rfl) HA0.out (fun hHeld => ?_)
        refine wpAnyH_take (i := 0) (v := ?_) rfl (by kernel_rfl) (by kernel_rfl) (by kernel_rfl) (fun _ _ _ h => h) (Or.inl ⟨by rfl, ?_⟩) hHeld ?_
        rotate_left
        · intro W0 hW; obtain ⟨hW1, hW2, hW3, hW4, hW5, hW6⟩ := hW; go_simp; (try with_reducible rfl)
        try simp only [Act.put, List.setIfInBounds_toArray, List.set_cons_zero, List.set_cons_succ, List.getElem_toArray, List.getElem_cons_zero]
        refine wpAnyH_take (i := 1) (v := ?_) rfl (by kernel_rfl) (by kernel_rfl) (by kernel_rfl) (fun _ _ _ h => h) (Or.inl ⟨by rfl, ?_⟩) hHeld ?_
        rotate_left
        · intro W0 hW; obtain ⟨hW1, hW2, hW3, hW4, hW5, hW6⟩ := hW; go_simp; (try with_reducible rfl)
        try simp only [Act.put, List.setIfInBounds_toArray, List.set_cons_zero, List.set_cons_succ, List.getElem_toArray, List.getElem_cons_zero, List.getElem_cons_succ]
        refine wpAnyH_take (i := 2) (v := ?_) rfl (by kernel_rfl) (by kernel_rfl) (by kernel_rfl) (fun _ _ _ h => h) (Or.inl ⟨by rfl, ?_⟩) hHeld ?_
        rotate_left
        · intro W0 hW; obtain ⟨hW1, hW2, hW3, hW4, hW5, hW6⟩ := hW; go_simp; (try with_reducible rfl)
        try simp only [Act.put, List.setIfInBounds_toArray, List.set_cons_zero, List.set_cons_succ, List.getElem_toArray, List.getElem_cons_zero, List.getElem_cons_succ]
        refine wpAnyH_take (i := 3) (v := ?_) rfl (by kernel_rfl) (by kernel_rfl) (by kernel_rfl) (fun _ _ _ h => h) (Or.inl ⟨by rfl, ?_⟩) hHeld ?_
        rotate_left
        · intro W0 hW; obtain ⟨hW1, hW2, hW3, hW4, hW5, hW6⟩ := hW; go_simp; (try with_reducible rfl)
        try simp only [Act.put, List.setIfInBounds_toArray, List.set_cons_zero, List.set_cons_succ, List.getElem_toArray, List.getElem_cons_zero, List.getElem_cons_succ]
        refine wpAnyH_take (i := 4) (v := ?_) rfl (by kernel_rfl) (by kernel_rfl) (by kernel_rfl) (fun _ _ _ h => h) (Or.inl ⟨by rfl, ?_⟩) hHeld ?_
        rotate_left
        · intro W0 hW; obtain ⟨hW1, hW2, hW3, hW4, hW5, hW6⟩ := hW; go_simp; (try with_reducible rfl)
        try simp only [Act.put, List.setIfInBounds_toArray, List.set_cons_zero, List.set_cons_succ, List.getElem_toArray, List.getElem_cons_zero, List.getElem_cons_succ]
        refine wpAnyH_take (i := 5) (v := ?_) rfl (by kernel_rfl) (by kernel_rfl) (by kernel_rfl) (fun _ _ _ h => h) (Or.inl ⟨by rfl, ?_⟩) hHeld ?_
        rotate_left
        · intro W0 hW; obtain ⟨hW1, hW2, hW3, hW4, hW5, hW6⟩ := hW; go_simp; (try with_reducible rfl)
        try simp only [Act.put, List.setIfInBounds_toArray, List.set_cons_zero, List.set_cons_succ, List.getElem_toArray, List.getElem_cons_zero, List.getElem_cons_succ]
        refine wpAnyH_take (i := 6) (v := ?_) rfl (by kernel_rfl) (by kernel_rfl) (by kernel_rfl) (fun _ _ _ h => h) (Or.inl ⟨by rfl, ?_⟩) hHeld ?_
        rotate_left
        · intro W0 hW; obtain ⟨hW1, hW2, hW3, hW4, hW5, hW6⟩ := hW; go_simp; (try with_reducible rfl)
        try simp only [Act.put, List.setIfInBounds_toArray, List.set_cons_zero, List.set_cons_succ, List.getElem_toArray, List.getElem_cons_zero, List.getElem_cons_succ]
        refine wpAnyH_take (i := 7) (v := ?_) rfl (by kernel_rfl) (by kernel_rfl) (by kernel_rfl) (fun _ _ _ h => h) (Or.inl ⟨by rfl, ?_⟩) hHeld ?_
        rotate_left
        · intro W0 hW; obtain ⟨hW1, hW2, hW3, hW4, hW5, hW6⟩ := hW; go_simp; (try with_reducible rfl)
        try simp only [Act.put, List.setIfInBounds_toArray, List.set_cons_zero, List.set_cons_succ, List.getElem_toArray, List.getElem_cons_zero, List.getElem_cons_succ]
        refine wpAnyH_take (i := 8) (v := ?_) rfl (by kernel_rfl) (by kernel_rfl) (by kernel_rfl) (fun _ _ _ h => h) (Or.inl ⟨by rfl, ?_⟩) hHeld ?_
        rotate_left
        · intro W0 hW; obtain ⟨hW1, hW2, hW3, hW4, hW5, hW6⟩ := hW; go_simp; (try with_reducible rfl)
        try simp only [Act.put, List.setIfInBounds_toArray, List.set_cons_zero, List.set_cons_succ, List.getElem_toArray, List.getElem_cons_zero, List.getElem_cons_succ]
        refine wpAnyH_take (i := 9) (v := ?_) rfl (by kernel_rfl) (by kernel_rfl) (by kernel_rfl) (fun _ _ _ h => h) (Or.inl ⟨by rfl, ?_⟩) hHeld ?_
        rotate_left
        · intro W0 hW; obtain ⟨hW1, hW2, hW3, hW4, hW5, hW6⟩ := hW; go_simp; (try with_reducible rfl)
        try simp only [Act.put, List.setIfInBounds_toArray, List.set_cons_zero, List.set_cons_succ, List.getElem_toArray, List.getElem_cons_zero, List.getElem_cons_succ]
        refine wpAnyH_take (i := 10) (v := ?_) rfl (by kernel_rfl) (by kernel_rfl) (by kernel_rfl) (fun _ _ _ h => h) (Or.inl ⟨by rfl, ?_⟩) hHeld ?_
        rotate_left
        · intro W0 hW; obtain ⟨hW1, hW2, hW3, hW4, hW5, hW6⟩ := hW; go_simp; (try with_reducible rfl)
        try simp only [Act.put, List.setIfInBounds_toArray, List.set_cons_zero, List.set_cons_succ, List.getElem_toArray, List.getElem_cons_zero, List.getElem_cons_succ]
        refine wpAnyH_take (i := 11) (v := ?_) rfl (by kernel_rfl) (by kernel_rfl) (by kernel_rfl) (fun _ _ _ h => h) (Or.inl ⟨by rfl, ?_⟩) hHeld ?_
        rotate_left
        · intro W0 hW; obtain ⟨hW1, hW2, hW3, hW4, hW5, hW6⟩ := hW; go_simp; (try with_reducible rfl)
        try simp only [Act.put, List.setIfInBounds_toArray, List.set_cons_zero, List.set_cons_succ, List.getElem_toArray, List.getElem_cons_zero, List.getElem_cons_succ]
        try simp only [hw1]
        refine wpAnyH_take (i := 12) (v := ?_) rfl (by kernel_rfl) (by kernel_rfl) (by kernel_rfl) (fun _ _ _ h => h) (Or.inl ⟨by rfl, ?_⟩) hHeld ?_
        rotate_left
        · intro W0 hW; obtain ⟨hW1, hW2, hW3, hW4, hW5, hW6⟩ := hW; go_simp; (try with_reducible rfl)
        try simp only [Act.put, List.setIfInBounds_toArray, List.set_cons_zero, List.set_cons_succ, List.getElem_toArray, List.getElem_cons_zero, List.getElem_cons_succ]
        refine wpAnyH_take (i := 13) (v := ?_) rfl (by kernel_rfl) (by kernel_rfl) (by kernel_rfl) (fun _ _ _ h => h) (Or.inl ⟨by rfl, ?_⟩) hHeld ?_
        rotate_left
        · intro W0 hW; obtain ⟨hW1, hW2, hW3, hW4, hW5, hW6⟩ := hW; go_simp; (try with_reducible rfl)
        try simp only [Act.put, List.setIfInBounds_toArray, List.set_cons_zero, List.set_cons_succ, List.getElem_toArray, List.getElem_cons_zero, List.getElem_cons_succ]
        refine wpAnyH_ready (rs := [14]) (by kernel_rfl) (by simp) ?_
        refine AllReadyH.cons rfl (fun K hK => ?_) AllReadyH.nil
        go_simp
        refine hK.out _ _ ?_ (fun hHeld => ?_)
        · exact hHeld.mod ((Mod.refl (fun b => b = gf) _).setCell (p := ⟨gf, t, none⟩) (.inr rfl) _) HNE.out.1.1 HNE.out.1.2.1
        clear hK K
        try simp only [Act.put, List.setIfInBounds_toArray, List.set_cons_zero, List.set_cons_succ, List.getElem_toArray, List.getElem_cons_zero, List.getElem_cons_succ]
        refine wpAnyH_take (i := 15) (v := ?_) rfl (by kernel_rfl) (by kernel_rfl) (by kernel_rfl) (fun _ _ _ h => h) (Or.inl ⟨by rfl, ?_⟩) hHeld ?_
        rotate_left
        · intro W0 hW; obtain ⟨hW1, hW2, hW3, hW4, hW5, hW6⟩ := hW; go_simp; (try with_reducible rfl)
        try simp only [Act.put, List.setIfInBounds_toArray, List.set_cons_zero, List.set_cons_succ, List.getElem_toArray, List.getElem_cons_zero, List.getElem_cons_succ]
        refine wpAnyH_ready (rs := [16]) (by kernel_rfl) (by simp) ?_
        refine AllReadyH.cons rfl (fun K hK => ?_) AllReadyH.nil
        go_simp
        refine hK.out _ _ ?_ (fun hHeld => ?_)
        · exact hHeld.mod ((Mod.refl (fun b => b = gb) _).setCell (p := ⟨gb, t, none⟩) (.inr rfl) _) HNE.out.1.2.2.1 HNE.out.1.2.2.2
        clear hK K
        try simp only [Act.put, List.setIfInBounds_toArray, List.set_cons_zero, List.set_cons_succ, List.getElem_toArray, List.getElem_cons_zero, List.getElem_cons_succ]
        refine wpAnyH_done (by kernel_rfl) ?_ _
        obtain ⟨_, _, q3, _⟩ := hHeld
        go_wp2_with (go_at_call 35; refine (tell_any (t : Int) cl _ _ HTL.out).mono ?_; rintro e w6 ⟨rfl, rfl⟩)
        have HR6 := Lib.hid ((HR.out.yes HX2.out rfl rfl ht HP.out HGE.out).sub (fun q hq => UptoK.succ HX1.out hq))
        have HW6 := Lib.hid ((HX5.out.set_ ht (p + c) (k : Int) (t : Int)).congr (by2 := setB by2 t k) (fun i _ => valI_set t i (p + c)) (fun _ _ => rfl))
        have HM6 := Lib.hid (HM.out.trans ((((((Mod.refl (LookS gf gb cl) wr).alloc (.cells #[.int .i64 (i : Int), .int .i64 (t : Int), .int .i64 c] 41)).drewN nq).drew).trans (look_mod _ gf gb cl t (.int .i64 (p + c)) (.int .i64 (k : Int)) (.int .i64 (t : Int))))))
        go_roundw
        case rel => exact ⟨j + 1, _, _, _, _, by go_num, by omega, HW6, HR6, HM6⟩
        case measure => simp [intOf]; omega
      · have HGE := Lib.hid hge
        generalize hy : valI far2 t = y at y2 hge
        have HY := Lib.hid hy; clear hy
        have hgb : decide (p + c < y) = false := by simpa using hge
        clear hge
        go_wp2_with fail
        go_quiet (fail)
        have HX5 := Lib.hid (HXA.out.later (below_drewN (Below.refl _ _) nq))
        have HR6 := Lib.hid ((HR.out.no HOK.out hR HX2.out rfl rfl HP.out (show ¬ p + c < valI far2 t by have := HGE.out; omega)).sub (fun q hq => UptoK.succ HX1.out hq))
        have HM6 := Lib.hid (HM.out.trans (((Mod.refl (LookS gf gb cl) wr).alloc (.cells #[.int .i64 (i : Int), .int .i64 (t : Int), .int .i64 c] 41)).drewN nq))
        go_wp2_with fail
        go_roundw
        case rel => exact ⟨j + 1, _, _, _, _, by go_num, by omega, HX5, HR6, HM6⟩
        case measure => simp [intOf]; omega
    · have hjn : j = n := by omega
      subst hjn
      have HR6 := Lib.hid (HR.out.sub (D2 := Upto l (i + 1)) (fun q hq => UptoK.done (by rw [HN.out]; exact Nat.le_refl _) hq))
      go_wp2_with fail
      go_end0
      exact ⟨rfl, _, _, _, _, HX.out, HR6.out, HM.out⟩
end Go.Proofs.Ytmmhdjibigopfaa

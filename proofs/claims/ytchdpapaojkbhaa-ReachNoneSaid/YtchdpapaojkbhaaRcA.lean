/- Joined: ISat, RClo. -/
import Derived.Test.YtchdpapaojkbhaaIChA
import Derived.Test.YtchdpapaojkbhaaRSp
import Derived.Deep.RegionHeld3
section
/- Package inst: Sat. -/
namespace Go.Proofs.Ytchdpapaojkbhaa
open Go.RowKit

variable {w : World} {A : InA} {x : Ins}
theorem sat_any (A : InA) (x : Ins) (s : Int) (w : World) :
    Calls Try.prog 42 #[.agg (insC A x), .int .i64 s] w fun e w' => e = .returned (.int .i64 (wrap64 (1 + s))) ∧ Below w.heap.size w w' := by
  have HB := Lib.hid ((Below.refl w.heap.size w).alloc (Nat.le_refl _) (.cells (insC A x) 34))
  unfold insC at *
  go_enter Try.func42, Try.ntmps42
  go_wp2_with fail
  go_ret
  exact ⟨rfl, HB.out⟩
end Go.Proofs.Ytchdpapaojkbhaa
end
section
/- Package reach: the closures that tell how long it takes from place to place. -/
namespace Go.Proofs.Ytchdpapaojkbhaa
open Go.RowKit

variable {w wr w2 : World} {A : InA} {x : Ins} {B g sb nb s i k p q : Nat}
/-- The node of a place: 0 is the satellite, the customers lie behind it. -/
def nodeP (x : Ins) (s p : Nat) : Nat := if p = 0 then 1 + s else x.sats.length + p
theorem nodeP_zero : nodeP x s 0 = 1 + s := rfl
theorem nodeP_pos (h : 0 < p) : nodeP x s p = x.sats.length + p := by unfold nodeP; rw [if_neg (by omega)]
theorem nodeP_lt (hs : s < x.sats.length) (hp : p < 1 + x.cus.length) : nodeP x s p < x.nodes := by
  unfold nodeP Ins.nodes
  split <;> omega
/-- How long it takes from place to place. -/
def takeP (x : Ins) (s p q : Nat) : Int := styI x (nodeP x s p) + tmI x (nodeP x s p) (nodeP x s q)
/-- The instance's box, and what it holds. -/
structure InH (B : Nat) (W : World) (g : Nat) (A : InA) (x : Ins) : Prop where
  blk : W.heap[g]? = some (.cells (insC A x) 34 (0, 0))
  ins : IsIns B W A x
  le : B ≤ W.heap.size
theorem InH.later (h : InH B w g A x) (hb : Below w.heap.size w w2) : InH B w2 g A x := ⟨(hb.block g (Array.getElem?_eq_some_iff.1 h.blk).1).trans h.blk, h.ins.later (hb.mono h.le), Nat.le_trans h.le hb.size⟩
theorem InH.here (h : InH B w g A x) : IsIns w.heap.size w A x := h.ins.mono h.le
theorem InH.cells (h : InH B w g A x) : w.cell? ⟨g, 0, none⟩ = some (.int .i64 x.en) ∧ w.cell? ⟨g, 1, none⟩ = some (.int .i64 x.tm) ∧ w.cell? ⟨g, 2, none⟩ = some (.int .i64 x.tr) ∧ w.cell? ⟨g, 3, none⟩ = some (.int .i64 x.bm) ∧ w.cell? ⟨g, 4, none⟩ = some (.int .i64 x.br) ∧
    w.cell? ⟨g, 5, none⟩ = some (.slice A.sa x.sats.length A.sc) ∧ w.cell? ⟨g, 6, none⟩ = some (.slice A.ca x.cus.length A.cc) ∧ w.cell? ⟨g, 7, none⟩ = some (.slice A.ka x.cost.length A.kc) ∧ w.cell? ⟨g, 8, none⟩ = some (.slice A.ta x.time.length A.tc) := by
  simp [World.cell?, h.blk]
/-- A time, in memory. -/
theorem InH.time_at (h : InH B w g A x) (hm : May x) (hi : i < x.nodes) (hk : k < x.nodes) : ∃ b o rb ro rc n, A.ta = some ⟨b, o, none⟩ ∧ w.cell? ⟨b, o + i, none⟩ = some (.slice (some ⟨rb, ro, none⟩) n rc) ∧ n = x.nodes ∧ w.cell? ⟨rb, ro + k, none⟩ = some (.int .i64 (tmI x i k)) ∧ b < w.heap.size ∧ rb < w.heap.size := by
  obtain ⟨b, o, r, ra, rc, e, hb, hr, _, hc, hn⟩ := h.ins.time.at_ (k := i) (by rw [hm.lt]; exact hi)
  have hl := (hm.time i r hr).1
  have hle := h.le
  rcases hn.2 with h0 | ⟨rb, ro, e2, hrb, hc2⟩
  · omega
  · subst e2
    have hkl : k < r.length := by omega
    refine ⟨b, o, rb, ro, rc, r.length, e, hc, hl, ?_, by omega, by omega⟩
    rw [hc2 k r[k] (List.getElem?_eq_getElem hkl)]
    simp only [tmI, List.getD, hr, Option.getD_some, List.getElem?_eq_getElem hkl]
set_option maxHeartbeats 1000000 in
theorem rtime_any (hm : May x) (W : World) (hW : InH B W g A x) (i k : Nat) (hi : i < x.nodes) (hk : k < x.nodes) :
    Calls Try.prog 27 (#[.int .i64 (i : Int), .int .i64 (k : Int)] ++ #[.pointer (some ⟨g, 0, none⟩)]) W fun e w' => e = .returned (.int .i64 (tmI x i k)) ∧ Below W.heap.size W w' := by
  obtain ⟨b, o, rb, ro, rc, n, hta, c1, hn, c2, _, _⟩ := hW.time_at hm hi hk
  obtain ⟨_, _, _, _, _, _, _, _, c8⟩ := hW.cells
  have hlt := hm.lt
  have h61 := nodes_61 hm
  have i1 : (0 : Int) ≤ (i : Int) := by omega
  have i2 : (i : Int) < (x.time.length : Int) := by omega
  have k1 : (0 : Int) ≤ (k : Int) := by omega
  have k2 : (k : Int) < (n : Int) := by omega
  rw [hta] at c8
  generalize x.time.length = tl at *
  generalize tmI x i k = z at *
  clear hta hlt hn hm hW hi hk h61
  rw [show (#[.int .i64 (i : Int), .int .i64 (k : Int)] ++ #[.pointer (some ⟨g, 0, none⟩)] : Array Value) = #[.int .i64 (i : Int), .int .i64 (k : Int), .pointer (some ⟨g, 0, none⟩)] from rfl]
  go_enter Try.func27, Try.ntmps27
  go_wp2_with fail
  go_ret
  exact ⟨rfl, Below.refl _ _⟩
/-- The boxes that a satellite's rounds work on. -/
structure RoH (B : Nat) (W : World) (g sb nb : Nat) (A : InA) (x : Ins) (s : Nat) : Prop where
  inh : InH B W g A x
  sat : W.heap[sb]? = some (.cells #[.int .i64 (s : Int)] 3 (0, 0))
  fn : W.heap[nb]? = some (.cells #[.func (.func 41) #[] #[.pointer (some ⟨g, 0, none⟩), .pointer (some ⟨sb, 0, none⟩)]] 81 (0, 0))
theorem RoH.later (h : RoH B w g sb nb A x s) (hb : Below w.heap.size w w2) : RoH B w2 g sb nb A x s :=
  ⟨h.inh.later hb, (hb.block sb (Array.getElem?_eq_some_iff.1 h.sat).1).trans h.sat, (hb.block nb (Array.getElem?_eq_some_iff.1 h.fn).1).trans h.fn⟩
theorem RoH.cells (h : RoH B w g sb nb A x s) : w.cell? ⟨g, 8, none⟩ = some (.slice A.ta x.time.length A.tc) ∧ w.cell? ⟨g, 6, none⟩ = some (.slice A.ca x.cus.length A.cc) ∧ w.cell? ⟨sb, 0, none⟩ = some (.int .i64 (s : Int)) ∧
    w.cell? ⟨nb, 0, none⟩ = some (.func (.func 41) #[] #[.pointer (some ⟨g, 0, none⟩), .pointer (some ⟨sb, 0, none⟩)]) := by
  obtain ⟨_, _, _, _, _, _, c6, _, c8⟩ := h.inh.cells
  exact ⟨c8, c6, by simp [World.cell?, h.sat], by simp [World.cell?, h.fn]⟩
set_option maxHeartbeats 1000000 in
theorem rnode_any (hm : May x) (W : World) (hW : RoH B W g sb nb A x s) (hs : s < x.sats.length) (p : Nat) (hp : p < 1 + x.cus.length) :
    Calls Try.prog 41 #[.int .i64 (p : Int), .pointer (some ⟨g, 0, none⟩), .pointer (some ⟨sb, 0, none⟩)] W fun e w' => e = .returned (.int .i64 ((nodeP x s p : Nat) : Int)) ∧ Below W.heap.size W w' := by
  have hns := hm.ns
  have hnc := hm.nc
  obtain ⟨c0, c1, c2, c3, c4, c5, c6, c7, c8⟩ := hW.inh.cells
  obtain ⟨_, _, s0, _⟩ := hW.cells
  by_cases h0 : p = 0
  · subst h0
    have HV : Hid (wrap64 (1 + (s : Int)) = ((nodeP x s 0 : Nat) : Int)) := Lib.hid (by rw [nodeP_zero]; unfold wrap64; omega)
    clear hW hm hns hnc hs hp
    go_enter Try.func41, Try.ntmps41
    go_wp2_with (go_at_call 42; refine (sat_any A x (s : Int) _).mono ?_; rw [HV.out]; rintro e w3 ⟨rfl, hb3⟩)
    go_ret
    exact ⟨rfl, hb3⟩
  · have hp0 : ((p : Int) == 0) = false := by simpa using (show ¬ (p : Int) = 0 by omega)
    have hpn : ¬ (p : Int) = 0 := by omega
    have HV : Hid (wrap64 (1 + (x.sats.length : Int) + ((p : Int) - 1)) = ((nodeP x s p : Nat) : Int)) := Lib.hid (by rw [nodeP_pos (by omega)]; unfold wrap64; omega)
    have HSL := Lib.hid (show x.sats.length ≤ 1000 by omega)
    have hpw : IntKind.i64.wrap ((p : Int) - 1) = (p : Int) - 1 := by rw [IntKind.wrap_i64]; omega
    clear hW hm hns hnc hs hp h0
    go_enter Try.func41, Try.ntmps41
    go_wp2_with (go_at_call 38; refine (customer_any A x ((p : Int) - 1) _ HSL.out).mono ?_; rw [HV.out]; rintro e w3 ⟨rfl, hb3⟩)
    go_ret
    exact ⟨rfl, hb3⟩
theorem styI_place (hm : May x) (hs : s < x.sats.length) (hp : 0 < p) (h : IsIns B w A x) (hp2 : p < 1 + x.cus.length) : ∃ b o y, A.ca = some ⟨b, o, none⟩ ∧ w.cell? ⟨b, o + (p - 1) * 4 + 3, none⟩ = some (.int .i64 y) ∧ styI x (nodeP x s p) = y ∧ 0 ≤ y ∧ y ≤ 1000000000 := by
  obtain ⟨b, o, y, e, _, hy, _, _, _, c3⟩ := h.cus.at_ (k := p - 1) (by omega)
  have hst : styI x (nodeP x s p) = y.2.2.2 := by
    rw [nodeP_pos hp]
    unfold styI
    rw [if_neg (by omega), show x.sats.length + p - (1 + x.sats.length) = p - 1 by omega, List.getD, hy, Option.getD_some]
  have hin := hm.sty_in (i := nodeP x s p) (nodeP_lt hs hp2)
  rw [hst] at hin
  exact ⟨b, o, y.2.2.2, e, c3, hst, hin.1, hin.2⟩
theorem styI_sat (hs : s < x.sats.length) : styI x (nodeP x s 0) = 0 := by
  rw [nodeP_zero]
  unfold styI
  rw [if_pos (by omega)]
set_option maxHeartbeats 4000000 in
set_option maxRecDepth 100000 in
theorem rtake_any (hm : May x) (W : World) (hW : RoH B W g sb nb A x s) (hs : s < x.sats.length) (p q : Nat) (hp : p < 1 + x.cus.length) (hq : q < 1 + x.cus.length) :
    Calls Try.prog 43 (#[.int .i64 (p : Int), .int .i64 (q : Int)] ++ #[.pointer (some ⟨g, 0, none⟩), .pointer (some ⟨nb, 0, none⟩)]) W fun e w' => e = .returned (.int .i64 (takeP x s p q)) ∧ Below W.heap.size W w' := by
  have hnp := nodeP_lt hs hp
  have hnq := nodeP_lt hs hq
  have h61 := nodes_61 hm
  have hlt := hm.lt
  have htm := hm.tm_in hnp hnq
  have HC1 := Lib.hid (fun (W' : World) (h : RoH B W' g sb nb A x s) => rnode_any hm W' h hs p hp)
  have HC2 := Lib.hid (fun (W' : World) (h : RoH B W' g sb nb A x s) => rnode_any hm W' h hs q hq)
  have HW0 : Hid (RoH B W.drew g sb nb A x s) := Lib.hid (hW.later (Below.refl _ _).drew)
  obtain ⟨b, o, rb, ro, rc, nn, hta, e1, hnn, e2, hbl, hrl⟩ := hW.inh.time_at hm hnp hnq
  have HST := Lib.hid (fun (W' : World) (h : RoH B W' g sb nb A x s) (h0 : 0 < p) => styI_place (w := W') hm hs h0 h.inh.ins hp)
  have HS0 := Lib.hid (styI_sat hs)
  have hpc : p ≤ x.cus.length := by omega
  have hnc := hm.nc
  have HTK : Hid (takeP x s p q = styI x (nodeP x s p) + tmI x (nodeP x s p) (nodeP x s q)) := Lib.hid rfl
  obtain ⟨tk, htk⟩ : ∃ z, takeP x s p q = z := ⟨_, rfl⟩
  obtain ⟨st, hst⟩ : ∃ z, styI x (nodeP x s p) = z := ⟨_, rfl⟩
  obtain ⟨z, hz⟩ : ∃ z, tmI x (nodeP x s p) (nodeP x s q) = z := ⟨_, rfl⟩
  obtain ⟨n1, hn1⟩ : ∃ n, nodeP x s p = n := ⟨_, rfl⟩
  obtain ⟨n2, hn2⟩ : ∃ n, nodeP x s q = n := ⟨_, rfl⟩
  rw [htk, hst, hz] at HTK
  rw [htk]
  rw [hz] at htm e2
  rw [hn1] at HC1 hnp hst hz HST e1
  rw [hn2] at HC2 hnq hz e2
  rw [hst] at HST
  have HSZ : Hid (p = 0 → st = 0) := Lib.hid (fun e => by subst e; rw [← hst, ← hn1]; exact HS0.out)
  have i1 : (0 : Int) ≤ (n1 : Int) := by omega
  have i2 : (n1 : Int) < (x.time.length : Int) := by omega
  have k1 : (0 : Int) ≤ (n2 : Int) := by omega
  have k2 : (n2 : Int) < (nn : Int) := by omega
  clear hW hm hs hp hq hlt hnp hnq hst hz hn1 hn2 htk h61 HS0 hnn
  rw [show (#[.int .i64 (p : Int), .int .i64 (q : Int)] ++ #[.pointer (some ⟨g, 0, none⟩), .pointer (some ⟨nb, 0, none⟩)] : Array Value) = #[.int .i64 (p : Int), .int .i64 (q : Int), .pointer (some ⟨g, 0, none⟩), .pointer (some ⟨nb, 0, none⟩)] from rfl]
  go_enter Try.func43, Try.ntmps43
  go_wp2_with fail
  have E1 := Lib.hid (show ∀ Wz, Below W.heap.size W Wz → Wz.cell? ⟨b, o + n1, none⟩ = some (.slice (some ⟨rb, ro, none⟩) nn rc) from fun Wz h => (h.cell (p := ⟨b, o + n1, none⟩) hbl).trans e1)
  have E2 := Lib.hid (show ∀ Wz, Below W.heap.size W Wz → Wz.cell? ⟨rb, ro + n2, none⟩ = some (.int .i64 z) from fun Wz h => (h.cell (p := ⟨rb, ro + n2, none⟩) hrl).trans e2)
  have HTA := Lib.hid hta
  clear e1 e2 hbl hrl hta
  refine wp_region_held_drew (S := fun Wz => RoH B Wz g sb nb A x s ∧ Below W.heap.size W Wz) (by kernel_rfl) ⟨HW0.out, (Below.refl _ _).drew⟩ (fun hHeld => ?_)
  refine wpAnyH_take (i := 0) (v := ?_) rfl (by kernel_rfl) (by kernel_rfl) (by kernel_rfl) (fun _ _ _ h => h) (Or.inl ⟨by rfl, ?_⟩) hHeld ?_
  rotate_left
  · intro Wz hWz; obtain ⟨hW1, hW2, hW3, hW4⟩ := RoH.cells hWz.1; rw [HTA.out] at hW1; have hW5 := E1.out Wz hWz.2; have hW6 := E2.out Wz hWz.2; go_simp; (try with_reducible rfl)
  try simp only [Act.put, List.setIfInBounds_toArray, List.set_cons_zero, List.set_cons_succ, List.getElem_toArray, List.getElem_cons_zero]
  refine wpAnyH_take (i := 1) (v := ?_) rfl (by kernel_rfl) (by kernel_rfl) (by kernel_rfl) (fun _ _ _ h => h) (Or.inl ⟨by rfl, ?_⟩) hHeld ?_
  rotate_left
  · intro Wz hWz; obtain ⟨hW1, hW2, hW3, hW4⟩ := RoH.cells hWz.1; rw [HTA.out] at hW1; have hW5 := E1.out Wz hWz.2; have hW6 := E2.out Wz hWz.2; go_simp; (try with_reducible rfl)
  try simp only [Act.put, List.setIfInBounds_toArray, List.set_cons_zero, List.set_cons_succ, List.getElem_toArray, List.getElem_cons_zero, List.getElem_cons_succ]
  refine wpAnyH_take (i := 2) (v := ?_) rfl (by kernel_rfl) (by kernel_rfl) (by kernel_rfl) (fun _ _ _ h => h) (Or.inl ⟨by rfl, ?_⟩) hHeld ?_
  rotate_left
  · intro Wz hWz; obtain ⟨hW1, hW2, hW3, hW4⟩ := RoH.cells hWz.1; rw [HTA.out] at hW1; have hW5 := E1.out Wz hWz.2; have hW6 := E2.out Wz hWz.2; go_simp; (try with_reducible rfl)
  try simp only [Act.put, List.setIfInBounds_toArray, List.set_cons_zero, List.set_cons_succ, List.getElem_toArray, List.getElem_cons_zero, List.getElem_cons_succ]
  refine wpAnyH_take (i := 3) (v := ?_) rfl (by kernel_rfl) (by kernel_rfl) (by kernel_rfl) (fun _ _ _ h => h) (Or.inl ⟨by rfl, ?_⟩) hHeld ?_
  rotate_left
  · intro Wz hWz; obtain ⟨hW1, hW2, hW3, hW4⟩ := RoH.cells hWz.1; rw [HTA.out] at hW1; have hW5 := E1.out Wz hWz.2; have hW6 := E2.out Wz hWz.2; go_simp; (try with_reducible rfl)
  try simp only [Act.put, List.setIfInBounds_toArray, List.set_cons_zero, List.set_cons_succ, List.getElem_toArray, List.getElem_cons_zero, List.getElem_cons_succ]
  refine wpAnyH_take (i := 7) (v := ?_) rfl (by kernel_rfl) (by kernel_rfl) (by kernel_rfl) (fun _ _ _ h => h) (Or.inl ⟨by rfl, ?_⟩) hHeld ?_
  rotate_left
  · intro Wz hWz; obtain ⟨hW1, hW2, hW3, hW4⟩ := RoH.cells hWz.1; rw [HTA.out] at hW1; have hW5 := E1.out Wz hWz.2; have hW6 := E2.out Wz hWz.2; go_simp; (try with_reducible rfl)
  try simp only [Act.put, List.setIfInBounds_toArray, List.set_cons_zero, List.set_cons_succ, List.getElem_toArray, List.getElem_cons_zero, List.getElem_cons_succ]
  refine wpAnyH_take (i := 8) (v := ?_) rfl (by kernel_rfl) (by kernel_rfl) (by kernel_rfl) (fun _ _ _ h => h) (Or.inl ⟨by rfl, ?_⟩) hHeld ?_
  rotate_left
  · intro Wz hWz; obtain ⟨hW1, hW2, hW3, hW4⟩ := RoH.cells hWz.1; rw [HTA.out] at hW1; have hW5 := E1.out Wz hWz.2; have hW6 := E2.out Wz hWz.2; go_simp; (try with_reducible rfl)
  try simp only [Act.put, List.setIfInBounds_toArray, List.set_cons_zero, List.set_cons_succ, List.getElem_toArray, List.getElem_cons_zero, List.getElem_cons_succ]
  refine wpAnyH_ready (rs := [4]) (by kernel_rfl) (by simp) ?_
  refine AllReadyH.cons rfl (fun K hK => ?_) AllReadyH.nil
  go_simp
  refine (HC1.out _ hHeld.1).mono ?_
  rintro e w3 ⟨rfl, hbw3⟩
  have hdw3 : RoH B w3 g sb nb A x s ∧ Below W.heap.size W w3 := ⟨hHeld.1.later hbw3, hHeld.2.trans (hbw3.mono hHeld.2.size)⟩
  clear hbw3
  refine hK.out _ _ ?_ (fun hHeld => ?_)
  · exact hdw3
  clear hK K
  try simp only [Act.put, List.setIfInBounds_toArray, List.set_cons_zero, List.set_cons_succ, List.getElem_toArray, List.getElem_cons_zero, List.getElem_cons_succ]
  refine wpAnyH_take (i := 5) (v := ?_) rfl (by kernel_rfl) (by kernel_rfl) (by kernel_rfl) (fun _ _ _ h => h) (Or.inl ⟨by rfl, ?_⟩) hHeld ?_
  rotate_left
  · intro Wz hWz; obtain ⟨hW1, hW2, hW3, hW4⟩ := RoH.cells hWz.1; rw [HTA.out] at hW1; have hW5 := E1.out Wz hWz.2; have hW6 := E2.out Wz hWz.2; go_simp; (try with_reducible rfl)
  try simp only [Act.put, List.setIfInBounds_toArray, List.set_cons_zero, List.set_cons_succ, List.getElem_toArray, List.getElem_cons_zero, List.getElem_cons_succ]
  refine wpAnyH_take (i := 6) (v := ?_) rfl (by kernel_rfl) (by kernel_rfl) (by kernel_rfl) (fun _ _ _ h => h) (Or.inl ⟨by rfl, ?_⟩) hHeld ?_
  rotate_left
  · intro Wz hWz; obtain ⟨hW1, hW2, hW3, hW4⟩ := RoH.cells hWz.1; rw [HTA.out] at hW1; have hW5 := E1.out Wz hWz.2; have hW6 := E2.out Wz hWz.2; go_simp; (try with_reducible rfl)
  try simp only [Act.put, List.setIfInBounds_toArray, List.set_cons_zero, List.set_cons_succ, List.getElem_toArray, List.getElem_cons_zero, List.getElem_cons_succ]
  refine wpAnyH_ready (rs := [9]) (by kernel_rfl) (by simp) ?_
  refine AllReadyH.cons rfl (fun K hK => ?_) AllReadyH.nil
  go_simp
  refine (HC2.out _ hHeld.1).mono ?_
  rintro e w4 ⟨rfl, hbw4⟩
  have hdw4 : RoH B w4 g sb nb A x s ∧ Below W.heap.size W w4 := ⟨hHeld.1.later hbw4, hHeld.2.trans (hbw4.mono hHeld.2.size)⟩
  clear hbw4
  refine hK.out _ _ ?_ (fun hHeld => ?_)
  · exact hdw4
  clear hK K
  try simp only [Act.put, List.setIfInBounds_toArray, List.set_cons_zero, List.set_cons_succ, List.getElem_toArray, List.getElem_cons_zero, List.getElem_cons_succ]
  refine wpAnyH_take (i := 10) (v := ?_) rfl (by kernel_rfl) (by kernel_rfl) (by kernel_rfl) (fun _ _ _ h => h) (Or.inl ⟨by rfl, ?_⟩) hHeld ?_
  rotate_left
  · intro Wz hWz; obtain ⟨hW1, hW2, hW3, hW4⟩ := RoH.cells hWz.1; rw [HTA.out] at hW1; have hW5 := E1.out Wz hWz.2; have hW6 := E2.out Wz hWz.2; go_simp; (try with_reducible rfl)
  try simp only [Act.put, List.setIfInBounds_toArray, List.set_cons_zero, List.set_cons_succ, List.getElem_toArray, List.getElem_cons_zero, List.getElem_cons_succ]
  refine wpAnyH_take (i := 11) (v := ?_) rfl (by kernel_rfl) (by kernel_rfl) (by kernel_rfl) (fun _ _ _ h => h) (Or.inl ⟨by rfl, ?_⟩) hHeld ?_
  rotate_left
  · intro Wz hWz; obtain ⟨hW1, hW2, hW3, hW4⟩ := RoH.cells hWz.1; rw [HTA.out] at hW1; have hW5 := E1.out Wz hWz.2; have hW6 := E2.out Wz hWz.2; go_simp; (try with_reducible rfl)
  try simp only [Act.put, List.setIfInBounds_toArray, List.set_cons_zero, List.set_cons_succ, List.getElem_toArray, List.getElem_cons_zero, List.getElem_cons_succ]
  refine wpAnyH_take (i := 12) (v := ?_) rfl (by kernel_rfl) (by kernel_rfl) (by kernel_rfl) (fun _ _ _ h => h) (Or.inl ⟨by rfl, ?_⟩) hHeld ?_
  rotate_left
  · intro Wz hWz; obtain ⟨hW1, hW2, hW3, hW4⟩ := RoH.cells hWz.1; rw [HTA.out] at hW1; have hW5 := E1.out Wz hWz.2; have hW6 := E2.out Wz hWz.2; go_simp; (try with_reducible rfl)
  try simp only [Act.put, List.setIfInBounds_toArray, List.set_cons_zero, List.set_cons_succ, List.getElem_toArray, List.getElem_cons_zero, List.getElem_cons_succ]
  refine wpAnyH_done (by kernel_rfl) ?_ _
  clear hHeld HC1 HC2 HW0 E1 E2 HTA hdw3
  obtain ⟨hR, hB⟩ := hdw4
  by_cases h0 : 0 < p
  · obtain ⟨b2, o2, y, hca, y1, hy, y2, y3⟩ := HST.out w4 hR h0
    subst hy
    obtain ⟨_, c6, _, _⟩ := hR.cells
    rw [hca] at c6
    obtain ⟨p0, hp0⟩ : ∃ p0, p = p0 + 1 := ⟨p - 1, by omega⟩
    subst hp0
    rw [show p0 + 1 - 1 = p0 from rfl] at y1
    have hp1 : (((p0 + 1 : Nat) : Int)) = (p0 : Int) + 1 := by omega
    have hpb : decide (0 < (p0 : Int) + 1) = true := decide_eq_true (by omega)
    have p1 : (0 : Int) ≤ (p0 : Int) := by omega
    have p2 : (p0 : Int) < (x.cus.length : Int) := by omega
    have HB4 := Lib.hid hB
    have HV : Hid (z + st = tk) := Lib.hid (by rw [HTK.out, Int.add_comm])
    clear hR hB h0 hca HST HTK HSZ
    rw [hp1]
    go_wp2_with fail
    go_ret
    exact ⟨by rw [← HV.out]; rfl, HB4.out⟩
  · obtain rfl : p = 0 := by omega
    have hs0 := HSZ.out rfl
    subst hs0
    have hz : tk = z := (by rw [HTK.out]; simp)
    subst hz
    clear HTK HST
    go_wp2_with fail
    go_ret
    exact ⟨rfl, hB⟩
end Go.Proofs.Ytchdpapaojkbhaa
end

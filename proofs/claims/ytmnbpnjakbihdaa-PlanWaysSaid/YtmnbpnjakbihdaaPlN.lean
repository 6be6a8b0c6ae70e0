/- Package plan: Nodes, of a bike and of a truck; Way. -/
import Derived.Test.YtmnbpnjakbihdaaPlW
import Derived.Test.YtmnbpnjakbihdaaOwn
import Derived.Test.YtmnbpnjakbihdaaISat
namespace Go.Proofs.Ytmnbpnjakbihdaa
open Go.RowKit

variable {w wr w2 w4 : World} {A : InA} {x : Ins} {B n g g' cap' N k : Nat} {C : Array Value} {T : TypeId} {lv : Value} {xs : List Int} {t : Int} {o : Obj}
theorem CBox.kept {S : Nat → Prop} (h : CBox w wr g C T) (hm : Mod S wr w2) (hS : ∀ k, S k → w.heap.size ≤ k) (hg : ¬ S g) : CBox w w2 g C T :=
  ⟨((Mod.of_below S h.below).trans hm).below (Nat.le_refl _) hS, h.ge, (hm.block g h.lt hg).trans h.blk⟩
/-- The instance's box, and a row of nodes of the call's own. -/
structure NW (w wr : World) (A : InA) (x : Ins) (lv : Value) (xs : List Int) : Prop where
  box : CBox w wr (w.heap.size + 1) (insC A x) 37
  row : wr.ownsRow (w.heap.size + 2) 3 1 lv xs.length (numsV xs)
theorem NW.later (h : NW w wr A x lv xs) (hb : Below wr.heap.size wr w2) : NW w w2 A x lv xs := ⟨h.box.later hb, owns_below h.row hb⟩
theorem NW.push (h : NW w wr A x lv xs) (hown : w4.ownsRow (w.heap.size + 2) 3 1 (.slice (some ⟨g', 0, none⟩) (xs.length + 1) cap') (xs.length + 1) (numsV xs ++ [.int .i64 t])) (hgrow : (wr.alloc o).grownBy w4 lv.ownBlock) :
    NW w w4 A x (.slice (some ⟨g', 0, none⟩) (xs.length + 1) cap') (xs ++ [t]) := by
  have hm : Mod (fun k => lv.ownBlock = some k) wr w4 := ((Mod.refl _ wr).alloc o).grown hgrow (fun k hk => .inr hk)
  have hC : ∀ k, lv.ownBlock = some k → w.heap.size + 2 ≤ k := fun k hk => (World.ownsRow.lt h.row k hk).1
  refine ⟨h.box.kept hm (fun k hk => by have := hC k hk; omega) (fun e => by have := hC _ e; omega), ?_⟩
  rw [numsV_snoc, List.length_append]
  exact hown
theorem infoIntPl : (Try.prog.info? 3).map (fun i => (i.zero, i.size, i.bytes)) = some (some (.int .i64 0), 1, 8) := by kernel_rfl
theorem one_owned (w : World) (B : Nat) (hB : B ≤ w.heap.size) (z : Int) : (w.alloc (.cells #[.int .i64 z] 3)).ownsRow B 3 1 (.slice (some ⟨w.heap.size, 0, none⟩) 1 1) 1 (numsV [z]) := by
  have := World.ownsRow_lit (base := B) (e := 3) (size := 1) w #[.int .i64 z] 1 hB (by decide) rfl
  simpa [numsV] using this
/-- A bike's nodes; a truck's. -/
def cusZ (x : Ins) (c : Int) : Int := wrap64 (1 + (x.sats.length : Int) + c)
def satZ (s : Int) : Int := wrap64 (1 + s)
def bikeN (x : Ins) (s : Int) (l : List Int) : List Int := satZ s :: l.map (cusZ x)
def truckN (t : List (Int × Int)) : List Int := 0 :: t.map (fun z => satZ z.1)
theorem bikeN_next {s : Int} {l : List Int} {c : Int} (h : l[k]? = some c) : bikeN x s (l.take (k + 1)) = bikeN x s (l.take k) ++ [cusZ x c] := by
  unfold bikeN
  rw [take_map_snoc h]; rfl
theorem truckN_next {l : List (Int × Int)} {c : Int × Int} (h : l[k]? = some c) : truckN (l.take (k + 1)) = truckN (l.take k) ++ [satZ c.1] := by
  unfold truckN
  rw [take_map_snoc (f := fun z : Int × Int => satZ z.1) h]; rfl
theorem bikeN_len {s : Int} {l : List Int} : (bikeN x s l).length = l.length + 1 := by simp [bikeN]
theorem truckN_len {l : List (Int × Int)} : (truckN l).length = l.length + 1 := by simp [truckN]
set_option maxHeartbeats 4000000 in
set_option maxRecDepth 100000 in
theorem bnodes_any (A : InA) (x : Ins) (s : Int) (ra : Option Addr) (rc : Nat) (l : List Int) (w : World) (hi : IsNums w.heap.size w ra l.length l) (hl : l.length ≤ 1000) (hs : x.sats.length ≤ 1000) :
    Calls Try.prog 21 #[.agg #[.int .i64 s, .slice ra l.length rc], .agg (insC A x)] w fun e w' => ∃ v, e = .returned v ∧ w'.ownsRow w.heap.size 3 1 v (bikeN x s l).length (numsV (bikeN x s l)) ∧ Below w.heap.size w w' := by
  obtain ⟨i0, hi0, hz0, hz1, hz2⟩ := info_parts infoIntPl
  have HQ := Lib.hid (CBox.make (Below.refl _ w) #[.int .i64 s, .slice ra l.length rc] 55)
  have HX0 := Lib.hid (CBox.make HQ.out.below (insC A x) 37)
  have HQ0 := Lib.hid (HQ.out.alloc (.cells (insC A x) 37))
  clear HQ
  have HI := Lib.hid hi
  obtain ⟨n, hn⟩ : ∃ n, l.length = n := ⟨_, rfl⟩
  rw [hn] at HX0 HQ0 HI hl ⊢
  have HN := Lib.hid hn
  clear hi hn
  have hsz : (w.alloc (.cells #[.int .i64 s, .slice ra n rc] 55)).heap.size = w.heap.size + 1 := by simp
  rw [hsz] at HX0
  clear hsz
  obtain ⟨c0, c1⟩ := HQ0.out.cell2
  obtain ⟨d0, d1, d2, d3, d4, d5, d6, d7, d8⟩ := CBox.inst (A := A) (x := x) HX0.out
  have HSA := Lib.hid (fun W => sat_any A x s W)
  unfold insC at *
  go_enter Try.func21, Try.ntmps21
  go_upto_region 2 with (go_at_call 45; refine (HSA.out _).mono ?_; rintro e w1 ⟨rfl, hb1⟩; have HX1 := Lib.hid (HX0.out.later hb1); have HQ1 := Lib.hid (HQ0.out.later hb1); clear hb1)
  clear c0 c1 d0 d1 d2 d3 d4 d5 d6 d7 d8 HX0 HQ0
  have HW1 : Hid (NW w (w1.alloc (.cells #[.int .i64 (wrap64 (1 + s))] 3)) A x (.slice (some ⟨w1.heap.size, 0, none⟩) 1 1) (bikeN x s (l.take 0))) := Lib.hid ⟨HX1.out.alloc _, by
    have hw1 : w.heap.size + 2 ≤ w1.heap.size := by have := HX1.out.lt; omega
    exact one_owned w1 _ hw1 _⟩
  have HQ2 := Lib.hid (HQ1.out.alloc (.cells #[.int .i64 (wrap64 (1 + s))] 3))
  obtain ⟨c0, c1⟩ := HQ2.out.cell2
  go_wp2_with fail
  clear c0 c1 HQ1 HQ2 HX1
  go_loopw [5, 16] (fun lv iv wr => ∃ i : Nat, iv = .int .i64 (i : Int) ∧ i ≤ n ∧ Hid (NW w wr A x lv (bikeN x s (l.take i)))) (fun _ iv _ => n - (intOf iv).toNat)
  case atStart => exact ⟨0, rfl, Nat.zero_le _, HW1⟩
  case round =>
    obtain ⟨i, rfl, hi, HWR⟩ := hrel
    clear HW1
    by_cases hlt : i < n
    · obtain ⟨b, off, c, rfl, hg, q0⟩ := (HI.out.later HWR.out.box.below).at_ hlt
      have HE := Lib.hid (bikeN_next (x := x) (s := s) hg)
      have hbl : (bikeN x s (l.take i)).length = i + 1 := by rw [bikeN_len, List.length_take, HN.out]; omega
      obtain ⟨d0, d1, d2, d3, d4, d5, d6, d7, d8⟩ := CBox.inst (A := A) (x := x) HWR.out.box
      have HCU := Lib.hid (fun W => customer_any A x c W hs)
      obtain ⟨la, lc, hv⟩ := owns_shape HWR.out.row
      subst hv
      rw [hbl]
      have HBL := Lib.hid hbl
      have HZ : Hid (w.heap.size + 2 ≤ wr.heap.size) := Lib.hid (by have := HWR.out.box.lt; omega)
      obtain ⟨z, hz⟩ : ∃ z, wrap64 (1 + (x.sats.length : Int) + c) = z := ⟨_, rfl⟩
      have HE2 : Hid (bikeN x s (l.take (i + 1)) = bikeN x s (l.take i) ++ [z]) := Lib.hid (by rw [HE.out, ← hz]; rfl)
      rw [hz] at HCU
      clear hg hz hbl HE
      unfold insC at HCU
      go_wp2_with (first
        | (go_at_call 46; refine (HCU.out _).mono ?_; rintro e w5 ⟨rfl, hb5⟩; have HW5 := Lib.hid (HWR.out.later hb5); have HZ5 : Hid (w.heap.size + 2 ≤ w5.heap.size) := Lib.hid (Nat.le_trans HZ.out hb5.size); clear hb5)
        | (at_builtin; refine wpList_append_fresh rfl (.tmp 20) (.tmp 24) 53 rfl (w.heap.size + 2) 3 i0 _ 1 8 Try.underlying53 hi0 hz0 hz1 hz2 (by decide) (.slice la (i + 1) lc) (i + 1) (numsV (bikeN x s (l.take i))) rfl (by have := HW5.out.row.alloc (.cells #[.int .i64 z] 3); rwa [HBL.out] at this) ⟨w5.heap.size, 0, none⟩ 1 [.int .i64 z] rfl rfl (news_at _ _ _ _ rfl) (one_int _) (by unfold maxLen; omega) (by omega) (by have := HZ5.out; simp; omega) ?_; intro g' cap' w6 hown hgrow hfr; have HP := Lib.hid (HW5.out.push (by rw [HBL.out]; exact hown) (by rw [HBL.out]; exact hgrow)); clear hown hgrow hfr))
      rw [HBL.out] at HP
      go_roundw
      case rel => exact ⟨i + 1, by go_num, by omega, by rw [HE2.out]; exact HP⟩
      case measure => simp [intOf]; omega
    · obtain rfl : n = i := by omega
      have HT : Hid (l.take n = l) := Lib.hid (by rw [List.take_of_length_le (by rw [HN.out]; exact Nat.le_refl _)])
      go_wp2_with fail
      go_ret
      exact ⟨_, rfl, by have := owns_rebase HWR.out.row (show w.heap.size ≤ w.heap.size + 2 by omega); rwa [HT.out] at this, HWR.out.box.below⟩
set_option maxHeartbeats 4000000 in
set_option maxRecDepth 100000 in
theorem tnodes_any (A : InA) (x : Ins) (ra : Option Addr) (rc : Nat) (l : List (Int × Int)) (w : World) (hi : IsPairs w.heap.size w ra l.length l) (hl : l.length ≤ 1000) :
    Calls Try.prog 22 #[.agg #[.slice ra l.length rc], .agg (insC A x)] w fun e w' => ∃ v, e = .returned v ∧ w'.ownsRow w.heap.size 3 1 v (truckN l).length (numsV (truckN l)) ∧ Below w.heap.size w w' := by
  obtain ⟨i0, hi0, hz0, hz1, hz2⟩ := info_parts infoIntPl
  have HQ := Lib.hid (CBox.make (Below.refl _ w) #[.slice ra l.length rc] 58)
  have HX0 := Lib.hid (CBox.make HQ.out.below (insC A x) 37)
  have HQ0 := Lib.hid (HQ.out.alloc (.cells (insC A x) 37))
  clear HQ
  have HI := Lib.hid hi
  obtain ⟨n, hn⟩ : ∃ n, l.length = n := ⟨_, rfl⟩
  rw [hn] at HX0 HQ0 HI hl ⊢
  have HN := Lib.hid hn
  clear hi hn
  have hsz : (w.alloc (.cells #[.slice ra n rc] 58)).heap.size = w.heap.size + 1 := by simp
  rw [hsz] at HX0
  clear hsz
  unfold insC at *
  obtain ⟨W0, hW0⟩ : ∃ W0, ((w.alloc (.cells #[.slice ra n rc] 58)).alloc (.cells (insC A x) 37)) = W0 := ⟨_, rfl⟩
  unfold insC at hW0
  go_enter Try.func22, Try.ntmps22
  go_upto_region 1 with fail
  rw [hW0] at HX0 HQ0
  clear hW0
  have HW1 : Hid (NW w (W0.alloc (.cells #[.int .i64 0] 3)) A x (.slice (some ⟨W0.heap.size, 0, none⟩) 1 1) (truckN (l.take 0))) := Lib.hid ⟨HX0.out.alloc _, by
    have hw1 : w.heap.size + 2 ≤ W0.heap.size := by have := HX0.out.lt; omega
    exact one_owned W0 _ hw1 _⟩
  have HQ2 := Lib.hid (HQ0.out.alloc (.cells #[.int .i64 0] 3))
  have c0 := HQ2.out.cell1
  go_wp2_with fail
  clear c0 HQ0 HQ2 HX0
  go_loopw [5, 12] (fun lv iv wr => ∃ i : Nat, iv = .int .i64 (i : Int) ∧ i ≤ n ∧ Hid (NW w wr A x lv (truckN (l.take i)))) (fun _ iv _ => n - (intOf iv).toNat)
  case atStart => exact ⟨0, rfl, Nat.zero_le _, HW1⟩
  case round =>
    obtain ⟨i, rfl, hi, HWR⟩ := hrel
    clear HW1
    by_cases hlt : i < n
    · obtain ⟨b, off, c, rfl, hb, hg, q0, q1⟩ := (HI.out.later HWR.out.box.below).at_ hlt
      have HE := Lib.hid (truckN_next hg)
      have hbl : (truckN (l.take i)).length = i + 1 := by rw [truckN_len, List.length_take, HN.out]; omega
      have HWA := Lib.hid (HWR.out.later ((Below.refl wr.heap.size wr).alloc (Nat.le_refl _) (.cells #[.int .i64 c.1, .int .i64 c.2] 63)))
      obtain ⟨d0, d1, d2, d3, d4, d5, d6, d7, d8⟩ := CBox.inst (A := A) (x := x) HWA.out.box
      have HCU := Lib.hid (fun W => sat_any A x c.1 W)
      obtain ⟨la, lc, hv⟩ := owns_shape HWR.out.row
      subst hv
      rw [hbl]
      have HBL := Lib.hid hbl
      have HZ : Hid (w.heap.size + 2 ≤ wr.heap.size) := Lib.hid (by have := HWR.out.box.lt; omega)
      obtain ⟨z, hz⟩ : ∃ z, wrap64 (1 + c.1) = z := ⟨_, rfl⟩
      have HE2 : Hid (truckN (l.take (i + 1)) = truckN (l.take i) ++ [z]) := Lib.hid (by rw [HE.out, ← hz]; rfl)
      rw [hz] at HCU
      clear hg hz hbl HE
      unfold insC at HCU
      go_wp2_with (first
        | (go_at_call 45; refine (HCU.out _).mono ?_; rintro e w5 ⟨rfl, hb5⟩; have HW5 := Lib.hid (HWA.out.later hb5); have HZ5 : Hid (w.heap.size + 2 ≤ w5.heap.size) := Lib.hid (by have := hb5.size; have := HZ.out; simp at *; omega); clear hb5)
        | (at_builtin; refine wpList_append_fresh rfl (.tmp 16) (.tmp 21) 53 rfl (w.heap.size + 2) 3 i0 _ 1 8 Try.underlying53 hi0 hz0 hz1 hz2 (by decide) (.slice la (i + 1) lc) (i + 1) (numsV (truckN (l.take i))) rfl (by have := HW5.out.row.alloc (.cells #[.int .i64 z] 3); rwa [HBL.out] at this) ⟨w5.heap.size, 0, none⟩ 1 [.int .i64 z] rfl rfl (news_at _ _ _ _ rfl) (one_int _) (by unfold maxLen; omega) (by omega) (by have := HZ5.out; simp; omega) ?_; intro g' cap' w6 hown hgrow hfr; have HP := Lib.hid (HW5.out.push (by rw [HBL.out]; exact hown) (by rw [HBL.out]; exact hgrow)); clear hown hgrow hfr))
      rw [HBL.out] at HP
      go_roundw
      case rel => exact ⟨i + 1, by go_num, by omega, by rw [HE2.out]; exact HP⟩
      case measure => simp [intOf]; omega
    · obtain rfl : n = i := by omega
      have HT : Hid (l.take n = l) := Lib.hid (by rw [List.take_of_length_le (by rw [HN.out]; exact Nat.le_refl _)])
      go_wp2_with fail
      go_ret
      exact ⟨_, rfl, by have := owns_rebase HWR.out.row (show w.heap.size ≤ w.heap.size + 2 by omega); rwa [HT.out] at this, HWR.out.box.below⟩
/-- Numbers of a row of the call's own are numbers that lie there. -/
theorem owns_nums {v : Value} {n : Nat} {l : List Int} (h : w.ownsRow B 3 1 v n (numsV l)) : ∃ a c, v = .slice a n c ∧ IsNums w.heap.size w a n l := by
  have hl : l.length = n := by have := h.1; simpa [numsV] using this
  by_cases h0 : n = 0
  · obtain ⟨a, c, rfl⟩ := owns_shape h
    exact ⟨a, c, rfl, hl, .inl h0⟩
  · obtain ⟨g, cap, rfl, _, hg, _⟩ := owns_some h (by omega)
    exact ⟨_, cap, rfl, hl, .inr ⟨g, 0, rfl, hg, fun j x hj => by rw [Nat.zero_add]; exact nums_cell h hj⟩⟩
/-- What Way tells. -/
def wayV (x : Ins) (l : List Int) : Int := if l.all (fun c => amB c x.nodes) = true then wayS x l else 0
theorem wayV_ok {l : List Int} (h : ∀ c ∈ l, amB c x.nodes = true) : wayV x l = wayS x l := by
  unfold wayV
  rw [if_pos (List.all_eq_true.2 h)]
theorem wayV_no {l : List Int} {c : Int} (hc : c ∈ l) (h : amB c x.nodes = false) : wayV x l = 0 := by
  unfold wayV
  rw [if_neg (fun e => by have := List.all_eq_true.1 e c hc; rw [h] at this; cases this)]
set_option maxHeartbeats 4000000 in
set_option maxRecDepth 100000 in
theorem wayOf_bad (A : InA) (x : Ins) (ra : Option Addr) (n rc : Nat) (w : World) (hx : IsIns w.heap.size w A x) (hl3 : x.cost.length ≤ 9223372036854775807) (hl4 : x.time.length ≤ 9223372036854775807) (hne : instErr x ≠ 0) :
    Calls Try.prog 19 #[.agg (insC A x), .slice ra n rc] w fun e w' => e = .returned (.int .i64 0) ∧ Below w.heap.size w w' := by
  have HX0 := Lib.hid (CBox.make (Below.refl _ w) (insC A x) 37)
  obtain ⟨d0, d1, d2, d3, d4, d5, d6, d7, d8⟩ := CBox.inst (A := A) (x := x) HX0.out
  have HCK := Lib.hid (check_wide A x _ ((hx.later HX0.out.below).mono HX0.out.below.size) hl3 hl4)
  obtain ⟨u, hu⟩ : ∃ u, instErr x = u := ⟨_, rfl⟩
  rw [hu] at HCK hne
  have hnb : (u != 0) = true := by simpa using hne
  clear hu hx
  unfold insC at *
  go_enter Try.func19, Try.ntmps19
  go_wp2_with (go_at_call 28; refine HCK.out.mono ?_; rintro e w1 ⟨rfl, hb1⟩; have HX1 := Lib.hid (HX0.out.later hb1); clear hb1)
  go_ret
  exact ⟨rfl, HX1.out.below⟩
set_option maxHeartbeats 4000000 in
set_option maxRecDepth 100000 in
theorem wayOf_ok (A : InA) (x : Ins) (ra : Option Addr) (n rc : Nat) (l : List Int) (w : World) (hx : IsIns w.heap.size w A x) (hm : May x) (hl : IsNums w.heap.size w ra n l) (hn : n ≤ 1000) :
    Calls Try.prog 19 #[.agg (insC A x), .slice ra n rc] w fun e w' => e = .returned (.int .i64 (wayV x l)) ∧ Below w.heap.size w w' := by
  have HX0 := Lib.hid (CBox.make (Below.refl _ w) (insC A x) 37)
  obtain ⟨d0, d1, d2, d3, d4, d5, d6, d7, d8⟩ := CBox.inst (A := A) (x := x) HX0.out
  have HCK := Lib.hid (check_wide A x _ ((hx.later HX0.out.below).mono HX0.out.below.size) (by have := hm.lc; have := nodes_61 hm; omega) (by have := hm.lt; have := nodes_61 hm; omega))
  rw [hm.err] at HCK
  have HI := Lib.hid hx
  have HM := Lib.hid hm
  have HL := Lib.hid hl
  have HLN := Lib.hid hl.1
  have hns := hm.ns
  have hnc := hm.nc
  obtain ⟨N, hNN⟩ : ∃ N, x.nodes = N := ⟨_, rfl⟩
  have HNN := Lib.hid hNN
  have HND := Lib.hid (fun W => nodesN A x N hNN W (by omega))
  have HIN0 : Hid (∀ (j : Nat) (c : Int), j < 0 → l[j]? = some c → amB c N = true) := Lib.hid (fun j c h => by omega)
  clear hx hm hl hNN
  unfold insC at *
  go_enter Try.func19, Try.ntmps19
  go_wp2_with (go_at_call 28; refine HCK.out.mono ?_; rintro e w1 ⟨rfl, hb1⟩; have HX1 := Lib.hid (HX0.out.later hb1); clear hb1)
  clear d0 d1 d2 d3 d4 d5 d6 d7 d8 HX0 HCK
  go_loopw [12] (fun iv wr => ∃ i : Nat, iv = .int .i64 (i : Int) ∧ i ≤ n ∧ Hid (∀ (j : Nat) (c : Int), j < i → l[j]? = some c → amB c N = true) ∧ Hid (CBox w wr w.heap.size (insC A x) 37)) (fun iv _ => n - (intOf iv).toNat)
  case atStart => exact ⟨0, rfl, Nat.zero_le _, HIN0, HX1⟩
  case round =>
    obtain ⟨i, rfl, hi, HIN, HXR⟩ := hrel
    clear HX1 HIN0
    obtain ⟨d0, d1, d2, d3, d4, d5, d6, d7, d8⟩ := CBox.inst (A := A) (x := x) HXR.out
    by_cases hlt : i < n
    · obtain ⟨b, off, c, rfl, hg, q0⟩ := (HL.out.later HXR.out.below).at_ hlt
      have HG := Lib.hid hg
      clear hg
      cases ham : amB c N with
      | false =>
        have HE : Hid (wayV x l = 0) := Lib.hid (wayV_no (List.mem_of_getElem? HG.out) (by rw [HNN.out]; exact ham))
        go_wp2_with (first
          | (go_at_call 44; refine (HND.out _).mono ?_; rintro e w2 ⟨rfl, hb2⟩; have HX2 := Lib.hid (HXR.out.later hb2); clear hb2)
          | (go_at_call 43; refine (among_any _ _ false _ ham).mono ?_; rintro e w3 ⟨rfl, rfl⟩))
        go_ret
        exact ⟨by rw [HE.out]; rfl, HX2.out.below⟩
      | true =>
        have HIN2 := Lib.hid (all_next (q := fun c : Int => amB c N = true) HIN.out HG.out ham)
        go_wp2_with (first
          | (go_at_call 44; refine (HND.out _).mono ?_; rintro e w2 ⟨rfl, hb2⟩; have HX2 := Lib.hid (HXR.out.later hb2); clear hb2)
          | (go_at_call 43; refine (among_any _ _ true _ ham).mono ?_; rintro e w3 ⟨rfl, rfl⟩))
        go_roundw
        case rel => exact ⟨i + 1, by go_num, by omega, HIN2, HX2⟩
        case measure => simp [intOf]; omega
    · obtain rfl : n = i := by omega
      have HALL : Hid (∀ c ∈ l, amB c x.nodes = true) := Lib.hid (by rw [HNN.out]; exact all_all (q := fun c : Int => amB c N = true) HIN.out (by rw [HLN.out]; exact Nat.le_refl _))
      have HE : Hid (wayV x l = wayS x l) := Lib.hid (wayV_ok HALL.out)
      have HWY := Lib.hid (way_any A x ra n rc l wr ((HI.out.later HXR.out.below).mono HXR.out.below.size) HM.out ((HL.out.later HXR.out.below).mono HXR.out.below.size) hn HALL.out)
      unfold insC at HWY
      go_wp2_with (go_at_call 35; refine HWY.out.mono ?_; rintro e w2 ⟨rfl, hb2⟩; have HX2 := Lib.hid (HXR.out.later hb2); clear hb2)
      go_ret
      exact ⟨by rw [HE.out]; rfl, HX2.out.below⟩
end Go.Proofs.Ytmnbpnjakbihdaa

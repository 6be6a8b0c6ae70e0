/- The law's own text of an instance, in lines. -/
import Derived.Test.YtnnddmojcaicbaaDoorTellsL
import Derived.Test.YtnnddmojcaicbaaDoorIPick
import Derived.Deep.RegionHeld3
import Derived.Deep.CutRange
namespace Go.Proofs.YtnnddmojcaicbaaDoor
open Go.RowKit
open Go.Lib (itoa)

variable {w wr w2 : World} {A : InA} {x : Ins} {i k g B : Nat}
/-- The lines so far. -/
def LinesTo (y : ByteArray) (L : List (List (List UInt8))) : Prop := y = ⟨(L.flatMap lineW).toArray⟩
theorem LinesTo.add {y z : ByteArray} {L : List (List (List UInt8))} {l : List (List UInt8)} (h : LinesTo y L) (hz : z = ⟨(lineW l).toArray⟩) : LinesTo (y ++ z) (L ++ [l]) := by
  unfold LinesTo at *
  subst h hz
  apply ByteArray.ext
  apply Array.ext'
  simp
theorem line_size (t : List UInt8) (l : List Int) (ht : t.length ≤ 10) (hl : l.length ≤ 2) (hv : ∀ v ∈ l, 0 ≤ v ∧ v ≤ 1000000000) : (⟨(lineW (t :: l.map itoa)).toArray⟩ : ByteArray).size ≤ 40 := by
  have h := line_len (t :: l.map itoa) (by
    intro u hu
    rcases List.mem_cons.1 hu with rfl | hu
    · exact ht
    · obtain ⟨v, hv2, rfl⟩ := List.mem_map.1 hu
      exact itoa_short (hv v hv2).1 (hv v hv2).2) (by simp)
  simp only [List.length_cons, List.length_map] at h
  simp only [ByteArray.size]
  simp
  omega
theorem nums_at (w : World) (z : Nat) (l : List Int) (c : Array Value) (hc : c = (l.map (Value.int .i64)).toArray) (hz : w.heap.size = z) : IsNums (w.alloc (.cells c 2)).heap.size (w.alloc (.cells c 2)) (some ⟨z, 0, none⟩) l.length l := by
  subst hz
  exact nums_new w l c hc
theorem words_size (l : List (List UInt8)) (m : Nat) (h : ∀ t ∈ l, t.length ≤ 10) (hm : l ≠ [] ∧ 11 * l.length ≤ m) : (⟨(lineW l).toArray⟩ : ByteArray).size ≤ m := by
  have h2 := line_len l h hm.1
  have h3 := hm.2
  simp only [ByteArray.size]
  simp
  omega
theorem cust_short (n : Nat) (h : n ≤ 48) : ∀ t ∈ [tCustomers, itoa (n : Int)], t.length ≤ 10 := by
  intro t ht
  rcases List.mem_cons.1 ht with rfl | ht
  · decide
  · obtain rfl := List.mem_singleton.1 ht
    exact itoa_short (by omega) (by omega)
theorem row_size (r : List Int) (h : r.length ≤ 61) (h1 : 1 ≤ r.length) (hv : ∀ v ∈ r, 0 ≤ v ∧ v ≤ 1000000000) : (⟨(lineW (rowW r)).toArray⟩ : ByteArray).size ≤ 671 := by
  refine words_size (rowW r) 671 (fun t ht => ?_) ⟨fun e => ?_, ?_⟩
  · unfold rowW at ht
    obtain ⟨v, hv2, rfl⟩ := List.mem_map.1 ht
    exact itoa_short (hv v hv2).1 (hv v hv2).2
  · have := congrArg List.length e
    simp [rowW] at this
    subst this
    simp at h1
  · simp only [rowW, List.length_map]
    omega
/-- Orders that come to the same are gone on with once. -/
theorem joinS0 {p : Prop} {F G : World → Prop} (h1 : (∀ v, F v → G v) → p) (h2 : ∀ v, F v → G v) : p := h1 h2
theorem joinS1 {p : Prop} {F G : World → Nat → Prop} (h1 : (∀ v g0, F v g0 → G v g0) → p) (h2 : ∀ v g0, F v g0 → G v g0) : p := h1 h2
theorem joinS2 {p : Prop} {F G : World → Nat → Nat → Prop} (h1 : (∀ v g0 g1, F v g0 g1 → G v g0 g1) → p) (h2 : ∀ v g0 g1, F v g0 g1 → G v g0 g1) : p := h1 h2
theorem joinS3 {p : Prop} {F G : World → Nat → Nat → Nat → Prop} (h1 : (∀ v g0 g1 g2, F v g0 g1 g2 → G v g0 g1 g2) → p) (h2 : ∀ v g0 g1 g2, F v g0 g1 g2 → G v g0 g1 g2) : p := h1 h2
theorem joinS4 {p : Prop} {F G : World → Nat → Nat → Nat → Nat → Prop} (h1 : (∀ v g0 g1 g2 g3, F v g0 g1 g2 g3 → G v g0 g1 g2 g3) → p) (h2 : ∀ v g0 g1 g2 g3, F v g0 g1 g2 g3 → G v g0 g1 g2 g3) : p := h1 h2
set_option maxHeartbeats 64000000 in
set_option maxRecDepth 100000 in
theorem tells_any (A : InA) (x : Ins) (w : World) (hi : IsIns w.heap.size w A x) (hm : May x) :
    Calls Tryd.prog 13 #[.agg (insC A x)] w fun e w' => e = .returned (.string ⟨(showB x).toArray⟩) ∧ Below w.heap.size w w' := by
  have HG := Lib.hid (XBox.make (Below.refl _ w) A x)
  have HI0 := Lib.hid (HG.out.pipesHere hi)
  have HIW := Lib.hid hi
  have rok : ∀ {L : List (List Int)}, (∀ (k : Nat) (u : List Int), L[k]? = some u → u.length = x.nodes ∧ rowG k u) → ∀ (k : Nat) (u : List Int), L[k]? = some u → u.length ≤ 61 ∧ 1 ≤ u.length ∧ ∀ v ∈ u, 0 ≤ v ∧ v ≤ 1000000000 := fun hL k u hk => by
    obtain ⟨h1, h2⟩ := hL k u hk
    have h3 := nodes_61 hm
    refine ⟨by omega, by rw [h1]; unfold Ins.nodes; omega, fun v hv => ?_⟩
    obtain ⟨j, hj, e⟩ := List.getElem_of_mem hv
    have h4 := h2 j v (by rw [List.getElem?_eq_getElem hj, e])
    simp [elB, inB_] at h4
    omega
  have HRcost := Lib.hid (rok hm.cost)
  have HRtime := Lib.hid (rok hm.time)
  have hlc : x.cost.length ≤ 61 := by rw [hm.lc]; exact nodes_61 hm
  have hlt_ : x.time.length ≤ 61 := by rw [hm.lt]; exact nodes_61 hm
  have HSB : Hid (∀ s ∈ x.sats, (0 ≤ s.1 ∧ s.1 ≤ 1000000000) ∧ 0 ≤ s.2 ∧ s.2 ≤ 1000000000) := Lib.hid (fun s hs => by
    have := hm.sats s hs
    simp [satB, inB_] at this
    omega)
  have HCB : Hid (∀ s ∈ x.cus, (0 ≤ s.1 ∧ s.1 ≤ 1000000000) ∧ (0 ≤ s.2.1 ∧ s.2.1 ≤ 1000000000) ∧ (0 ≤ s.2.2.1 ∧ s.2.2.1 ≤ 1000000000) ∧ 0 ≤ s.2.2.2 ∧ s.2.2.2 ≤ 1000000000) := Lib.hid (fun s hs => by
    have := hm.cus s hs
    simp [cusB, inB_] at this
    omega)
  clear rok
  have HM := Lib.hid hm
  obtain ⟨e1a, e1b⟩ := hm.en
  obtain ⟨e2a, e2b⟩ := hm.tm
  obtain ⟨e3a, e3b⟩ := hm.tr
  obtain ⟨e4a, e4b⟩ := hm.bm
  obtain ⟨e5a, e5b⟩ := hm.br
  obtain ⟨e6a, e6b⟩ := hm.ns
  obtain ⟨e7a, e7b⟩ := hm.nc
  have hbody : ∀ (args : Array Value) (W0 : World), (callFunc 26 args).run Tryd.prog W0 = .ok (.enter 26 args) W0 := fun _ _ => by kernel_rfl
  clear hi hm
  obtain ⟨s0, hs0⟩ : ∃ s : ByteArray, s = ⟨(lineW (tWharfage :: ([x.en] : List Int).map itoa)).toArray⟩ := ⟨_, rfl⟩
  have hz0 : s0.size ≤ 40 := by rw [hs0]; exact line_size tWharfage [x.en] (by decide) (by simp) (by intro v hv; simp at hv; omega)
  have HC0 : Hid (∀ (W0 : World) (g : Nat), IsNums W0.heap.size W0 (some ⟨g, 0, none⟩) 1 [x.en] → Calls Tryd.prog 26 #[.string ⟨#[119, 104, 97, 114, 102, 97, 103, 101]⟩, .slice (some ⟨g, 0, none⟩) 1 1] W0 fun e w' => e = .returned (.string s0) ∧ W0 = w') := Lib.hid (fun W0 g h => by
    have h2 := lineT ⟨#[119, 104, 97, 114, 102, 97, 103, 101]⟩ (some ⟨g, 0, none⟩) 1 1 _ [x.en] W0 (by decide) (by decide) h (by intro v hv; simp at hv; unfold Fits; omega)
    rw [hs0]
    exact h2.mono fun e w' ⟨q1, q2⟩ => ⟨q1, q2.symm⟩)
  obtain ⟨s1, hs1⟩ : ∃ s : ByteArray, s = ⟨(lineW (tTrucks :: ([x.tm, x.tr] : List Int).map itoa)).toArray⟩ := ⟨_, rfl⟩
  have hz1 : s1.size ≤ 40 := by rw [hs1]; exact line_size tTrucks [x.tm, x.tr] (by decide) (by simp) (by intro v hv; simp at hv; omega)
  have HC1 : Hid (∀ (W0 : World) (g : Nat), IsNums W0.heap.size W0 (some ⟨g, 0, none⟩) 2 [x.tm, x.tr] → Calls Tryd.prog 26 #[.string ⟨#[116, 114, 117, 99, 107, 115]⟩, .slice (some ⟨g, 0, none⟩) 2 2] W0 fun e w' => e = .returned (.string s1) ∧ W0 = w') := Lib.hid (fun W0 g h => by
    have h2 := lineT ⟨#[116, 114, 117, 99, 107, 115]⟩ (some ⟨g, 0, none⟩) 2 2 _ [x.tm, x.tr] W0 (by decide) (by decide) h (by intro v hv; simp at hv; unfold Fits; omega)
    rw [hs1]
    exact h2.mono fun e w' ⟨q1, q2⟩ => ⟨q1, q2.symm⟩)
  obtain ⟨s2, hs2⟩ : ∃ s : ByteArray, s = ⟨(lineW (tBikes :: ([x.bm, x.br] : List Int).map itoa)).toArray⟩ := ⟨_, rfl⟩
  have hz2 : s2.size ≤ 40 := by rw [hs2]; exact line_size tBikes [x.bm, x.br] (by decide) (by simp) (by intro v hv; simp at hv; omega)
  have HC2 : Hid (∀ (W0 : World) (g : Nat), IsNums W0.heap.size W0 (some ⟨g, 0, none⟩) 2 [x.bm, x.br] → Calls Tryd.prog 26 #[.string ⟨#[98, 105, 107, 101, 115]⟩, .slice (some ⟨g, 0, none⟩) 2 2] W0 fun e w' => e = .returned (.string s2) ∧ W0 = w') := Lib.hid (fun W0 g h => by
    have h2 := lineT ⟨#[98, 105, 107, 101, 115]⟩ (some ⟨g, 0, none⟩) 2 2 _ [x.bm, x.br] W0 (by decide) (by decide) h (by intro v hv; simp at hv; unfold Fits; omega)
    rw [hs2]
    exact h2.mono fun e w' ⟨q1, q2⟩ => ⟨q1, q2.symm⟩)
  obtain ⟨s3, hs3⟩ : ∃ s : ByteArray, s = ⟨(lineW (tSatellites :: ([(x.sats.length : Int)] : List Int).map itoa)).toArray⟩ := ⟨_, rfl⟩
  have hz3 : s3.size ≤ 40 := by rw [hs3]; exact line_size tSatellites [(x.sats.length : Int)] (by decide) (by simp) (by intro v hv; simp at hv; omega)
  have HC3 : Hid (∀ (W0 : World) (g : Nat), IsNums W0.heap.size W0 (some ⟨g, 0, none⟩) 1 [(x.sats.length : Int)] → Calls Tryd.prog 26 #[.string ⟨#[115, 97, 116, 101, 108, 108, 105, 116, 101, 115]⟩, .slice (some ⟨g, 0, none⟩) 1 1] W0 fun e w' => e = .returned (.string s3) ∧ W0 = w') := Lib.hid (fun W0 g h => by
    have h2 := lineT ⟨#[115, 97, 116, 101, 108, 108, 105, 116, 101, 115]⟩ (some ⟨g, 0, none⟩) 1 1 _ [(x.sats.length : Int)] W0 (by decide) (by decide) h (by intro v hv; simp at hv; unfold Fits; omega)
    rw [hs3]
    exact h2.mono fun e w' ⟨q1, q2⟩ => ⟨q1, q2.symm⟩)
  obtain ⟨y1, hy1⟩ : ∃ y, y = s0 ++ s1 := ⟨_, rfl⟩
  have hq1 : y1.size = s0.size + s1.size := by rw [hy1, ByteArray.size_append]
  have a1 := cat_is s0 s1 y1 (by omega) hy1
  obtain ⟨y2, hy2⟩ : ∃ y, y = y1 ++ s2 := ⟨_, rfl⟩
  have hq2 : y2.size = y1.size + s2.size := by rw [hy2, ByteArray.size_append]
  have a2 := cat_is y1 s2 y2 (by omega) hy2
  obtain ⟨y3, hy3⟩ : ∃ y, y = y2 ++ s3 := ⟨_, rfl⟩
  have hq3 : y3.size = y2.size + s3.size := by rw [hy3, ByteArray.size_append]
  have a3 := cat_is y2 s3 y3 (by omega) hy3
  have HS0 : Hid (LinesTo y3 (headI x ++ (x.sats.take 0).map satW)) := Lib.hid (by
    unfold LinesTo headI
    rw [hy3, hy2, hy1, hs0, hs1, hs2, hs3]
    apply ByteArray.ext
    apply Array.ext'
    simp)
  have hy0 : y3.size ≤ 160 := by omega
  clear hy1 hy2 hy3 hs0 hs1 hs2 hs3
  unfold insC at *
  go_enter Tryd.func13, Tryd.ntmps13
  go_wp2_with fail
  obtain ⟨w0, hw0⟩ : ∃ z, z = w.alloc (.cells #[.int .i64 x.en, .int .i64 x.tm, .int .i64 x.tr, .int .i64 x.bm, .int .i64 x.br, .slice A.sa x.sats.length A.sc, .slice A.ca x.cus.length A.cc, .slice A.ka x.cost.length A.kc, .slice A.ta x.time.length A.tc] 38) := ⟨_, rfl⟩
  rw [← hw0] at HG HI0 ⊢
  clear hw0
  obtain ⟨bx, hbx⟩ : ∃ b, b = w.heap.size := ⟨_, rfl⟩
  rw [← hbx] at HG ⊢
  have HBX := Lib.hid hbx
  clear hbx
  go_cut [4] from 13 to 44 (fun yv wx => yv = .string y3 ∧ Hid (XBox w wx bx A x))
  case first =>
    have HX0 := Lib.hid (HG.out.later (Below.refl _ _).drew)
    refine wp_region_held_drew (S := (fun Wz => Wz.heap[bx]? = some (.cells #[.int .i64 x.en, .int .i64 x.tm, .int .i64 x.tr, .int .i64 x.bm, .int .i64 x.br, .slice A.sa x.sats.length A.sc, .slice A.ca x.cus.length A.cc, .slice A.ka x.cost.length A.kc, .slice A.ta x.time.length A.tc] 38 (0, 0)))) (by kernel_rfl) HX0.out.blk (fun hHeld => ?_)
    obtain ⟨v, hv0⟩ : ∃ z, z = w0.drew := ⟨_, rfl⟩
    rw [← hv0] at HX0 hHeld ⊢
    clear hv0
    refine wpAnyH_take (i := 0) (v := ?_) rfl (by kernel_rfl) (by kernel_rfl) (by kernel_rfl) (fun _ _ _ h => h) (Or.inl ⟨by rfl, ?_⟩) hHeld ?_
    rotate_left
    · intro Wz hWz; obtain ⟨k0, k1, k2, k3, k4, k5, k6, k7, k8, _⟩ := cells9 hWz; go_simp; (try with_reducible rfl)
    try simp only [Act.put, List.setIfInBounds_toArray, List.set_cons_zero, List.set_cons_succ, List.getElem_toArray, List.getElem_cons_zero]
    refine wpAnyH_take (i := 1) (v := ?_) rfl (by kernel_rfl) (by kernel_rfl) (by kernel_rfl) (fun _ _ _ h => h) (Or.inl ⟨by rfl, ?_⟩) hHeld ?_
    rotate_left
    · intro Wz hWz; obtain ⟨k0, k1, k2, k3, k4, k5, k6, k7, k8, _⟩ := cells9 hWz; go_simp; (try with_reducible rfl)
    try simp only [Act.put, List.setIfInBounds_toArray, List.set_cons_zero, List.set_cons_succ, List.getElem_toArray, List.getElem_cons_zero, List.getElem_cons_succ]
    refine wpAnyH_take (i := 2) (v := ?_) rfl (by kernel_rfl) (by kernel_rfl) (by kernel_rfl) (fun _ _ _ h => h) (Or.inl ⟨by rfl, ?_⟩) hHeld ?_
    rotate_left
    · intro Wz hWz; obtain ⟨k0, k1, k2, k3, k4, k5, k6, k7, k8, _⟩ := cells9 hWz; go_simp; (try with_reducible rfl)
    try simp only [Act.put, List.setIfInBounds_toArray, List.set_cons_zero, List.set_cons_succ, List.getElem_toArray, List.getElem_cons_zero, List.getElem_cons_succ]
    refine wpAnyH_take (i := 5) (v := ?_) rfl (by kernel_rfl) (by kernel_rfl) (by kernel_rfl) (fun _ _ _ h => h) (Or.inl ⟨by rfl, ?_⟩) hHeld ?_
    rotate_left
    · intro Wz hWz; obtain ⟨k0, k1, k2, k3, k4, k5, k6, k7, k8, _⟩ := cells9 hWz; go_simp; (try with_reducible rfl)
    try simp only [Act.put, List.setIfInBounds_toArray, List.set_cons_zero, List.set_cons_succ, List.getElem_toArray, List.getElem_cons_zero, List.getElem_cons_succ]
    refine wpAnyH_take (i := 6) (v := ?_) rfl (by kernel_rfl) (by kernel_rfl) (by kernel_rfl) (fun _ _ _ h => h) (Or.inl ⟨by rfl, ?_⟩) hHeld ?_
    rotate_left
    · intro Wz hWz; obtain ⟨k0, k1, k2, k3, k4, k5, k6, k7, k8, _⟩ := cells9 hWz; go_simp; (try with_reducible rfl)
    try simp only [Act.put, List.setIfInBounds_toArray, List.set_cons_zero, List.set_cons_succ, List.getElem_toArray, List.getElem_cons_zero, List.getElem_cons_succ]
    refine wpAnyH_take (i := 7) (v := ?_) rfl (by kernel_rfl) (by kernel_rfl) (by kernel_rfl) (fun _ _ _ h => h) (Or.inl ⟨by rfl, ?_⟩) hHeld ?_
    rotate_left
    · intro Wz hWz; obtain ⟨k0, k1, k2, k3, k4, k5, k6, k7, k8, _⟩ := cells9 hWz; go_simp; (try with_reducible rfl)
    try simp only [Act.put, List.setIfInBounds_toArray, List.set_cons_zero, List.set_cons_succ, List.getElem_toArray, List.getElem_cons_zero, List.getElem_cons_succ]
    refine wpAnyH_take (i := 8) (v := ?_) rfl (by kernel_rfl) (by kernel_rfl) (by kernel_rfl) (fun _ _ _ h => h) (Or.inl ⟨by rfl, ?_⟩) hHeld ?_
    rotate_left
    · intro Wz hWz; obtain ⟨k0, k1, k2, k3, k4, k5, k6, k7, k8, _⟩ := cells9 hWz; go_simp; (try with_reducible rfl)
    try simp only [Act.put, List.setIfInBounds_toArray, List.set_cons_zero, List.set_cons_succ, List.getElem_toArray, List.getElem_cons_zero, List.getElem_cons_succ]
    refine wpAnyH_take (i := 9) (v := ?_) rfl (by kernel_rfl) (by kernel_rfl) (by kernel_rfl) (fun _ _ _ h => h) (Or.inl ⟨by rfl, ?_⟩) hHeld ?_
    rotate_left
    · intro Wz hWz; obtain ⟨k0, k1, k2, k3, k4, k5, k6, k7, k8, _⟩ := cells9 hWz; go_simp; (try with_reducible rfl)
    try simp only [Act.put, List.setIfInBounds_toArray, List.set_cons_zero, List.set_cons_succ, List.getElem_toArray, List.getElem_cons_zero, List.getElem_cons_succ]
    refine wpAnyH_take (i := 10) (v := ?_) rfl (by kernel_rfl) (by kernel_rfl) (by kernel_rfl) (fun _ _ _ h => h) (Or.inl ⟨by rfl, ?_⟩) hHeld ?_
    rotate_left
    · intro Wz hWz; obtain ⟨k0, k1, k2, k3, k4, k5, k6, k7, k8, _⟩ := cells9 hWz; go_simp; (try with_reducible rfl)
    try simp only [Act.put, List.setIfInBounds_toArray, List.set_cons_zero, List.set_cons_succ, List.getElem_toArray, List.getElem_cons_zero, List.getElem_cons_succ]
    refine wpAnyH_take (i := 11) (v := ?_) rfl (by kernel_rfl) (by kernel_rfl) (by kernel_rfl) (fun _ _ _ h => h) (Or.inl ⟨by rfl, ?_⟩) hHeld ?_
    rotate_left
    · intro Wz hWz; obtain ⟨k0, k1, k2, k3, k4, k5, k6, k7, k8, _⟩ := cells9 hWz; go_simp; (try with_reducible rfl)
    try simp only [Act.put, List.setIfInBounds_toArray, List.set_cons_zero, List.set_cons_succ, List.getElem_toArray, List.getElem_cons_zero, List.getElem_cons_succ]
    refine wpAnyH_take (i := 15) (v := ?_) rfl (by kernel_rfl) (by kernel_rfl) (by kernel_rfl) (fun _ _ _ h => h) (Or.inl ⟨by rfl, ?_⟩) hHeld ?_
    rotate_left
    · intro Wz hWz; obtain ⟨k0, k1, k2, k3, k4, k5, k6, k7, k8, _⟩ := cells9 hWz; go_simp; (try with_reducible rfl)
    try simp only [Act.put, List.setIfInBounds_toArray, List.set_cons_zero, List.set_cons_succ, List.getElem_toArray, List.getElem_cons_zero, List.getElem_cons_succ]
    refine wpAnyH_take (i := 16) (v := ?_) rfl (by kernel_rfl) (by kernel_rfl) (by kernel_rfl) (fun _ _ _ h => h) (Or.inl ⟨by rfl, ?_⟩) hHeld ?_
    rotate_left
    · intro Wz hWz; obtain ⟨k0, k1, k2, k3, k4, k5, k6, k7, k8, _⟩ := cells9 hWz; go_simp; (try with_reducible rfl)
    try simp only [Act.put, List.setIfInBounds_toArray, List.set_cons_zero, List.set_cons_succ, List.getElem_toArray, List.getElem_cons_zero, List.getElem_cons_succ]
    refine wpAnyH_take (i := 17) (v := ?_) rfl (by kernel_rfl) (by kernel_rfl) (by kernel_rfl) (fun _ _ _ h => h) (Or.inl ⟨by rfl, ?_⟩) hHeld ?_
    rotate_left
    · intro Wz hWz; obtain ⟨k0, k1, k2, k3, k4, k5, k6, k7, k8, _⟩ := cells9 hWz; go_simp; (try with_reducible rfl)
    try simp only [Act.put, List.setIfInBounds_toArray, List.set_cons_zero, List.set_cons_succ, List.getElem_toArray, List.getElem_cons_zero, List.getElem_cons_succ]
    refine wpAnyH_take (i := 18) (v := ?_) rfl (by kernel_rfl) (by kernel_rfl) (by kernel_rfl) (fun _ _ _ h => h) (Or.inl ⟨by rfl, ?_⟩) hHeld ?_
    rotate_left
    · intro Wz hWz; obtain ⟨k0, k1, k2, k3, k4, k5, k6, k7, k8, _⟩ := cells9 hWz; go_simp; (try with_reducible rfl)
    try simp only [Act.put, List.setIfInBounds_toArray, List.set_cons_zero, List.set_cons_succ, List.getElem_toArray, List.getElem_cons_zero, List.getElem_cons_succ]
    refine wpAnyH_take (i := 19) (v := ?_) rfl (by kernel_rfl) (by kernel_rfl) (by kernel_rfl) (fun _ _ _ h => h) (Or.inl ⟨by rfl, ?_⟩) hHeld ?_
    rotate_left
    · intro Wz hWz; obtain ⟨k0, k1, k2, k3, k4, k5, k6, k7, k8, _⟩ := cells9 hWz; go_simp; (try with_reducible rfl)
    try simp only [Act.put, List.setIfInBounds_toArray, List.set_cons_zero, List.set_cons_succ, List.getElem_toArray, List.getElem_cons_zero, List.getElem_cons_succ]
    refine wpAnyH_take (i := 20) (v := ?_) rfl (by kernel_rfl) (by kernel_rfl) (by kernel_rfl) (fun _ _ _ h => h) (Or.inl ⟨by rfl, ?_⟩) hHeld ?_
    rotate_left
    · intro Wz hWz; obtain ⟨k0, k1, k2, k3, k4, k5, k6, k7, k8, _⟩ := cells9 hWz; go_simp; (try with_reducible rfl)
    try simp only [Act.put, List.setIfInBounds_toArray, List.set_cons_zero, List.set_cons_succ, List.getElem_toArray, List.getElem_cons_zero, List.getElem_cons_succ]
    refine wpAnyH_take (i := 21) (v := ?_) rfl (by kernel_rfl) (by kernel_rfl) (by kernel_rfl) (fun _ _ _ h => h) (Or.inl ⟨by rfl, ?_⟩) hHeld ?_
    rotate_left
    · intro Wz hWz; obtain ⟨k0, k1, k2, k3, k4, k5, k6, k7, k8, _⟩ := cells9 hWz; go_simp; (try with_reducible rfl)
    try simp only [Act.put, List.setIfInBounds_toArray, List.set_cons_zero, List.set_cons_succ, List.getElem_toArray, List.getElem_cons_zero, List.getElem_cons_succ]
    refine wpAnyH_take (i := 25) (v := ?_) rfl (by kernel_rfl) (by kernel_rfl) (by kernel_rfl) (fun _ _ _ h => h) (Or.inl ⟨by rfl, ?_⟩) hHeld ?_
    rotate_left
    · intro Wz hWz; obtain ⟨k0, k1, k2, k3, k4, k5, k6, k7, k8, _⟩ := cells9 hWz; go_simp; (try with_reducible rfl)
    try simp only [Act.put, List.setIfInBounds_toArray, List.set_cons_zero, List.set_cons_succ, List.getElem_toArray, List.getElem_cons_zero, List.getElem_cons_succ]
    refine wpAnyH_take (i := 26) (v := ?_) rfl (by kernel_rfl) (by kernel_rfl) (by kernel_rfl) (fun _ _ _ h => h) (Or.inl ⟨by rfl, ?_⟩) hHeld ?_
    rotate_left
    · intro Wz hWz; obtain ⟨k0, k1, k2, k3, k4, k5, k6, k7, k8, _⟩ := cells9 hWz; go_simp; (try with_reducible rfl)
    try simp only [Act.put, List.setIfInBounds_toArray, List.set_cons_zero, List.set_cons_succ, List.getElem_toArray, List.getElem_cons_zero, List.getElem_cons_succ]
    refine wpAnyH_take (i := 27) (v := ?_) rfl (by kernel_rfl) (by kernel_rfl) (by kernel_rfl) (fun _ _ _ h => h) (Or.inl ⟨by rfl, ?_⟩) hHeld ?_
    rotate_left
    · intro Wz hWz; obtain ⟨k0, k1, k2, k3, k4, k5, k6, k7, k8, _⟩ := cells9 hWz; go_simp; (try with_reducible rfl)
    try simp only [Act.put, List.setIfInBounds_toArray, List.set_cons_zero, List.set_cons_succ, List.getElem_toArray, List.getElem_cons_zero, List.getElem_cons_succ]
    refine wpAnyH_take (i := 28) (v := ?_) rfl (by kernel_rfl) (by kernel_rfl) (by kernel_rfl) (fun _ _ _ h => h) (Or.inl ⟨by rfl, ?_⟩) hHeld ?_
    rotate_left
    · intro Wz hWz; obtain ⟨k0, k1, k2, k3, k4, k5, k6, k7, k8, _⟩ := cells9 hWz; go_simp; (try with_reducible rfl)
    try simp only [Act.put, List.setIfInBounds_toArray, List.set_cons_zero, List.set_cons_succ, List.getElem_toArray, List.getElem_cons_zero, List.getElem_cons_succ]
    apply joinS4 (F := fun v g0 g1 g2 g3 => Hid (XBox w v bx A x))
    intro T4_0123
    apply joinS4 (F := fun v g0 g1 g2 g3 => Hid (XBox w v bx A x) ∧ Hid (IsNums v.heap.size v (some ⟨g3, 0, none⟩) 1 [(x.sats.length : Int)]))
    intro T3_0123
    apply joinS3 (F := fun v g0 g1 g2 => Hid (XBox w v bx A x))
    intro T3_012
    apply joinS4 (F := fun v g0 g1 g2 g3 => Hid (XBox w v bx A x) ∧ Hid (IsNums v.heap.size v (some ⟨g2, 0, none⟩) 2 [x.bm, x.br]) ∧ Hid (IsNums v.heap.size v (some ⟨g3, 0, none⟩) 1 [(x.sats.length : Int)]))
    intro T2_0123
    apply joinS3 (F := fun v g0 g1 g3 => Hid (XBox w v bx A x) ∧ Hid (IsNums v.heap.size v (some ⟨g3, 0, none⟩) 1 [(x.sats.length : Int)]))
    intro T2_013
    apply joinS3 (F := fun v g0 g1 g2 => Hid (XBox w v bx A x) ∧ Hid (IsNums v.heap.size v (some ⟨g2, 0, none⟩) 2 [x.bm, x.br]))
    intro T2_012
    apply joinS4 (F := fun v g0 g1 g2 g3 => Hid (XBox w v bx A x) ∧ Hid (IsNums v.heap.size v (some ⟨g1, 0, none⟩) 2 [x.tm, x.tr]) ∧ Hid (IsNums v.heap.size v (some ⟨g2, 0, none⟩) 2 [x.bm, x.br]) ∧ Hid (IsNums v.heap.size v (some ⟨g3, 0, none⟩) 1 [(x.sats.length : Int)]))
    intro T1_0123
    apply joinS2 (F := fun v g0 g1 => Hid (XBox w v bx A x))
    intro T2_01
    apply joinS3 (F := fun v g0 g2 g3 => Hid (XBox w v bx A x) ∧ Hid (IsNums v.heap.size v (some ⟨g2, 0, none⟩) 2 [x.bm, x.br]) ∧ Hid (IsNums v.heap.size v (some ⟨g3, 0, none⟩) 1 [(x.sats.length : Int)]))
    intro T1_023
    apply joinS3 (F := fun v g0 g1 g3 => Hid (XBox w v bx A x) ∧ Hid (IsNums v.heap.size v (some ⟨g1, 0, none⟩) 2 [x.tm, x.tr]) ∧ Hid (IsNums v.heap.size v (some ⟨g3, 0, none⟩) 1 [(x.sats.length : Int)]))
    intro T1_013
    apply joinS3 (F := fun v g0 g1 g2 => Hid (XBox w v bx A x) ∧ Hid (IsNums v.heap.size v (some ⟨g1, 0, none⟩) 2 [x.tm, x.tr]) ∧ Hid (IsNums v.heap.size v (some ⟨g2, 0, none⟩) 2 [x.bm, x.br]))
    intro T1_012
    apply joinS4 (F := fun v g0 g1 g2 g3 => Hid (XBox w v bx A x) ∧ Hid (IsNums v.heap.size v (some ⟨g0, 0, none⟩) 1 [x.en]) ∧ Hid (IsNums v.heap.size v (some ⟨g1, 0, none⟩) 2 [x.tm, x.tr]) ∧ Hid (IsNums v.heap.size v (some ⟨g2, 0, none⟩) 2 [x.bm, x.br]) ∧ Hid (IsNums v.heap.size v (some ⟨g3, 0, none⟩) 1 [(x.sats.length : Int)]))
    intro T0_0123
    apply joinS2 (F := fun v g0 g3 => Hid (XBox w v bx A x) ∧ Hid (IsNums v.heap.size v (some ⟨g3, 0, none⟩) 1 [(x.sats.length : Int)]))
    intro T1_03
    apply joinS2 (F := fun v g0 g2 => Hid (XBox w v bx A x) ∧ Hid (IsNums v.heap.size v (some ⟨g2, 0, none⟩) 2 [x.bm, x.br]))
    intro T1_02
    apply joinS2 (F := fun v g0 g1 => Hid (XBox w v bx A x) ∧ Hid (IsNums v.heap.size v (some ⟨g1, 0, none⟩) 2 [x.tm, x.tr]))
    intro T1_01
    apply joinS3 (F := fun v g1 g2 g3 => Hid (XBox w v bx A x) ∧ Hid (IsNums v.heap.size v (some ⟨g1, 0, none⟩) 2 [x.tm, x.tr]) ∧ Hid (IsNums v.heap.size v (some ⟨g2, 0, none⟩) 2 [x.bm, x.br]) ∧ Hid (IsNums v.heap.size v (some ⟨g3, 0, none⟩) 1 [(x.sats.length : Int)]))
    intro T0_123
    apply joinS3 (F := fun v g0 g2 g3 => Hid (XBox w v bx A x) ∧ Hid (IsNums v.heap.size v (some ⟨g0, 0, none⟩) 1 [x.en]) ∧ Hid (IsNums v.heap.size v (some ⟨g2, 0, none⟩) 2 [x.bm, x.br]) ∧ Hid (IsNums v.heap.size v (some ⟨g3, 0, none⟩) 1 [(x.sats.length : Int)]))
    intro T0_023
    apply joinS3 (F := fun v g0 g1 g3 => Hid (XBox w v bx A x) ∧ Hid (IsNums v.heap.size v (some ⟨g0, 0, none⟩) 1 [x.en]) ∧ Hid (IsNums v.heap.size v (some ⟨g1, 0, none⟩) 2 [x.tm, x.tr]) ∧ Hid (IsNums v.heap.size v (some ⟨g3, 0, none⟩) 1 [(x.sats.length : Int)]))
    intro T0_013
    apply joinS3 (F := fun v g0 g1 g2 => Hid (XBox w v bx A x) ∧ Hid (IsNums v.heap.size v (some ⟨g0, 0, none⟩) 1 [x.en]) ∧ Hid (IsNums v.heap.size v (some ⟨g1, 0, none⟩) 2 [x.tm, x.tr]) ∧ Hid (IsNums v.heap.size v (some ⟨g2, 0, none⟩) 2 [x.bm, x.br]))
    intro T0_012
    apply joinS1 (F := fun v g0 => Hid (XBox w v bx A x))
    intro T1_0
    apply joinS2 (F := fun v g2 g3 => Hid (XBox w v bx A x) ∧ Hid (IsNums v.heap.size v (some ⟨g2, 0, none⟩) 2 [x.bm, x.br]) ∧ Hid (IsNums v.heap.size v (some ⟨g3, 0, none⟩) 1 [(x.sats.length : Int)]))
    intro T0_23
    apply joinS2 (F := fun v g1 g3 => Hid (XBox w v bx A x) ∧ Hid (IsNums v.heap.size v (some ⟨g1, 0, none⟩) 2 [x.tm, x.tr]) ∧ Hid (IsNums v.heap.size v (some ⟨g3, 0, none⟩) 1 [(x.sats.length : Int)]))
    intro T0_13
    apply joinS2 (F := fun v g1 g2 => Hid (XBox w v bx A x) ∧ Hid (IsNums v.heap.size v (some ⟨g1, 0, none⟩) 2 [x.tm, x.tr]) ∧ Hid (IsNums v.heap.size v (some ⟨g2, 0, none⟩) 2 [x.bm, x.br]))
    intro T0_12
    apply joinS2 (F := fun v g0 g3 => Hid (XBox w v bx A x) ∧ Hid (IsNums v.heap.size v (some ⟨g0, 0, none⟩) 1 [x.en]) ∧ Hid (IsNums v.heap.size v (some ⟨g3, 0, none⟩) 1 [(x.sats.length : Int)]))
    intro T0_03
    apply joinS2 (F := fun v g0 g2 => Hid (XBox w v bx A x) ∧ Hid (IsNums v.heap.size v (some ⟨g0, 0, none⟩) 1 [x.en]) ∧ Hid (IsNums v.heap.size v (some ⟨g2, 0, none⟩) 2 [x.bm, x.br]))
    intro T0_02
    apply joinS2 (F := fun v g0 g1 => Hid (XBox w v bx A x) ∧ Hid (IsNums v.heap.size v (some ⟨g0, 0, none⟩) 1 [x.en]) ∧ Hid (IsNums v.heap.size v (some ⟨g1, 0, none⟩) 2 [x.tm, x.tr]))
    intro T0_01
    apply joinS1 (F := fun v g3 => Hid (XBox w v bx A x) ∧ Hid (IsNums v.heap.size v (some ⟨g3, 0, none⟩) 1 [(x.sats.length : Int)]))
    intro T0_3
    apply joinS1 (F := fun v g2 => Hid (XBox w v bx A x) ∧ Hid (IsNums v.heap.size v (some ⟨g2, 0, none⟩) 2 [x.bm, x.br]))
    intro T0_2
    apply joinS1 (F := fun v g1 => Hid (XBox w v bx A x) ∧ Hid (IsNums v.heap.size v (some ⟨g1, 0, none⟩) 2 [x.tm, x.tr]))
    intro T0_1
    apply joinS1 (F := fun v g0 => Hid (XBox w v bx A x) ∧ Hid (IsNums v.heap.size v (some ⟨g0, 0, none⟩) 1 [x.en]))
    intro T0_0
    have HX := HX0
    refine wpAnyH_ready (rs := [3, 12, 22, 29]) (by kernel_rfl) (by simp) ?_
    refine AllReadyH.cons rfl (fun K hK => ?_) (AllReadyH.cons rfl (fun K hK => ?_) (AllReadyH.cons rfl (fun K hK => ?_) (AllReadyH.cons rfl (fun K hK => ?_) AllReadyH.nil)))
    · go_simp
      have HX2 := Lib.hid (HX.out.later ((Below.refl _ _).alloc (Nat.le_refl _) (.cells #[.int .i64 x.en] 2)))
      have HM0 : Hid (IsNums (v.alloc (.cells #[.int .i64 x.en] 2)).heap.size (v.alloc (.cells #[.int .i64 x.en] 2)) (some ⟨v.heap.size, 0, none⟩) 1 [x.en]) := Lib.hid (nums_new v [x.en] _ rfl)
      refine hK.out _ _ ?_ (fun hHeld => ?_)
      · exact HX2.out.blk
      clear hK K
      try simp only [Act.put, List.setIfInBounds_toArray, List.set_cons_zero, List.set_cons_succ, List.getElem_toArray, List.getElem_cons_zero, List.getElem_cons_succ]
      obtain ⟨v2, hw⟩ : ∃ z, z = v.alloc (.cells #[.int .i64 x.en] 2) := ⟨_, rfl⟩
      obtain ⟨g0, hg⟩ : ∃ g, g = v.heap.size := ⟨_, rfl⟩
      rw [← hw] at hHeld HX2 HM0 ⊢
      rw [← hg] at HM0 ⊢
      clear hw hg
      exact T0_0 v2 g0 ⟨HX2, HM0⟩
    · go_simp
      have HX2 := Lib.hid (HX.out.later ((Below.refl _ _).alloc (Nat.le_refl _) (.cells #[.int .i64 x.tm, .int .i64 x.tr] 2)))
      have HM1 : Hid (IsNums (v.alloc (.cells #[.int .i64 x.tm, .int .i64 x.tr] 2)).heap.size (v.alloc (.cells #[.int .i64 x.tm, .int .i64 x.tr] 2)) (some ⟨v.heap.size, 0, none⟩) 2 [x.tm, x.tr]) := Lib.hid (nums_new v [x.tm, x.tr] _ rfl)
      refine hK.out _ _ ?_ (fun hHeld => ?_)
      · exact HX2.out.blk
      clear hK K
      try simp only [Act.put, List.setIfInBounds_toArray, List.set_cons_zero, List.set_cons_succ, List.getElem_toArray, List.getElem_cons_zero, List.getElem_cons_succ]
      obtain ⟨v2, hw⟩ : ∃ z, z = v.alloc (.cells #[.int .i64 x.tm, .int .i64 x.tr] 2) := ⟨_, rfl⟩
      obtain ⟨g1, hg⟩ : ∃ g, g = v.heap.size := ⟨_, rfl⟩
      rw [← hw] at hHeld HX2 HM1 ⊢
      rw [← hg] at HM1 ⊢
      clear hw hg
      exact T0_1 v2 g1 ⟨HX2, HM1⟩
    · go_simp
      have HX2 := Lib.hid (HX.out.later ((Below.refl _ _).alloc (Nat.le_refl _) (.cells #[.int .i64 x.bm, .int .i64 x.br] 2)))
      have HM2 : Hid (IsNums (v.alloc (.cells #[.int .i64 x.bm, .int .i64 x.br] 2)).heap.size (v.alloc (.cells #[.int .i64 x.bm, .int .i64 x.br] 2)) (some ⟨v.heap.size, 0, none⟩) 2 [x.bm, x.br]) := Lib.hid (nums_new v [x.bm, x.br] _ rfl)
      refine hK.out _ _ ?_ (fun hHeld => ?_)
      · exact HX2.out.blk
      clear hK K
      try simp only [Act.put, List.setIfInBounds_toArray, List.set_cons_zero, List.set_cons_succ, List.getElem_toArray, List.getElem_cons_zero, List.getElem_cons_succ]
      obtain ⟨v2, hw⟩ : ∃ z, z = v.alloc (.cells #[.int .i64 x.bm, .int .i64 x.br] 2) := ⟨_, rfl⟩
      obtain ⟨g2, hg⟩ : ∃ g, g = v.heap.size := ⟨_, rfl⟩
      rw [← hw] at hHeld HX2 HM2 ⊢
      rw [← hg] at HM2 ⊢
      clear hw hg
      exact T0_2 v2 g2 ⟨HX2, HM2⟩
    · go_simp
      have HX2 := Lib.hid (HX.out.later ((Below.refl _ _).alloc (Nat.le_refl _) (.cells #[.int .i64 (x.sats.length : Int)] 2)))
      have HM3 : Hid (IsNums (v.alloc (.cells #[.int .i64 (x.sats.length : Int)] 2)).heap.size (v.alloc (.cells #[.int .i64 (x.sats.length : Int)] 2)) (some ⟨v.heap.size, 0, none⟩) 1 [(x.sats.length : Int)]) := Lib.hid (nums_new v [(x.sats.length : Int)] _ rfl)
      refine hK.out _ _ ?_ (fun hHeld => ?_)
      · exact HX2.out.blk
      clear hK K
      try simp only [Act.put, List.setIfInBounds_toArray, List.set_cons_zero, List.set_cons_succ, List.getElem_toArray, List.getElem_cons_zero, List.getElem_cons_succ]
      obtain ⟨v2, hw⟩ : ∃ z, z = v.alloc (.cells #[.int .i64 (x.sats.length : Int)] 2) := ⟨_, rfl⟩
      obtain ⟨g3, hg⟩ : ∃ g, g = v.heap.size := ⟨_, rfl⟩
      rw [← hw] at hHeld HX2 HM3 ⊢
      rw [← hg] at HM3 ⊢
      clear hw hg
      exact T0_3 v2 g3 ⟨HX2, HM3⟩
    · rintro v g0 ⟨HX, HN0⟩
      have hHeld := HX.out.blk
      refine wpAnyH_ready (rs := [4, 12, 22, 29]) (by kernel_rfl) (by simp) ?_
      refine AllReadyH.cons rfl (fun K hK => ?_) (AllReadyH.cons rfl (fun K hK => ?_) (AllReadyH.cons rfl (fun K hK => ?_) (AllReadyH.cons rfl (fun K hK => ?_) AllReadyH.nil)))
      · go_simp
        refine (HC0.out _ _ HN0.out).mono ?_
        rintro e w' ⟨rfl, rfl⟩
        refine hK.out _ _ ?_ (fun hHeld => ?_)
        · exact HX.out.blk
        clear hK K
        try simp only [Act.put, List.setIfInBounds_toArray, List.set_cons_zero, List.set_cons_succ, List.getElem_toArray, List.getElem_cons_zero, List.getElem_cons_succ]
        exact T1_0 v g0 HX
      · go_simp
        have HX2 := Lib.hid (HX.out.later ((Below.refl _ _).alloc (Nat.le_refl _) (.cells #[.int .i64 x.tm, .int .i64 x.tr] 2)))
        have HM1 : Hid (IsNums (v.alloc (.cells #[.int .i64 x.tm, .int .i64 x.tr] 2)).heap.size (v.alloc (.cells #[.int .i64 x.tm, .int .i64 x.tr] 2)) (some ⟨v.heap.size, 0, none⟩) 2 [x.tm, x.tr]) := Lib.hid (nums_new v [x.tm, x.tr] _ rfl)
        have HM0 := Lib.hid ((HN0.out.later ((Below.refl _ _).alloc (Nat.le_refl _) (.cells #[.int .i64 x.tm, .int .i64 x.tr] 2))).mono (((Below.refl _ _).alloc (Nat.le_refl _) (.cells #[.int .i64 x.tm, .int .i64 x.tr] 2)).size : v.heap.size ≤ _))
        refine hK.out _ _ ?_ (fun hHeld => ?_)
        · exact HX2.out.blk
        clear hK K
        try simp only [Act.put, List.setIfInBounds_toArray, List.set_cons_zero, List.set_cons_succ, List.getElem_toArray, List.getElem_cons_zero, List.getElem_cons_succ]
        obtain ⟨v2, hw⟩ : ∃ z, z = v.alloc (.cells #[.int .i64 x.tm, .int .i64 x.tr] 2) := ⟨_, rfl⟩
        obtain ⟨g1, hg⟩ : ∃ g, g = v.heap.size := ⟨_, rfl⟩
        rw [← hw] at hHeld HX2 HM0 HM1 ⊢
        rw [← hg] at HM1 ⊢
        clear hw hg
        exact T0_01 v2 g0 g1 ⟨HX2, HM0, HM1⟩
      · go_simp
        have HX2 := Lib.hid (HX.out.later ((Below.refl _ _).alloc (Nat.le_refl _) (.cells #[.int .i64 x.bm, .int .i64 x.br] 2)))
        have HM2 : Hid (IsNums (v.alloc (.cells #[.int .i64 x.bm, .int .i64 x.br] 2)).heap.size (v.alloc (.cells #[.int .i64 x.bm, .int .i64 x.br] 2)) (some ⟨v.heap.size, 0, none⟩) 2 [x.bm, x.br]) := Lib.hid (nums_new v [x.bm, x.br] _ rfl)
        have HM0 := Lib.hid ((HN0.out.later ((Below.refl _ _).alloc (Nat.le_refl _) (.cells #[.int .i64 x.bm, .int .i64 x.br] 2))).mono (((Below.refl _ _).alloc (Nat.le_refl _) (.cells #[.int .i64 x.bm, .int .i64 x.br] 2)).size : v.heap.size ≤ _))
        refine hK.out _ _ ?_ (fun hHeld => ?_)
        · exact HX2.out.blk
        clear hK K
        try simp only [Act.put, List.setIfInBounds_toArray, List.set_cons_zero, List.set_cons_succ, List.getElem_toArray, List.getElem_cons_zero, List.getElem_cons_succ]
        obtain ⟨v2, hw⟩ : ∃ z, z = v.alloc (.cells #[.int .i64 x.bm, .int .i64 x.br] 2) := ⟨_, rfl⟩
        obtain ⟨g2, hg⟩ : ∃ g, g = v.heap.size := ⟨_, rfl⟩
        rw [← hw] at hHeld HX2 HM0 HM2 ⊢
        rw [← hg] at HM2 ⊢
        clear hw hg
        exact T0_02 v2 g0 g2 ⟨HX2, HM0, HM2⟩
      · go_simp
        have HX2 := Lib.hid (HX.out.later ((Below.refl _ _).alloc (Nat.le_refl _) (.cells #[.int .i64 (x.sats.length : Int)] 2)))
        have HM3 : Hid (IsNums (v.alloc (.cells #[.int .i64 (x.sats.length : Int)] 2)).heap.size (v.alloc (.cells #[.int .i64 (x.sats.length : Int)] 2)) (some ⟨v.heap.size, 0, none⟩) 1 [(x.sats.length : Int)]) := Lib.hid (nums_new v [(x.sats.length : Int)] _ rfl)
        have HM0 := Lib.hid ((HN0.out.later ((Below.refl _ _).alloc (Nat.le_refl _) (.cells #[.int .i64 (x.sats.length : Int)] 2))).mono (((Below.refl _ _).alloc (Nat.le_refl _) (.cells #[.int .i64 (x.sats.length : Int)] 2)).size : v.heap.size ≤ _))
        refine hK.out _ _ ?_ (fun hHeld => ?_)
        · exact HX2.out.blk
        clear hK K
        try simp only [Act.put, List.setIfInBounds_toArray, List.set_cons_zero, List.set_cons_succ, List.getElem_toArray, List.getElem_cons_zero, List.getElem_cons_succ]
        obtain ⟨v2, hw⟩ : ∃ z, z = v.alloc (.cells #[.int .i64 (x.sats.length : Int)] 2) := ⟨_, rfl⟩
        obtain ⟨g3, hg⟩ : ∃ g, g = v.heap.size := ⟨_, rfl⟩
        rw [← hw] at hHeld HX2 HM0 HM3 ⊢
        rw [← hg] at HM3 ⊢
        clear hw hg
        exact T0_03 v2 g0 g3 ⟨HX2, HM0, HM3⟩
    · rintro v g1 ⟨HX, HN1⟩
      have hHeld := HX.out.blk
      refine wpAnyH_ready (rs := [3, 22, 29]) (by kernel_rfl) (by simp) ?_
      refine AllReadyH.cons rfl (fun K hK => ?_) (AllReadyH.cons rfl (fun K hK => ?_) (AllReadyH.cons rfl (fun K hK => ?_) AllReadyH.nil))
      · go_simp
        have HX2 := Lib.hid (HX.out.later ((Below.refl _ _).alloc (Nat.le_refl _) (.cells #[.int .i64 x.en] 2)))
        have HM0 : Hid (IsNums (v.alloc (.cells #[.int .i64 x.en] 2)).heap.size (v.alloc (.cells #[.int .i64 x.en] 2)) (some ⟨v.heap.size, 0, none⟩) 1 [x.en]) := Lib.hid (nums_new v [x.en] _ rfl)
        have HM1 := Lib.hid ((HN1.out.later ((Below.refl _ _).alloc (Nat.le_refl _) (.cells #[.int .i64 x.en] 2))).mono (((Below.refl _ _).alloc (Nat.le_refl _) (.cells #[.int .i64 x.en] 2)).size : v.heap.size ≤ _))
        refine hK.out _ _ ?_ (fun hHeld => ?_)
        · exact HX2.out.blk
        clear hK K
        try simp only [Act.put, List.setIfInBounds_toArray, List.set_cons_zero, List.set_cons_succ, List.getElem_toArray, List.getElem_cons_zero, List.getElem_cons_succ]
        obtain ⟨v2, hw⟩ : ∃ z, z = v.alloc (.cells #[.int .i64 x.en] 2) := ⟨_, rfl⟩
        obtain ⟨g0, hg⟩ : ∃ g, g = v.heap.size := ⟨_, rfl⟩
        rw [← hw] at hHeld HX2 HM0 HM1 ⊢
        rw [← hg] at HM0 ⊢
        clear hw hg
        exact T0_01 v2 g0 g1 ⟨HX2, HM0, HM1⟩
      · go_simp
        have HX2 := Lib.hid (HX.out.later ((Below.refl _ _).alloc (Nat.le_refl _) (.cells #[.int .i64 x.bm, .int .i64 x.br] 2)))
        have HM2 : Hid (IsNums (v.alloc (.cells #[.int .i64 x.bm, .int .i64 x.br] 2)).heap.size (v.alloc (.cells #[.int .i64 x.bm, .int .i64 x.br] 2)) (some ⟨v.heap.size, 0, none⟩) 2 [x.bm, x.br]) := Lib.hid (nums_new v [x.bm, x.br] _ rfl)
        have HM1 := Lib.hid ((HN1.out.later ((Below.refl _ _).alloc (Nat.le_refl _) (.cells #[.int .i64 x.bm, .int .i64 x.br] 2))).mono (((Below.refl _ _).alloc (Nat.le_refl _) (.cells #[.int .i64 x.bm, .int .i64 x.br] 2)).size : v.heap.size ≤ _))
        refine hK.out _ _ ?_ (fun hHeld => ?_)
        · exact HX2.out.blk
        clear hK K
        try simp only [Act.put, List.setIfInBounds_toArray, List.set_cons_zero, List.set_cons_succ, List.getElem_toArray, List.getElem_cons_zero, List.getElem_cons_succ]
        obtain ⟨v2, hw⟩ : ∃ z, z = v.alloc (.cells #[.int .i64 x.bm, .int .i64 x.br] 2) := ⟨_, rfl⟩
        obtain ⟨g2, hg⟩ : ∃ g, g = v.heap.size := ⟨_, rfl⟩
        rw [← hw] at hHeld HX2 HM1 HM2 ⊢
        rw [← hg] at HM2 ⊢
        clear hw hg
        exact T0_12 v2 g1 g2 ⟨HX2, HM1, HM2⟩
      · go_simp
        have HX2 := Lib.hid (HX.out.later ((Below.refl _ _).alloc (Nat.le_refl _) (.cells #[.int .i64 (x.sats.length : Int)] 2)))
        have HM3 : Hid (IsNums (v.alloc (.cells #[.int .i64 (x.sats.length : Int)] 2)).heap.size (v.alloc (.cells #[.int .i64 (x.sats.length : Int)] 2)) (some ⟨v.heap.size, 0, none⟩) 1 [(x.sats.length : Int)]) := Lib.hid (nums_new v [(x.sats.length : Int)] _ rfl)
        have HM1 := Lib.hid ((HN1.out.later ((Below.refl _ _).alloc (Nat.le_refl _) (.cells #[.int .i64 (x.sats.length : Int)] 2))).mono (((Below.refl _ _).alloc (Nat.le_refl _) (.cells #[.int .i64 (x.sats.length : Int)] 2)).size : v.heap.size ≤ _))
        refine hK.out _ _ ?_ (fun hHeld => ?_)
        · exact HX2.out.blk
        clear hK K
        try simp only [Act.put, List.setIfInBounds_toArray, List.set_cons_zero, List.set_cons_succ, List.getElem_toArray, List.getElem_cons_zero, List.getElem_cons_succ]
        obtain ⟨v2, hw⟩ : ∃ z, z = v.alloc (.cells #[.int .i64 (x.sats.length : Int)] 2) := ⟨_, rfl⟩
        obtain ⟨g3, hg⟩ : ∃ g, g = v.heap.size := ⟨_, rfl⟩
        rw [← hw] at hHeld HX2 HM1 HM3 ⊢
        rw [← hg] at HM3 ⊢
        clear hw hg
        exact T0_13 v2 g1 g3 ⟨HX2, HM1, HM3⟩
    · rintro v g2 ⟨HX, HN2⟩
      have hHeld := HX.out.blk
      refine wpAnyH_ready (rs := [3, 12, 29]) (by kernel_rfl) (by simp) ?_
      refine AllReadyH.cons rfl (fun K hK => ?_) (AllReadyH.cons rfl (fun K hK => ?_) (AllReadyH.cons rfl (fun K hK => ?_) AllReadyH.nil))
      · go_simp
        have HX2 := Lib.hid (HX.out.later ((Below.refl _ _).alloc (Nat.le_refl _) (.cells #[.int .i64 x.en] 2)))
        have HM0 : Hid (IsNums (v.alloc (.cells #[.int .i64 x.en] 2)).heap.size (v.alloc (.cells #[.int .i64 x.en] 2)) (some ⟨v.heap.size, 0, none⟩) 1 [x.en]) := Lib.hid (nums_new v [x.en] _ rfl)
        have HM2 := Lib.hid ((HN2.out.later ((Below.refl _ _).alloc (Nat.le_refl _) (.cells #[.int .i64 x.en] 2))).mono (((Below.refl _ _).alloc (Nat.le_refl _) (.cells #[.int .i64 x.en] 2)).size : v.heap.size ≤ _))
        refine hK.out _ _ ?_ (fun hHeld => ?_)
        · exact HX2.out.blk
        clear hK K
        try simp only [Act.put, List.setIfInBounds_toArray, List.set_cons_zero, List.set_cons_succ, List.getElem_toArray, List.getElem_cons_zero, List.getElem_cons_succ]
        obtain ⟨v2, hw⟩ : ∃ z, z = v.alloc (.cells #[.int .i64 x.en] 2) := ⟨_, rfl⟩
        obtain ⟨g0, hg⟩ : ∃ g, g = v.heap.size := ⟨_, rfl⟩
        rw [← hw] at hHeld HX2 HM0 HM2 ⊢
        rw [← hg] at HM0 ⊢
        clear hw hg
        exact T0_02 v2 g0 g2 ⟨HX2, HM0, HM2⟩
      · go_simp
        have HX2 := Lib.hid (HX.out.later ((Below.refl _ _).alloc (Nat.le_refl _) (.cells #[.int .i64 x.tm, .int .i64 x.tr] 2)))
        have HM1 : Hid (IsNums (v.alloc (.cells #[.int .i64 x.tm, .int .i64 x.tr] 2)).heap.size (v.alloc (.cells #[.int .i64 x.tm, .int .i64 x.tr] 2)) (some ⟨v.heap.size, 0, none⟩) 2 [x.tm, x.tr]) := Lib.hid (nums_new v [x.tm, x.tr] _ rfl)
        have HM2 := Lib.hid ((HN2.out.later ((Below.refl _ _).alloc (Nat.le_refl _) (.cells #[.int .i64 x.tm, .int .i64 x.tr] 2))).mono (((Below.refl _ _).alloc (Nat.le_refl _) (.cells #[.int .i64 x.tm, .int .i64 x.tr] 2)).size : v.heap.size ≤ _))
        refine hK.out _ _ ?_ (fun hHeld => ?_)
        · exact HX2.out.blk
        clear hK K
        try simp only [Act.put, List.setIfInBounds_toArray, List.set_cons_zero, List.set_cons_succ, List.getElem_toArray, List.getElem_cons_zero, List.getElem_cons_succ]
        obtain ⟨v2, hw⟩ : ∃ z, z = v.alloc (.cells #[.int .i64 x.tm, .int .i64 x.tr] 2) := ⟨_, rfl⟩
        obtain ⟨g1, hg⟩ : ∃ g, g = v.heap.size := ⟨_, rfl⟩
        rw [← hw] at hHeld HX2 HM1 HM2 ⊢
        rw [← hg] at HM1 ⊢
        clear hw hg
        exact T0_12 v2 g1 g2 ⟨HX2, HM1, HM2⟩
      · go_simp
        have HX2 := Lib.hid (HX.out.later ((Below.refl _ _).alloc (Nat.le_refl _) (.cells #[.int .i64 (x.sats.length : Int)] 2)))
        have HM3 : Hid (IsNums (v.alloc (.cells #[.int .i64 (x.sats.length : Int)] 2)).heap.size (v.alloc (.cells #[.int .i64 (x.sats.length : Int)] 2)) (some ⟨v.heap.size, 0, none⟩) 1 [(x.sats.length : Int)]) := Lib.hid (nums_new v [(x.sats.length : Int)] _ rfl)
        have HM2 := Lib.hid ((HN2.out.later ((Below.refl _ _).alloc (Nat.le_refl _) (.cells #[.int .i64 (x.sats.length : Int)] 2))).mono (((Below.refl _ _).alloc (Nat.le_refl _) (.cells #[.int .i64 (x.sats.length : Int)] 2)).size : v.heap.size ≤ _))
        refine hK.out _ _ ?_ (fun hHeld => ?_)
        · exact HX2.out.blk
        clear hK K
        try simp only [Act.put, List.setIfInBounds_toArray, List.set_cons_zero, List.set_cons_succ, List.getElem_toArray, List.getElem_cons_zero, List.getElem_cons_succ]
        obtain ⟨v2, hw⟩ : ∃ z, z = v.alloc (.cells #[.int .i64 (x.sats.length : Int)] 2) := ⟨_, rfl⟩
        obtain ⟨g3, hg⟩ : ∃ g, g = v.heap.size := ⟨_, rfl⟩
        rw [← hw] at hHeld HX2 HM2 HM3 ⊢
        rw [← hg] at HM3 ⊢
        clear hw hg
        exact T0_23 v2 g2 g3 ⟨HX2, HM2, HM3⟩
    · rintro v g3 ⟨HX, HN3⟩
      have hHeld := HX.out.blk
      refine wpAnyH_ready (rs := [3, 12, 22]) (by kernel_rfl) (by simp) ?_
      refine AllReadyH.cons rfl (fun K hK => ?_) (AllReadyH.cons rfl (fun K hK => ?_) (AllReadyH.cons rfl (fun K hK => ?_) AllReadyH.nil))
      · go_simp
        have HX2 := Lib.hid (HX.out.later ((Below.refl _ _).alloc (Nat.le_refl _) (.cells #[.int .i64 x.en] 2)))
        have HM0 : Hid (IsNums (v.alloc (.cells #[.int .i64 x.en] 2)).heap.size (v.alloc (.cells #[.int .i64 x.en] 2)) (some ⟨v.heap.size, 0, none⟩) 1 [x.en]) := Lib.hid (nums_new v [x.en] _ rfl)
        have HM3 := Lib.hid ((HN3.out.later ((Below.refl _ _).alloc (Nat.le_refl _) (.cells #[.int .i64 x.en] 2))).mono (((Below.refl _ _).alloc (Nat.le_refl _) (.cells #[.int .i64 x.en] 2)).size : v.heap.size ≤ _))
        refine hK.out _ _ ?_ (fun hHeld => ?_)
        · exact HX2.out.blk
        clear hK K
        try simp only [Act.put, List.setIfInBounds_toArray, List.set_cons_zero, List.set_cons_succ, List.getElem_toArray, List.getElem_cons_zero, List.getElem_cons_succ]
        obtain ⟨v2, hw⟩ : ∃ z, z = v.alloc (.cells #[.int .i64 x.en] 2) := ⟨_, rfl⟩
        obtain ⟨g0, hg⟩ : ∃ g, g = v.heap.size := ⟨_, rfl⟩
        rw [← hw] at hHeld HX2 HM0 HM3 ⊢
        rw [← hg] at HM0 ⊢
        clear hw hg
        exact T0_03 v2 g0 g3 ⟨HX2, HM0, HM3⟩
      · go_simp
        have HX2 := Lib.hid (HX.out.later ((Below.refl _ _).alloc (Nat.le_refl _) (.cells #[.int .i64 x.tm, .int .i64 x.tr] 2)))
        have HM1 : Hid (IsNums (v.alloc (.cells #[.int .i64 x.tm, .int .i64 x.tr] 2)).heap.size (v.alloc (.cells #[.int .i64 x.tm, .int .i64 x.tr] 2)) (some ⟨v.heap.size, 0, none⟩) 2 [x.tm, x.tr]) := Lib.hid (nums_new v [x.tm, x.tr] _ rfl)
        have HM3 := Lib.hid ((HN3.out.later ((Below.refl _ _).alloc (Nat.le_refl _) (.cells #[.int .i64 x.tm, .int .i64 x.tr] 2))).mono (((Below.refl _ _).alloc (Nat.le_refl _) (.cells #[.int .i64 x.tm, .int .i64 x.tr] 2)).size : v.heap.size ≤ _))
        refine hK.out _ _ ?_ (fun hHeld => ?_)
        · exact HX2.out.blk
        clear hK K
        try simp only [Act.put, List.setIfInBounds_toArray, List.set_cons_zero, List.set_cons_succ, List.getElem_toArray, List.getElem_cons_zero, List.getElem_cons_succ]
        obtain ⟨v2, hw⟩ : ∃ z, z = v.alloc (.cells #[.int .i64 x.tm, .int .i64 x.tr] 2) := ⟨_, rfl⟩
        obtain ⟨g1, hg⟩ : ∃ g, g = v.heap.size := ⟨_, rfl⟩
        rw [← hw] at hHeld HX2 HM1 HM3 ⊢
        rw [← hg] at HM1 ⊢
        clear hw hg
        exact T0_13 v2 g1 g3 ⟨HX2, HM1, HM3⟩
      · go_simp
        have HX2 := Lib.hid (HX.out.later ((Below.refl _ _).alloc (Nat.le_refl _) (.cells #[.int .i64 x.bm, .int .i64 x.br] 2)))
        have HM2 : Hid (IsNums (v.alloc (.cells #[.int .i64 x.bm, .int .i64 x.br] 2)).heap.size (v.alloc (.cells #[.int .i64 x.bm, .int .i64 x.br] 2)) (some ⟨v.heap.size, 0, none⟩) 2 [x.bm, x.br]) := Lib.hid (nums_new v [x.bm, x.br] _ rfl)
        have HM3 := Lib.hid ((HN3.out.later ((Below.refl _ _).alloc (Nat.le_refl _) (.cells #[.int .i64 x.bm, .int .i64 x.br] 2))).mono (((Below.refl _ _).alloc (Nat.le_refl _) (.cells #[.int .i64 x.bm, .int .i64 x.br] 2)).size : v.heap.size ≤ _))
        refine hK.out _ _ ?_ (fun hHeld => ?_)
        · exact HX2.out.blk
        clear hK K
        try simp only [Act.put, List.setIfInBounds_toArray, List.set_cons_zero, List.set_cons_succ, List.getElem_toArray, List.getElem_cons_zero, List.getElem_cons_succ]
        obtain ⟨v2, hw⟩ : ∃ z, z = v.alloc (.cells #[.int .i64 x.bm, .int .i64 x.br] 2) := ⟨_, rfl⟩
        obtain ⟨g2, hg⟩ : ∃ g, g = v.heap.size := ⟨_, rfl⟩
        rw [← hw] at hHeld HX2 HM2 HM3 ⊢
        rw [← hg] at HM2 ⊢
        clear hw hg
        exact T0_23 v2 g2 g3 ⟨HX2, HM2, HM3⟩
    · rintro v g0 g1 ⟨HX, HN0, HN1⟩
      have hHeld := HX.out.blk
      refine wpAnyH_ready (rs := [4, 22, 29]) (by kernel_rfl) (by simp) ?_
      refine AllReadyH.cons rfl (fun K hK => ?_) (AllReadyH.cons rfl (fun K hK => ?_) (AllReadyH.cons rfl (fun K hK => ?_) AllReadyH.nil))
      · go_simp
        refine (HC0.out _ _ HN0.out).mono ?_
        rintro e w' ⟨rfl, rfl⟩
        refine hK.out _ _ ?_ (fun hHeld => ?_)
        · exact HX.out.blk
        clear hK K
        try simp only [Act.put, List.setIfInBounds_toArray, List.set_cons_zero, List.set_cons_succ, List.getElem_toArray, List.getElem_cons_zero, List.getElem_cons_succ]
        exact T1_01 v g0 g1 ⟨HX, HN1⟩
      · go_simp
        have HX2 := Lib.hid (HX.out.later ((Below.refl _ _).alloc (Nat.le_refl _) (.cells #[.int .i64 x.bm, .int .i64 x.br] 2)))
        have HM2 : Hid (IsNums (v.alloc (.cells #[.int .i64 x.bm, .int .i64 x.br] 2)).heap.size (v.alloc (.cells #[.int .i64 x.bm, .int .i64 x.br] 2)) (some ⟨v.heap.size, 0, none⟩) 2 [x.bm, x.br]) := Lib.hid (nums_new v [x.bm, x.br] _ rfl)
        have HM0 := Lib.hid ((HN0.out.later ((Below.refl _ _).alloc (Nat.le_refl _) (.cells #[.int .i64 x.bm, .int .i64 x.br] 2))).mono (((Below.refl _ _).alloc (Nat.le_refl _) (.cells #[.int .i64 x.bm, .int .i64 x.br] 2)).size : v.heap.size ≤ _))
        have HM1 := Lib.hid ((HN1.out.later ((Below.refl _ _).alloc (Nat.le_refl _) (.cells #[.int .i64 x.bm, .int .i64 x.br] 2))).mono (((Below.refl _ _).alloc (Nat.le_refl _) (.cells #[.int .i64 x.bm, .int .i64 x.br] 2)).size : v.heap.size ≤ _))
        refine hK.out _ _ ?_ (fun hHeld => ?_)
        · exact HX2.out.blk
        clear hK K
        try simp only [Act.put, List.setIfInBounds_toArray, List.set_cons_zero, List.set_cons_succ, List.getElem_toArray, List.getElem_cons_zero, List.getElem_cons_succ]
        obtain ⟨v2, hw⟩ : ∃ z, z = v.alloc (.cells #[.int .i64 x.bm, .int .i64 x.br] 2) := ⟨_, rfl⟩
        obtain ⟨g2, hg⟩ : ∃ g, g = v.heap.size := ⟨_, rfl⟩
        rw [← hw] at hHeld HX2 HM0 HM1 HM2 ⊢
        rw [← hg] at HM2 ⊢
        clear hw hg
        exact T0_012 v2 g0 g1 g2 ⟨HX2, HM0, HM1, HM2⟩
      · go_simp
        have HX2 := Lib.hid (HX.out.later ((Below.refl _ _).alloc (Nat.le_refl _) (.cells #[.int .i64 (x.sats.length : Int)] 2)))
        have HM3 : Hid (IsNums (v.alloc (.cells #[.int .i64 (x.sats.length : Int)] 2)).heap.size (v.alloc (.cells #[.int .i64 (x.sats.length : Int)] 2)) (some ⟨v.heap.size, 0, none⟩) 1 [(x.sats.length : Int)]) := Lib.hid (nums_new v [(x.sats.length : Int)] _ rfl)
        have HM0 := Lib.hid ((HN0.out.later ((Below.refl _ _).alloc (Nat.le_refl _) (.cells #[.int .i64 (x.sats.length : Int)] 2))).mono (((Below.refl _ _).alloc (Nat.le_refl _) (.cells #[.int .i64 (x.sats.length : Int)] 2)).size : v.heap.size ≤ _))
        have HM1 := Lib.hid ((HN1.out.later ((Below.refl _ _).alloc (Nat.le_refl _) (.cells #[.int .i64 (x.sats.length : Int)] 2))).mono (((Below.refl _ _).alloc (Nat.le_refl _) (.cells #[.int .i64 (x.sats.length : Int)] 2)).size : v.heap.size ≤ _))
        refine hK.out _ _ ?_ (fun hHeld => ?_)
        · exact HX2.out.blk
        clear hK K
        try simp only [Act.put, List.setIfInBounds_toArray, List.set_cons_zero, List.set_cons_succ, List.getElem_toArray, List.getElem_cons_zero, List.getElem_cons_succ]
        obtain ⟨v2, hw⟩ : ∃ z, z = v.alloc (.cells #[.int .i64 (x.sats.length : Int)] 2) := ⟨_, rfl⟩
        obtain ⟨g3, hg⟩ : ∃ g, g = v.heap.size := ⟨_, rfl⟩
        rw [← hw] at hHeld HX2 HM0 HM1 HM3 ⊢
        rw [← hg] at HM3 ⊢
        clear hw hg
        exact T0_013 v2 g0 g1 g3 ⟨HX2, HM0, HM1, HM3⟩
    · rintro v g0 g2 ⟨HX, HN0, HN2⟩
      have hHeld := HX.out.blk
      refine wpAnyH_ready (rs := [4, 12, 29]) (by kernel_rfl) (by simp) ?_
      refine AllReadyH.cons rfl (fun K hK => ?_) (AllReadyH.cons rfl (fun K hK => ?_) (AllReadyH.cons rfl (fun K hK => ?_) AllReadyH.nil))
      · go_simp
        refine (HC0.out _ _ HN0.out).mono ?_
        rintro e w' ⟨rfl, rfl⟩
        refine hK.out _ _ ?_ (fun hHeld => ?_)
        · exact HX.out.blk
        clear hK K
        try simp only [Act.put, List.setIfInBounds_toArray, List.set_cons_zero, List.set_cons_succ, List.getElem_toArray, List.getElem_cons_zero, List.getElem_cons_succ]
        exact T1_02 v g0 g2 ⟨HX, HN2⟩
      · go_simp
        have HX2 := Lib.hid (HX.out.later ((Below.refl _ _).alloc (Nat.le_refl _) (.cells #[.int .i64 x.tm, .int .i64 x.tr] 2)))
        have HM1 : Hid (IsNums (v.alloc (.cells #[.int .i64 x.tm, .int .i64 x.tr] 2)).heap.size (v.alloc (.cells #[.int .i64 x.tm, .int .i64 x.tr] 2)) (some ⟨v.heap.size, 0, none⟩) 2 [x.tm, x.tr]) := Lib.hid (nums_new v [x.tm, x.tr] _ rfl)
        have HM0 := Lib.hid ((HN0.out.later ((Below.refl _ _).alloc (Nat.le_refl _) (.cells #[.int .i64 x.tm, .int .i64 x.tr] 2))).mono (((Below.refl _ _).alloc (Nat.le_refl _) (.cells #[.int .i64 x.tm, .int .i64 x.tr] 2)).size : v.heap.size ≤ _))
        have HM2 := Lib.hid ((HN2.out.later ((Below.refl _ _).alloc (Nat.le_refl _) (.cells #[.int .i64 x.tm, .int .i64 x.tr] 2))).mono (((Below.refl _ _).alloc (Nat.le_refl _) (.cells #[.int .i64 x.tm, .int .i64 x.tr] 2)).size : v.heap.size ≤ _))
        refine hK.out _ _ ?_ (fun hHeld => ?_)
        · exact HX2.out.blk
        clear hK K
        try simp only [Act.put, List.setIfInBounds_toArray, List.set_cons_zero, List.set_cons_succ, List.getElem_toArray, List.getElem_cons_zero, List.getElem_cons_succ]
        obtain ⟨v2, hw⟩ : ∃ z, z = v.alloc (.cells #[.int .i64 x.tm, .int .i64 x.tr] 2) := ⟨_, rfl⟩
        obtain ⟨g1, hg⟩ : ∃ g, g = v.heap.size := ⟨_, rfl⟩
        rw [← hw] at hHeld HX2 HM0 HM1 HM2 ⊢
        rw [← hg] at HM1 ⊢
        clear hw hg
        exact T0_012 v2 g0 g1 g2 ⟨HX2, HM0, HM1, HM2⟩
      · go_simp
        have HX2 := Lib.hid (HX.out.later ((Below.refl _ _).alloc (Nat.le_refl _) (.cells #[.int .i64 (x.sats.length : Int)] 2)))
        have HM3 : Hid (IsNums (v.alloc (.cells #[.int .i64 (x.sats.length : Int)] 2)).heap.size (v.alloc (.cells #[.int .i64 (x.sats.length : Int)] 2)) (some ⟨v.heap.size, 0, none⟩) 1 [(x.sats.length : Int)]) := Lib.hid (nums_new v [(x.sats.length : Int)] _ rfl)
        have HM0 := Lib.hid ((HN0.out.later ((Below.refl _ _).alloc (Nat.le_refl _) (.cells #[.int .i64 (x.sats.length : Int)] 2))).mono (((Below.refl _ _).alloc (Nat.le_refl _) (.cells #[.int .i64 (x.sats.length : Int)] 2)).size : v.heap.size ≤ _))
        have HM2 := Lib.hid ((HN2.out.later ((Below.refl _ _).alloc (Nat.le_refl _) (.cells #[.int .i64 (x.sats.length : Int)] 2))).mono (((Below.refl _ _).alloc (Nat.le_refl _) (.cells #[.int .i64 (x.sats.length : Int)] 2)).size : v.heap.size ≤ _))
        refine hK.out _ _ ?_ (fun hHeld => ?_)
        · exact HX2.out.blk
        clear hK K
        try simp only [Act.put, List.setIfInBounds_toArray, List.set_cons_zero, List.set_cons_succ, List.getElem_toArray, List.getElem_cons_zero, List.getElem_cons_succ]
        obtain ⟨v2, hw⟩ : ∃ z, z = v.alloc (.cells #[.int .i64 (x.sats.length : Int)] 2) := ⟨_, rfl⟩
        obtain ⟨g3, hg⟩ : ∃ g, g = v.heap.size := ⟨_, rfl⟩
        rw [← hw] at hHeld HX2 HM0 HM2 HM3 ⊢
        rw [← hg] at HM3 ⊢
        clear hw hg
        exact T0_023 v2 g0 g2 g3 ⟨HX2, HM0, HM2, HM3⟩
    · rintro v g0 g3 ⟨HX, HN0, HN3⟩
      have hHeld := HX.out.blk
      refine wpAnyH_ready (rs := [4, 12, 22]) (by kernel_rfl) (by simp) ?_
      refine AllReadyH.cons rfl (fun K hK => ?_) (AllReadyH.cons rfl (fun K hK => ?_) (AllReadyH.cons rfl (fun K hK => ?_) AllReadyH.nil))
      · go_simp
        refine (HC0.out _ _ HN0.out).mono ?_
        rintro e w' ⟨rfl, rfl⟩
        refine hK.out _ _ ?_ (fun hHeld => ?_)
        · exact HX.out.blk
        clear hK K
        try simp only [Act.put, List.setIfInBounds_toArray, List.set_cons_zero, List.set_cons_succ, List.getElem_toArray, List.getElem_cons_zero, List.getElem_cons_succ]
        exact T1_03 v g0 g3 ⟨HX, HN3⟩
      · go_simp
        have HX2 := Lib.hid (HX.out.later ((Below.refl _ _).alloc (Nat.le_refl _) (.cells #[.int .i64 x.tm, .int .i64 x.tr] 2)))
        have HM1 : Hid (IsNums (v.alloc (.cells #[.int .i64 x.tm, .int .i64 x.tr] 2)).heap.size (v.alloc (.cells #[.int .i64 x.tm, .int .i64 x.tr] 2)) (some ⟨v.heap.size, 0, none⟩) 2 [x.tm, x.tr]) := Lib.hid (nums_new v [x.tm, x.tr] _ rfl)
        have HM0 := Lib.hid ((HN0.out.later ((Below.refl _ _).alloc (Nat.le_refl _) (.cells #[.int .i64 x.tm, .int .i64 x.tr] 2))).mono (((Below.refl _ _).alloc (Nat.le_refl _) (.cells #[.int .i64 x.tm, .int .i64 x.tr] 2)).size : v.heap.size ≤ _))
        have HM3 := Lib.hid ((HN3.out.later ((Below.refl _ _).alloc (Nat.le_refl _) (.cells #[.int .i64 x.tm, .int .i64 x.tr] 2))).mono (((Below.refl _ _).alloc (Nat.le_refl _) (.cells #[.int .i64 x.tm, .int .i64 x.tr] 2)).size : v.heap.size ≤ _))
        refine hK.out _ _ ?_ (fun hHeld => ?_)
        · exact HX2.out.blk
        clear hK K
        try simp only [Act.put, List.setIfInBounds_toArray, List.set_cons_zero, List.set_cons_succ, List.getElem_toArray, List.getElem_cons_zero, List.getElem_cons_succ]
        obtain ⟨v2, hw⟩ : ∃ z, z = v.alloc (.cells #[.int .i64 x.tm, .int .i64 x.tr] 2) := ⟨_, rfl⟩
        obtain ⟨g1, hg⟩ : ∃ g, g = v.heap.size := ⟨_, rfl⟩
        rw [← hw] at hHeld HX2 HM0 HM1 HM3 ⊢
        rw [← hg] at HM1 ⊢
        clear hw hg
        exact T0_013 v2 g0 g1 g3 ⟨HX2, HM0, HM1, HM3⟩
      · go_simp
        have HX2 := Lib.hid (HX.out.later ((Below.refl _ _).alloc (Nat.le_refl _) (.cells #[.int .i64 x.bm, .int .i64 x.br] 2)))
        have HM2 : Hid (IsNums (v.alloc (.cells #[.int .i64 x.bm, .int .i64 x.br] 2)).heap.size (v.alloc (.cells #[.int .i64 x.bm, .int .i64 x.br] 2)) (some ⟨v.heap.size, 0, none⟩) 2 [x.bm, x.br]) := Lib.hid (nums_new v [x.bm, x.br] _ rfl)
        have HM0 := Lib.hid ((HN0.out.later ((Below.refl _ _).alloc (Nat.le_refl _) (.cells #[.int .i64 x.bm, .int .i64 x.br] 2))).mono (((Below.refl _ _).alloc (Nat.le_refl _) (.cells #[.int .i64 x.bm, .int .i64 x.br] 2)).size : v.heap.size ≤ _))
        have HM3 := Lib.hid ((HN3.out.later ((Below.refl _ _).alloc (Nat.le_refl _) (.cells #[.int .i64 x.bm, .int .i64 x.br] 2))).mono (((Below.refl _ _).alloc (Nat.le_refl _) (.cells #[.int .i64 x.bm, .int .i64 x.br] 2)).size : v.heap.size ≤ _))
        refine hK.out _ _ ?_ (fun hHeld => ?_)
        · exact HX2.out.blk
        clear hK K
        try simp only [Act.put, List.setIfInBounds_toArray, List.set_cons_zero, List.set_cons_succ, List.getElem_toArray, List.getElem_cons_zero, List.getElem_cons_succ]
        obtain ⟨v2, hw⟩ : ∃ z, z = v.alloc (.cells #[.int .i64 x.bm, .int .i64 x.br] 2) := ⟨_, rfl⟩
        obtain ⟨g2, hg⟩ : ∃ g, g = v.heap.size := ⟨_, rfl⟩
        rw [← hw] at hHeld HX2 HM0 HM2 HM3 ⊢
        rw [← hg] at HM2 ⊢
        clear hw hg
        exact T0_023 v2 g0 g2 g3 ⟨HX2, HM0, HM2, HM3⟩
    · rintro v g1 g2 ⟨HX, HN1, HN2⟩
      have hHeld := HX.out.blk
      refine wpAnyH_ready (rs := [3, 29]) (by kernel_rfl) (by simp) ?_
      refine AllReadyH.cons rfl (fun K hK => ?_) (AllReadyH.cons rfl (fun K hK => ?_) AllReadyH.nil)
      · go_simp
        have HX2 := Lib.hid (HX.out.later ((Below.refl _ _).alloc (Nat.le_refl _) (.cells #[.int .i64 x.en] 2)))
        have HM0 : Hid (IsNums (v.alloc (.cells #[.int .i64 x.en] 2)).heap.size (v.alloc (.cells #[.int .i64 x.en] 2)) (some ⟨v.heap.size, 0, none⟩) 1 [x.en]) := Lib.hid (nums_new v [x.en] _ rfl)
        have HM1 := Lib.hid ((HN1.out.later ((Below.refl _ _).alloc (Nat.le_refl _) (.cells #[.int .i64 x.en] 2))).mono (((Below.refl _ _).alloc (Nat.le_refl _) (.cells #[.int .i64 x.en] 2)).size : v.heap.size ≤ _))
        have HM2 := Lib.hid ((HN2.out.later ((Below.refl _ _).alloc (Nat.le_refl _) (.cells #[.int .i64 x.en] 2))).mono (((Below.refl _ _).alloc (Nat.le_refl _) (.cells #[.int .i64 x.en] 2)).size : v.heap.size ≤ _))
        refine hK.out _ _ ?_ (fun hHeld => ?_)
        · exact HX2.out.blk
        clear hK K
        try simp only [Act.put, List.setIfInBounds_toArray, List.set_cons_zero, List.set_cons_succ, List.getElem_toArray, List.getElem_cons_zero, List.getElem_cons_succ]
        obtain ⟨v2, hw⟩ : ∃ z, z = v.alloc (.cells #[.int .i64 x.en] 2) := ⟨_, rfl⟩
        obtain ⟨g0, hg⟩ : ∃ g, g = v.heap.size := ⟨_, rfl⟩
        rw [← hw] at hHeld HX2 HM0 HM1 HM2 ⊢
        rw [← hg] at HM0 ⊢
        clear hw hg
        exact T0_012 v2 g0 g1 g2 ⟨HX2, HM0, HM1, HM2⟩
      · go_simp
        have HX2 := Lib.hid (HX.out.later ((Below.refl _ _).alloc (Nat.le_refl _) (.cells #[.int .i64 (x.sats.length : Int)] 2)))
        have HM3 : Hid (IsNums (v.alloc (.cells #[.int .i64 (x.sats.length : Int)] 2)).heap.size (v.alloc (.cells #[.int .i64 (x.sats.length : Int)] 2)) (some ⟨v.heap.size, 0, none⟩) 1 [(x.sats.length : Int)]) := Lib.hid (nums_new v [(x.sats.length : Int)] _ rfl)
        have HM1 := Lib.hid ((HN1.out.later ((Below.refl _ _).alloc (Nat.le_refl _) (.cells #[.int .i64 (x.sats.length : Int)] 2))).mono (((Below.refl _ _).alloc (Nat.le_refl _) (.cells #[.int .i64 (x.sats.length : Int)] 2)).size : v.heap.size ≤ _))
        have HM2 := Lib.hid ((HN2.out.later ((Below.refl _ _).alloc (Nat.le_refl _) (.cells #[.int .i64 (x.sats.length : Int)] 2))).mono (((Below.refl _ _).alloc (Nat.le_refl _) (.cells #[.int .i64 (x.sats.length : Int)] 2)).size : v.heap.size ≤ _))
        refine hK.out _ _ ?_ (fun hHeld => ?_)
        · exact HX2.out.blk
        clear hK K
        try simp only [Act.put, List.setIfInBounds_toArray, List.set_cons_zero, List.set_cons_succ, List.getElem_toArray, List.getElem_cons_zero, List.getElem_cons_succ]
        obtain ⟨v2, hw⟩ : ∃ z, z = v.alloc (.cells #[.int .i64 (x.sats.length : Int)] 2) := ⟨_, rfl⟩
        obtain ⟨g3, hg⟩ : ∃ g, g = v.heap.size := ⟨_, rfl⟩
        rw [← hw] at hHeld HX2 HM1 HM2 HM3 ⊢
        rw [← hg] at HM3 ⊢
        clear hw hg
        exact T0_123 v2 g1 g2 g3 ⟨HX2, HM1, HM2, HM3⟩
    · rintro v g1 g3 ⟨HX, HN1, HN3⟩
      have hHeld := HX.out.blk
      refine wpAnyH_ready (rs := [3, 22]) (by kernel_rfl) (by simp) ?_
      refine AllReadyH.cons rfl (fun K hK => ?_) (AllReadyH.cons rfl (fun K hK => ?_) AllReadyH.nil)
      · go_simp
        have HX2 := Lib.hid (HX.out.later ((Below.refl _ _).alloc (Nat.le_refl _) (.cells #[.int .i64 x.en] 2)))
        have HM0 : Hid (IsNums (v.alloc (.cells #[.int .i64 x.en] 2)).heap.size (v.alloc (.cells #[.int .i64 x.en] 2)) (some ⟨v.heap.size, 0, none⟩) 1 [x.en]) := Lib.hid (nums_new v [x.en] _ rfl)
        have HM1 := Lib.hid ((HN1.out.later ((Below.refl _ _).alloc (Nat.le_refl _) (.cells #[.int .i64 x.en] 2))).mono (((Below.refl _ _).alloc (Nat.le_refl _) (.cells #[.int .i64 x.en] 2)).size : v.heap.size ≤ _))
        have HM3 := Lib.hid ((HN3.out.later ((Below.refl _ _).alloc (Nat.le_refl _) (.cells #[.int .i64 x.en] 2))).mono (((Below.refl _ _).alloc (Nat.le_refl _) (.cells #[.int .i64 x.en] 2)).size : v.heap.size ≤ _))
        refine hK.out _ _ ?_ (fun hHeld => ?_)
        · exact HX2.out.blk
        clear hK K
        try simp only [Act.put, List.setIfInBounds_toArray, List.set_cons_zero, List.set_cons_succ, List.getElem_toArray, List.getElem_cons_zero, List.getElem_cons_succ]
        obtain ⟨v2, hw⟩ : ∃ z, z = v.alloc (.cells #[.int .i64 x.en] 2) := ⟨_, rfl⟩
        obtain ⟨g0, hg⟩ : ∃ g, g = v.heap.size := ⟨_, rfl⟩
        rw [← hw] at hHeld HX2 HM0 HM1 HM3 ⊢
        rw [← hg] at HM0 ⊢
        clear hw hg
        exact T0_013 v2 g0 g1 g3 ⟨HX2, HM0, HM1, HM3⟩
      · go_simp
        have HX2 := Lib.hid (HX.out.later ((Below.refl _ _).alloc (Nat.le_refl _) (.cells #[.int .i64 x.bm, .int .i64 x.br] 2)))
        have HM2 : Hid (IsNums (v.alloc (.cells #[.int .i64 x.bm, .int .i64 x.br] 2)).heap.size (v.alloc (.cells #[.int .i64 x.bm, .int .i64 x.br] 2)) (some ⟨v.heap.size, 0, none⟩) 2 [x.bm, x.br]) := Lib.hid (nums_new v [x.bm, x.br] _ rfl)
        have HM1 := Lib.hid ((HN1.out.later ((Below.refl _ _).alloc (Nat.le_refl _) (.cells #[.int .i64 x.bm, .int .i64 x.br] 2))).mono (((Below.refl _ _).alloc (Nat.le_refl _) (.cells #[.int .i64 x.bm, .int .i64 x.br] 2)).size : v.heap.size ≤ _))
        have HM3 := Lib.hid ((HN3.out.later ((Below.refl _ _).alloc (Nat.le_refl _) (.cells #[.int .i64 x.bm, .int .i64 x.br] 2))).mono (((Below.refl _ _).alloc (Nat.le_refl _) (.cells #[.int .i64 x.bm, .int .i64 x.br] 2)).size : v.heap.size ≤ _))
        refine hK.out _ _ ?_ (fun hHeld => ?_)
        · exact HX2.out.blk
        clear hK K
        try simp only [Act.put, List.setIfInBounds_toArray, List.set_cons_zero, List.set_cons_succ, List.getElem_toArray, List.getElem_cons_zero, List.getElem_cons_succ]
        obtain ⟨v2, hw⟩ : ∃ z, z = v.alloc (.cells #[.int .i64 x.bm, .int .i64 x.br] 2) := ⟨_, rfl⟩
        obtain ⟨g2, hg⟩ : ∃ g, g = v.heap.size := ⟨_, rfl⟩
        rw [← hw] at hHeld HX2 HM1 HM2 HM3 ⊢
        rw [← hg] at HM2 ⊢
        clear hw hg
        exact T0_123 v2 g1 g2 g3 ⟨HX2, HM1, HM2, HM3⟩
    · rintro v g2 g3 ⟨HX, HN2, HN3⟩
      have hHeld := HX.out.blk
      refine wpAnyH_ready (rs := [3, 12]) (by kernel_rfl) (by simp) ?_
      refine AllReadyH.cons rfl (fun K hK => ?_) (AllReadyH.cons rfl (fun K hK => ?_) AllReadyH.nil)
      · go_simp
        have HX2 := Lib.hid (HX.out.later ((Below.refl _ _).alloc (Nat.le_refl _) (.cells #[.int .i64 x.en] 2)))
        have HM0 : Hid (IsNums (v.alloc (.cells #[.int .i64 x.en] 2)).heap.size (v.alloc (.cells #[.int .i64 x.en] 2)) (some ⟨v.heap.size, 0, none⟩) 1 [x.en]) := Lib.hid (nums_new v [x.en] _ rfl)
        have HM2 := Lib.hid ((HN2.out.later ((Below.refl _ _).alloc (Nat.le_refl _) (.cells #[.int .i64 x.en] 2))).mono (((Below.refl _ _).alloc (Nat.le_refl _) (.cells #[.int .i64 x.en] 2)).size : v.heap.size ≤ _))
        have HM3 := Lib.hid ((HN3.out.later ((Below.refl _ _).alloc (Nat.le_refl _) (.cells #[.int .i64 x.en] 2))).mono (((Below.refl _ _).alloc (Nat.le_refl _) (.cells #[.int .i64 x.en] 2)).size : v.heap.size ≤ _))
        refine hK.out _ _ ?_ (fun hHeld => ?_)
        · exact HX2.out.blk
        clear hK K
        try simp only [Act.put, List.setIfInBounds_toArray, List.set_cons_zero, List.set_cons_succ, List.getElem_toArray, List.getElem_cons_zero, List.getElem_cons_succ]
        obtain ⟨v2, hw⟩ : ∃ z, z = v.alloc (.cells #[.int .i64 x.en] 2) := ⟨_, rfl⟩
        obtain ⟨g0, hg⟩ : ∃ g, g = v.heap.size := ⟨_, rfl⟩
        rw [← hw] at hHeld HX2 HM0 HM2 HM3 ⊢
        rw [← hg] at HM0 ⊢
        clear hw hg
        exact T0_023 v2 g0 g2 g3 ⟨HX2, HM0, HM2, HM3⟩
      · go_simp
        have HX2 := Lib.hid (HX.out.later ((Below.refl _ _).alloc (Nat.le_refl _) (.cells #[.int .i64 x.tm, .int .i64 x.tr] 2)))
        have HM1 : Hid (IsNums (v.alloc (.cells #[.int .i64 x.tm, .int .i64 x.tr] 2)).heap.size (v.alloc (.cells #[.int .i64 x.tm, .int .i64 x.tr] 2)) (some ⟨v.heap.size, 0, none⟩) 2 [x.tm, x.tr]) := Lib.hid (nums_new v [x.tm, x.tr] _ rfl)
        have HM2 := Lib.hid ((HN2.out.later ((Below.refl _ _).alloc (Nat.le_refl _) (.cells #[.int .i64 x.tm, .int .i64 x.tr] 2))).mono (((Below.refl _ _).alloc (Nat.le_refl _) (.cells #[.int .i64 x.tm, .int .i64 x.tr] 2)).size : v.heap.size ≤ _))
        have HM3 := Lib.hid ((HN3.out.later ((Below.refl _ _).alloc (Nat.le_refl _) (.cells #[.int .i64 x.tm, .int .i64 x.tr] 2))).mono (((Below.refl _ _).alloc (Nat.le_refl _) (.cells #[.int .i64 x.tm, .int .i64 x.tr] 2)).size : v.heap.size ≤ _))
        refine hK.out _ _ ?_ (fun hHeld => ?_)
        · exact HX2.out.blk
        clear hK K
        try simp only [Act.put, List.setIfInBounds_toArray, List.set_cons_zero, List.set_cons_succ, List.getElem_toArray, List.getElem_cons_zero, List.getElem_cons_succ]
        obtain ⟨v2, hw⟩ : ∃ z, z = v.alloc (.cells #[.int .i64 x.tm, .int .i64 x.tr] 2) := ⟨_, rfl⟩
        obtain ⟨g1, hg⟩ : ∃ g, g = v.heap.size := ⟨_, rfl⟩
        rw [← hw] at hHeld HX2 HM1 HM2 HM3 ⊢
        rw [← hg] at HM1 ⊢
        clear hw hg
        exact T0_123 v2 g1 g2 g3 ⟨HX2, HM1, HM2, HM3⟩
    · rintro v g0 HX
      have hHeld := HX.out.blk
      refine wpAnyH_ready (rs := [12, 22, 29]) (by kernel_rfl) (by simp) ?_
      refine AllReadyH.cons rfl (fun K hK => ?_) (AllReadyH.cons rfl (fun K hK => ?_) (AllReadyH.cons rfl (fun K hK => ?_) AllReadyH.nil))
      · go_simp
        have HX2 := Lib.hid (HX.out.later ((Below.refl _ _).alloc (Nat.le_refl _) (.cells #[.int .i64 x.tm, .int .i64 x.tr] 2)))
        have HM1 : Hid (IsNums (v.alloc (.cells #[.int .i64 x.tm, .int .i64 x.tr] 2)).heap.size (v.alloc (.cells #[.int .i64 x.tm, .int .i64 x.tr] 2)) (some ⟨v.heap.size, 0, none⟩) 2 [x.tm, x.tr]) := Lib.hid (nums_new v [x.tm, x.tr] _ rfl)
        refine hK.out _ _ ?_ (fun hHeld => ?_)
        · exact HX2.out.blk
        clear hK K
        try simp only [Act.put, List.setIfInBounds_toArray, List.set_cons_zero, List.set_cons_succ, List.getElem_toArray, List.getElem_cons_zero, List.getElem_cons_succ]
        obtain ⟨v2, hw⟩ : ∃ z, z = v.alloc (.cells #[.int .i64 x.tm, .int .i64 x.tr] 2) := ⟨_, rfl⟩
        obtain ⟨g1, hg⟩ : ∃ g, g = v.heap.size := ⟨_, rfl⟩
        rw [← hw] at hHeld HX2 HM1 ⊢
        rw [← hg] at HM1 ⊢
        clear hw hg
        exact T1_01 v2 g0 g1 ⟨HX2, HM1⟩
      · go_simp
        have HX2 := Lib.hid (HX.out.later ((Below.refl _ _).alloc (Nat.le_refl _) (.cells #[.int .i64 x.bm, .int .i64 x.br] 2)))
        have HM2 : Hid (IsNums (v.alloc (.cells #[.int .i64 x.bm, .int .i64 x.br] 2)).heap.size (v.alloc (.cells #[.int .i64 x.bm, .int .i64 x.br] 2)) (some ⟨v.heap.size, 0, none⟩) 2 [x.bm, x.br]) := Lib.hid (nums_new v [x.bm, x.br] _ rfl)
        refine hK.out _ _ ?_ (fun hHeld => ?_)
        · exact HX2.out.blk
        clear hK K
        try simp only [Act.put, List.setIfInBounds_toArray, List.set_cons_zero, List.set_cons_succ, List.getElem_toArray, List.getElem_cons_zero, List.getElem_cons_succ]
        obtain ⟨v2, hw⟩ : ∃ z, z = v.alloc (.cells #[.int .i64 x.bm, .int .i64 x.br] 2) := ⟨_, rfl⟩
        obtain ⟨g2, hg⟩ : ∃ g, g = v.heap.size := ⟨_, rfl⟩
        rw [← hw] at hHeld HX2 HM2 ⊢
        rw [← hg] at HM2 ⊢
        clear hw hg
        exact T1_02 v2 g0 g2 ⟨HX2, HM2⟩
      · go_simp
        have HX2 := Lib.hid (HX.out.later ((Below.refl _ _).alloc (Nat.le_refl _) (.cells #[.int .i64 (x.sats.length : Int)] 2)))
        have HM3 : Hid (IsNums (v.alloc (.cells #[.int .i64 (x.sats.length : Int)] 2)).heap.size (v.alloc (.cells #[.int .i64 (x.sats.length : Int)] 2)) (some ⟨v.heap.size, 0, none⟩) 1 [(x.sats.length : Int)]) := Lib.hid (nums_new v [(x.sats.length : Int)] _ rfl)
        refine hK.out _ _ ?_ (fun hHeld => ?_)
        · exact HX2.out.blk
        clear hK K
        try simp only [Act.put, List.setIfInBounds_toArray, List.set_cons_zero, List.set_cons_succ, List.getElem_toArray, List.getElem_cons_zero, List.getElem_cons_succ]
        obtain ⟨v2, hw⟩ : ∃ z, z = v.alloc (.cells #[.int .i64 (x.sats.length : Int)] 2) := ⟨_, rfl⟩
        obtain ⟨g3, hg⟩ : ∃ g, g = v.heap.size := ⟨_, rfl⟩
        rw [← hw] at hHeld HX2 HM3 ⊢
        rw [← hg] at HM3 ⊢
        clear hw hg
        exact T1_03 v2 g0 g3 ⟨HX2, HM3⟩
    · rintro v g0 g1 g2 ⟨HX, HN0, HN1, HN2⟩
      have hHeld := HX.out.blk
      refine wpAnyH_ready (rs := [4, 29]) (by kernel_rfl) (by simp) ?_
      refine AllReadyH.cons rfl (fun K hK => ?_) (AllReadyH.cons rfl (fun K hK => ?_) AllReadyH.nil)
      · go_simp
        refine (HC0.out _ _ HN0.out).mono ?_
        rintro e w' ⟨rfl, rfl⟩
        refine hK.out _ _ ?_ (fun hHeld => ?_)
        · exact HX.out.blk
        clear hK K
        try simp only [Act.put, List.setIfInBounds_toArray, List.set_cons_zero, List.set_cons_succ, List.getElem_toArray, List.getElem_cons_zero, List.getElem_cons_succ]
        exact T1_012 v g0 g1 g2 ⟨HX, HN1, HN2⟩
      · go_simp
        have HX2 := Lib.hid (HX.out.later ((Below.refl _ _).alloc (Nat.le_refl _) (.cells #[.int .i64 (x.sats.length : Int)] 2)))
        have HM3 : Hid (IsNums (v.alloc (.cells #[.int .i64 (x.sats.length : Int)] 2)).heap.size (v.alloc (.cells #[.int .i64 (x.sats.length : Int)] 2)) (some ⟨v.heap.size, 0, none⟩) 1 [(x.sats.length : Int)]) := Lib.hid (nums_new v [(x.sats.length : Int)] _ rfl)
        have HM0 := Lib.hid ((HN0.out.later ((Below.refl _ _).alloc (Nat.le_refl _) (.cells #[.int .i64 (x.sats.length : Int)] 2))).mono (((Below.refl _ _).alloc (Nat.le_refl _) (.cells #[.int .i64 (x.sats.length : Int)] 2)).size : v.heap.size ≤ _))
        have HM1 := Lib.hid ((HN1.out.later ((Below.refl _ _).alloc (Nat.le_refl _) (.cells #[.int .i64 (x.sats.length : Int)] 2))).mono (((Below.refl _ _).alloc (Nat.le_refl _) (.cells #[.int .i64 (x.sats.length : Int)] 2)).size : v.heap.size ≤ _))
        have HM2 := Lib.hid ((HN2.out.later ((Below.refl _ _).alloc (Nat.le_refl _) (.cells #[.int .i64 (x.sats.length : Int)] 2))).mono (((Below.refl _ _).alloc (Nat.le_refl _) (.cells #[.int .i64 (x.sats.length : Int)] 2)).size : v.heap.size ≤ _))
        refine hK.out _ _ ?_ (fun hHeld => ?_)
        · exact HX2.out.blk
        clear hK K
        try simp only [Act.put, List.setIfInBounds_toArray, List.set_cons_zero, List.set_cons_succ, List.getElem_toArray, List.getElem_cons_zero, List.getElem_cons_succ]
        obtain ⟨v2, hw⟩ : ∃ z, z = v.alloc (.cells #[.int .i64 (x.sats.length : Int)] 2) := ⟨_, rfl⟩
        obtain ⟨g3, hg⟩ : ∃ g, g = v.heap.size := ⟨_, rfl⟩
        rw [← hw] at hHeld HX2 HM0 HM1 HM2 HM3 ⊢
        rw [← hg] at HM3 ⊢
        clear hw hg
        exact T0_0123 v2 g0 g1 g2 g3 ⟨HX2, HM0, HM1, HM2, HM3⟩
    · rintro v g0 g1 g3 ⟨HX, HN0, HN1, HN3⟩
      have hHeld := HX.out.blk
      refine wpAnyH_ready (rs := [4, 22]) (by kernel_rfl) (by simp) ?_
      refine AllReadyH.cons rfl (fun K hK => ?_) (AllReadyH.cons rfl (fun K hK => ?_) AllReadyH.nil)
      · go_simp
        refine (HC0.out _ _ HN0.out).mono ?_
        rintro e w' ⟨rfl, rfl⟩
        refine hK.out _ _ ?_ (fun hHeld => ?_)
        · exact HX.out.blk
        clear hK K
        try simp only [Act.put, List.setIfInBounds_toArray, List.set_cons_zero, List.set_cons_succ, List.getElem_toArray, List.getElem_cons_zero, List.getElem_cons_succ]
        exact T1_013 v g0 g1 g3 ⟨HX, HN1, HN3⟩
      · go_simp
        have HX2 := Lib.hid (HX.out.later ((Below.refl _ _).alloc (Nat.le_refl _) (.cells #[.int .i64 x.bm, .int .i64 x.br] 2)))
        have HM2 : Hid (IsNums (v.alloc (.cells #[.int .i64 x.bm, .int .i64 x.br] 2)).heap.size (v.alloc (.cells #[.int .i64 x.bm, .int .i64 x.br] 2)) (some ⟨v.heap.size, 0, none⟩) 2 [x.bm, x.br]) := Lib.hid (nums_new v [x.bm, x.br] _ rfl)
        have HM0 := Lib.hid ((HN0.out.later ((Below.refl _ _).alloc (Nat.le_refl _) (.cells #[.int .i64 x.bm, .int .i64 x.br] 2))).mono (((Below.refl _ _).alloc (Nat.le_refl _) (.cells #[.int .i64 x.bm, .int .i64 x.br] 2)).size : v.heap.size ≤ _))
        have HM1 := Lib.hid ((HN1.out.later ((Below.refl _ _).alloc (Nat.le_refl _) (.cells #[.int .i64 x.bm, .int .i64 x.br] 2))).mono (((Below.refl _ _).alloc (Nat.le_refl _) (.cells #[.int .i64 x.bm, .int .i64 x.br] 2)).size : v.heap.size ≤ _))
        have HM3 := Lib.hid ((HN3.out.later ((Below.refl _ _).alloc (Nat.le_refl _) (.cells #[.int .i64 x.bm, .int .i64 x.br] 2))).mono (((Below.refl _ _).alloc (Nat.le_refl _) (.cells #[.int .i64 x.bm, .int .i64 x.br] 2)).size : v.heap.size ≤ _))
        refine hK.out _ _ ?_ (fun hHeld => ?_)
        · exact HX2.out.blk
        clear hK K
        try simp only [Act.put, List.setIfInBounds_toArray, List.set_cons_zero, List.set_cons_succ, List.getElem_toArray, List.getElem_cons_zero, List.getElem_cons_succ]
        obtain ⟨v2, hw⟩ : ∃ z, z = v.alloc (.cells #[.int .i64 x.bm, .int .i64 x.br] 2) := ⟨_, rfl⟩
        obtain ⟨g2, hg⟩ : ∃ g, g = v.heap.size := ⟨_, rfl⟩
        rw [← hw] at hHeld HX2 HM0 HM1 HM2 HM3 ⊢
        rw [← hg] at HM2 ⊢
        clear hw hg
        exact T0_0123 v2 g0 g1 g2 g3 ⟨HX2, HM0, HM1, HM2, HM3⟩
    · rintro v g0 g2 g3 ⟨HX, HN0, HN2, HN3⟩
      have hHeld := HX.out.blk
      refine wpAnyH_ready (rs := [4, 12]) (by kernel_rfl) (by simp) ?_
      refine AllReadyH.cons rfl (fun K hK => ?_) (AllReadyH.cons rfl (fun K hK => ?_) AllReadyH.nil)
      · go_simp
        refine (HC0.out _ _ HN0.out).mono ?_
        rintro e w' ⟨rfl, rfl⟩
        refine hK.out _ _ ?_ (fun hHeld => ?_)
        · exact HX.out.blk
        clear hK K
        try simp only [Act.put, List.setIfInBounds_toArray, List.set_cons_zero, List.set_cons_succ, List.getElem_toArray, List.getElem_cons_zero, List.getElem_cons_succ]
        exact T1_023 v g0 g2 g3 ⟨HX, HN2, HN3⟩
      · go_simp
        have HX2 := Lib.hid (HX.out.later ((Below.refl _ _).alloc (Nat.le_refl _) (.cells #[.int .i64 x.tm, .int .i64 x.tr] 2)))
        have HM1 : Hid (IsNums (v.alloc (.cells #[.int .i64 x.tm, .int .i64 x.tr] 2)).heap.size (v.alloc (.cells #[.int .i64 x.tm, .int .i64 x.tr] 2)) (some ⟨v.heap.size, 0, none⟩) 2 [x.tm, x.tr]) := Lib.hid (nums_new v [x.tm, x.tr] _ rfl)
        have HM0 := Lib.hid ((HN0.out.later ((Below.refl _ _).alloc (Nat.le_refl _) (.cells #[.int .i64 x.tm, .int .i64 x.tr] 2))).mono (((Below.refl _ _).alloc (Nat.le_refl _) (.cells #[.int .i64 x.tm, .int .i64 x.tr] 2)).size : v.heap.size ≤ _))
        have HM2 := Lib.hid ((HN2.out.later ((Below.refl _ _).alloc (Nat.le_refl _) (.cells #[.int .i64 x.tm, .int .i64 x.tr] 2))).mono (((Below.refl _ _).alloc (Nat.le_refl _) (.cells #[.int .i64 x.tm, .int .i64 x.tr] 2)).size : v.heap.size ≤ _))
        have HM3 := Lib.hid ((HN3.out.later ((Below.refl _ _).alloc (Nat.le_refl _) (.cells #[.int .i64 x.tm, .int .i64 x.tr] 2))).mono (((Below.refl _ _).alloc (Nat.le_refl _) (.cells #[.int .i64 x.tm, .int .i64 x.tr] 2)).size : v.heap.size ≤ _))
        refine hK.out _ _ ?_ (fun hHeld => ?_)
        · exact HX2.out.blk
        clear hK K
        try simp only [Act.put, List.setIfInBounds_toArray, List.set_cons_zero, List.set_cons_succ, List.getElem_toArray, List.getElem_cons_zero, List.getElem_cons_succ]
        obtain ⟨v2, hw⟩ : ∃ z, z = v.alloc (.cells #[.int .i64 x.tm, .int .i64 x.tr] 2) := ⟨_, rfl⟩
        obtain ⟨g1, hg⟩ : ∃ g, g = v.heap.size := ⟨_, rfl⟩
        rw [← hw] at hHeld HX2 HM0 HM1 HM2 HM3 ⊢
        rw [← hg] at HM1 ⊢
        clear hw hg
        exact T0_0123 v2 g0 g1 g2 g3 ⟨HX2, HM0, HM1, HM2, HM3⟩
    · rintro v g1 g2 g3 ⟨HX, HN1, HN2, HN3⟩
      have hHeld := HX.out.blk
      refine wpAnyH_ready (rs := [3]) (by kernel_rfl) (by simp) ?_
      refine AllReadyH.cons rfl (fun K hK => ?_) AllReadyH.nil
      go_simp
      have HX2 := Lib.hid (HX.out.later ((Below.refl _ _).alloc (Nat.le_refl _) (.cells #[.int .i64 x.en] 2)))
      have HM0 : Hid (IsNums (v.alloc (.cells #[.int .i64 x.en] 2)).heap.size (v.alloc (.cells #[.int .i64 x.en] 2)) (some ⟨v.heap.size, 0, none⟩) 1 [x.en]) := Lib.hid (nums_new v [x.en] _ rfl)
      have HM1 := Lib.hid ((HN1.out.later ((Below.refl _ _).alloc (Nat.le_refl _) (.cells #[.int .i64 x.en] 2))).mono (((Below.refl _ _).alloc (Nat.le_refl _) (.cells #[.int .i64 x.en] 2)).size : v.heap.size ≤ _))
      have HM2 := Lib.hid ((HN2.out.later ((Below.refl _ _).alloc (Nat.le_refl _) (.cells #[.int .i64 x.en] 2))).mono (((Below.refl _ _).alloc (Nat.le_refl _) (.cells #[.int .i64 x.en] 2)).size : v.heap.size ≤ _))
      have HM3 := Lib.hid ((HN3.out.later ((Below.refl _ _).alloc (Nat.le_refl _) (.cells #[.int .i64 x.en] 2))).mono (((Below.refl _ _).alloc (Nat.le_refl _) (.cells #[.int .i64 x.en] 2)).size : v.heap.size ≤ _))
      refine hK.out _ _ ?_ (fun hHeld => ?_)
      · exact HX2.out.blk
      clear hK K
      try simp only [Act.put, List.setIfInBounds_toArray, List.set_cons_zero, List.set_cons_succ, List.getElem_toArray, List.getElem_cons_zero, List.getElem_cons_succ]
      obtain ⟨v2, hw⟩ : ∃ z, z = v.alloc (.cells #[.int .i64 x.en] 2) := ⟨_, rfl⟩
      obtain ⟨g0, hg⟩ : ∃ g, g = v.heap.size := ⟨_, rfl⟩
      rw [← hw] at hHeld HX2 HM0 HM1 HM2 HM3 ⊢
      rw [← hg] at HM0 ⊢
      clear hw hg
      exact T0_0123 v2 g0 g1 g2 g3 ⟨HX2, HM0, HM1, HM2, HM3⟩
    · rintro v g0 g1 ⟨HX, HN1⟩
      have hHeld := HX.out.blk
      refine wpAnyH_ready (rs := [13, 22, 29]) (by kernel_rfl) (by simp) ?_
      refine AllReadyH.cons rfl (fun K hK => ?_) (AllReadyH.cons rfl (fun K hK => ?_) (AllReadyH.cons rfl (fun K hK => ?_) AllReadyH.nil))
      · go_simp
        refine (HC1.out _ _ HN1.out).mono ?_
        rintro e w' ⟨rfl, rfl⟩
        refine hK.out _ _ ?_ (fun hHeld => ?_)
        · exact HX.out.blk
        clear hK K
        try simp only [Act.put, List.setIfInBounds_toArray, List.set_cons_zero, List.set_cons_succ, List.getElem_toArray, List.getElem_cons_zero, List.getElem_cons_succ]
        refine wpAnyH_take (i := 14) (v := ?_) rfl (by kernel_rfl) (by kernel_rfl) (by kernel_rfl) (fun _ _ _ h => h) (Or.inl ⟨by rfl, ?_⟩) hHeld ?_
        rotate_left
        · intro Wz hWz; clear hWz; go_simp; (try with_reducible rfl)
        try simp only [Act.put, List.setIfInBounds_toArray, List.set_cons_zero, List.set_cons_succ, List.getElem_toArray, List.getElem_cons_zero, List.getElem_cons_succ]
        exact T2_01 v g0 g1 HX
      · go_simp
        have HX2 := Lib.hid (HX.out.later ((Below.refl _ _).alloc (Nat.le_refl _) (.cells #[.int .i64 x.bm, .int .i64 x.br] 2)))
        have HM2 : Hid (IsNums (v.alloc (.cells #[.int .i64 x.bm, .int .i64 x.br] 2)).heap.size (v.alloc (.cells #[.int .i64 x.bm, .int .i64 x.br] 2)) (some ⟨v.heap.size, 0, none⟩) 2 [x.bm, x.br]) := Lib.hid (nums_new v [x.bm, x.br] _ rfl)
        have HM1 := Lib.hid ((HN1.out.later ((Below.refl _ _).alloc (Nat.le_refl _) (.cells #[.int .i64 x.bm, .int .i64 x.br] 2))).mono (((Below.refl _ _).alloc (Nat.le_refl _) (.cells #[.int .i64 x.bm, .int .i64 x.br] 2)).size : v.heap.size ≤ _))
        refine hK.out _ _ ?_ (fun hHeld => ?_)
        · exact HX2.out.blk
        clear hK K
        try simp only [Act.put, List.setIfInBounds_toArray, List.set_cons_zero, List.set_cons_succ, List.getElem_toArray, List.getElem_cons_zero, List.getElem_cons_succ]
        obtain ⟨v2, hw⟩ : ∃ z, z = v.alloc (.cells #[.int .i64 x.bm, .int .i64 x.br] 2) := ⟨_, rfl⟩
        obtain ⟨g2, hg⟩ : ∃ g, g = v.heap.size := ⟨_, rfl⟩
        rw [← hw] at hHeld HX2 HM1 HM2 ⊢
        rw [← hg] at HM2 ⊢
        clear hw hg
        exact T1_012 v2 g0 g1 g2 ⟨HX2, HM1, HM2⟩
      · go_simp
        have HX2 := Lib.hid (HX.out.later ((Below.refl _ _).alloc (Nat.le_refl _) (.cells #[.int .i64 (x.sats.length : Int)] 2)))
        have HM3 : Hid (IsNums (v.alloc (.cells #[.int .i64 (x.sats.length : Int)] 2)).heap.size (v.alloc (.cells #[.int .i64 (x.sats.length : Int)] 2)) (some ⟨v.heap.size, 0, none⟩) 1 [(x.sats.length : Int)]) := Lib.hid (nums_new v [(x.sats.length : Int)] _ rfl)
        have HM1 := Lib.hid ((HN1.out.later ((Below.refl _ _).alloc (Nat.le_refl _) (.cells #[.int .i64 (x.sats.length : Int)] 2))).mono (((Below.refl _ _).alloc (Nat.le_refl _) (.cells #[.int .i64 (x.sats.length : Int)] 2)).size : v.heap.size ≤ _))
        refine hK.out _ _ ?_ (fun hHeld => ?_)
        · exact HX2.out.blk
        clear hK K
        try simp only [Act.put, List.setIfInBounds_toArray, List.set_cons_zero, List.set_cons_succ, List.getElem_toArray, List.getElem_cons_zero, List.getElem_cons_succ]
        obtain ⟨v2, hw⟩ : ∃ z, z = v.alloc (.cells #[.int .i64 (x.sats.length : Int)] 2) := ⟨_, rfl⟩
        obtain ⟨g3, hg⟩ : ∃ g, g = v.heap.size := ⟨_, rfl⟩
        rw [← hw] at hHeld HX2 HM1 HM3 ⊢
        rw [← hg] at HM3 ⊢
        clear hw hg
        exact T1_013 v2 g0 g1 g3 ⟨HX2, HM1, HM3⟩
    · rintro v g0 g2 ⟨HX, HN2⟩
      have hHeld := HX.out.blk
      refine wpAnyH_ready (rs := [12, 29]) (by kernel_rfl) (by simp) ?_
      refine AllReadyH.cons rfl (fun K hK => ?_) (AllReadyH.cons rfl (fun K hK => ?_) AllReadyH.nil)
      · go_simp
        have HX2 := Lib.hid (HX.out.later ((Below.refl _ _).alloc (Nat.le_refl _) (.cells #[.int .i64 x.tm, .int .i64 x.tr] 2)))
        have HM1 : Hid (IsNums (v.alloc (.cells #[.int .i64 x.tm, .int .i64 x.tr] 2)).heap.size (v.alloc (.cells #[.int .i64 x.tm, .int .i64 x.tr] 2)) (some ⟨v.heap.size, 0, none⟩) 2 [x.tm, x.tr]) := Lib.hid (nums_new v [x.tm, x.tr] _ rfl)
        have HM2 := Lib.hid ((HN2.out.later ((Below.refl _ _).alloc (Nat.le_refl _) (.cells #[.int .i64 x.tm, .int .i64 x.tr] 2))).mono (((Below.refl _ _).alloc (Nat.le_refl _) (.cells #[.int .i64 x.tm, .int .i64 x.tr] 2)).size : v.heap.size ≤ _))
        refine hK.out _ _ ?_ (fun hHeld => ?_)
        · exact HX2.out.blk
        clear hK K
        try simp only [Act.put, List.setIfInBounds_toArray, List.set_cons_zero, List.set_cons_succ, List.getElem_toArray, List.getElem_cons_zero, List.getElem_cons_succ]
        obtain ⟨v2, hw⟩ : ∃ z, z = v.alloc (.cells #[.int .i64 x.tm, .int .i64 x.tr] 2) := ⟨_, rfl⟩
        obtain ⟨g1, hg⟩ : ∃ g, g = v.heap.size := ⟨_, rfl⟩
        rw [← hw] at hHeld HX2 HM1 HM2 ⊢
        rw [← hg] at HM1 ⊢
        clear hw hg
        exact T1_012 v2 g0 g1 g2 ⟨HX2, HM1, HM2⟩
      · go_simp
        have HX2 := Lib.hid (HX.out.later ((Below.refl _ _).alloc (Nat.le_refl _) (.cells #[.int .i64 (x.sats.length : Int)] 2)))
        have HM3 : Hid (IsNums (v.alloc (.cells #[.int .i64 (x.sats.length : Int)] 2)).heap.size (v.alloc (.cells #[.int .i64 (x.sats.length : Int)] 2)) (some ⟨v.heap.size, 0, none⟩) 1 [(x.sats.length : Int)]) := Lib.hid (nums_new v [(x.sats.length : Int)] _ rfl)
        have HM2 := Lib.hid ((HN2.out.later ((Below.refl _ _).alloc (Nat.le_refl _) (.cells #[.int .i64 (x.sats.length : Int)] 2))).mono (((Below.refl _ _).alloc (Nat.le_refl _) (.cells #[.int .i64 (x.sats.length : Int)] 2)).size : v.heap.size ≤ _))
        refine hK.out _ _ ?_ (fun hHeld => ?_)
        · exact HX2.out.blk
        clear hK K
        try simp only [Act.put, List.setIfInBounds_toArray, List.set_cons_zero, List.set_cons_succ, List.getElem_toArray, List.getElem_cons_zero, List.getElem_cons_succ]
        obtain ⟨v2, hw⟩ : ∃ z, z = v.alloc (.cells #[.int .i64 (x.sats.length : Int)] 2) := ⟨_, rfl⟩
        obtain ⟨g3, hg⟩ : ∃ g, g = v.heap.size := ⟨_, rfl⟩
        rw [← hw] at hHeld HX2 HM2 HM3 ⊢
        rw [← hg] at HM3 ⊢
        clear hw hg
        exact T1_023 v2 g0 g2 g3 ⟨HX2, HM2, HM3⟩
    · rintro v g0 g3 ⟨HX, HN3⟩
      have hHeld := HX.out.blk
      refine wpAnyH_ready (rs := [12, 22]) (by kernel_rfl) (by simp) ?_
      refine AllReadyH.cons rfl (fun K hK => ?_) (AllReadyH.cons rfl (fun K hK => ?_) AllReadyH.nil)
      · go_simp
        have HX2 := Lib.hid (HX.out.later ((Below.refl _ _).alloc (Nat.le_refl _) (.cells #[.int .i64 x.tm, .int .i64 x.tr] 2)))
        have HM1 : Hid (IsNums (v.alloc (.cells #[.int .i64 x.tm, .int .i64 x.tr] 2)).heap.size (v.alloc (.cells #[.int .i64 x.tm, .int .i64 x.tr] 2)) (some ⟨v.heap.size, 0, none⟩) 2 [x.tm, x.tr]) := Lib.hid (nums_new v [x.tm, x.tr] _ rfl)
        have HM3 := Lib.hid ((HN3.out.later ((Below.refl _ _).alloc (Nat.le_refl _) (.cells #[.int .i64 x.tm, .int .i64 x.tr] 2))).mono (((Below.refl _ _).alloc (Nat.le_refl _) (.cells #[.int .i64 x.tm, .int .i64 x.tr] 2)).size : v.heap.size ≤ _))
        refine hK.out _ _ ?_ (fun hHeld => ?_)
        · exact HX2.out.blk
        clear hK K
        try simp only [Act.put, List.setIfInBounds_toArray, List.set_cons_zero, List.set_cons_succ, List.getElem_toArray, List.getElem_cons_zero, List.getElem_cons_succ]
        obtain ⟨v2, hw⟩ : ∃ z, z = v.alloc (.cells #[.int .i64 x.tm, .int .i64 x.tr] 2) := ⟨_, rfl⟩
        obtain ⟨g1, hg⟩ : ∃ g, g = v.heap.size := ⟨_, rfl⟩
        rw [← hw] at hHeld HX2 HM1 HM3 ⊢
        rw [← hg] at HM1 ⊢
        clear hw hg
        exact T1_013 v2 g0 g1 g3 ⟨HX2, HM1, HM3⟩
      · go_simp
        have HX2 := Lib.hid (HX.out.later ((Below.refl _ _).alloc (Nat.le_refl _) (.cells #[.int .i64 x.bm, .int .i64 x.br] 2)))
        have HM2 : Hid (IsNums (v.alloc (.cells #[.int .i64 x.bm, .int .i64 x.br] 2)).heap.size (v.alloc (.cells #[.int .i64 x.bm, .int .i64 x.br] 2)) (some ⟨v.heap.size, 0, none⟩) 2 [x.bm, x.br]) := Lib.hid (nums_new v [x.bm, x.br] _ rfl)
        have HM3 := Lib.hid ((HN3.out.later ((Below.refl _ _).alloc (Nat.le_refl _) (.cells #[.int .i64 x.bm, .int .i64 x.br] 2))).mono (((Below.refl _ _).alloc (Nat.le_refl _) (.cells #[.int .i64 x.bm, .int .i64 x.br] 2)).size : v.heap.size ≤ _))
        refine hK.out _ _ ?_ (fun hHeld => ?_)
        · exact HX2.out.blk
        clear hK K
        try simp only [Act.put, List.setIfInBounds_toArray, List.set_cons_zero, List.set_cons_succ, List.getElem_toArray, List.getElem_cons_zero, List.getElem_cons_succ]
        obtain ⟨v2, hw⟩ : ∃ z, z = v.alloc (.cells #[.int .i64 x.bm, .int .i64 x.br] 2) := ⟨_, rfl⟩
        obtain ⟨g2, hg⟩ : ∃ g, g = v.heap.size := ⟨_, rfl⟩
        rw [← hw] at hHeld HX2 HM2 HM3 ⊢
        rw [← hg] at HM2 ⊢
        clear hw hg
        exact T1_023 v2 g0 g2 g3 ⟨HX2, HM2, HM3⟩
    · rintro v g0 g1 g2 g3 ⟨HX, HN0, HN1, HN2, HN3⟩
      have hHeld := HX.out.blk
      refine wpAnyH_ready (rs := [4]) (by kernel_rfl) (by simp) ?_
      refine AllReadyH.cons rfl (fun K hK => ?_) AllReadyH.nil
      go_simp
      refine (HC0.out _ _ HN0.out).mono ?_
      rintro e w' ⟨rfl, rfl⟩
      refine hK.out _ _ ?_ (fun hHeld => ?_)
      · exact HX.out.blk
      clear hK K
      try simp only [Act.put, List.setIfInBounds_toArray, List.set_cons_zero, List.set_cons_succ, List.getElem_toArray, List.getElem_cons_zero, List.getElem_cons_succ]
      exact T1_0123 v g0 g1 g2 g3 ⟨HX, HN1, HN2, HN3⟩
    · rintro v g0 g1 g2 ⟨HX, HN1, HN2⟩
      have hHeld := HX.out.blk
      refine wpAnyH_ready (rs := [13, 29]) (by kernel_rfl) (by simp) ?_
      refine AllReadyH.cons rfl (fun K hK => ?_) (AllReadyH.cons rfl (fun K hK => ?_) AllReadyH.nil)
      · go_simp
        refine (HC1.out _ _ HN1.out).mono ?_
        rintro e w' ⟨rfl, rfl⟩
        refine hK.out _ _ ?_ (fun hHeld => ?_)
        · exact HX.out.blk
        clear hK K
        try simp only [Act.put, List.setIfInBounds_toArray, List.set_cons_zero, List.set_cons_succ, List.getElem_toArray, List.getElem_cons_zero, List.getElem_cons_succ]
        refine wpAnyH_take (i := 14) (v := ?_) rfl (by kernel_rfl) (by kernel_rfl) (by kernel_rfl) (fun _ _ _ h => h) (Or.inl ⟨by rfl, ?_⟩) hHeld ?_
        rotate_left
        · intro Wz hWz; clear hWz; go_simp; (try with_reducible rfl)
        try simp only [Act.put, List.setIfInBounds_toArray, List.set_cons_zero, List.set_cons_succ, List.getElem_toArray, List.getElem_cons_zero, List.getElem_cons_succ]
        exact T2_012 v g0 g1 g2 ⟨HX, HN2⟩
      · go_simp
        have HX2 := Lib.hid (HX.out.later ((Below.refl _ _).alloc (Nat.le_refl _) (.cells #[.int .i64 (x.sats.length : Int)] 2)))
        have HM3 : Hid (IsNums (v.alloc (.cells #[.int .i64 (x.sats.length : Int)] 2)).heap.size (v.alloc (.cells #[.int .i64 (x.sats.length : Int)] 2)) (some ⟨v.heap.size, 0, none⟩) 1 [(x.sats.length : Int)]) := Lib.hid (nums_new v [(x.sats.length : Int)] _ rfl)
        have HM1 := Lib.hid ((HN1.out.later ((Below.refl _ _).alloc (Nat.le_refl _) (.cells #[.int .i64 (x.sats.length : Int)] 2))).mono (((Below.refl _ _).alloc (Nat.le_refl _) (.cells #[.int .i64 (x.sats.length : Int)] 2)).size : v.heap.size ≤ _))
        have HM2 := Lib.hid ((HN2.out.later ((Below.refl _ _).alloc (Nat.le_refl _) (.cells #[.int .i64 (x.sats.length : Int)] 2))).mono (((Below.refl _ _).alloc (Nat.le_refl _) (.cells #[.int .i64 (x.sats.length : Int)] 2)).size : v.heap.size ≤ _))
        refine hK.out _ _ ?_ (fun hHeld => ?_)
        · exact HX2.out.blk
        clear hK K
        try simp only [Act.put, List.setIfInBounds_toArray, List.set_cons_zero, List.set_cons_succ, List.getElem_toArray, List.getElem_cons_zero, List.getElem_cons_succ]
        obtain ⟨v2, hw⟩ : ∃ z, z = v.alloc (.cells #[.int .i64 (x.sats.length : Int)] 2) := ⟨_, rfl⟩
        obtain ⟨g3, hg⟩ : ∃ g, g = v.heap.size := ⟨_, rfl⟩
        rw [← hw] at hHeld HX2 HM1 HM2 HM3 ⊢
        rw [← hg] at HM3 ⊢
        clear hw hg
        exact T1_0123 v2 g0 g1 g2 g3 ⟨HX2, HM1, HM2, HM3⟩
    · rintro v g0 g1 g3 ⟨HX, HN1, HN3⟩
      have hHeld := HX.out.blk
      refine wpAnyH_ready (rs := [13, 22]) (by kernel_rfl) (by simp) ?_
      refine AllReadyH.cons rfl (fun K hK => ?_) (AllReadyH.cons rfl (fun K hK => ?_) AllReadyH.nil)
      · go_simp
        refine (HC1.out _ _ HN1.out).mono ?_
        rintro e w' ⟨rfl, rfl⟩
        refine hK.out _ _ ?_ (fun hHeld => ?_)
        · exact HX.out.blk
        clear hK K
        try simp only [Act.put, List.setIfInBounds_toArray, List.set_cons_zero, List.set_cons_succ, List.getElem_toArray, List.getElem_cons_zero, List.getElem_cons_succ]
        refine wpAnyH_take (i := 14) (v := ?_) rfl (by kernel_rfl) (by kernel_rfl) (by kernel_rfl) (fun _ _ _ h => h) (Or.inl ⟨by rfl, ?_⟩) hHeld ?_
        rotate_left
        · intro Wz hWz; clear hWz; go_simp; (try with_reducible rfl)
        try simp only [Act.put, List.setIfInBounds_toArray, List.set_cons_zero, List.set_cons_succ, List.getElem_toArray, List.getElem_cons_zero, List.getElem_cons_succ]
        exact T2_013 v g0 g1 g3 ⟨HX, HN3⟩
      · go_simp
        have HX2 := Lib.hid (HX.out.later ((Below.refl _ _).alloc (Nat.le_refl _) (.cells #[.int .i64 x.bm, .int .i64 x.br] 2)))
        have HM2 : Hid (IsNums (v.alloc (.cells #[.int .i64 x.bm, .int .i64 x.br] 2)).heap.size (v.alloc (.cells #[.int .i64 x.bm, .int .i64 x.br] 2)) (some ⟨v.heap.size, 0, none⟩) 2 [x.bm, x.br]) := Lib.hid (nums_new v [x.bm, x.br] _ rfl)
        have HM1 := Lib.hid ((HN1.out.later ((Below.refl _ _).alloc (Nat.le_refl _) (.cells #[.int .i64 x.bm, .int .i64 x.br] 2))).mono (((Below.refl _ _).alloc (Nat.le_refl _) (.cells #[.int .i64 x.bm, .int .i64 x.br] 2)).size : v.heap.size ≤ _))
        have HM3 := Lib.hid ((HN3.out.later ((Below.refl _ _).alloc (Nat.le_refl _) (.cells #[.int .i64 x.bm, .int .i64 x.br] 2))).mono (((Below.refl _ _).alloc (Nat.le_refl _) (.cells #[.int .i64 x.bm, .int .i64 x.br] 2)).size : v.heap.size ≤ _))
        refine hK.out _ _ ?_ (fun hHeld => ?_)
        · exact HX2.out.blk
        clear hK K
        try simp only [Act.put, List.setIfInBounds_toArray, List.set_cons_zero, List.set_cons_succ, List.getElem_toArray, List.getElem_cons_zero, List.getElem_cons_succ]
        obtain ⟨v2, hw⟩ : ∃ z, z = v.alloc (.cells #[.int .i64 x.bm, .int .i64 x.br] 2) := ⟨_, rfl⟩
        obtain ⟨g2, hg⟩ : ∃ g, g = v.heap.size := ⟨_, rfl⟩
        rw [← hw] at hHeld HX2 HM1 HM2 HM3 ⊢
        rw [← hg] at HM2 ⊢
        clear hw hg
        exact T1_0123 v2 g0 g1 g2 g3 ⟨HX2, HM1, HM2, HM3⟩
    · rintro v g0 g2 g3 ⟨HX, HN2, HN3⟩
      have hHeld := HX.out.blk
      refine wpAnyH_ready (rs := [12]) (by kernel_rfl) (by simp) ?_
      refine AllReadyH.cons rfl (fun K hK => ?_) AllReadyH.nil
      go_simp
      have HX2 := Lib.hid (HX.out.later ((Below.refl _ _).alloc (Nat.le_refl _) (.cells #[.int .i64 x.tm, .int .i64 x.tr] 2)))
      have HM1 : Hid (IsNums (v.alloc (.cells #[.int .i64 x.tm, .int .i64 x.tr] 2)).heap.size (v.alloc (.cells #[.int .i64 x.tm, .int .i64 x.tr] 2)) (some ⟨v.heap.size, 0, none⟩) 2 [x.tm, x.tr]) := Lib.hid (nums_new v [x.tm, x.tr] _ rfl)
      have HM2 := Lib.hid ((HN2.out.later ((Below.refl _ _).alloc (Nat.le_refl _) (.cells #[.int .i64 x.tm, .int .i64 x.tr] 2))).mono (((Below.refl _ _).alloc (Nat.le_refl _) (.cells #[.int .i64 x.tm, .int .i64 x.tr] 2)).size : v.heap.size ≤ _))
      have HM3 := Lib.hid ((HN3.out.later ((Below.refl _ _).alloc (Nat.le_refl _) (.cells #[.int .i64 x.tm, .int .i64 x.tr] 2))).mono (((Below.refl _ _).alloc (Nat.le_refl _) (.cells #[.int .i64 x.tm, .int .i64 x.tr] 2)).size : v.heap.size ≤ _))
      refine hK.out _ _ ?_ (fun hHeld => ?_)
      · exact HX2.out.blk
      clear hK K
      try simp only [Act.put, List.setIfInBounds_toArray, List.set_cons_zero, List.set_cons_succ, List.getElem_toArray, List.getElem_cons_zero, List.getElem_cons_succ]
      obtain ⟨v2, hw⟩ : ∃ z, z = v.alloc (.cells #[.int .i64 x.tm, .int .i64 x.tr] 2) := ⟨_, rfl⟩
      obtain ⟨g1, hg⟩ : ∃ g, g = v.heap.size := ⟨_, rfl⟩
      rw [← hw] at hHeld HX2 HM1 HM2 HM3 ⊢
      rw [← hg] at HM1 ⊢
      clear hw hg
      exact T1_0123 v2 g0 g1 g2 g3 ⟨HX2, HM1, HM2, HM3⟩
    · rintro v g0 g1 HX
      have hHeld := HX.out.blk
      refine wpAnyH_ready (rs := [22, 29]) (by kernel_rfl) (by simp) ?_
      refine AllReadyH.cons rfl (fun K hK => ?_) (AllReadyH.cons rfl (fun K hK => ?_) AllReadyH.nil)
      · go_simp
        have HX2 := Lib.hid (HX.out.later ((Below.refl _ _).alloc (Nat.le_refl _) (.cells #[.int .i64 x.bm, .int .i64 x.br] 2)))
        have HM2 : Hid (IsNums (v.alloc (.cells #[.int .i64 x.bm, .int .i64 x.br] 2)).heap.size (v.alloc (.cells #[.int .i64 x.bm, .int .i64 x.br] 2)) (some ⟨v.heap.size, 0, none⟩) 2 [x.bm, x.br]) := Lib.hid (nums_new v [x.bm, x.br] _ rfl)
        refine hK.out _ _ ?_ (fun hHeld => ?_)
        · exact HX2.out.blk
        clear hK K
        try simp only [Act.put, List.setIfInBounds_toArray, List.set_cons_zero, List.set_cons_succ, List.getElem_toArray, List.getElem_cons_zero, List.getElem_cons_succ]
        obtain ⟨v2, hw⟩ : ∃ z, z = v.alloc (.cells #[.int .i64 x.bm, .int .i64 x.br] 2) := ⟨_, rfl⟩
        obtain ⟨g2, hg⟩ : ∃ g, g = v.heap.size := ⟨_, rfl⟩
        rw [← hw] at hHeld HX2 HM2 ⊢
        rw [← hg] at HM2 ⊢
        clear hw hg
        exact T2_012 v2 g0 g1 g2 ⟨HX2, HM2⟩
      · go_simp
        have HX2 := Lib.hid (HX.out.later ((Below.refl _ _).alloc (Nat.le_refl _) (.cells #[.int .i64 (x.sats.length : Int)] 2)))
        have HM3 : Hid (IsNums (v.alloc (.cells #[.int .i64 (x.sats.length : Int)] 2)).heap.size (v.alloc (.cells #[.int .i64 (x.sats.length : Int)] 2)) (some ⟨v.heap.size, 0, none⟩) 1 [(x.sats.length : Int)]) := Lib.hid (nums_new v [(x.sats.length : Int)] _ rfl)
        refine hK.out _ _ ?_ (fun hHeld => ?_)
        · exact HX2.out.blk
        clear hK K
        try simp only [Act.put, List.setIfInBounds_toArray, List.set_cons_zero, List.set_cons_succ, List.getElem_toArray, List.getElem_cons_zero, List.getElem_cons_succ]
        obtain ⟨v2, hw⟩ : ∃ z, z = v.alloc (.cells #[.int .i64 (x.sats.length : Int)] 2) := ⟨_, rfl⟩
        obtain ⟨g3, hg⟩ : ∃ g, g = v.heap.size := ⟨_, rfl⟩
        rw [← hw] at hHeld HX2 HM3 ⊢
        rw [← hg] at HM3 ⊢
        clear hw hg
        exact T2_013 v2 g0 g1 g3 ⟨HX2, HM3⟩
    · rintro v g0 g1 g2 g3 ⟨HX, HN1, HN2, HN3⟩
      have hHeld := HX.out.blk
      refine wpAnyH_ready (rs := [13]) (by kernel_rfl) (by simp) ?_
      refine AllReadyH.cons rfl (fun K hK => ?_) AllReadyH.nil
      go_simp
      refine (HC1.out _ _ HN1.out).mono ?_
      rintro e w' ⟨rfl, rfl⟩
      refine hK.out _ _ ?_ (fun hHeld => ?_)
      · exact HX.out.blk
      clear hK K
      try simp only [Act.put, List.setIfInBounds_toArray, List.set_cons_zero, List.set_cons_succ, List.getElem_toArray, List.getElem_cons_zero, List.getElem_cons_succ]
      refine wpAnyH_take (i := 14) (v := ?_) rfl (by kernel_rfl) (by kernel_rfl) (by kernel_rfl) (fun _ _ _ h => h) (Or.inl ⟨by rfl, ?_⟩) hHeld ?_
      rotate_left
      · intro Wz hWz; clear hWz; go_simp; (try with_reducible rfl)
      try simp only [Act.put, List.setIfInBounds_toArray, List.set_cons_zero, List.set_cons_succ, List.getElem_toArray, List.getElem_cons_zero, List.getElem_cons_succ]
      exact T2_0123 v g0 g1 g2 g3 ⟨HX, HN2, HN3⟩
    · rintro v g0 g1 g2 ⟨HX, HN2⟩
      have hHeld := HX.out.blk
      refine wpAnyH_ready (rs := [23, 29]) (by kernel_rfl) (by simp) ?_
      refine AllReadyH.cons rfl (fun K hK => ?_) (AllReadyH.cons rfl (fun K hK => ?_) AllReadyH.nil)
      · go_simp
        refine (HC2.out _ _ HN2.out).mono ?_
        rintro e w' ⟨rfl, rfl⟩
        refine hK.out _ _ ?_ (fun hHeld => ?_)
        · exact HX.out.blk
        clear hK K
        try simp only [Act.put, List.setIfInBounds_toArray, List.set_cons_zero, List.set_cons_succ, List.getElem_toArray, List.getElem_cons_zero, List.getElem_cons_succ]
        refine wpAnyH_take (i := 24) (v := ?_) rfl (by kernel_rfl) (by kernel_rfl) (by kernel_rfl) (fun _ _ _ h => h) (Or.inl ⟨by rfl, ?_⟩) hHeld ?_
        rotate_left
        · intro Wz hWz; clear hWz; go_simp; (try with_reducible rfl)
        try simp only [Act.put, List.setIfInBounds_toArray, List.set_cons_zero, List.set_cons_succ, List.getElem_toArray, List.getElem_cons_zero, List.getElem_cons_succ]
        exact T3_012 v g0 g1 g2 HX
      · go_simp
        have HX2 := Lib.hid (HX.out.later ((Below.refl _ _).alloc (Nat.le_refl _) (.cells #[.int .i64 (x.sats.length : Int)] 2)))
        have HM3 : Hid (IsNums (v.alloc (.cells #[.int .i64 (x.sats.length : Int)] 2)).heap.size (v.alloc (.cells #[.int .i64 (x.sats.length : Int)] 2)) (some ⟨v.heap.size, 0, none⟩) 1 [(x.sats.length : Int)]) := Lib.hid (nums_new v [(x.sats.length : Int)] _ rfl)
        have HM2 := Lib.hid ((HN2.out.later ((Below.refl _ _).alloc (Nat.le_refl _) (.cells #[.int .i64 (x.sats.length : Int)] 2))).mono (((Below.refl _ _).alloc (Nat.le_refl _) (.cells #[.int .i64 (x.sats.length : Int)] 2)).size : v.heap.size ≤ _))
        refine hK.out _ _ ?_ (fun hHeld => ?_)
        · exact HX2.out.blk
        clear hK K
        try simp only [Act.put, List.setIfInBounds_toArray, List.set_cons_zero, List.set_cons_succ, List.getElem_toArray, List.getElem_cons_zero, List.getElem_cons_succ]
        obtain ⟨v2, hw⟩ : ∃ z, z = v.alloc (.cells #[.int .i64 (x.sats.length : Int)] 2) := ⟨_, rfl⟩
        obtain ⟨g3, hg⟩ : ∃ g, g = v.heap.size := ⟨_, rfl⟩
        rw [← hw] at hHeld HX2 HM2 HM3 ⊢
        rw [← hg] at HM3 ⊢
        clear hw hg
        exact T2_0123 v2 g0 g1 g2 g3 ⟨HX2, HM2, HM3⟩
    · rintro v g0 g1 g3 ⟨HX, HN3⟩
      have hHeld := HX.out.blk
      refine wpAnyH_ready (rs := [22]) (by kernel_rfl) (by simp) ?_
      refine AllReadyH.cons rfl (fun K hK => ?_) AllReadyH.nil
      go_simp
      have HX2 := Lib.hid (HX.out.later ((Below.refl _ _).alloc (Nat.le_refl _) (.cells #[.int .i64 x.bm, .int .i64 x.br] 2)))
      have HM2 : Hid (IsNums (v.alloc (.cells #[.int .i64 x.bm, .int .i64 x.br] 2)).heap.size (v.alloc (.cells #[.int .i64 x.bm, .int .i64 x.br] 2)) (some ⟨v.heap.size, 0, none⟩) 2 [x.bm, x.br]) := Lib.hid (nums_new v [x.bm, x.br] _ rfl)
      have HM3 := Lib.hid ((HN3.out.later ((Below.refl _ _).alloc (Nat.le_refl _) (.cells #[.int .i64 x.bm, .int .i64 x.br] 2))).mono (((Below.refl _ _).alloc (Nat.le_refl _) (.cells #[.int .i64 x.bm, .int .i64 x.br] 2)).size : v.heap.size ≤ _))
      refine hK.out _ _ ?_ (fun hHeld => ?_)
      · exact HX2.out.blk
      clear hK K
      try simp only [Act.put, List.setIfInBounds_toArray, List.set_cons_zero, List.set_cons_succ, List.getElem_toArray, List.getElem_cons_zero, List.getElem_cons_succ]
      obtain ⟨v2, hw⟩ : ∃ z, z = v.alloc (.cells #[.int .i64 x.bm, .int .i64 x.br] 2) := ⟨_, rfl⟩
      obtain ⟨g2, hg⟩ : ∃ g, g = v.heap.size := ⟨_, rfl⟩
      rw [← hw] at hHeld HX2 HM2 HM3 ⊢
      rw [← hg] at HM2 ⊢
      clear hw hg
      exact T2_0123 v2 g0 g1 g2 g3 ⟨HX2, HM2, HM3⟩
    · rintro v g0 g1 g2 g3 ⟨HX, HN2, HN3⟩
      have hHeld := HX.out.blk
      refine wpAnyH_ready (rs := [23]) (by kernel_rfl) (by simp) ?_
      refine AllReadyH.cons rfl (fun K hK => ?_) AllReadyH.nil
      go_simp
      refine (HC2.out _ _ HN2.out).mono ?_
      rintro e w' ⟨rfl, rfl⟩
      refine hK.out _ _ ?_ (fun hHeld => ?_)
      · exact HX.out.blk
      clear hK K
      try simp only [Act.put, List.setIfInBounds_toArray, List.set_cons_zero, List.set_cons_succ, List.getElem_toArray, List.getElem_cons_zero, List.getElem_cons_succ]
      refine wpAnyH_take (i := 24) (v := ?_) rfl (by kernel_rfl) (by kernel_rfl) (by kernel_rfl) (fun _ _ _ h => h) (Or.inl ⟨by rfl, ?_⟩) hHeld ?_
      rotate_left
      · intro Wz hWz; clear hWz; go_simp; (try with_reducible rfl)
      try simp only [Act.put, List.setIfInBounds_toArray, List.set_cons_zero, List.set_cons_succ, List.getElem_toArray, List.getElem_cons_zero, List.getElem_cons_succ]
      exact T3_0123 v g0 g1 g2 g3 ⟨HX, HN3⟩
    · rintro v g0 g1 g2 HX
      have hHeld := HX.out.blk
      refine wpAnyH_ready (rs := [29]) (by kernel_rfl) (by simp) ?_
      refine AllReadyH.cons rfl (fun K hK => ?_) AllReadyH.nil
      go_simp
      have HX2 := Lib.hid (HX.out.later ((Below.refl _ _).alloc (Nat.le_refl _) (.cells #[.int .i64 (x.sats.length : Int)] 2)))
      have HM3 : Hid (IsNums (v.alloc (.cells #[.int .i64 (x.sats.length : Int)] 2)).heap.size (v.alloc (.cells #[.int .i64 (x.sats.length : Int)] 2)) (some ⟨v.heap.size, 0, none⟩) 1 [(x.sats.length : Int)]) := Lib.hid (nums_new v [(x.sats.length : Int)] _ rfl)
      refine hK.out _ _ ?_ (fun hHeld => ?_)
      · exact HX2.out.blk
      clear hK K
      try simp only [Act.put, List.setIfInBounds_toArray, List.set_cons_zero, List.set_cons_succ, List.getElem_toArray, List.getElem_cons_zero, List.getElem_cons_succ]
      obtain ⟨v2, hw⟩ : ∃ z, z = v.alloc (.cells #[.int .i64 (x.sats.length : Int)] 2) := ⟨_, rfl⟩
      obtain ⟨g3, hg⟩ : ∃ g, g = v.heap.size := ⟨_, rfl⟩
      rw [← hw] at hHeld HX2 HM3 ⊢
      rw [← hg] at HM3 ⊢
      clear hw hg
      exact T3_0123 v2 g0 g1 g2 g3 ⟨HX2, HM3⟩
    · rintro v g0 g1 g2 g3 ⟨HX, HN3⟩
      have hHeld := HX.out.blk
      refine wpAnyH_ready (rs := [30]) (by kernel_rfl) (by simp) ?_
      refine AllReadyH.cons rfl (fun K hK => ?_) AllReadyH.nil
      go_simp
      refine (HC3.out _ _ HN3.out).mono ?_
      rintro e w' ⟨rfl, rfl⟩
      refine hK.out _ _ ?_ (fun hHeld => ?_)
      · exact HX.out.blk
      clear hK K
      try simp only [Act.put, List.setIfInBounds_toArray, List.set_cons_zero, List.set_cons_succ, List.getElem_toArray, List.getElem_cons_zero, List.getElem_cons_succ]
      refine wpAnyH_take (i := 31) (v := ?_) rfl (by kernel_rfl) (by kernel_rfl) (by kernel_rfl) (fun _ _ _ h => h) (Or.inl ⟨by rfl, ?_⟩) hHeld ?_
      rotate_left
      · intro Wz hWz; clear hWz; go_simp; (try with_reducible rfl)
      try simp only [Act.put, List.setIfInBounds_toArray, List.set_cons_zero, List.set_cons_succ, List.getElem_toArray, List.getElem_cons_zero, List.getElem_cons_succ]
      exact T4_0123 v g0 g1 g2 g3 HX
    · rintro v g0 g1 g2 g3 HX
      have hHeld := HX.out.blk
      refine wpAnyH_take (i := 32) (v := ?_) rfl (by kernel_rfl) (by kernel_rfl) (by kernel_rfl) (fun _ _ _ h => h) (Or.inl ⟨by rfl, ?_⟩) hHeld ?_
      rotate_left
      · intro Wz hWz; clear hWz; go_simp; (try with_reducible rfl)
      try simp only [Act.put, List.setIfInBounds_toArray, List.set_cons_zero, List.set_cons_succ, List.getElem_toArray, List.getElem_cons_zero, List.getElem_cons_succ]
      refine wpAnyH_done (by kernel_rfl) ?_ _
      clear hHeld
      go_wp2_with fail
      go_meet
      exact ⟨rfl, HX⟩
  case rest =>
    obtain ⟨rfl, HX⟩ := hcut
    clear HC0 HC1 HC2 HC3 a1 a2 a3 hz0 hz1 hz2 hz3 hq1 hq2 hq3
    obtain ⟨_, _, _, _, _, c5, c6, c7, c8⟩ := HX.out.cells
    go_wp2_with fail
    clear c5 c6 c7 c8
    go_loopw [4, 48] (fun yv iv wr => ∃ (k : Nat) (y : ByteArray), iv = .int .i64 (k : Int) ∧ yv = .string y ∧ k ≤ x.sats.length ∧ y.size ≤ 160 + k * 22 ∧ Hid (XBox w wr bx A x) ∧ Hid (LinesTo y (headI x ++ (x.sats.take k).map satW))) (fun _ iv _ => x.sats.length - (intOf iv).toNat)
    case atStart => exact ⟨0, _, rfl, rfl, Nat.zero_le _, by omega, HX, HS0⟩
    case round =>
      obtain ⟨k, y, rfl, rfl, hk, hys, HXr, HS⟩ := hrel
      clear HX HS0
      by_cases hlt : k < x.sats.length
      · obtain ⟨b, off, q, hA, hb, hq, p0, p1⟩ := (HIW.out.sats.later HXr.out.below).at_ hlt
        have HQ := Lib.hid hq
        have hqb := HSB.out q (List.mem_of_getElem? hq)
        obtain ⟨a, b⟩ := q
        simp only at p0 p1 hqb
        obtain ⟨⟨a1, a2⟩, b1, b2⟩ := hqb
        rw [hA]
        clear hq hA hy0
        obtain ⟨s, hs⟩ : ∃ s : ByteArray, s = ⟨(lineW (satW (a, b))).toArray⟩ := ⟨_, rfl⟩
        have zs : s.size ≤ 22 := by rw [hs]; exact words_size _ _ (by intro t ht; simp [satW] at ht; rcases ht with rfl | rfl <;> exact itoa_short (by omega) (by omega)) (by simp [satW])
        have HCs : Hid (∀ (W0 : World) (g : Nat), IsNums W0.heap.size W0 (some ⟨g, 0, none⟩) 2 [a, b] → Calls Tryd.prog 26 #[.string ⟨#[]⟩, .slice (some ⟨g, 0, none⟩) 2 2] W0 fun e w' => e = .returned (.string s) ∧ W0 = w') := Lib.hid (fun W0 g h => by
          have h2 := lineT ⟨#[]⟩ (some ⟨g, 0, none⟩) 2 2 _ [a, b] W0 (by decide) (by decide) h (by intro v hv; simp at hv; unfold Fits; omega)
          rw [hs]
          rw [show lineS _ [a, b] = lineW (satW (a, b)) from rfl] at h2
          exact h2.mono fun e w' ⟨q1, q2⟩ => ⟨q1, q2.symm⟩)
        obtain ⟨r1, hr1⟩ : ∃ r, r = y ++ s := ⟨_, rfl⟩
        have zr1 : r1.size = y.size + s.size := by rw [hr1, ByteArray.size_append]
        have ar1 := cat_is y s r1 (by omega) hr1
        have HS2 : Hid (LinesTo r1 (headI x ++ (x.sats.take (k + 1)).map satW)) := Lib.hid (by
          have h := HS.out.add hs
          rw [hr1]
          rw [List.take_add_one, HQ.out]
          simpa using h)
        clear hr1 hs
        have HX2 := Lib.hid (HXr.out.later (((Below.refl wr.heap.size wr).alloc (Nat.le_refl _) (.cells #[.int .i64 a, .int .i64 b] 46)).alloc (by simp) (.cells #[.int .i64 a, .int .i64 b] 2)))
        go_wp2_with (go_at_call 26; refine (HCs.out _ _ (nums_at _ _ [a, b] _ rfl (by simp))).mono ?_; rintro e w8 ⟨rfl, rfl⟩)
        go_roundw
        case rel => exact ⟨k + 1, _, by go_num, rfl, by omega, by omega, HX2, HS2⟩
        case measure => simp [intOf]; omega
      · obtain rfl : k = x.sats.length := by omega
        have HSn : Hid (LinesTo y (headI x ++ x.sats.map satW)) := Lib.hid (by have h := HS.out; rwa [List.take_length] at h)
        have HX := HXr
        clear HXr HS hlt hk hy0
        obtain ⟨u, hu⟩ : ∃ s : ByteArray, s = ⟨(lineW [tCustomers, itoa (x.cus.length : Int)]).toArray⟩ := ⟨_, rfl⟩
        have zu : u.size ≤ 22 := by rw [hu]; exact words_size _ _ (cust_short _ e7b) (by simp)
        have HCu : Hid (∀ (W0 : World) (g : Nat), IsNums W0.heap.size W0 (some ⟨g, 0, none⟩) 1 [(x.cus.length : Int)] → Calls Tryd.prog 26 #[.string ⟨#[99, 117, 115, 116, 111, 109, 101, 114, 115]⟩, .slice (some ⟨g, 0, none⟩) 1 1] W0 fun e w' => e = .returned (.string u) ∧ W0 = w') := Lib.hid (fun W0 g h => by
          have h2 := lineT ⟨#[99, 117, 115, 116, 111, 109, 101, 114, 115]⟩ (some ⟨g, 0, none⟩) 1 1 _ [(x.cus.length : Int)] W0 (by decide) (by decide) h (by intro v hv; simp at hv; unfold Fits; omega)
          rw [hu]
          rw [show lineS _ [(x.cus.length : Int)] = lineW [tCustomers, itoa (x.cus.length : Int)] from rfl] at h2
          exact h2.mono fun e w' ⟨q1, q2⟩ => ⟨q1, q2.symm⟩)
        obtain ⟨yc, hyc⟩ : ∃ r, r = y ++ u := ⟨_, rfl⟩
        have zyc : yc.size = y.size + u.size := by rw [hyc, ByteArray.size_append]
        have ayc := cat_is y u yc (by omega) hyc
        have HS0 : Hid (LinesTo yc ((headI x ++ x.sats.map satW ++ [[tCustomers, itoa (x.cus.length : Int)]]) ++ (x.cus.take 0).map cusW)) := Lib.hid (by
          rw [hyc]
          simpa using HSn.out.add hu)
        have HXc := Lib.hid (HX.out.later ((Below.refl wr.heap.size wr).alloc (Nat.le_refl _) (.cells #[.int .i64 (x.cus.length : Int)] 2)))
        obtain ⟨_, _, _, _, _, _, c6, _, _⟩ := HX.out.cells
        obtain ⟨_, _, _, _, _, _, d6, _, _⟩ := HXc.out.cells
        have hy0 : yc.size ≤ 500 := by omega
        clear hyc hu HSn hys
        go_wp2_with (go_at_call 26; refine (HCu.out _ _ (nums_at _ _ [(x.cus.length : Int)] _ rfl (by simp))).mono ?_; rintro e w8 ⟨rfl, rfl⟩)
        clear HX c6 d6 HCu ayc zu zyc
        have HX := HXc
        clear HXc
        go_loopw [4, 73] (fun yv iv wr => ∃ (k : Nat) (y : ByteArray), iv = .int .i64 (k : Int) ∧ yv = .string y ∧ k ≤ x.cus.length ∧ y.size ≤ 500 + k * 44 ∧ Hid (XBox w wr bx A x) ∧ Hid (LinesTo y ((headI x ++ x.sats.map satW ++ [[tCustomers, itoa (x.cus.length : Int)]]) ++ (x.cus.take k).map cusW))) (fun _ iv _ => x.cus.length - (intOf iv).toNat)
        case atStart => exact ⟨0, _, rfl, rfl, Nat.zero_le _, by omega, HX, HS0⟩
        case round =>
          obtain ⟨k, y, rfl, rfl, hk, hys, HXr, HS⟩ := hrel
          clear HX HS0
          by_cases hlt : k < x.cus.length
          · obtain ⟨b, off, q, hA, hb, hq, p0, p1, p2, p3⟩ := (HIW.out.cus.later HXr.out.below).at_ hlt
            have HQ := Lib.hid hq
            have hqb := HCB.out q (List.mem_of_getElem? hq)
            obtain ⟨a, b, c, d⟩ := q
            simp only at p0 p1 p2 p3 hqb
            obtain ⟨⟨a1, a2⟩, ⟨b1, b2⟩, ⟨c1, c2⟩, d1, d2⟩ := hqb
            rw [hA]
            clear hq hA hy0
            obtain ⟨s, hs⟩ : ∃ s : ByteArray, s = ⟨(lineW (cusW (a, b, c, d))).toArray⟩ := ⟨_, rfl⟩
            have zs : s.size ≤ 44 := by rw [hs]; exact words_size _ _ (by intro t ht; simp [cusW] at ht; rcases ht with rfl | rfl | rfl | rfl <;> exact itoa_short (by omega) (by omega)) (by simp [cusW])
            have HCs : Hid (∀ (W0 : World) (g : Nat), IsNums W0.heap.size W0 (some ⟨g, 0, none⟩) 4 [a, b, c, d] → Calls Tryd.prog 26 #[.string ⟨#[]⟩, .slice (some ⟨g, 0, none⟩) 4 4] W0 fun e w' => e = .returned (.string s) ∧ W0 = w') := Lib.hid (fun W0 g h => by
              have h2 := lineT ⟨#[]⟩ (some ⟨g, 0, none⟩) 4 4 _ [a, b, c, d] W0 (by decide) (by decide) h (by intro v hv; simp at hv; unfold Fits; omega)
              rw [hs]
              rw [show lineS _ [a, b, c, d] = lineW (cusW (a, b, c, d)) from rfl] at h2
              exact h2.mono fun e w' ⟨q1, q2⟩ => ⟨q1, q2.symm⟩)
            obtain ⟨r1, hr1⟩ : ∃ r, r = y ++ s := ⟨_, rfl⟩
            have zr1 : r1.size = y.size + s.size := by rw [hr1, ByteArray.size_append]
            have ar1 := cat_is y s r1 (by omega) hr1
            have HS2 : Hid (LinesTo r1 ((headI x ++ x.sats.map satW ++ [[tCustomers, itoa (x.cus.length : Int)]]) ++ (x.cus.take (k + 1)).map cusW)) := Lib.hid (by
              have h := HS.out.add hs
              rw [hr1]
              rw [List.take_add_one, HQ.out]
              simpa using h)
            clear hr1 hs
            have HX2 := Lib.hid (HXr.out.later (((Below.refl wr.heap.size wr).alloc (Nat.le_refl _) (.cells #[.int .i64 a, .int .i64 b, .int .i64 c, .int .i64 d] 55)).alloc (by simp) (.cells #[.int .i64 a, .int .i64 b, .int .i64 c, .int .i64 d] 2)))
            go_wp2_with (go_at_call 26; refine (HCs.out _ _ (nums_at _ _ [a, b, c, d] _ rfl (by simp))).mono ?_; rintro e w8 ⟨rfl, rfl⟩)
            go_roundw
            case rel => exact ⟨k + 1, _, by go_num, rfl, by omega, by omega, HX2, HS2⟩
            case measure => simp [intOf]; omega
          · obtain rfl : k = x.cus.length := by omega
            have HSn : Hid (LinesTo y ((headI x ++ x.sats.map satW ++ [[tCustomers, itoa (x.cus.length : Int)]]) ++ x.cus.map cusW)) := Lib.hid (by have h := HS.out; rwa [List.take_length] at h)
            have HX := HXr
            clear HXr HS hlt hk hy0
            obtain ⟨yn, hyn⟩ : ∃ r, r = y ++ ⟨#[99, 111, 115, 116, 10]⟩ := ⟨_, rfl⟩
            have zyn : yn.size = y.size + 5 := by rw [hyn, ByteArray.size_append]; rfl
            have ayn := cat_is y ⟨#[99, 111, 115, 116, 10]⟩ yn (by have : (⟨#[99, 111, 115, 116, 10]⟩ : ByteArray).size = 5 := rfl; omega) hyn
            have HSm : Hid (LinesTo yn ((headI x ++ x.sats.map satW ++ [[tCustomers, itoa (x.cus.length : Int)]] ++ x.cus.map cusW) ++ [[tCost]])) := Lib.hid (by rw [hyn]; exact HSn.out.add rfl)
            clear hyn HSn
            have HS0 : Hid (LinesTo yn (((headI x ++ x.sats.map satW ++ [[tCustomers, itoa (x.cus.length : Int)]] ++ x.cus.map cusW) ++ [[tCost]]) ++ (x.cost.take 0).map rowW)) := Lib.hid (by simpa using HSm.out)
            obtain ⟨_, _, _, _, _, _, _, c7, _⟩ := HX.out.cells
            have hy0 : yn.size ≤ 3000 := by omega
            clear HSm hys
            go_wp2_with fail
            clear c7 ayn zyn
            go_loopw [4, 96] (fun yv iv wr => ∃ (k : Nat) (y : ByteArray), iv = .int .i64 (k : Int) ∧ yv = .string y ∧ k ≤ x.cost.length ∧ y.size ≤ 3000 + k * 680 ∧ Hid (XBox w wr bx A x) ∧ Hid (LinesTo y (((headI x ++ x.sats.map satW ++ [[tCustomers, itoa (x.cus.length : Int)]] ++ x.cus.map cusW) ++ [[tCost]]) ++ (x.cost.take k).map rowW))) (fun _ iv _ => x.cost.length - (intOf iv).toNat)
            case atStart => exact ⟨0, _, rfl, rfl, Nat.zero_le _, by omega, HX, HS0⟩
            case round =>
              obtain ⟨k, y, rfl, rfl, hk, hys, HXr, HS⟩ := hrel
              clear HX HS0
              by_cases hlt : k < x.cost.length
              · obtain ⟨b, off, r, ra, rc, hA, hb, hr, hrl, h1, hrn⟩ := (HIW.out.cost.later HXr.out.below).at_ hlt
                have HQ := Lib.hid hr
                obtain ⟨hr61, hr1, hrv⟩ := HRcost.out k r hr
                have HRV := Lib.hid hrv
                rw [hA]
                obtain ⟨s, hs⟩ : ∃ s : ByteArray, s = ⟨(lineW (rowW r)).toArray⟩ := ⟨_, rfl⟩
                have zs : s.size ≤ 671 := by rw [hs]; exact row_size r hr61 hr1 hrv
                have HCs : Hid (Calls Tryd.prog 26 #[.string ⟨#[]⟩, .slice ra r.length rc] wr fun e w' => e = .returned (.string s) ∧ wr = w') := Lib.hid (by
                  have h2 := lineT ⟨#[]⟩ ra r.length rc _ r wr (by decide) (by omega) hrn (fun v hv => by have := HRV.out v hv; unfold Fits; omega)
                  rw [hs]
                  exact h2.mono fun e w' ⟨q1, q2⟩ => ⟨q1, q2.symm⟩)
                obtain ⟨r1, hr1⟩ : ∃ r, r = y ++ s := ⟨_, rfl⟩
                have zr1 : r1.size = y.size + s.size := by rw [hr1, ByteArray.size_append]
                have ar1 := cat_is y s r1 (by omega) hr1
                have HS2 : Hid (LinesTo r1 (((headI x ++ x.sats.map satW ++ [[tCustomers, itoa (x.cus.length : Int)]] ++ x.cus.map cusW) ++ [[tCost]]) ++ (x.cost.take (k + 1)).map rowW)) := Lib.hid (by
                  have h := HS.out.add hs
                  rw [hr1]
                  rw [List.take_add_one, HQ.out]
                  simpa using h)
                clear hr1 hs hr hrn hrv hA hy0
                go_wp2_with (go_at_call 26; refine HCs.out.mono ?_; rintro e w8 ⟨rfl, rfl⟩)
                go_roundw
                case rel => exact ⟨k + 1, _, by go_num, rfl, by omega, by omega, HXr, HS2⟩
                case measure => simp [intOf]; omega
              · obtain rfl : k = x.cost.length := by omega
                have HSn : Hid (LinesTo y (((headI x ++ x.sats.map satW ++ [[tCustomers, itoa (x.cus.length : Int)]] ++ x.cus.map cusW) ++ [[tCost]]) ++ x.cost.map rowW)) := Lib.hid (by have h := HS.out; rwa [List.take_length] at h)
                have HX := HXr
                clear HXr HS hlt hk hy0
                obtain ⟨yn, hyn⟩ : ∃ r, r = y ++ ⟨#[116, 105, 109, 101, 10]⟩ := ⟨_, rfl⟩
                have zyn : yn.size = y.size + 5 := by rw [hyn, ByteArray.size_append]; rfl
                have ayn := cat_is y ⟨#[116, 105, 109, 101, 10]⟩ yn (by have : (⟨#[116, 105, 109, 101, 10]⟩ : ByteArray).size = 5 := rfl; omega) hyn
                have HSm : Hid (LinesTo yn (((headI x ++ x.sats.map satW ++ [[tCustomers, itoa (x.cus.length : Int)]] ++ x.cus.map cusW) ++ [[tCost]] ++ x.cost.map rowW) ++ [[tTime]])) := Lib.hid (by rw [hyn]; exact HSn.out.add rfl)
                clear hyn HSn
                have HS0 : Hid (LinesTo yn ((((headI x ++ x.sats.map satW ++ [[tCustomers, itoa (x.cus.length : Int)]] ++ x.cus.map cusW) ++ [[tCost]] ++ x.cost.map rowW) ++ [[tTime]]) ++ (x.time.take 0).map rowW)) := Lib.hid (by simpa using HSm.out)
                obtain ⟨_, _, _, _, _, _, _, _, c8⟩ := HX.out.cells
                have hy0 : yn.size ≤ 46000 := by omega
                clear HSm hys
                go_wp2_with fail
                clear c8 ayn zyn
                go_loopw [4, 111] (fun yv iv wr => ∃ (k : Nat) (y : ByteArray), iv = .int .i64 (k : Int) ∧ yv = .string y ∧ k ≤ x.time.length ∧ y.size ≤ 46000 + k * 680 ∧ Hid (XBox w wr bx A x) ∧ Hid (LinesTo y ((((headI x ++ x.sats.map satW ++ [[tCustomers, itoa (x.cus.length : Int)]] ++ x.cus.map cusW) ++ [[tCost]] ++ x.cost.map rowW) ++ [[tTime]]) ++ (x.time.take k).map rowW))) (fun _ iv _ => x.time.length - (intOf iv).toNat)
                case atStart => exact ⟨0, _, rfl, rfl, Nat.zero_le _, by omega, HX, HS0⟩
                case round =>
                  obtain ⟨k, y, rfl, rfl, hk, hys, HXr, HS⟩ := hrel
                  clear HX HS0
                  by_cases hlt : k < x.time.length
                  · obtain ⟨b, off, r, ra, rc, hA, hb, hr, hrl, h1, hrn⟩ := (HIW.out.time.later HXr.out.below).at_ hlt
                    have HQ := Lib.hid hr
                    obtain ⟨hr61, hr1, hrv⟩ := HRtime.out k r hr
                    have HRV := Lib.hid hrv
                    rw [hA]
                    obtain ⟨s, hs⟩ : ∃ s : ByteArray, s = ⟨(lineW (rowW r)).toArray⟩ := ⟨_, rfl⟩
                    have zs : s.size ≤ 671 := by rw [hs]; exact row_size r hr61 hr1 hrv
                    have HCs : Hid (Calls Tryd.prog 26 #[.string ⟨#[]⟩, .slice ra r.length rc] wr fun e w' => e = .returned (.string s) ∧ wr = w') := Lib.hid (by
                      have h2 := lineT ⟨#[]⟩ ra r.length rc _ r wr (by decide) (by omega) hrn (fun v hv => by have := HRV.out v hv; unfold Fits; omega)
                      rw [hs]
                      exact h2.mono fun e w' ⟨q1, q2⟩ => ⟨q1, q2.symm⟩)
                    obtain ⟨r1, hr1⟩ : ∃ r, r = y ++ s := ⟨_, rfl⟩
                    have zr1 : r1.size = y.size + s.size := by rw [hr1, ByteArray.size_append]
                    have ar1 := cat_is y s r1 (by omega) hr1
                    have HS2 : Hid (LinesTo r1 ((((headI x ++ x.sats.map satW ++ [[tCustomers, itoa (x.cus.length : Int)]] ++ x.cus.map cusW) ++ [[tCost]] ++ x.cost.map rowW) ++ [[tTime]]) ++ (x.time.take (k + 1)).map rowW)) := Lib.hid (by
                      have h := HS.out.add hs
                      rw [hr1]
                      rw [List.take_add_one, HQ.out]
                      simpa using h)
                    clear hr1 hs hr hrn hrv hA hy0
                    go_wp2_with (go_at_call 26; refine HCs.out.mono ?_; rintro e w8 ⟨rfl, rfl⟩)
                    go_roundw
                    case rel => exact ⟨k + 1, _, by go_num, rfl, by omega, by omega, HXr, HS2⟩
                    case measure => simp [intOf]; omega
                  · obtain rfl : k = x.time.length := by omega
                    have HSn : Hid (LinesTo y ((((headI x ++ x.sats.map satW ++ [[tCustomers, itoa (x.cus.length : Int)]] ++ x.cus.map cusW) ++ [[tCost]] ++ x.cost.map rowW) ++ [[tTime]]) ++ x.time.map rowW)) := Lib.hid (by have h := HS.out; rwa [List.take_length] at h)
                    have HX := HXr
                    clear HXr HS hlt hk hy0
                    obtain ⟨yn, hyn⟩ : ∃ r, r = y ++ ⟨#[101, 110, 100, 10]⟩ := ⟨_, rfl⟩
                    have zyn : yn.size = y.size + 4 := by rw [hyn, ByteArray.size_append]; rfl
                    have ayn := cat_is y ⟨#[101, 110, 100, 10]⟩ yn (by have : (⟨#[101, 110, 100, 10]⟩ : ByteArray).size = 4 := rfl; omega) hyn
                    have HSm : Hid (LinesTo yn ((((headI x ++ x.sats.map satW ++ [[tCustomers, itoa (x.cus.length : Int)]] ++ x.cus.map cusW) ++ [[tCost]] ++ x.cost.map rowW) ++ [[tTime]] ++ x.time.map rowW) ++ [[tEnd]])) := Lib.hid (by rw [hyn]; exact HSn.out.add rfl)
                    clear hyn HSn
                    have HE : Hid (yn = ⟨(showB x).toArray⟩) := Lib.hid (by
                      have h := HSm.out
                      unfold LinesTo at h
                      rw [h]
                      unfold showB linesI
                      simp)
                    clear HSm
                    go_wp2_with fail
                    go_ret
                    exact ⟨by rw [← HE.out]; rfl, HX.out.below⟩
end Go.Proofs.YtnnddmojcaicbaaDoor

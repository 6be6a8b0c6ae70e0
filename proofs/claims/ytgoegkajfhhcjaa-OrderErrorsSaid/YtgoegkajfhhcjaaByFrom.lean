/- Package order: byFrom. -/
import Derived.Test.YtgoegkajfhhcjaaNext
namespace Go.Proofs.Ytgoegkajfhhcjaa
section part
open Go.RowKit

/-- The numbers of the arcs from node i. -/
def outK (l : List Ar) (i : Nat) : List Int := (l.zipIdx.filter (fun p => p.1.1 == (i : Int))).map (fun p => (p.2 : Int))
theorem outK_snoc (l : List Ar) (x : Ar) (i : Nat) : outK (l ++ [x]) i = if x.1 = (i : Int) then outK l i ++ [(l.length : Int)] else outK l i := by
  unfold outK
  rw [List.zipIdx_append, List.filter_append, List.map_append]
  by_cases h : x.1 = (i : Int) <;> simp [h]
theorem outK_take {l : List Ar} {k : Nat} {x : Ar} (h : l[k]? = some x) (i : Nat) : outK (l.take (k + 1)) i = if x.1 = (i : Int) then outK (l.take k) i ++ [(k : Int)] else outK (l.take k) i := by
  have hk : k < l.length := (List.getElem?_eq_some_iff.1 h).1
  have hl : (l.take k).length = k := by rw [List.length_take]; omega
  have h2 := outK_snoc (l.take k) x i
  rw [hl] at h2
  rw [List.take_add_one, h]
  exact h2
theorem outK_le (l : List Ar) (i : Nat) : (outK l i).length ≤ l.length := by
  unfold outK
  rw [List.length_map]
  refine Nat.le_trans (List.length_filter_le _ _) ?_
  simp
theorem mem_outK {l : List Ar} {i : Nat} {v : Int} : v ∈ outK l i ↔ ∃ (k : Nat) (x : Ar), v = (k : Int) ∧ l[k]? = some x ∧ x.1 = (i : Int) := by
  unfold outK
  rw [List.mem_map]
  constructor
  · rintro ⟨⟨x, k⟩, h, rfl⟩
    rw [List.mem_filter] at h
    exact ⟨k, x, rfl, List.mk_mem_zipIdx_iff_getElem?.1 h.1, by simpa using h.2⟩
  · rintro ⟨k, x, rfl, hx, hi⟩
    exact ⟨(x, k), List.mem_filter.2 ⟨List.mk_mem_zipIdx_iff_getElem?.2 hx, by simpa using hi⟩, rfl⟩
end part
section part
open Go.RowKit

variable {w wr w2 w4 : World} {a : Option Addr} {len cap L N ab : Nat} {l : List Ar} {f t : Int} {S : Nat → Prop}
/-- The arc of the round. -/
def ArcS (ab : Nat) (f t : Int) (W : World) : Prop := W.cell? ⟨ab, 0, none⟩ = some (.int .i64 f) ∧ W.cell? ⟨ab, 1, none⟩ = some (.int .i64 t) ∧ ab < W.heap.size
theorem ArcS.mod (h : ArcS ab f t w) (hm : Mod S w w2) (hs : ¬ S ab) : ArcS ab f t w2 :=
  ⟨(hm.cell (p := ⟨ab, 0, none⟩) h.2.2 hs).trans h.1, (hm.cell (p := ⟨ab, 1, none⟩) h.2.2 hs).trans h.2.1, Nat.lt_of_lt_of_le h.2.2 hm.size⟩
theorem ArcS.made (w : World) (f t c : Int) (T : TypeId) : ArcS w.heap.size f t (w.alloc (.cells #[.int .i64 f, .int .i64 t, .int .i64 c] T)).drew := ⟨by simp, by simp, by simp⟩

set_option maxHeartbeats 2000000 in
set_option maxRecDepth 100000 in
theorem byfrom_any (N : Nat) (hN : N ≤ 1000) (hlen : len ≤ 20000) (hok : ∀ x ∈ l, 0 ≤ x.1 ∧ x.1 < (N : Int)) (a : Option Addr) (cap : Nat) (w : World) (hl : IsArcs w.heap.size w a len l) :
    Calls Try.prog 26 #[.agg #[.int .i64 (N : Int), .slice a len cap]] w fun e w' => ∃ L V, e = .returned (.slice (some ⟨L, 0, none⟩) N N) ∧ Adj w.heap.size w' L N V (outK l) ∧ Below w.heap.size w w' := by
  obtain ⟨i0, hi, hz0, hz1, hz2⟩ := info_parts infoInt
  have hmk := run_make_row' (P := Try.prog) 58 28 (.slice none 0 0) 24 Try.underlying58 infoInts rfl .i64 .i64 N (by omega) (by omega)
  have HOK := Lib.hid hok; clear hok
  have HLn : Hid (l.length = len) := Lib.hid hl.1
  have HL := Lib.hid hl; clear hl
  have HG0 : Hid (NextW w ((w.alloc (.cells #[.int .i64 (N : Int), .slice a len cap] 26)).alloc (.cells (madeCells #[.slice none 0 0] N) 28)) w.heap.size (N : Int) a len cap (w.heap.size + 1) N (fun _ => .slice none 0 0) (outK (l.take 0))) :=
    Lib.hid ⟨(Box.make (Below.refl _ w) _ a len cap).alloc _, (Adj.start (l := l) (by simp) (by simp) N).congr (fun i _ => by simp [outs, outK]), by omega⟩
  go_enter Try.func26, Try.ntmps26
  go_wp2_with fail
  clear hmk
  obtain ⟨L, hL⟩ : ∃ L, L = w.heap.size + 1 := ⟨_, rfl⟩
  rw [← hL] at HG0 ⊢
  clear hL
  go_loopw [12] (fun i wr => ∃ (k : Nat) (V : Nat → Value), i = .int .i64 k ∧ k ≤ len ∧ Hid (NextW w wr w.heap.size (N : Int) a len cap L N V (outK (l.take k)))) (fun i _ => len - (intOf i).toNat)
  case atStart => exact ⟨0, _, rfl, Nat.zero_le _, HG0⟩
  case round =>
    obtain ⟨k, V, rfl, hk, HX⟩ := hrel
    clear HG0
    by_cases hlt : k < len
    · obtain ⟨b, off, x, rfl, hb, hx, e0, e1, e2⟩ := (HX.out.box.arcs HL.out).at_ hlt
      have hxok := HOK.out x (List.mem_of_getElem? hx)
      have HXT := Lib.hid (fun i => outK_take hx i)
      clear hx hb
      obtain ⟨f0, t, c⟩ := x
      simp only at e0 e1 e2 hxok
      obtain ⟨f, rfl⟩ : ∃ f : Nat, f0 = (f : Int) := ⟨f0.toNat, by omega⟩
      have hf : f < N := by omega
      have hf1 : (0 : Int) ≤ (f : Int) := by omega
      have hf2 : (f : Int) < (N : Int) := by omega
      clear hxok
      obtain ⟨va, vc, hv⟩ := owns_shape (HX.out.adj.row f hf)
      have HX1 := Lib.hid (HX.out.later ((Below.refl wr.heap.size wr).alloc (Nat.le_refl _) (.cells #[.int .i64 (f : Int), .int .i64 t, .int .i64 c] 35)).drew)
      have hml : (outK (l.take k) f).length ≤ 20000 := Nat.le_trans (outK_le _ _) (by rw [List.length_take]; omega)
      have HML : Hid (outK (l.take k) f = outK (l.take k) f) := Lib.hid rfl
      have HV := Lib.hid hv
      have HO1 := HX1.out.adj.row f hf
      have c1 := HX1.out.adj.out.cell hf
      rw [hv] at HO1 c1
      have HO := Lib.hid HO1
      have HAB : Hid ((Value.slice va (outK (l.take k) f).length vc).ownBlock ≠ some wr.heap.size) := Lib.hid (fun e => by have := (World.ownsRow.lt (HX.out.adj.row f hf) wr.heap.size (by rw [hv]; exact e)).2; omega)
      have HLL : Hid (L + 1 ≤ wr.heap.size) := Lib.hid (by have := HX.out.adj.out.lt; omega)
      have HA0 := Lib.hid (ArcS.made wr (f : Int) t c 35)
      clear hv HO1 HX HML
      go_wp2_with fail
      refine wp_region_held_drew (S := ArcS wr.heap.size (f : Int) t) (by kernel_rfl) HA0.out (fun hHeld => ?_)
      refine wpAnyH_take (i := 0) (v := ?_) rfl (by kernel_rfl) (by kernel_rfl) (by kernel_rfl) (fun _ _ _ h => h) (Or.inl ⟨by rfl, ?_⟩) hHeld ?_
      rotate_left
      · intro W0 hW; obtain ⟨hW1, hW2, hW3⟩ := hW; go_simp; (try with_reducible rfl)
      try simp only [Act.put, List.setIfInBounds_toArray, List.set_cons_zero, List.set_cons_succ, List.getElem_toArray, List.getElem_cons_zero]
      refine wpAnyH_take (i := 1) (v := ?_) rfl (by kernel_rfl) (by kernel_rfl) (by kernel_rfl) (fun _ _ _ h => h) (Or.inl ⟨by rfl, ?_⟩) hHeld ?_
      rotate_left
      · intro W0 hW; obtain ⟨hW1, hW2, hW3⟩ := hW; go_simp; (try with_reducible rfl)
      try simp only [Act.put, List.setIfInBounds_toArray, List.set_cons_zero, List.set_cons_succ, List.getElem_toArray, List.getElem_cons_zero, List.getElem_cons_succ]
      refine wpAnyH_take (i := 2) (v := ?_) rfl (by kernel_rfl) (by kernel_rfl) (by kernel_rfl) (fun _ _ _ h => h) (Or.inl ⟨by rfl, ?_⟩) hHeld ?_
      rotate_left
      · intro W0 hW; obtain ⟨hW1, hW2, hW3⟩ := hW; go_simp; (try with_reducible rfl)
      try simp only [Act.put, List.setIfInBounds_toArray, List.set_cons_zero, List.set_cons_succ, List.getElem_toArray, List.getElem_cons_zero, List.getElem_cons_succ]
      refine wpAnyH_take (i := 3) (v := ?_) rfl (by kernel_rfl) (by kernel_rfl) (by kernel_rfl) (fun _ _ _ h => h) (Or.inl ⟨by rfl, ?_⟩) hHeld ?_
      rotate_left
      · intro W0 hW; obtain ⟨hW1, hW2, hW3⟩ := hW; go_simp; (try with_reducible rfl)
      try simp only [Act.put, List.setIfInBounds_toArray, List.set_cons_zero, List.set_cons_succ, List.getElem_toArray, List.getElem_cons_zero, List.getElem_cons_succ]
      refine wpAnyH_take (i := 4) (v := ?_) rfl (by kernel_rfl) (by kernel_rfl) (by kernel_rfl) (fun _ _ _ h => h) (Or.inl ⟨by rfl, ?_⟩) hHeld ?_
      rotate_left
      · intro W0 hW; obtain ⟨hW1, hW2, hW3⟩ := hW; go_simp; (try with_reducible rfl)
      try simp only [Act.put, List.setIfInBounds_toArray, List.set_cons_zero, List.set_cons_succ, List.getElem_toArray, List.getElem_cons_zero, List.getElem_cons_succ]
      refine wpAnyH_take (i := 5) (v := ?_) rfl (by kernel_rfl) (by kernel_rfl) (by kernel_rfl) (fun _ _ _ h => h) (Or.inl ⟨by rfl, ?_⟩) hHeld ?_
      rotate_left
      · intro W0 hW; obtain ⟨hW1, hW2, hW3⟩ := hW; go_simp; (try with_reducible rfl)
      try simp only [Act.put, List.setIfInBounds_toArray, List.set_cons_zero, List.set_cons_succ, List.getElem_toArray, List.getElem_cons_zero, List.getElem_cons_succ]
      refine wpAnyH_take (i := 6) (v := ?_) rfl (by kernel_rfl) (by kernel_rfl) (by kernel_rfl) (fun _ _ _ h => h) (Or.inl ⟨by rfl, ?_⟩) hHeld ?_
      rotate_left
      · intro W0 hW; obtain ⟨hW1, hW2, hW3⟩ := hW; go_simp; (try with_reducible rfl)
      try simp only [Act.put, List.setIfInBounds_toArray, List.set_cons_zero, List.set_cons_succ, List.getElem_toArray, List.getElem_cons_zero, List.getElem_cons_succ]
      refine wpAnyH_take (i := 8) (v := ?_) rfl (by kernel_rfl) (by kernel_rfl) (by kernel_rfl) (fun _ _ _ h => h) (Or.inl ⟨by rfl, ?_⟩) hHeld ?_
      rotate_left
      · intro W0 hW; obtain ⟨hW1, hW2, hW3⟩ := hW; go_simp; (try with_reducible rfl)
      try simp only [Act.put, List.setIfInBounds_toArray, List.set_cons_zero, List.set_cons_succ, List.getElem_toArray, List.getElem_cons_zero, List.getElem_cons_succ]
      have c2 : ((wr.alloc (.cells #[.int .i64 (f : Int), .int .i64 t, .int .i64 c] 35)).alloc (.cells #[.int .i64 (k : Int)] 3)).cell? ⟨L, f, none⟩ = some (.slice va (outK (l.take k) f).length vc) := (World.cell?_alloc_past _ _ _ HX1.out.adj.out.lt).trans c1
      have HO2 : Hid ((World.alloc ((wr.alloc (.cells #[.int .i64 (f : Int), .int .i64 t, .int .i64 c] 35)).drew) (.cells #[.int .i64 (k : Int)] 3)).ownsRow (L + 1) 3 1 (.slice va (outK (l.take k) f).length vc) (outK (l.take k) f).length (numsV (outK (l.take k) f))) := Lib.hid (HO.out.alloc _)
      refine wpAnyH_ready (rs := [7, 9]) (by kernel_rfl) (by simp) ?_
      refine AllReadyH.cons rfl (fun K hK => ?_) (AllReadyH.cons rfl (fun K hK => ?_) AllReadyH.nil)
      · go_simp
        refine hK.out _ _ ?_ (fun hHeld => ?_)
        · exact hHeld
        clear hK K
        try simp only [Act.put, List.setIfInBounds_toArray, List.set_cons_zero, List.set_cons_succ, List.getElem_toArray, List.getElem_cons_zero, List.getElem_cons_succ]
        refine wpAnyH_ready (rs := [9]) (by kernel_rfl) (by simp) ?_
        refine AllReadyH.cons rfl (fun K hK => ?_) AllReadyH.nil
        go_simp
        refine hK.out _ _ ?_ (fun hHeld => ?_)
        · exact hHeld.mod ((Mod.refl (fun _ => False) _).alloc _) (fun h => h)
        clear hK K
        try simp only [Act.put, List.setIfInBounds_toArray, List.set_cons_zero, List.set_cons_succ, List.getElem_toArray, List.getElem_cons_zero, List.getElem_cons_succ]
        refine wpAnyH_ready (rs := [10]) (by kernel_rfl) (by simp) ?_
        refine AllReadyH.cons rfl (fun K hK => ?_) AllReadyH.nil
        refine step_append_fresh rfl (.tmp 24) (.tmp 26) 28 rfl (L + 1) 3 i0 _ 1 8 Try.underlying28 hi hz0 hz1 hz2 (by decide) (.slice va (outK (l.take k) f).length vc) (outK (l.take k) f).length (numsV (outK (l.take k) f)) rfl HO2.out ⟨wr.heap.size + 1, 0, none⟩ 1 [.int .i64 (k : Int)] rfl rfl (news_at _ _ _ _ (by simp)) (one_int _) (by unfold maxLen; omega) (by omega) (by have := HLL.out; simp; omega) ?_
        intro g cp4 w4 hown hgrow hfr
        have HXA := HX1.out.later ((Below.refl ((wr.alloc (.cells #[.int .i64 (f : Int), .int .i64 t, .int .i64 c] 35)).drew).heap.size ((wr.alloc (.cells #[.int .i64 (f : Int), .int .i64 t, .int .i64 c] 35)).drew)).alloc (Nat.le_refl _) (.cells #[.int .i64 (k : Int)] 3))
        rw [← HV.out] at hgrow hfr
        obtain ⟨_, c4, d4⟩ := HXA.adj.push hf hown hgrow hfr
        have HP := Lib.hid (HXA.push hf hown hgrow hfr)
        have x4 : ArcS wr.heap.size (f : Int) t w4 := HA0.out.mod (((Mod.refl (fun k => (V f).ownBlock = some k) ((wr.alloc (.cells #[.int .i64 (f : Int), .int .i64 t, .int .i64 c] 35)).drew)).alloc (.cells #[.int .i64 (k : Int)] 3)).grown hgrow (fun k hk => .inr hk)) (by rw [HV.out]; exact HAB.out)
        clear hown hgrow hfr HXA
        refine hK.out _ _ ?_ (fun hHeld => ?_)
        · exact x4
        clear hK K
        try simp only [Act.put, List.setIfInBounds_toArray, List.set_cons_zero, List.set_cons_succ, List.getElem_toArray, List.getElem_cons_zero, List.getElem_cons_succ]
        refine wpAnyH_take (i := 11) (v := ?_) rfl (by kernel_rfl) (by kernel_rfl) (by kernel_rfl) (fun _ _ _ h => h) (Or.inl ⟨by rfl, ?_⟩) hHeld ?_
        rotate_left
        · intro W0 hW; obtain ⟨hW1, hW2, hW3⟩ := hW; go_simp; (try with_reducible rfl)
        try simp only [Act.put, List.setIfInBounds_toArray, List.set_cons_zero, List.set_cons_succ, List.getElem_toArray, List.getElem_cons_zero, List.getElem_cons_succ]
        refine wpAnyH_ready (rs := [12]) (by kernel_rfl) (by simp) ?_
        refine AllReadyH.cons rfl (fun K hK => ?_) AllReadyH.nil
        go_simp
        refine hK.out _ _ ?_ (fun hHeld => ?_)
        · exact x4.mod ((Mod.refl (fun b => b = L) _).setCell (p := ⟨L, f, none⟩) (.inr rfl) _) (fun h => by have h2 : wr.heap.size = L := h; have := HLL.out; omega)
        clear hK K
        try simp only [Act.put, List.setIfInBounds_toArray, List.set_cons_zero, List.set_cons_succ, List.getElem_toArray, List.getElem_cons_zero, List.getElem_cons_succ]
        refine wpAnyH_done (by kernel_rfl) ?_ _
        clear hHeld
        go_wp2_with fail
        go_roundw
        case rel => exact ⟨k + 1, _, by go_num, by omega, Lib.hid (HP.out.congr (fun i _ => push_outs (HXT.out i) (fun e => by rw [e])))⟩
        case measure => simp [intOf]; omega
      · go_simp
        refine hK.out _ _ ?_ (fun hHeld => ?_)
        · exact hHeld.mod ((Mod.refl (fun _ => False) _).alloc _) (fun h => h)
        clear hK K
        try simp only [Act.put, List.setIfInBounds_toArray, List.set_cons_zero, List.set_cons_succ, List.getElem_toArray, List.getElem_cons_zero, List.getElem_cons_succ]
        refine wpAnyH_ready (rs := [7]) (by kernel_rfl) (by simp) ?_
        refine AllReadyH.cons rfl (fun K hK => ?_) AllReadyH.nil
        go_simp
        refine hK.out _ _ ?_ (fun hHeld => ?_)
        · exact hHeld
        clear hK K
        try simp only [Act.put, List.setIfInBounds_toArray, List.set_cons_zero, List.set_cons_succ, List.getElem_toArray, List.getElem_cons_zero, List.getElem_cons_succ]
        refine wpAnyH_ready (rs := [10]) (by kernel_rfl) (by simp) ?_
        refine AllReadyH.cons rfl (fun K hK => ?_) AllReadyH.nil
        refine step_append_fresh rfl (.tmp 24) (.tmp 26) 28 rfl (L + 1) 3 i0 _ 1 8 Try.underlying28 hi hz0 hz1 hz2 (by decide) (.slice va (outK (l.take k) f).length vc) (outK (l.take k) f).length (numsV (outK (l.take k) f)) rfl HO2.out ⟨wr.heap.size + 1, 0, none⟩ 1 [.int .i64 (k : Int)] rfl rfl (news_at _ _ _ _ (by simp)) (one_int _) (by unfold maxLen; omega) (by omega) (by have := HLL.out; simp; omega) ?_
        intro g cp4 w4 hown hgrow hfr
        have HXA := HX1.out.later ((Below.refl ((wr.alloc (.cells #[.int .i64 (f : Int), .int .i64 t, .int .i64 c] 35)).drew).heap.size ((wr.alloc (.cells #[.int .i64 (f : Int), .int .i64 t, .int .i64 c] 35)).drew)).alloc (Nat.le_refl _) (.cells #[.int .i64 (k : Int)] 3))
        rw [← HV.out] at hgrow hfr
        obtain ⟨_, c4, d4⟩ := HXA.adj.push hf hown hgrow hfr
        have HP := Lib.hid (HXA.push hf hown hgrow hfr)
        have x4 : ArcS wr.heap.size (f : Int) t w4 := HA0.out.mod (((Mod.refl (fun k => (V f).ownBlock = some k) ((wr.alloc (.cells #[.int .i64 (f : Int), .int .i64 t, .int .i64 c] 35)).drew)).alloc (.cells #[.int .i64 (k : Int)] 3)).grown hgrow (fun k hk => .inr hk)) (by rw [HV.out]; exact HAB.out)
        clear hown hgrow hfr HXA
        refine hK.out _ _ ?_ (fun hHeld => ?_)
        · exact x4
        clear hK K
        try simp only [Act.put, List.setIfInBounds_toArray, List.set_cons_zero, List.set_cons_succ, List.getElem_toArray, List.getElem_cons_zero, List.getElem_cons_succ]
        refine wpAnyH_take (i := 11) (v := ?_) rfl (by kernel_rfl) (by kernel_rfl) (by kernel_rfl) (fun _ _ _ h => h) (Or.inl ⟨by rfl, ?_⟩) hHeld ?_
        rotate_left
        · intro W0 hW; obtain ⟨hW1, hW2, hW3⟩ := hW; go_simp; (try with_reducible rfl)
        try simp only [Act.put, List.setIfInBounds_toArray, List.set_cons_zero, List.set_cons_succ, List.getElem_toArray, List.getElem_cons_zero, List.getElem_cons_succ]
        refine wpAnyH_ready (rs := [12]) (by kernel_rfl) (by simp) ?_
        refine AllReadyH.cons rfl (fun K hK => ?_) AllReadyH.nil
        go_simp
        refine hK.out _ _ ?_ (fun hHeld => ?_)
        · exact x4.mod ((Mod.refl (fun b => b = L) _).setCell (p := ⟨L, f, none⟩) (.inr rfl) _) (fun h => by have h2 : wr.heap.size = L := h; have := HLL.out; omega)
        clear hK K
        try simp only [Act.put, List.setIfInBounds_toArray, List.set_cons_zero, List.set_cons_succ, List.getElem_toArray, List.getElem_cons_zero, List.getElem_cons_succ]
        refine wpAnyH_done (by kernel_rfl) ?_ _
        clear hHeld
        go_wp2_with fail
        go_roundw
        case rel => exact ⟨k + 1, _, by go_num, by omega, Lib.hid (HP.out.congr (fun i _ => push_outs (HXT.out i) (fun e => by rw [e])))⟩
        case measure => simp [intOf]; omega
    · have hk2 : l.take k = l := List.take_of_length_le (by have := HLn.out; omega)
      rw [hk2] at HX
      clear hk2
      go_wp2_with fail
      go_ret
      exact ⟨_, V, rfl, HX.out.adj, HX.out.box.below⟩
end part
end Go.Proofs.Ytgoegkajfhhcjaa

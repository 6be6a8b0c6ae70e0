/- Package path: looker. -/
import Derived.Test.YtmmhdjibigopfaaAdjK
namespace Go.Proofs.Ytmmhdjibigopfaa
open Go.RowKit

variable {w wr w2 w4 : World} {a : Option Addr} {len cap L N ab co : Nat} {l : List Ar} {f t : Int} {S : Nat → Prop} {vf vb : Value}
/-- The arc of the round; where the rows are. -/
def LkS (ab co L N : Nat) (f : Int) (W : World) : Prop := W.cell? ⟨ab, 0, none⟩ = some (.int .i64 f) ∧ W.cell? ⟨co, 0, none⟩ = some (.slice (some ⟨L, 0, none⟩) N N) ∧ ab < W.heap.size ∧ co < W.heap.size
theorem LkS.mod (h : LkS ab co L N f w) (hm : Mod S w w2) (h1 : ¬ S ab) (h2 : ¬ S co) : LkS ab co L N f w2 :=
  ⟨(hm.cell (p := ⟨ab, 0, none⟩) h.2.2.1 h1).trans h.1, (hm.cell (p := ⟨co, 0, none⟩) h.2.2.2 h2).trans h.2.1, Nat.lt_of_lt_of_le h.2.2.1 hm.size, Nat.lt_of_lt_of_le h.2.2.2 hm.size⟩
theorem LkS.made (hco : co < w.heap.size) (hc : w.cell? ⟨co, 0, none⟩ = some (.slice (some ⟨L, 0, none⟩) N N)) (f t c : Int) (T : TypeId) : LkS w.heap.size co L N f (w.alloc (.cells #[.int .i64 f, .int .i64 t, .int .i64 c] T)).drew :=
  ⟨by simp, (World.cell?_alloc_past _ _ _ hco).trans hc, by simp, by simp; omega⟩

set_option maxHeartbeats 2000000 in
set_option maxRecDepth 100000 in
theorem looker_any (N : Nat) (hN : N ≤ 1000) (hlen : len ≤ 20000) (hok : ∀ x ∈ l, okA (N : Int) x = true) (a : Option Addr) (cap : Nat) (vf vb : Value) (w : World) (hl : IsArcs w.heap.size w a len l) :
    Calls Try.prog 29 #[.agg #[vf, vb], .agg #[.int .i64 (N : Int), .slice a len cap]] w fun e w' => ∃ tb g co L V, e = .returned (.func (.func 39) #[] #[.pointer (some ⟨co, 0, none⟩), .pointer (some ⟨g, 0, none⟩), .pointer (some ⟨tb, 0, none⟩)]) ∧
      LookerW w w' tb g vf vb (N : Int) a len cap co L N V (outK l) ∧ w.heap.size ≤ tb := by
  have hmf : ∀ (fn : Fn) (first cap : Array Value) (w : World), (Instr.makeFunc fn first cap).run Try.prog w = .ok (.func fn first cap) w := fun _ _ _ _ => rfl
  obtain ⟨i0, hi, hz0, hz1, hz2⟩ := info_parts infoInt
  have hmk := run_make_row' (P := Try.prog) 77 29 (.slice none 0 0) 24 Try.underlying77 infoInts rfl .i64 .i64 N (by omega) (by omega)
  have HOK := Lib.hid hok; clear hok
  have HLn : Hid (l.length = len) := Lib.hid hl.1
  have HL := Lib.hid hl; clear hl
  have HG0 : Hid (LookerW w ((((w.alloc (.cells #[vf, vb] 31)).alloc (.cells #[.int .i64 (N : Int), .slice a len cap] 26)).alloc (.cells (madeCells #[.slice none 0 0] N) 29)).alloc (.cells #[.slice (some ⟨w.heap.size + 1 + 1, 0, none⟩) N N] 77)) w.heap.size (w.heap.size + 1) vf vb (N : Int) a len cap (w.heap.size + 1 + 1 + 1) (w.heap.size + 1 + 1) N (fun _ => .slice none 0 0) (outK (l.take 0))) :=
    Lib.hid ⟨looker_box w vf vb N a len cap _ _, looker_tree w vf vb _ _ _, AdjK.start (L := w.heap.size + 1 + 1) (by simp) (by omega) N, by omega, by omega⟩
  go_enter Try.func29, Try.ntmps29
  go_wp2_with fail
  clear hmk
  obtain ⟨g, hg⟩ : ∃ g, w.heap.size + 1 = g := ⟨_, rfl⟩
  obtain ⟨L, hL⟩ : ∃ L, g + 1 = L := ⟨_, rfl⟩
  obtain ⟨co, hco⟩ : ∃ co, L + 1 = co := ⟨_, rfl⟩
  rw [hg, hL, hco] at HG0 ⊢
  clear hg hL hco
  go_loopw [14] (fun i wr => ∃ (k : Nat) (V : Nat → Value), i = .int .i64 k ∧ k ≤ len ∧ Hid (LookerW w wr w.heap.size g vf vb (N : Int) a len cap co L N V (outK (l.take k)))) (fun i _ => len - (intOf i).toNat)
  case atStart => exact ⟨0, _, rfl, Nat.zero_le _, HG0⟩
  case round =>
    obtain ⟨k, V, rfl, hk, HX⟩ := hrel
    clear HG0
    by_cases hlt : k < len
    · obtain ⟨b, off, x, rfl, hb, hx, e0, e1, e2⟩ := (HX.out.box.arcs HL.out).at_ hlt
      have hxok := okA_true.1 (HOK.out x (List.mem_of_getElem? hx))
      have HXT := Lib.hid (fun i => outK_take hx i)
      clear hx hb
      obtain ⟨f0, t, c⟩ := x
      simp only at e0 e1 e2 hxok
      obtain ⟨f, rfl⟩ : ∃ f : Nat, f0 = (f : Int) := ⟨f0.toNat, by omega⟩
      have hf : f < N := by omega
      have hf1 : (0 : Int) ≤ (f : Int) := by omega
      have hf2 : (f : Int) < (N : Int) := by omega
      clear hxok
      obtain ⟨va, vc, hv⟩ := owns_shape (HX.out.adj.row f hf)
      have HX1 := Lib.hid (HX.out.later ((Below.refl wr.heap.size wr).alloc (Nat.le_refl _) (.cells #[.int .i64 (f : Int), .int .i64 t, .int .i64 c] 41)).drew)
      have hml : (outK (l.take k) f).length ≤ 20000 := Nat.le_trans (outK_le _ _) (by rw [List.length_take]; omega)
      have HV := Lib.hid hv
      have HO1 := HX1.out.adj.row f hf
      have c1 := HX1.out.adj.out.cell hf
      rw [hv] at HO1 c1
      have HO := Lib.hid HO1
      have HAB : Hid ((Value.slice va (outK (l.take k) f).length vc).ownBlock ≠ some wr.heap.size) := Lib.hid (fun e => by have := (World.ownsRow.lt (HX.out.adj.row f hf) wr.heap.size (by rw [hv]; exact e)).2; omega)
      have HCB : Hid ((Value.slice va (outK (l.take k) f).length vc).ownBlock ≠ some co) := Lib.hid (fun e => by have := (World.ownsRow.lt (HX.out.adj.row f hf) co (by rw [hv]; exact e)).1; omega)
      have HLL : Hid (L < co ∧ co < wr.heap.size) := Lib.hid ⟨HX.out.adj.lt, HX.out.adj.ltc⟩
      have HA0 := Lib.hid (LkS.made HX.out.adj.ltc HX.out.adj.cell (f : Int) t c 41)
      clear hv HO1 HX
      go_wp2_with fail
      refine wp_region_held_drew (S := LkS wr.heap.size co L N (f : Int)) (by kernel_rfl) HA0.out (fun hHeld => ?_)
      refine wpAnyH_take (i := 0) (v := ?_) rfl (by kernel_rfl) (by kernel_rfl) (by kernel_rfl) (fun _ _ _ h => h) (Or.inl ⟨by rfl, ?_⟩) hHeld ?_
      rotate_left
      · intro W0 hW; obtain ⟨hW1, hW2, hW3, hW4⟩ := hW; go_simp; (try with_reducible rfl)
      try simp only [Act.put, List.setIfInBounds_toArray, List.set_cons_zero, List.set_cons_succ, List.getElem_toArray, List.getElem_cons_zero]
      refine wpAnyH_take (i := 1) (v := ?_) rfl (by kernel_rfl) (by kernel_rfl) (by kernel_rfl) (fun _ _ _ h => h) (Or.inl ⟨by rfl, ?_⟩) hHeld ?_
      rotate_left
      · intro W0 hW; obtain ⟨hW1, hW2, hW3, hW4⟩ := hW; go_simp; (try with_reducible rfl)
      try simp only [Act.put, List.setIfInBounds_toArray, List.set_cons_zero, List.set_cons_succ, List.getElem_toArray, List.getElem_cons_zero, List.getElem_cons_succ]
      refine wpAnyH_take (i := 2) (v := ?_) rfl (by kernel_rfl) (by kernel_rfl) (by kernel_rfl) (fun _ _ _ h => h) (Or.inl ⟨by rfl, ?_⟩) hHeld ?_
      rotate_left
      · intro W0 hW; obtain ⟨hW1, hW2, hW3, hW4⟩ := hW; go_simp; (try with_reducible rfl)
      try simp only [Act.put, List.setIfInBounds_toArray, List.set_cons_zero, List.set_cons_succ, List.getElem_toArray, List.getElem_cons_zero, List.getElem_cons_succ]
      refine wpAnyH_take (i := 3) (v := ?_) rfl (by kernel_rfl) (by kernel_rfl) (by kernel_rfl) (fun _ _ _ h => h) (Or.inl ⟨by rfl, ?_⟩) hHeld ?_
      rotate_left
      · intro W0 hW; obtain ⟨hW1, hW2, hW3, hW4⟩ := hW; go_simp; (try with_reducible rfl)
      try simp only [Act.put, List.setIfInBounds_toArray, List.set_cons_zero, List.set_cons_succ, List.getElem_toArray, List.getElem_cons_zero, List.getElem_cons_succ]
      refine wpAnyH_take (i := 4) (v := ?_) rfl (by kernel_rfl) (by kernel_rfl) (by kernel_rfl) (fun _ _ _ h => h) (Or.inl ⟨by rfl, ?_⟩) hHeld ?_
      rotate_left
      · intro W0 hW; obtain ⟨hW1, hW2, hW3, hW4⟩ := hW; go_simp; (try with_reducible rfl)
      try simp only [Act.put, List.setIfInBounds_toArray, List.set_cons_zero, List.set_cons_succ, List.getElem_toArray, List.getElem_cons_zero, List.getElem_cons_succ]
      refine wpAnyH_take (i := 5) (v := ?_) rfl (by kernel_rfl) (by kernel_rfl) (by kernel_rfl) (fun _ _ _ h => h) (Or.inl ⟨by rfl, ?_⟩) hHeld ?_
      rotate_left
      · intro W0 hW; obtain ⟨hW1, hW2, hW3, hW4⟩ := hW; go_simp; (try with_reducible rfl)
      try simp only [Act.put, List.setIfInBounds_toArray, List.set_cons_zero, List.set_cons_succ, List.getElem_toArray, List.getElem_cons_zero, List.getElem_cons_succ]
      refine wpAnyH_take (i := 6) (v := ?_) rfl (by kernel_rfl) (by kernel_rfl) (by kernel_rfl) (fun _ _ _ h => h) (Or.inl ⟨by rfl, ?_⟩) hHeld ?_
      rotate_left
      · intro W0 hW; obtain ⟨hW1, hW2, hW3, hW4⟩ := hW; go_simp; (try with_reducible rfl)
      try simp only [Act.put, List.setIfInBounds_toArray, List.set_cons_zero, List.set_cons_succ, List.getElem_toArray, List.getElem_cons_zero, List.getElem_cons_succ]
      refine wpAnyH_take (i := 8) (v := ?_) rfl (by kernel_rfl) (by kernel_rfl) (by kernel_rfl) (fun _ _ _ h => h) (Or.inl ⟨by rfl, ?_⟩) hHeld ?_
      rotate_left
      · intro W0 hW; obtain ⟨hW1, hW2, hW3, hW4⟩ := hW; go_simp; (try with_reducible rfl)
      try simp only [Act.put, List.setIfInBounds_toArray, List.set_cons_zero, List.set_cons_succ, List.getElem_toArray, List.getElem_cons_zero, List.getElem_cons_succ]
      have c2 : ((wr.alloc (.cells #[.int .i64 (f : Int), .int .i64 t, .int .i64 c] 41)).alloc (.cells #[.int .i64 (k : Int)] 3)).cell? ⟨L, f, none⟩ = some (.slice va (outK (l.take k) f).length vc) := (World.cell?_alloc_past _ _ _ HX1.out.adj.out.lt).trans c1
      have HO2 : Hid ((World.alloc ((wr.alloc (.cells #[.int .i64 (f : Int), .int .i64 t, .int .i64 c] 41)).drew) (.cells #[.int .i64 (k : Int)] 3)).ownsRow (co + 1) 3 1 (.slice va (outK (l.take k) f).length vc) (outK (l.take k) f).length (numsV (outK (l.take k) f))) := Lib.hid (HO.out.alloc _)
      refine wpAnyH_ready (rs := [7, 9]) (by kernel_rfl) (by simp) ?_
      refine AllReadyH.cons rfl (fun K hK => ?_) (AllReadyH.cons rfl (fun K hK => ?_) AllReadyH.nil)
      · go_simp
        refine hK.out _ _ ?_ (fun hHeld => ?_)
        · exact hHeld
        clear hK K
        try simp only [Act.put, List.setIfInBounds_toArray, List.set_cons_zero, List.set_cons_succ, List.getElem_toArray, List.getElem_cons_zero, List.getElem_cons_succ]
        refine wpAnyH_ready (rs := [9]) (by kernel_rfl) (by simp) ?_
        refine AllReadyH.cons rfl (fun K hK => ?_) AllReadyH.nil
        go_simp
        refine hK.out _ _ ?_ (fun hHeld => ?_)
        · exact hHeld.mod ((Mod.refl (fun _ => False) _).alloc _) (fun h => h) (fun h => h)
        clear hK K
        try simp only [Act.put, List.setIfInBounds_toArray, List.set_cons_zero, List.set_cons_succ, List.getElem_toArray, List.getElem_cons_zero, List.getElem_cons_succ]
        refine wpAnyH_ready (rs := [10]) (by kernel_rfl) (by simp) ?_
        refine AllReadyH.cons rfl (fun K hK => ?_) AllReadyH.nil
        refine step_append_fresh rfl (.tmp 26) (.tmp 28) 29 rfl (co + 1) 3 i0 _ 1 8 Try.underlying29 hi hz0 hz1 hz2 (by decide) (.slice va (outK (l.take k) f).length vc) (outK (l.take k) f).length (numsV (outK (l.take k) f)) rfl HO2.out ⟨wr.heap.size + 1, 0, none⟩ 1 [.int .i64 (k : Int)] rfl rfl (news_at _ _ _ _ (by simp)) (one_int _) (by unfold maxLen; omega) (by omega) (by have := HLL.out; simp; omega) ?_
        intro g4 cp4 w4 hown hgrow hfr
        have HXA := HX1.out.later ((Below.refl ((wr.alloc (.cells #[.int .i64 (f : Int), .int .i64 t, .int .i64 c] 41)).drew).heap.size ((wr.alloc (.cells #[.int .i64 (f : Int), .int .i64 t, .int .i64 c] 41)).drew)).alloc (Nat.le_refl _) (.cells #[.int .i64 (k : Int)] 3))
        rw [← HV.out] at hgrow hfr
        obtain ⟨_, c4, d4⟩ := HXA.adj.push hf hown hgrow hfr
        have HP := Lib.hid (HXA.push hf hown hgrow hfr)
        have x4 : LkS wr.heap.size co L N (f : Int) w4 := HA0.out.mod (((Mod.refl (fun k => (V f).ownBlock = some k) ((wr.alloc (.cells #[.int .i64 (f : Int), .int .i64 t, .int .i64 c] 41)).drew)).alloc (.cells #[.int .i64 (k : Int)] 3)).grown hgrow (fun k hk => .inr hk)) (by rw [HV.out]; exact HAB.out) (by rw [HV.out]; exact HCB.out)
        clear hown hgrow hfr HXA
        refine hK.out _ _ ?_ (fun hHeld => ?_)
        · exact x4
        clear hK K
        try simp only [Act.put, List.setIfInBounds_toArray, List.set_cons_zero, List.set_cons_succ, List.getElem_toArray, List.getElem_cons_zero, List.getElem_cons_succ]
        refine wpAnyH_take (i := 11) (v := ?_) rfl (by kernel_rfl) (by kernel_rfl) (by kernel_rfl) (fun _ _ _ h => h) (Or.inl ⟨by rfl, ?_⟩) hHeld ?_
        rotate_left
        · intro W0 hW; obtain ⟨hW1, hW2, hW3, hW4⟩ := hW; go_simp; (try with_reducible rfl)
        try simp only [Act.put, List.setIfInBounds_toArray, List.set_cons_zero, List.set_cons_succ, List.getElem_toArray, List.getElem_cons_zero, List.getElem_cons_succ]
        refine wpAnyH_ready (rs := [12]) (by kernel_rfl) (by simp) ?_
        refine AllReadyH.cons rfl (fun K hK => ?_) AllReadyH.nil
        go_simp
        refine hK.out _ _ ?_ (fun hHeld => ?_)
        · exact x4.mod ((Mod.refl (fun b => b = L) _).setCell (p := ⟨L, f, none⟩) (.inr rfl) _) (fun h => by have h2 : wr.heap.size = L := h; have := HLL.out; omega) (fun h => by have h2 : co = L := h; have := HLL.out; omega)
        clear hK K
        try simp only [Act.put, List.setIfInBounds_toArray, List.set_cons_zero, List.set_cons_succ, List.getElem_toArray, List.getElem_cons_zero, List.getElem_cons_succ]
        refine wpAnyH_done (by kernel_rfl) ?_ _
        clear hHeld
        go_wp2_with fail
        go_roundw
        case rel => exact ⟨k + 1, _, by go_num, by omega, Lib.hid (HP.out.congr (fun i _ => push_outs (HXT.out i) (fun e => by rw [e])))⟩
        case measure => simp [intOf]; omega
      · go_simp
        refine hK.out _ _ ?_ (fun hHeld => ?_)
        · exact hHeld.mod ((Mod.refl (fun _ => False) _).alloc _) (fun h => h) (fun h => h)
        clear hK K
        try simp only [Act.put, List.setIfInBounds_toArray, List.set_cons_zero, List.set_cons_succ, List.getElem_toArray, List.getElem_cons_zero, List.getElem_cons_succ]
        refine wpAnyH_ready (rs := [7]) (by kernel_rfl) (by simp) ?_
        refine AllReadyH.cons rfl (fun K hK => ?_) AllReadyH.nil
        go_simp
        refine hK.out _ _ ?_ (fun hHeld => ?_)
        · exact hHeld
        clear hK K
        try simp only [Act.put, List.setIfInBounds_toArray, List.set_cons_zero, List.set_cons_succ, List.getElem_toArray, List.getElem_cons_zero, List.getElem_cons_succ]
        refine wpAnyH_ready (rs := [10]) (by kernel_rfl) (by simp) ?_
        refine AllReadyH.cons rfl (fun K hK => ?_) AllReadyH.nil
        refine step_append_fresh rfl (.tmp 26) (.tmp 28) 29 rfl (co + 1) 3 i0 _ 1 8 Try.underlying29 hi hz0 hz1 hz2 (by decide) (.slice va (outK (l.take k) f).length vc) (outK (l.take k) f).length (numsV (outK (l.take k) f)) rfl HO2.out ⟨wr.heap.size + 1, 0, none⟩ 1 [.int .i64 (k : Int)] rfl rfl (news_at _ _ _ _ (by simp)) (one_int _) (by unfold maxLen; omega) (by omega) (by have := HLL.out; simp; omega) ?_
        intro g4 cp4 w4 hown hgrow hfr
        have HXA := HX1.out.later ((Below.refl ((wr.alloc (.cells #[.int .i64 (f : Int), .int .i64 t, .int .i64 c] 41)).drew).heap.size ((wr.alloc (.cells #[.int .i64 (f : Int), .int .i64 t, .int .i64 c] 41)).drew)).alloc (Nat.le_refl _) (.cells #[.int .i64 (k : Int)] 3))
        rw [← HV.out] at hgrow hfr
        obtain ⟨_, c4, d4⟩ := HXA.adj.push hf hown hgrow hfr
        have HP := Lib.hid (HXA.push hf hown hgrow hfr)
        have x4 : LkS wr.heap.size co L N (f : Int) w4 := HA0.out.mod (((Mod.refl (fun k => (V f).ownBlock = some k) ((wr.alloc (.cells #[.int .i64 (f : Int), .int .i64 t, .int .i64 c] 41)).drew)).alloc (.cells #[.int .i64 (k : Int)] 3)).grown hgrow (fun k hk => .inr hk)) (by rw [HV.out]; exact HAB.out) (by rw [HV.out]; exact HCB.out)
        clear hown hgrow hfr HXA
        refine hK.out _ _ ?_ (fun hHeld => ?_)
        · exact x4
        clear hK K
        try simp only [Act.put, List.setIfInBounds_toArray, List.set_cons_zero, List.set_cons_succ, List.getElem_toArray, List.getElem_cons_zero, List.getElem_cons_succ]
        refine wpAnyH_take (i := 11) (v := ?_) rfl (by kernel_rfl) (by kernel_rfl) (by kernel_rfl) (fun _ _ _ h => h) (Or.inl ⟨by rfl, ?_⟩) hHeld ?_
        rotate_left
        · intro W0 hW; obtain ⟨hW1, hW2, hW3, hW4⟩ := hW; go_simp; (try with_reducible rfl)
        try simp only [Act.put, List.setIfInBounds_toArray, List.set_cons_zero, List.set_cons_succ, List.getElem_toArray, List.getElem_cons_zero, List.getElem_cons_succ]
        refine wpAnyH_ready (rs := [12]) (by kernel_rfl) (by simp) ?_
        refine AllReadyH.cons rfl (fun K hK => ?_) AllReadyH.nil
        go_simp
        refine hK.out _ _ ?_ (fun hHeld => ?_)
        · exact x4.mod ((Mod.refl (fun b => b = L) _).setCell (p := ⟨L, f, none⟩) (.inr rfl) _) (fun h => by have h2 : wr.heap.size = L := h; have := HLL.out; omega) (fun h => by have h2 : co = L := h; have := HLL.out; omega)
        clear hK K
        try simp only [Act.put, List.setIfInBounds_toArray, List.set_cons_zero, List.set_cons_succ, List.getElem_toArray, List.getElem_cons_zero, List.getElem_cons_succ]
        refine wpAnyH_done (by kernel_rfl) ?_ _
        clear hHeld
        go_wp2_with fail
        go_roundw
        case rel => exact ⟨k + 1, _, by go_num, by omega, Lib.hid (HP.out.congr (fun i _ => push_outs (HXT.out i) (fun e => by rw [e])))⟩
        case measure => simp [intOf]; omega
    · have hk2 : l.take k = l := List.take_of_length_le (by have := HLn.out; omega)
      rw [hk2] at HX
      clear hk2
      go_wp2_with fail
      go_ret
      exact ⟨_, _, _, _, V, rfl, HX.out, Nat.le_refl _⟩
end Go.Proofs.Ytmmhdjibigopfaa

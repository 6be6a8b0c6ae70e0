/- Package least: begun. -/
import Derived.Test.YtbenmebmfihleaaMMade
import Derived.Test.YtbenmebmfihleaaMRep
import Derived.Deep.CutRange
namespace Go.Proofs.Ytbenmebmfihleaa
open Go.RowKit

variable {w wr w2 w4 : World} {a : Option Addr} {len cap lb p N s t k q f ab D0 co n m : Nat} {l : List Pi} {V : Nat → Value} {x : Pi}
theorem infoLaneK : (Try.prog.info? 90).map (fun i => (i.zero, i.size, i.bytes)) = some (some (.agg #[.int .i64 0, .int .i64 0, .bool false]), 3, 24) := by kernel_rfl
theorem infoLanesK : (Try.prog.info? 88).map (fun i => (i.zero, i.size, i.bytes)) = some (some (.slice none 0 0), 1, 24) := by kernel_rfl
/-- A pipe's copy. -/
def PC (w : World) (g : Nat) (x : Pi) : Prop := w.heap[g]? = some (.cells #[.int .i64 x.1, .int .i64 x.2.1, .int .i64 x.2.2.1, .int .i64 x.2.2.2] 47 (0, 0))
theorem PC.cells {g : Nat} (h : PC w g x) : w.cell? ⟨g, 0, none⟩ = some (.int .i64 x.1) ∧ w.cell? ⟨g, 1, none⟩ = some (.int .i64 x.2.1) ∧ w.cell? ⟨g, 3, none⟩ = some (.int .i64 x.2.2.2) := by
  unfold PC at h
  simp [World.cell?, h]
theorem PC.lt {g : Nat} (h : PC w g x) : g < w.heap.size := (Array.getElem?_eq_some_iff.1 h).1
theorem PC.set_ {g c i : Nat} {v : Value} (h : PC w g x) (hc : g ≠ c) : PC (w.setCell ⟨c, i, none⟩ v) g x := (heap_setCell_other _ _ _ _ hc).trans h
/-- What a lane's append reads. -/
def PipK (ab p lb N f q : Nat) (W : World) : Prop := W.cell? ⟨ab, 0, none⟩ = some (.int .i64 (f : Int)) ∧ W.cell? ⟨ab, 1, none⟩ = some (.int .i64 (q : Int)) ∧ W.cell? ⟨p, 6, none⟩ = some (.slice (some ⟨lb, 0, none⟩) N N) ∧ ab < W.heap.size ∧ p < W.heap.size
theorem PipK.mod {S : Nat → Prop} (h : PipK ab p lb N f q w) (hm : Mod S w w2) (h1 : ¬ S ab) (h2 : ¬ S p) : PipK ab p lb N f q w2 :=
  ⟨(hm.cell (p := ⟨ab, 0, none⟩) h.2.2.2.1 h1).trans h.1, (hm.cell (p := ⟨ab, 1, none⟩) h.2.2.2.1 h1).trans h.2.1, (hm.cell (p := ⟨p, 6, none⟩) h.2.2.2.2 h2).trans h.2.2.1, Nat.lt_of_lt_of_le h.2.2.2.1 hm.size, Nat.lt_of_lt_of_le h.2.2.2.2 hm.size⟩
theorem fresh_av {g nl cp sz : Nat} (hav : ∀ i, i < N → ¬ ((V i).ownBlock = some ab) ∧ ¬ ((V i).ownBlock = some p)) (hf : f < N) (hfr : (V f).ownBlock = some g ∨ g = sz) (h1 : ab < sz) (h2 : p < sz) :
    ∀ i, i < N → ¬ (((fun j => if j = f then Value.slice (some ⟨g, 0, none⟩) nl cp else V j) i).ownBlock = some ab) ∧ ¬ (((fun j => if j = f then Value.slice (some ⟨g, 0, none⟩) nl cp else V j) i).ownBlock = some p) := fun i hi => by
  by_cases e : i = f
  · subst e
    simp only [if_true]
    have ho : (Value.slice (some ⟨g, 0, none⟩) nl cp).ownBlock = some g := rfl
    rw [ho]
    have h3 := hav i hf
    rcases hfr with hfr | hfr
    · rw [hfr] at h3; exact h3
    · refine ⟨fun e => ?_, fun e => ?_⟩ <;> (injection e with e; omega)
  · simp only [e, if_false]
    exact hav i hi
theorem maxed {f q x3 : Int} {c4 : Nat} (hco : ∀ (j : Nat) (x : Pi), j < k → l[j]? = some x → x.2.2.2 < 2 ^ co) (hx : l[k]? = some (f, q, x3, (c4 : Int))) (hn : c4 < 2 ^ n) (hm : max co n = m) : ∀ (j : Nat) (x : Pi), j < k + 1 → l[j]? = some x → x.2.2.2 < 2 ^ m := fun j x hj hxj => by
  by_cases e : j = k
  · subst e
    rw [hx] at hxj
    cases hxj
    have h1 : c4 < 2 ^ m := Nat.lt_of_lt_of_le hn (Nat.pow_le_pow_right (by omega) (by omega))
    show (c4 : Int) < 2 ^ m
    exact_mod_cast h1
  · have h1 := hco j x (by omega) hxj
    have h2 : (2 : Int) ^ co ≤ 2 ^ m := by
      have : (2 : Nat) ^ co ≤ 2 ^ m := Nat.pow_le_pow_right (by omega) (by omega)
      exact_mod_cast this
    omega
structure BegunK (w w' : World) (E : EnvK) (co N len : Nat) (l : List Pi) : Prop where
  en : E.N = N
  el : E.l = l
  elen : E.len = len
  below : Below w.heap.size w w'
  kw : Kw E (fun _ => 0) (fun _ => 0) (fun _ => 0) (fun _ => 0) (fun _ => 0) (co : Int) 0 w'
  co33 : co ≤ 33
  low : ∀ x ∈ l, x.2.2.2 / 2 ^ co = 0
  lanes : LanesK l N E.L
  degs : sumN N (fun i => ((E.L i).length : Int)) ≤ 2 * (l.length : Int)
  mine : ∀ b, E.mine b → w.heap.size ≤ b
set_option maxHeartbeats 16000000 in
set_option maxRecDepth 100000 in
theorem begunK_any (hN : N ≤ 1000) (hlen : len ≤ 20000) (hok : ∀ x ∈ l, okP (N : Int) x = true) (hcs : ∀ x ∈ l, 0 ≤ x.2.2.2 ∧ x.2.2.2 ≤ 4294967296) (hl : IsPipes w.heap.size w a len l) :
    Calls Try.prog 23 #[.agg #[.int .i64 (N : Int), .slice a len cap]] w fun e w' => ∃ E co, e = .returned (.pointer (some ⟨E.p, 0, none⟩)) ∧ BegunK w w' E co N len l := by
  have hmk1 := run_make_row' (P := Try.prog) 31 2 (.int .i64 0) 8 Try.underlying31 infoLongRp rfl .i64 .i64 N (by omega) (by omega)
  have hmk4 := run_make_row' (P := Try.prog) 31 2 (.int .i64 0) 8 Try.underlying31 infoLongRp rfl .i64 .i64 len (by omega) (by omega)
  have hmk2 := run_make_row' (P := Try.prog) 61 3 (.int .i64 0) 8 Try.underlying61 infoIntRp rfl .i64 .i64 N (by omega) (by omega)
  have hmk0 := run_make_row' (P := Try.prog) 68 88 (.slice none 0 0) 24 Try.underlying68 infoLanesK rfl .i64 .i64 N (by omega) (by omega)
  obtain ⟨i0, hi0, hz0, hz1, hz2⟩ := info_parts infoLaneK
  have HI0 := Lib.hid hi0
  have HZ0 := Lib.hid hz0
  have HZ1 := Lib.hid hz1
  have HZ2 := Lib.hid hz2
  have HOK := Lib.hid hok
  have HCS := Lib.hid hcs
  have HL := Lib.hid hl
  have HLn : Hid (l.length = len) := Lib.hid hl.1
  have HB0 : Hid (MW w (w.alloc (.cells #[.int .i64 (N : Int), .slice a len cap] 27)) N len cap a (fun _ => none)) := Lib.hid (MW.begin_ (NBox.make (Below.refl _ w) (N : Int) a len cap))
  clear hok hcs hl hi0 hz0 hz1 hz2
  go_enter Try.func23, Try.ntmps23
  go_wp2_with fail
  obtain ⟨w1, hw1⟩ : ∃ w1, w.alloc (.cells #[.int .i64 (N : Int), .slice a len cap] 27) = w1 := ⟨_, rfl⟩
  rw [hw1] at HB0 ⊢
  clear hw1
  go_cut [3] from 6 (fun pv wx => ∃ p lb sb tb nb, pv = .pointer (some ⟨p, 0, none⟩) ∧ BL w wx p N len cap a lb sb tb nb (fun j => if j = 0 then some lb else if j = 1 then some sb else if j = 2 then some tb else if j = 3 then some nb else none) (.slice none 0 0) (.slice none 0 0))
  case first =>
    have HBd := Lib.hid HB0.out.drew
    refine wp_region_held_drew (S := fun W => W.cell? ⟨w.heap.size, 0, none⟩ = some (.int .i64 (N : Int)) ∧ W.cell? ⟨w.heap.size, 1, none⟩ = some (.slice a len cap)) (by kernel_rfl) HBd.out.two (fun hHeld => ?_)
    obtain ⟨wz, hwz⟩ : ∃ wz, World.drew w1 = wz := ⟨_, rfl⟩
    rw [hwz] at HBd hHeld ⊢
    clear hwz
    refine wpAnyH_take (i := 0) (v := ?_) rfl (by kernel_rfl) (by kernel_rfl) (by kernel_rfl) (fun _ _ _ h => h) (Or.inl ⟨by rfl, ?_⟩) hHeld ?_
    rotate_left
    · intro W0 hW; obtain ⟨hW1, hW2⟩ := hW; go_simp; (try with_reducible rfl)
    try simp only [Act.put, List.setIfInBounds_toArray, List.set_cons_zero, List.set_cons_succ, List.getElem_toArray, List.getElem_cons_zero]
    refine wpAnyH_take (i := 1) (v := ?_) rfl (by kernel_rfl) (by kernel_rfl) (by kernel_rfl) (fun _ _ _ h => h) (Or.inl ⟨by rfl, ?_⟩) hHeld ?_
    rotate_left
    · intro W0 hW; obtain ⟨hW1, hW2⟩ := hW; go_simp; (try with_reducible rfl)
    try simp only [Act.put, List.setIfInBounds_toArray, List.set_cons_zero, List.set_cons_succ, List.getElem_toArray, List.getElem_cons_zero, List.getElem_cons_succ]
    refine wpAnyH_take (i := 2) (v := ?_) rfl (by kernel_rfl) (by kernel_rfl) (by kernel_rfl) (fun _ _ _ h => h) (Or.inl ⟨by rfl, ?_⟩) hHeld ?_
    rotate_left
    · intro W0 hW; obtain ⟨hW1, hW2⟩ := hW; go_simp; (try with_reducible rfl)
    try simp only [Act.put, List.setIfInBounds_toArray, List.set_cons_zero, List.set_cons_succ, List.getElem_toArray, List.getElem_cons_zero, List.getElem_cons_succ]
    refine wpAnyH_take (i := 4) (v := ?_) rfl (by kernel_rfl) (by kernel_rfl) (by kernel_rfl) (fun _ _ _ h => h) (Or.inl ⟨by rfl, ?_⟩) hHeld ?_
    rotate_left
    · intro W0 hW; obtain ⟨hW1, hW2⟩ := hW; go_simp; (try with_reducible rfl)
    try simp only [Act.put, List.setIfInBounds_toArray, List.set_cons_zero, List.set_cons_succ, List.getElem_toArray, List.getElem_cons_zero, List.getElem_cons_succ]
    refine wpAnyH_take (i := 5) (v := ?_) rfl (by kernel_rfl) (by kernel_rfl) (by kernel_rfl) (fun _ _ _ h => h) (Or.inl ⟨by rfl, ?_⟩) hHeld ?_
    rotate_left
    · intro W0 hW; obtain ⟨hW1, hW2⟩ := hW; go_simp; (try with_reducible rfl)
    try simp only [Act.put, List.setIfInBounds_toArray, List.set_cons_zero, List.set_cons_succ, List.getElem_toArray, List.getElem_cons_zero, List.getElem_cons_succ]
    refine wpAnyH_take (i := 7) (v := ?_) rfl (by kernel_rfl) (by kernel_rfl) (by kernel_rfl) (fun _ _ _ h => h) (Or.inl ⟨by rfl, ?_⟩) hHeld ?_
    rotate_left
    · intro W0 hW; obtain ⟨hW1, hW2⟩ := hW; go_simp; (try with_reducible rfl)
    try simp only [Act.put, List.setIfInBounds_toArray, List.set_cons_zero, List.set_cons_succ, List.getElem_toArray, List.getElem_cons_zero, List.getElem_cons_succ]
    refine wpAnyH_take (i := 8) (v := ?_) rfl (by kernel_rfl) (by kernel_rfl) (by kernel_rfl) (fun _ _ _ h => h) (Or.inl ⟨by rfl, ?_⟩) hHeld ?_
    rotate_left
    · intro W0 hW; obtain ⟨hW1, hW2⟩ := hW; go_simp; (try with_reducible rfl)
    try simp only [Act.put, List.setIfInBounds_toArray, List.set_cons_zero, List.set_cons_succ, List.getElem_toArray, List.getElem_cons_zero, List.getElem_cons_succ]
    refine wpAnyH_take (i := 10) (v := ?_) rfl (by kernel_rfl) (by kernel_rfl) (by kernel_rfl) (fun _ _ _ h => h) (Or.inl ⟨by rfl, ?_⟩) hHeld ?_
    rotate_left
    · intro W0 hW; obtain ⟨hW1, hW2⟩ := hW; go_simp; (try with_reducible rfl)
    try simp only [Act.put, List.setIfInBounds_toArray, List.set_cons_zero, List.set_cons_succ, List.getElem_toArray, List.getElem_cons_zero, List.getElem_cons_succ]
    refine wpAnyH_take (i := 11) (v := ?_) rfl (by kernel_rfl) (by kernel_rfl) (by kernel_rfl) (fun _ _ _ h => h) (Or.inl ⟨by rfl, ?_⟩) hHeld ?_
    rotate_left
    · intro W0 hW; obtain ⟨hW1, hW2⟩ := hW; go_simp; (try with_reducible rfl)
    try simp only [Act.put, List.setIfInBounds_toArray, List.set_cons_zero, List.set_cons_succ, List.getElem_toArray, List.getElem_cons_zero, List.getElem_cons_succ]
    refine wpAnyH_ready (rs := [3, 6, 9, 12]) (by kernel_rfl) (by simp) ?_
    refine AllReadyH.cons rfl (fun K hK => ?_) (AllReadyH.cons rfl (fun K hK => ?_) (AllReadyH.cons rfl (fun K hK => ?_) (AllReadyH.cons rfl (fun K hK => ?_) AllReadyH.nil)))
    · go_simp
      have HB11 : Hid (MW w (wz.alloc (.cells (madeCells #[.slice none 0 0] N) 88)) N len cap a (putO _ 0 wz.heap.size)) := Lib.hid (HBd.out.mk_ 0)
      refine hK.out _ _ ?_ (fun hHeld => ?_)
      · exact HB11.out.two
      clear hK K
      try simp only [Act.put, List.setIfInBounds_toArray, List.set_cons_zero, List.set_cons_succ, List.getElem_toArray, List.getElem_cons_zero, List.getElem_cons_succ]
      obtain ⟨lb, hlb⟩ : ∃ b, wz.heap.size = b := ⟨_, rfl⟩
      obtain ⟨v11, hv11⟩ : ∃ v, wz.alloc (.cells (madeCells #[.slice none 0 0] N) 88) = v := ⟨_, rfl⟩
      rw [hlb, hv11] at HB11
      rw [hv11] at hHeld
      rw [hlb, hv11]
      clear hlb hv11
      refine wpAnyH_ready (rs := [6, 9, 12]) (by kernel_rfl) (by simp) ?_
      refine AllReadyH.cons rfl (fun K hK => ?_) (AllReadyH.cons rfl (fun K hK => ?_) (AllReadyH.cons rfl (fun K hK => ?_) AllReadyH.nil))
      · go_simp
        have HB12 : Hid (MW w (v11.alloc (.cells (madeCells #[.int .i64 0] N) 2)) N len cap a (putO _ 1 v11.heap.size)) := Lib.hid (HB11.out.mk_ 1)
        refine hK.out _ _ ?_ (fun hHeld => ?_)
        · exact HB12.out.two
        clear hK K
        try simp only [Act.put, List.setIfInBounds_toArray, List.set_cons_zero, List.set_cons_succ, List.getElem_toArray, List.getElem_cons_zero, List.getElem_cons_succ]
        obtain ⟨sb, hsb⟩ : ∃ b, v11.heap.size = b := ⟨_, rfl⟩
        obtain ⟨v12, hv12⟩ : ∃ v, v11.alloc (.cells (madeCells #[.int .i64 0] N) 2) = v := ⟨_, rfl⟩
        rw [hsb, hv12] at HB12
        rw [hv12] at hHeld
        rw [hsb, hv12]
        clear hsb hv12
        refine wpAnyH_ready (rs := [9, 12]) (by kernel_rfl) (by simp) ?_
        refine AllReadyH.cons rfl (fun K hK => ?_) (AllReadyH.cons rfl (fun K hK => ?_) AllReadyH.nil)
        · go_simp
          have HB13 : Hid (MW w (v12.alloc (.cells (madeCells #[.int .i64 0] N) 3)) N len cap a (putO _ 2 v12.heap.size)) := Lib.hid (HB12.out.mk_ 2)
          refine hK.out _ _ ?_ (fun hHeld => ?_)
          · exact HB13.out.two
          clear hK K
          try simp only [Act.put, List.setIfInBounds_toArray, List.set_cons_zero, List.set_cons_succ, List.getElem_toArray, List.getElem_cons_zero, List.getElem_cons_succ]
          obtain ⟨tb, htb⟩ : ∃ b, v12.heap.size = b := ⟨_, rfl⟩
          obtain ⟨v13, hv13⟩ : ∃ v, v12.alloc (.cells (madeCells #[.int .i64 0] N) 3) = v := ⟨_, rfl⟩
          rw [htb, hv13] at HB13
          rw [hv13] at hHeld
          rw [htb, hv13]
          clear htb hv13
          refine wpAnyH_ready (rs := [12]) (by kernel_rfl) (by simp) ?_
          refine AllReadyH.cons rfl (fun K hK => ?_) AllReadyH.nil
          go_simp
          have HB14 : Hid (MW w (v13.alloc (.cells (madeCells #[.int .i64 0] N) 3)) N len cap a (putO _ 3 v13.heap.size)) := Lib.hid (HB13.out.mk_ 3)
          refine hK.out _ _ ?_ (fun hHeld => ?_)
          · exact HB14.out.two
          clear hK K
          try simp only [Act.put, List.setIfInBounds_toArray, List.set_cons_zero, List.set_cons_succ, List.getElem_toArray, List.getElem_cons_zero, List.getElem_cons_succ]
          obtain ⟨nb, hnb⟩ : ∃ b, v13.heap.size = b := ⟨_, rfl⟩
          obtain ⟨v14, hv14⟩ : ∃ v, v13.alloc (.cells (madeCells #[.int .i64 0] N) 3) = v := ⟨_, rfl⟩
          rw [hnb, hv14] at HB14
          rw [hv14] at hHeld
          rw [hnb, hv14]
          clear hnb hv14
          refine wpAnyH_take (i := 13) (v := ?_) rfl (by kernel_rfl) (by kernel_rfl) (by kernel_rfl) (fun _ _ _ h => h) (Or.inl ⟨by rfl, ?_⟩) hHeld ?_
          rotate_left
          · intro W0 hW; go_simp; (try with_reducible rfl)
          try simp only [Act.put, List.setIfInBounds_toArray, List.set_cons_zero, List.set_cons_succ, List.getElem_toArray, List.getElem_cons_zero, List.getElem_cons_succ]
          refine wpAnyH_ready (rs := [14]) (by kernel_rfl) (by simp) ?_
          refine AllReadyH.cons rfl (fun K hK => ?_) AllReadyH.nil
          go_simp
          have HBX : Hid (BL w (v14.alloc (.cells (wkC N len cap a lb sb tb nb (.slice none 0 0) (.slice none 0 0) 0) 70)) v14.heap.size N len cap a lb sb tb nb _ (.slice none 0 0) (.slice none 0 0)) := Lib.hid HB14.out.boxed
          refine hK.out _ _ ?_ (fun hHeld => ?_)
          · exact HBX.out.two
          clear hK K
          try simp only [Act.put, List.setIfInBounds_toArray, List.set_cons_zero, List.set_cons_succ, List.getElem_toArray, List.getElem_cons_zero, List.getElem_cons_succ]
          refine wpAnyH_take (i := 15) (v := ?_) rfl (by kernel_rfl) (by kernel_rfl) (by kernel_rfl) (fun _ _ _ h => h) (Or.inl ⟨by rfl, ?_⟩) hHeld ?_
          rotate_left
          · intro W0 hW; go_simp; (try with_reducible rfl)
          try simp only [Act.put, List.setIfInBounds_toArray, List.set_cons_zero, List.set_cons_succ, List.getElem_toArray, List.getElem_cons_zero, List.getElem_cons_succ]
          refine wpAnyH_done (by kernel_rfl) ?_ _
          clear hHeld
          go_wp2_with fail
          go_meet
          exact ⟨_, lb, sb, tb, nb, rfl, HBX.out.congr (fun j => by simp only [putO] <;> (repeat' split) <;> simp_all)⟩
        · go_simp
          have HB13 : Hid (MW w (v12.alloc (.cells (madeCells #[.int .i64 0] N) 3)) N len cap a (putO _ 3 v12.heap.size)) := Lib.hid (HB12.out.mk_ 3)
          refine hK.out _ _ ?_ (fun hHeld => ?_)
          · exact HB13.out.two
          clear hK K
          try simp only [Act.put, List.setIfInBounds_toArray, List.set_cons_zero, List.set_cons_succ, List.getElem_toArray, List.getElem_cons_zero, List.getElem_cons_succ]
          obtain ⟨nb, hnb⟩ : ∃ b, v12.heap.size = b := ⟨_, rfl⟩
          obtain ⟨v13, hv13⟩ : ∃ v, v12.alloc (.cells (madeCells #[.int .i64 0] N) 3) = v := ⟨_, rfl⟩
          rw [hnb, hv13] at HB13
          rw [hv13] at hHeld
          rw [hnb, hv13]
          clear hnb hv13
          refine wpAnyH_ready (rs := [9]) (by kernel_rfl) (by simp) ?_
          refine AllReadyH.cons rfl (fun K hK => ?_) AllReadyH.nil
          go_simp
          have HB14 : Hid (MW w (v13.alloc (.cells (madeCells #[.int .i64 0] N) 3)) N len cap a (putO _ 2 v13.heap.size)) := Lib.hid (HB13.out.mk_ 2)
          refine hK.out _ _ ?_ (fun hHeld => ?_)
          · exact HB14.out.two
          clear hK K
          try simp only [Act.put, List.setIfInBounds_toArray, List.set_cons_zero, List.set_cons_succ, List.getElem_toArray, List.getElem_cons_zero, List.getElem_cons_succ]
          obtain ⟨tb, htb⟩ : ∃ b, v13.heap.size = b := ⟨_, rfl⟩
          obtain ⟨v14, hv14⟩ : ∃ v, v13.alloc (.cells (madeCells #[.int .i64 0] N) 3) = v := ⟨_, rfl⟩
          rw [htb, hv14] at HB14
          rw [hv14] at hHeld
          rw [htb, hv14]
          clear htb hv14
          refine wpAnyH_take (i := 13) (v := ?_) rfl (by kernel_rfl) (by kernel_rfl) (by kernel_rfl) (fun _ _ _ h => h) (Or.inl ⟨by rfl, ?_⟩) hHeld ?_
          rotate_left
          · intro W0 hW; go_simp; (try with_reducible rfl)
          try simp only [Act.put, List.setIfInBounds_toArray, List.set_cons_zero, List.set_cons_succ, List.getElem_toArray, List.getElem_cons_zero, List.getElem_cons_succ]
          refine wpAnyH_ready (rs := [14]) (by kernel_rfl) (by simp) ?_
          refine AllReadyH.cons rfl (fun K hK => ?_) AllReadyH.nil
          go_simp
          have HBX : Hid (BL w (v14.alloc (.cells (wkC N len cap a lb sb tb nb (.slice none 0 0) (.slice none 0 0) 0) 70)) v14.heap.size N len cap a lb sb tb nb _ (.slice none 0 0) (.slice none 0 0)) := Lib.hid HB14.out.boxed
          refine hK.out _ _ ?_ (fun hHeld => ?_)
          · exact HBX.out.two
          clear hK K
          try simp only [Act.put, List.setIfInBounds_toArray, List.set_cons_zero, List.set_cons_succ, List.getElem_toArray, List.getElem_cons_zero, List.getElem_cons_succ]
          refine wpAnyH_take (i := 15) (v := ?_) rfl (by kernel_rfl) (by kernel_rfl) (by kernel_rfl) (fun _ _ _ h => h) (Or.inl ⟨by rfl, ?_⟩) hHeld ?_
          rotate_left
          · intro W0 hW; go_simp; (try with_reducible rfl)
          try simp only [Act.put, List.setIfInBounds_toArray, List.set_cons_zero, List.set_cons_succ, List.getElem_toArray, List.getElem_cons_zero, List.getElem_cons_succ]
          refine wpAnyH_done (by kernel_rfl) ?_ _
          clear hHeld
          go_wp2_with fail
          go_meet
          exact ⟨_, lb, sb, tb, nb, rfl, HBX.out.congr (fun j => by simp only [putO] <;> (repeat' split) <;> simp_all)⟩
      · go_simp
        have HB12 : Hid (MW w (v11.alloc (.cells (madeCells #[.int .i64 0] N) 3)) N len cap a (putO _ 2 v11.heap.size)) := Lib.hid (HB11.out.mk_ 2)
        refine hK.out _ _ ?_ (fun hHeld => ?_)
        · exact HB12.out.two
        clear hK K
        try simp only [Act.put, List.setIfInBounds_toArray, List.set_cons_zero, List.set_cons_succ, List.getElem_toArray, List.getElem_cons_zero, List.getElem_cons_succ]
        obtain ⟨tb, htb⟩ : ∃ b, v11.heap.size = b := ⟨_, rfl⟩
        obtain ⟨v12, hv12⟩ : ∃ v, v11.alloc (.cells (madeCells #[.int .i64 0] N) 3) = v := ⟨_, rfl⟩
        rw [htb, hv12] at HB12
        rw [hv12] at hHeld
        rw [htb, hv12]
        clear htb hv12
        refine wpAnyH_ready (rs := [6, 12]) (by kernel_rfl) (by simp) ?_
        refine AllReadyH.cons rfl (fun K hK => ?_) (AllReadyH.cons rfl (fun K hK => ?_) AllReadyH.nil)
        · go_simp
          have HB13 : Hid (MW w (v12.alloc (.cells (madeCells #[.int .i64 0] N) 2)) N len cap a (putO _ 1 v12.heap.size)) := Lib.hid (HB12.out.mk_ 1)
          refine hK.out _ _ ?_ (fun hHeld => ?_)
          · exact HB13.out.two
          clear hK K
          try simp only [Act.put, List.setIfInBounds_toArray, List.set_cons_zero, List.set_cons_succ, List.getElem_toArray, List.getElem_cons_zero, List.getElem_cons_succ]
          obtain ⟨sb, hsb⟩ : ∃ b, v12.heap.size = b := ⟨_, rfl⟩
          obtain ⟨v13, hv13⟩ : ∃ v, v12.alloc (.cells (madeCells #[.int .i64 0] N) 2) = v := ⟨_, rfl⟩
          rw [hsb, hv13] at HB13
          rw [hv13] at hHeld
          rw [hsb, hv13]
          clear hsb hv13
          refine wpAnyH_ready (rs := [12]) (by kernel_rfl) (by simp) ?_
          refine AllReadyH.cons rfl (fun K hK => ?_) AllReadyH.nil
          go_simp
          have HB14 : Hid (MW w (v13.alloc (.cells (madeCells #[.int .i64 0] N) 3)) N len cap a (putO _ 3 v13.heap.size)) := Lib.hid (HB13.out.mk_ 3)
          refine hK.out _ _ ?_ (fun hHeld => ?_)
          · exact HB14.out.two
          clear hK K
          try simp only [Act.put, List.setIfInBounds_toArray, List.set_cons_zero, List.set_cons_succ, List.getElem_toArray, List.getElem_cons_zero, List.getElem_cons_succ]
          obtain ⟨nb, hnb⟩ : ∃ b, v13.heap.size = b := ⟨_, rfl⟩
          obtain ⟨v14, hv14⟩ : ∃ v, v13.alloc (.cells (madeCells #[.int .i64 0] N) 3) = v := ⟨_, rfl⟩
          rw [hnb, hv14] at HB14
          rw [hv14] at hHeld
          rw [hnb, hv14]
          clear hnb hv14
          refine wpAnyH_take (i := 13) (v := ?_) rfl (by kernel_rfl) (by kernel_rfl) (by kernel_rfl) (fun _ _ _ h => h) (Or.inl ⟨by rfl, ?_⟩) hHeld ?_
          rotate_left
          · intro W0 hW; go_simp; (try with_reducible rfl)
          try simp only [Act.put, List.setIfInBounds_toArray, List.set_cons_zero, List.set_cons_succ, List.getElem_toArray, List.getElem_cons_zero, List.getElem_cons_succ]
          refine wpAnyH_ready (rs := [14]) (by kernel_rfl) (by simp) ?_
          refine AllReadyH.cons rfl (fun K hK => ?_) AllReadyH.nil
          go_simp
          have HBX : Hid (BL w (v14.alloc (.cells (wkC N len cap a lb sb tb nb (.slice none 0 0) (.slice none 0 0) 0) 70)) v14.heap.size N len cap a lb sb tb nb _ (.slice none 0 0) (.slice none 0 0)) := Lib.hid HB14.out.boxed
          refine hK.out _ _ ?_ (fun hHeld => ?_)
          · exact HBX.out.two
          clear hK K
          try simp only [Act.put, List.setIfInBounds_toArray, List.set_cons_zero, List.set_cons_succ, List.getElem_toArray, List.getElem_cons_zero, List.getElem_cons_succ]
          refine wpAnyH_take (i := 15) (v := ?_) rfl (by kernel_rfl) (by kernel_rfl) (by kernel_rfl) (fun _ _ _ h => h) (Or.inl ⟨by rfl, ?_⟩) hHeld ?_
          rotate_left
          · intro W0 hW; go_simp; (try with_reducible rfl)
          try simp only [Act.put, List.setIfInBounds_toArray, List.set_cons_zero, List.set_cons_succ, List.getElem_toArray, List.getElem_cons_zero, List.getElem_cons_succ]
          refine wpAnyH_done (by kernel_rfl) ?_ _
          clear hHeld
          go_wp2_with fail
          go_meet
          exact ⟨_, lb, sb, tb, nb, rfl, HBX.out.congr (fun j => by simp only [putO] <;> (repeat' split) <;> simp_all)⟩
        · go_simp
          have HB13 : Hid (MW w (v12.alloc (.cells (madeCells #[.int .i64 0] N) 3)) N len cap a (putO _ 3 v12.heap.size)) := Lib.hid (HB12.out.mk_ 3)
          refine hK.out _ _ ?_ (fun hHeld => ?_)
          · exact HB13.out.two
          clear hK K
          try simp only [Act.put, List.setIfInBounds_toArray, List.set_cons_zero, List.set_cons_succ, List.getElem_toArray, List.getElem_cons_zero, List.getElem_cons_succ]
          obtain ⟨nb, hnb⟩ : ∃ b, v12.heap.size = b := ⟨_, rfl⟩
          obtain ⟨v13, hv13⟩ : ∃ v, v12.alloc (.cells (madeCells #[.int .i64 0] N) 3) = v := ⟨_, rfl⟩
          rw [hnb, hv13] at HB13
          rw [hv13] at hHeld
          rw [hnb, hv13]
          clear hnb hv13
          refine wpAnyH_ready (rs := [6]) (by kernel_rfl) (by simp) ?_
          refine AllReadyH.cons rfl (fun K hK => ?_) AllReadyH.nil
          go_simp
          have HB14 : Hid (MW w (v13.alloc (.cells (madeCells #[.int .i64 0] N) 2)) N len cap a (putO _ 1 v13.heap.size)) := Lib.hid (HB13.out.mk_ 1)
          refine hK.out _ _ ?_ (fun hHeld => ?_)
          · exact HB14.out.two
          clear hK K
          try simp only [Act.put, List.setIfInBounds_toArray, List.set_cons_zero, List.set_cons_succ, List.getElem_toArray, List.getElem_cons_zero, List.getElem_cons_succ]
          obtain ⟨sb, hsb⟩ : ∃ b, v13.heap.size = b := ⟨_, rfl⟩
          obtain ⟨v14, hv14⟩ : ∃ v, v13.alloc (.cells (madeCells #[.int .i64 0] N) 2) = v := ⟨_, rfl⟩
          rw [hsb, hv14] at HB14
          rw [hv14] at hHeld
          rw [hsb, hv14]
          clear hsb hv14
          refine wpAnyH_take (i := 13) (v := ?_) rfl (by kernel_rfl) (by kernel_rfl) (by kernel_rfl) (fun _ _ _ h => h) (Or.inl ⟨by rfl, ?_⟩) hHeld ?_
          rotate_left
          · intro W0 hW; go_simp; (try with_reducible rfl)
          try simp only [Act.put, List.setIfInBounds_toArray, List.set_cons_zero, List.set_cons_succ, List.getElem_toArray, List.getElem_cons_zero, List.getElem_cons_succ]
          refine wpAnyH_ready (rs := [14]) (by kernel_rfl) (by simp) ?_
          refine AllReadyH.cons rfl (fun K hK => ?_) AllReadyH.nil
          go_simp
          have HBX : Hid (BL w (v14.alloc (.cells (wkC N len cap a lb sb tb nb (.slice none 0 0) (.slice none 0 0) 0) 70)) v14.heap.size N len cap a lb sb tb nb _ (.slice none 0 0) (.slice none 0 0)) := Lib.hid HB14.out.boxed
          refine hK.out _ _ ?_ (fun hHeld => ?_)
          · exact HBX.out.two
          clear hK K
          try simp only [Act.put, List.setIfInBounds_toArray, List.set_cons_zero, List.set_cons_succ, List.getElem_toArray, List.getElem_cons_zero, List.getElem_cons_succ]
          refine wpAnyH_take (i := 15) (v := ?_) rfl (by kernel_rfl) (by kernel_rfl) (by kernel_rfl) (fun _ _ _ h => h) (Or.inl ⟨by rfl, ?_⟩) hHeld ?_
          rotate_left
          · intro W0 hW; go_simp; (try with_reducible rfl)
          try simp only [Act.put, List.setIfInBounds_toArray, List.set_cons_zero, List.set_cons_succ, List.getElem_toArray, List.getElem_cons_zero, List.getElem_cons_succ]
          refine wpAnyH_done (by kernel_rfl) ?_ _
          clear hHeld
          go_wp2_with fail
          go_meet
          exact ⟨_, lb, sb, tb, nb, rfl, HBX.out.congr (fun j => by simp only [putO] <;> (repeat' split) <;> simp_all)⟩
      · go_simp
        have HB12 : Hid (MW w (v11.alloc (.cells (madeCells #[.int .i64 0] N) 3)) N len cap a (putO _ 3 v11.heap.size)) := Lib.hid (HB11.out.mk_ 3)
        refine hK.out _ _ ?_ (fun hHeld => ?_)
        · exact HB12.out.two
        clear hK K
        try simp only [Act.put, List.setIfInBounds_toArray, List.set_cons_zero, List.set_cons_succ, List.getElem_toArray, List.getElem_cons_zero, List.getElem_cons_succ]
        obtain ⟨nb, hnb⟩ : ∃ b, v11.heap.size = b := ⟨_, rfl⟩
        obtain ⟨v12, hv12⟩ : ∃ v, v11.alloc (.cells (madeCells #[.int .i64 0] N) 3) = v := ⟨_, rfl⟩
        rw [hnb, hv12] at HB12
        rw [hv12] at hHeld
        rw [hnb, hv12]
        clear hnb hv12
        refine wpAnyH_ready (rs := [6, 9]) (by kernel_rfl) (by simp) ?_
        refine AllReadyH.cons rfl (fun K hK => ?_) (AllReadyH.cons rfl (fun K hK => ?_) AllReadyH.nil)
        · go_simp
          have HB13 : Hid (MW w (v12.alloc (.cells (madeCells #[.int .i64 0] N) 2)) N len cap a (putO _ 1 v12.heap.size)) := Lib.hid (HB12.out.mk_ 1)
          refine hK.out _ _ ?_ (fun hHeld => ?_)
          · exact HB13.out.two
          clear hK K
          try simp only [Act.put, List.setIfInBounds_toArray, List.set_cons_zero, List.set_cons_succ, List.getElem_toArray, List.getElem_cons_zero, List.getElem_cons_succ]
          obtain ⟨sb, hsb⟩ : ∃ b, v12.heap.size = b := ⟨_, rfl⟩
          obtain ⟨v13, hv13⟩ : ∃ v, v12.alloc (.cells (madeCells #[.int .i64 0] N) 2) = v := ⟨_, rfl⟩
          rw [hsb, hv13] at HB13
          rw [hv13] at hHeld
          rw [hsb, hv13]
          clear hsb hv13
          refine wpAnyH_ready (rs := [9]) (by kernel_rfl) (by simp) ?_
          refine AllReadyH.cons rfl (fun K hK => ?_) AllReadyH.nil
          go_simp
          have HB14 : Hid (MW w (v13.alloc (.cells (madeCells #[.int .i64 0] N) 3)) N len cap a (putO _ 2 v13.heap.size)) := Lib.hid (HB13.out.mk_ 2)
          refine hK.out _ _ ?_ (fun hHeld => ?_)
          · exact HB14.out.two
          clear hK K
          try simp only [Act.put, List.setIfInBounds_toArray, List.set_cons_zero, List.set_cons_succ, List.getElem_toArray, List.getElem_cons_zero, List.getElem_cons_succ]
          obtain ⟨tb, htb⟩ : ∃ b, v13.heap.size = b := ⟨_, rfl⟩
          obtain ⟨v14, hv14⟩ : ∃ v, v13.alloc (.cells (madeCells #[.int .i64 0] N) 3) = v := ⟨_, rfl⟩
          rw [htb, hv14] at HB14
          rw [hv14] at hHeld
          rw [htb, hv14]
          clear htb hv14
          refine wpAnyH_take (i := 13) (v := ?_) rfl (by kernel_rfl) (by kernel_rfl) (by kernel_rfl) (fun _ _ _ h => h) (Or.inl ⟨by rfl, ?_⟩) hHeld ?_
          rotate_left
          · intro W0 hW; go_simp; (try with_reducible rfl)
          try simp only [Act.put, List.setIfInBounds_toArray, List.set_cons_zero, List.set_cons_succ, List.getElem_toArray, List.getElem_cons_zero, List.getElem_cons_succ]
          refine wpAnyH_ready (rs := [14]) (by kernel_rfl) (by simp) ?_
          refine AllReadyH.cons rfl (fun K hK => ?_) AllReadyH.nil
          go_simp
          have HBX : Hid (BL w (v14.alloc (.cells (wkC N len cap a lb sb tb nb (.slice none 0 0) (.slice none 0 0) 0) 70)) v14.heap.size N len cap a lb sb tb nb _ (.slice none 0 0) (.slice none 0 0)) := Lib.hid HB14.out.boxed
          refine hK.out _ _ ?_ (fun hHeld => ?_)
          · exact HBX.out.two
          clear hK K
          try simp only [Act.put, List.setIfInBounds_toArray, List.set_cons_zero, List.set_cons_succ, List.getElem_toArray, List.getElem_cons_zero, List.getElem_cons_succ]
          refine wpAnyH_take (i := 15) (v := ?_) rfl (by kernel_rfl) (by kernel_rfl) (by kernel_rfl) (fun _ _ _ h => h) (Or.inl ⟨by rfl, ?_⟩) hHeld ?_
          rotate_left
          · intro W0 hW; go_simp; (try with_reducible rfl)
          try simp only [Act.put, List.setIfInBounds_toArray, List.set_cons_zero, List.set_cons_succ, List.getElem_toArray, List.getElem_cons_zero, List.getElem_cons_succ]
          refine wpAnyH_done (by kernel_rfl) ?_ _
          clear hHeld
          go_wp2_with fail
          go_meet
          exact ⟨_, lb, sb, tb, nb, rfl, HBX.out.congr (fun j => by simp only [putO] <;> (repeat' split) <;> simp_all)⟩
        · go_simp
          have HB13 : Hid (MW w (v12.alloc (.cells (madeCells #[.int .i64 0] N) 3)) N len cap a (putO _ 2 v12.heap.size)) := Lib.hid (HB12.out.mk_ 2)
          refine hK.out _ _ ?_ (fun hHeld => ?_)
          · exact HB13.out.two
          clear hK K
          try simp only [Act.put, List.setIfInBounds_toArray, List.set_cons_zero, List.set_cons_succ, List.getElem_toArray, List.getElem_cons_zero, List.getElem_cons_succ]
          obtain ⟨tb, htb⟩ : ∃ b, v12.heap.size = b := ⟨_, rfl⟩
          obtain ⟨v13, hv13⟩ : ∃ v, v12.alloc (.cells (madeCells #[.int .i64 0] N) 3) = v := ⟨_, rfl⟩
          rw [htb, hv13] at HB13
          rw [hv13] at hHeld
          rw [htb, hv13]
          clear htb hv13
          refine wpAnyH_ready (rs := [6]) (by kernel_rfl) (by simp) ?_
          refine AllReadyH.cons rfl (fun K hK => ?_) AllReadyH.nil
          go_simp
          have HB14 : Hid (MW w (v13.alloc (.cells (madeCells #[.int .i64 0] N) 2)) N len cap a (putO _ 1 v13.heap.size)) := Lib.hid (HB13.out.mk_ 1)
          refine hK.out _ _ ?_ (fun hHeld => ?_)
          · exact HB14.out.two
          clear hK K
          try simp only [Act.put, List.setIfInBounds_toArray, List.set_cons_zero, List.set_cons_succ, List.getElem_toArray, List.getElem_cons_zero, List.getElem_cons_succ]
          obtain ⟨sb, hsb⟩ : ∃ b, v13.heap.size = b := ⟨_, rfl⟩
          obtain ⟨v14, hv14⟩ : ∃ v, v13.alloc (.cells (madeCells #[.int .i64 0] N) 2) = v := ⟨_, rfl⟩
          rw [hsb, hv14] at HB14
          rw [hv14] at hHeld
          rw [hsb, hv14]
          clear hsb hv14
          refine wpAnyH_take (i := 13) (v := ?_) rfl (by kernel_rfl) (by kernel_rfl) (by kernel_rfl) (fun _ _ _ h => h) (Or.inl ⟨by rfl, ?_⟩) hHeld ?_
          rotate_left
          · intro W0 hW; go_simp; (try with_reducible rfl)
          try simp only [Act.put, List.setIfInBounds_toArray, List.set_cons_zero, List.set_cons_succ, List.getElem_toArray, List.getElem_cons_zero, List.getElem_cons_succ]
          refine wpAnyH_ready (rs := [14]) (by kernel_rfl) (by simp) ?_
          refine AllReadyH.cons rfl (fun K hK => ?_) AllReadyH.nil
          go_simp
          have HBX : Hid (BL w (v14.alloc (.cells (wkC N len cap a lb sb tb nb (.slice none 0 0) (.slice none 0 0) 0) 70)) v14.heap.size N len cap a lb sb tb nb _ (.slice none 0 0) (.slice none 0 0)) := Lib.hid HB14.out.boxed
          refine hK.out _ _ ?_ (fun hHeld => ?_)
          · exact HBX.out.two
          clear hK K
          try simp only [Act.put, List.setIfInBounds_toArray, List.set_cons_zero, List.set_cons_succ, List.getElem_toArray, List.getElem_cons_zero, List.getElem_cons_succ]
          refine wpAnyH_take (i := 15) (v := ?_) rfl (by kernel_rfl) (by kernel_rfl) (by kernel_rfl) (fun _ _ _ h => h) (Or.inl ⟨by rfl, ?_⟩) hHeld ?_
          rotate_left
          · intro W0 hW; go_simp; (try with_reducible rfl)
          try simp only [Act.put, List.setIfInBounds_toArray, List.set_cons_zero, List.set_cons_succ, List.getElem_toArray, List.getElem_cons_zero, List.getElem_cons_succ]
          refine wpAnyH_done (by kernel_rfl) ?_ _
          clear hHeld
          go_wp2_with fail
          go_meet
          exact ⟨_, lb, sb, tb, nb, rfl, HBX.out.congr (fun j => by simp only [putO] <;> (repeat' split) <;> simp_all)⟩
    · go_simp
      have HB11 : Hid (MW w (wz.alloc (.cells (madeCells #[.int .i64 0] N) 2)) N len cap a (putO _ 1 wz.heap.size)) := Lib.hid (HBd.out.mk_ 1)
      refine hK.out _ _ ?_ (fun hHeld => ?_)
      · exact HB11.out.two
      clear hK K
      try simp only [Act.put, List.setIfInBounds_toArray, List.set_cons_zero, List.set_cons_succ, List.getElem_toArray, List.getElem_cons_zero, List.getElem_cons_succ]
      obtain ⟨sb, hsb⟩ : ∃ b, wz.heap.size = b := ⟨_, rfl⟩
      obtain ⟨v11, hv11⟩ : ∃ v, wz.alloc (.cells (madeCells #[.int .i64 0] N) 2) = v := ⟨_, rfl⟩
      rw [hsb, hv11] at HB11
      rw [hv11] at hHeld
      rw [hsb, hv11]
      clear hsb hv11
      refine wpAnyH_ready (rs := [3, 9, 12]) (by kernel_rfl) (by simp) ?_
      refine AllReadyH.cons rfl (fun K hK => ?_) (AllReadyH.cons rfl (fun K hK => ?_) (AllReadyH.cons rfl (fun K hK => ?_) AllReadyH.nil))
      · go_simp
        have HB12 : Hid (MW w (v11.alloc (.cells (madeCells #[.slice none 0 0] N) 88)) N len cap a (putO _ 0 v11.heap.size)) := Lib.hid (HB11.out.mk_ 0)
        refine hK.out _ _ ?_ (fun hHeld => ?_)
        · exact HB12.out.two
        clear hK K
        try simp only [Act.put, List.setIfInBounds_toArray, List.set_cons_zero, List.set_cons_succ, List.getElem_toArray, List.getElem_cons_zero, List.getElem_cons_succ]
        obtain ⟨lb, hlb⟩ : ∃ b, v11.heap.size = b := ⟨_, rfl⟩
        obtain ⟨v12, hv12⟩ : ∃ v, v11.alloc (.cells (madeCells #[.slice none 0 0] N) 88) = v := ⟨_, rfl⟩
        rw [hlb, hv12] at HB12
        rw [hv12] at hHeld
        rw [hlb, hv12]
        clear hlb hv12
        refine wpAnyH_ready (rs := [9, 12]) (by kernel_rfl) (by simp) ?_
        refine AllReadyH.cons rfl (fun K hK => ?_) (AllReadyH.cons rfl (fun K hK => ?_) AllReadyH.nil)
        · go_simp
          have HB13 : Hid (MW w (v12.alloc (.cells (madeCells #[.int .i64 0] N) 3)) N len cap a (putO _ 2 v12.heap.size)) := Lib.hid (HB12.out.mk_ 2)
          refine hK.out _ _ ?_ (fun hHeld => ?_)
          · exact HB13.out.two
          clear hK K
          try simp only [Act.put, List.setIfInBounds_toArray, List.set_cons_zero, List.set_cons_succ, List.getElem_toArray, List.getElem_cons_zero, List.getElem_cons_succ]
          obtain ⟨tb, htb⟩ : ∃ b, v12.heap.size = b := ⟨_, rfl⟩
          obtain ⟨v13, hv13⟩ : ∃ v, v12.alloc (.cells (madeCells #[.int .i64 0] N) 3) = v := ⟨_, rfl⟩
          rw [htb, hv13] at HB13
          rw [hv13] at hHeld
          rw [htb, hv13]
          clear htb hv13
          refine wpAnyH_ready (rs := [12]) (by kernel_rfl) (by simp) ?_
          refine AllReadyH.cons rfl (fun K hK => ?_) AllReadyH.nil
          go_simp
          have HB14 : Hid (MW w (v13.alloc (.cells (madeCells #[.int .i64 0] N) 3)) N len cap a (putO _ 3 v13.heap.size)) := Lib.hid (HB13.out.mk_ 3)
          refine hK.out _ _ ?_ (fun hHeld => ?_)
          · exact HB14.out.two
          clear hK K
          try simp only [Act.put, List.setIfInBounds_toArray, List.set_cons_zero, List.set_cons_succ, List.getElem_toArray, List.getElem_cons_zero, List.getElem_cons_succ]
          obtain ⟨nb, hnb⟩ : ∃ b, v13.heap.size = b := ⟨_, rfl⟩
          obtain ⟨v14, hv14⟩ : ∃ v, v13.alloc (.cells (madeCells #[.int .i64 0] N) 3) = v := ⟨_, rfl⟩
          rw [hnb, hv14] at HB14
          rw [hv14] at hHeld
          rw [hnb, hv14]
          clear hnb hv14
          refine wpAnyH_take (i := 13) (v := ?_) rfl (by kernel_rfl) (by kernel_rfl) (by kernel_rfl) (fun _ _ _ h => h) (Or.inl ⟨by rfl, ?_⟩) hHeld ?_
          rotate_left
          · intro W0 hW; go_simp; (try with_reducible rfl)
          try simp only [Act.put, List.setIfInBounds_toArray, List.set_cons_zero, List.set_cons_succ, List.getElem_toArray, List.getElem_cons_zero, List.getElem_cons_succ]
          refine wpAnyH_ready (rs := [14]) (by kernel_rfl) (by simp) ?_
          refine AllReadyH.cons rfl (fun K hK => ?_) AllReadyH.nil
          go_simp
          have HBX : Hid (BL w (v14.alloc (.cells (wkC N len cap a lb sb tb nb (.slice none 0 0) (.slice none 0 0) 0) 70)) v14.heap.size N len cap a lb sb tb nb _ (.slice none 0 0) (.slice none 0 0)) := Lib.hid HB14.out.boxed
          refine hK.out _ _ ?_ (fun hHeld => ?_)
          · exact HBX.out.two
          clear hK K
          try simp only [Act.put, List.setIfInBounds_toArray, List.set_cons_zero, List.set_cons_succ, List.getElem_toArray, List.getElem_cons_zero, List.getElem_cons_succ]
          refine wpAnyH_take (i := 15) (v := ?_) rfl (by kernel_rfl) (by kernel_rfl) (by kernel_rfl) (fun _ _ _ h => h) (Or.inl ⟨by rfl, ?_⟩) hHeld ?_
          rotate_left
          · intro W0 hW; go_simp; (try with_reducible rfl)
          try simp only [Act.put, List.setIfInBounds_toArray, List.set_cons_zero, List.set_cons_succ, List.getElem_toArray, List.getElem_cons_zero, List.getElem_cons_succ]
          refine wpAnyH_done (by kernel_rfl) ?_ _
          clear hHeld
          go_wp2_with fail
          go_meet
          exact ⟨_, lb, sb, tb, nb, rfl, HBX.out.congr (fun j => by simp only [putO] <;> (repeat' split) <;> simp_all)⟩
        · go_simp
          have HB13 : Hid (MW w (v12.alloc (.cells (madeCells #[.int .i64 0] N) 3)) N len cap a (putO _ 3 v12.heap.size)) := Lib.hid (HB12.out.mk_ 3)
          refine hK.out _ _ ?_ (fun hHeld => ?_)
          · exact HB13.out.two
          clear hK K
          try simp only [Act.put, List.setIfInBounds_toArray, List.set_cons_zero, List.set_cons_succ, List.getElem_toArray, List.getElem_cons_zero, List.getElem_cons_succ]
          obtain ⟨nb, hnb⟩ : ∃ b, v12.heap.size = b := ⟨_, rfl⟩
          obtain ⟨v13, hv13⟩ : ∃ v, v12.alloc (.cells (madeCells #[.int .i64 0] N) 3) = v := ⟨_, rfl⟩
          rw [hnb, hv13] at HB13
          rw [hv13] at hHeld
          rw [hnb, hv13]
          clear hnb hv13
          refine wpAnyH_ready (rs := [9]) (by kernel_rfl) (by simp) ?_
          refine AllReadyH.cons rfl (fun K hK => ?_) AllReadyH.nil
          go_simp
          have HB14 : Hid (MW w (v13.alloc (.cells (madeCells #[.int .i64 0] N) 3)) N len cap a (putO _ 2 v13.heap.size)) := Lib.hid (HB13.out.mk_ 2)
          refine hK.out _ _ ?_ (fun hHeld => ?_)
          · exact HB14.out.two
          clear hK K
          try simp only [Act.put, List.setIfInBounds_toArray, List.set_cons_zero, List.set_cons_succ, List.getElem_toArray, List.getElem_cons_zero, List.getElem_cons_succ]
          obtain ⟨tb, htb⟩ : ∃ b, v13.heap.size = b := ⟨_, rfl⟩
          obtain ⟨v14, hv14⟩ : ∃ v, v13.alloc (.cells (madeCells #[.int .i64 0] N) 3) = v := ⟨_, rfl⟩
          rw [htb, hv14] at HB14
          rw [hv14] at hHeld
          rw [htb, hv14]
          clear htb hv14
          refine wpAnyH_take (i := 13) (v := ?_) rfl (by kernel_rfl) (by kernel_rfl) (by kernel_rfl) (fun _ _ _ h => h) (Or.inl ⟨by rfl, ?_⟩) hHeld ?_
          rotate_left
          · intro W0 hW; go_simp; (try with_reducible rfl)
          try simp only [Act.put, List.setIfInBounds_toArray, List.set_cons_zero, List.set_cons_succ, List.getElem_toArray, List.getElem_cons_zero, List.getElem_cons_succ]
          refine wpAnyH_ready (rs := [14]) (by kernel_rfl) (by simp) ?_
          refine AllReadyH.cons rfl (fun K hK => ?_) AllReadyH.nil
          go_simp
          have HBX : Hid (BL w (v14.alloc (.cells (wkC N len cap a lb sb tb nb (.slice none 0 0) (.slice none 0 0) 0) 70)) v14.heap.size N len cap a lb sb tb nb _ (.slice none 0 0) (.slice none 0 0)) := Lib.hid HB14.out.boxed
          refine hK.out _ _ ?_ (fun hHeld => ?_)
          · exact HBX.out.two
          clear hK K
          try simp only [Act.put, List.setIfInBounds_toArray, List.set_cons_zero, List.set_cons_succ, List.getElem_toArray, List.getElem_cons_zero, List.getElem_cons_succ]
          refine wpAnyH_take (i := 15) (v := ?_) rfl (by kernel_rfl) (by kernel_rfl) (by kernel_rfl) (fun _ _ _ h => h) (Or.inl ⟨by rfl, ?_⟩) hHeld ?_
          rotate_left
          · intro W0 hW; go_simp; (try with_reducible rfl)
          try simp only [Act.put, List.setIfInBounds_toArray, List.set_cons_zero, List.set_cons_succ, List.getElem_toArray, List.getElem_cons_zero, List.getElem_cons_succ]
          refine wpAnyH_done (by kernel_rfl) ?_ _
          clear hHeld
          go_wp2_with fail
          go_meet
          exact ⟨_, lb, sb, tb, nb, rfl, HBX.out.congr (fun j => by simp only [putO] <;> (repeat' split) <;> simp_all)⟩
      · go_simp
        have HB12 : Hid (MW w (v11.alloc (.cells (madeCells #[.int .i64 0] N) 3)) N len cap a (putO _ 2 v11.heap.size)) := Lib.hid (HB11.out.mk_ 2)
        refine hK.out _ _ ?_ (fun hHeld => ?_)
        · exact HB12.out.two
        clear hK K
        try simp only [Act.put, List.setIfInBounds_toArray, List.set_cons_zero, List.set_cons_succ, List.getElem_toArray, List.getElem_cons_zero, List.getElem_cons_succ]
        obtain ⟨tb, htb⟩ : ∃ b, v11.heap.size = b := ⟨_, rfl⟩
        obtain ⟨v12, hv12⟩ : ∃ v, v11.alloc (.cells (madeCells #[.int .i64 0] N) 3) = v := ⟨_, rfl⟩
        rw [htb, hv12] at HB12
        rw [hv12] at hHeld
        rw [htb, hv12]
        clear htb hv12
        refine wpAnyH_ready (rs := [3, 12]) (by kernel_rfl) (by simp) ?_
        refine AllReadyH.cons rfl (fun K hK => ?_) (AllReadyH.cons rfl (fun K hK => ?_) AllReadyH.nil)
        · go_simp
          have HB13 : Hid (MW w (v12.alloc (.cells (madeCells #[.slice none 0 0] N) 88)) N len cap a (putO _ 0 v12.heap.size)) := Lib.hid (HB12.out.mk_ 0)
          refine hK.out _ _ ?_ (fun hHeld => ?_)
          · exact HB13.out.two
          clear hK K
          try simp only [Act.put, List.setIfInBounds_toArray, List.set_cons_zero, List.set_cons_succ, List.getElem_toArray, List.getElem_cons_zero, List.getElem_cons_succ]
          obtain ⟨lb, hlb⟩ : ∃ b, v12.heap.size = b := ⟨_, rfl⟩
          obtain ⟨v13, hv13⟩ : ∃ v, v12.alloc (.cells (madeCells #[.slice none 0 0] N) 88) = v := ⟨_, rfl⟩
          rw [hlb, hv13] at HB13
          rw [hv13] at hHeld
          rw [hlb, hv13]
          clear hlb hv13
          refine wpAnyH_ready (rs := [12]) (by kernel_rfl) (by simp) ?_
          refine AllReadyH.cons rfl (fun K hK => ?_) AllReadyH.nil
          go_simp
          have HB14 : Hid (MW w (v13.alloc (.cells (madeCells #[.int .i64 0] N) 3)) N len cap a (putO _ 3 v13.heap.size)) := Lib.hid (HB13.out.mk_ 3)
          refine hK.out _ _ ?_ (fun hHeld => ?_)
          · exact HB14.out.two
          clear hK K
          try simp only [Act.put, List.setIfInBounds_toArray, List.set_cons_zero, List.set_cons_succ, List.getElem_toArray, List.getElem_cons_zero, List.getElem_cons_succ]
          obtain ⟨nb, hnb⟩ : ∃ b, v13.heap.size = b := ⟨_, rfl⟩
          obtain ⟨v14, hv14⟩ : ∃ v, v13.alloc (.cells (madeCells #[.int .i64 0] N) 3) = v := ⟨_, rfl⟩
          rw [hnb, hv14] at HB14
          rw [hv14] at hHeld
          rw [hnb, hv14]
          clear hnb hv14
          refine wpAnyH_take (i := 13) (v := ?_) rfl (by kernel_rfl) (by kernel_rfl) (by kernel_rfl) (fun _ _ _ h => h) (Or.inl ⟨by rfl, ?_⟩) hHeld ?_
          rotate_left
          · intro W0 hW; go_simp; (try with_reducible rfl)
          try simp only [Act.put, List.setIfInBounds_toArray, List.set_cons_zero, List.set_cons_succ, List.getElem_toArray, List.getElem_cons_zero, List.getElem_cons_succ]
          refine wpAnyH_ready (rs := [14]) (by kernel_rfl) (by simp) ?_
          refine AllReadyH.cons rfl (fun K hK => ?_) AllReadyH.nil
          go_simp
          have HBX : Hid (BL w (v14.alloc (.cells (wkC N len cap a lb sb tb nb (.slice none 0 0) (.slice none 0 0) 0) 70)) v14.heap.size N len cap a lb sb tb nb _ (.slice none 0 0) (.slice none 0 0)) := Lib.hid HB14.out.boxed
          refine hK.out _ _ ?_ (fun hHeld => ?_)
          · exact HBX.out.two
          clear hK K
          try simp only [Act.put, List.setIfInBounds_toArray, List.set_cons_zero, List.set_cons_succ, List.getElem_toArray, List.getElem_cons_zero, List.getElem_cons_succ]
          refine wpAnyH_take (i := 15) (v := ?_) rfl (by kernel_rfl) (by kernel_rfl) (by kernel_rfl) (fun _ _ _ h => h) (Or.inl ⟨by rfl, ?_⟩) hHeld ?_
          rotate_left
          · intro W0 hW; go_simp; (try with_reducible rfl)
          try simp only [Act.put, List.setIfInBounds_toArray, List.set_cons_zero, List.set_cons_succ, List.getElem_toArray, List.getElem_cons_zero, List.getElem_cons_succ]
          refine wpAnyH_done (by kernel_rfl) ?_ _
          clear hHeld
          go_wp2_with fail
          go_meet
          exact ⟨_, lb, sb, tb, nb, rfl, HBX.out.congr (fun j => by simp only [putO] <;> (repeat' split) <;> simp_all)⟩
        · go_simp
          have HB13 : Hid (MW w (v12.alloc (.cells (madeCells #[.int .i64 0] N) 3)) N len cap a (putO _ 3 v12.heap.size)) := Lib.hid (HB12.out.mk_ 3)
          refine hK.out _ _ ?_ (fun hHeld => ?_)
          · exact HB13.out.two
          clear hK K
          try simp only [Act.put, List.setIfInBounds_toArray, List.set_cons_zero, List.set_cons_succ, List.getElem_toArray, List.getElem_cons_zero, List.getElem_cons_succ]
          obtain ⟨nb, hnb⟩ : ∃ b, v12.heap.size = b := ⟨_, rfl⟩
          obtain ⟨v13, hv13⟩ : ∃ v, v12.alloc (.cells (madeCells #[.int .i64 0] N) 3) = v := ⟨_, rfl⟩
          rw [hnb, hv13] at HB13
          rw [hv13] at hHeld
          rw [hnb, hv13]
          clear hnb hv13
          refine wpAnyH_ready (rs := [3]) (by kernel_rfl) (by simp) ?_
          refine AllReadyH.cons rfl (fun K hK => ?_) AllReadyH.nil
          go_simp
          have HB14 : Hid (MW w (v13.alloc (.cells (madeCells #[.slice none 0 0] N) 88)) N len cap a (putO _ 0 v13.heap.size)) := Lib.hid (HB13.out.mk_ 0)
          refine hK.out _ _ ?_ (fun hHeld => ?_)
          · exact HB14.out.two
          clear hK K
          try simp only [Act.put, List.setIfInBounds_toArray, List.set_cons_zero, List.set_cons_succ, List.getElem_toArray, List.getElem_cons_zero, List.getElem_cons_succ]
          obtain ⟨lb, hlb⟩ : ∃ b, v13.heap.size = b := ⟨_, rfl⟩
          obtain ⟨v14, hv14⟩ : ∃ v, v13.alloc (.cells (madeCells #[.slice none 0 0] N) 88) = v := ⟨_, rfl⟩
          rw [hlb, hv14] at HB14
          rw [hv14] at hHeld
          rw [hlb, hv14]
          clear hlb hv14
          refine wpAnyH_take (i := 13) (v := ?_) rfl (by kernel_rfl) (by kernel_rfl) (by kernel_rfl) (fun _ _ _ h => h) (Or.inl ⟨by rfl, ?_⟩) hHeld ?_
          rotate_left
          · intro W0 hW; go_simp; (try with_reducible rfl)
          try simp only [Act.put, List.setIfInBounds_toArray, List.set_cons_zero, List.set_cons_succ, List.getElem_toArray, List.getElem_cons_zero, List.getElem_cons_succ]
          refine wpAnyH_ready (rs := [14]) (by kernel_rfl) (by simp) ?_
          refine AllReadyH.cons rfl (fun K hK => ?_) AllReadyH.nil
          go_simp
          have HBX : Hid (BL w (v14.alloc (.cells (wkC N len cap a lb sb tb nb (.slice none 0 0) (.slice none 0 0) 0) 70)) v14.heap.size N len cap a lb sb tb nb _ (.slice none 0 0) (.slice none 0 0)) := Lib.hid HB14.out.boxed
          refine hK.out _ _ ?_ (fun hHeld => ?_)
          · exact HBX.out.two
          clear hK K
          try simp only [Act.put, List.setIfInBounds_toArray, List.set_cons_zero, List.set_cons_succ, List.getElem_toArray, List.getElem_cons_zero, List.getElem_cons_succ]
          refine wpAnyH_take (i := 15) (v := ?_) rfl (by kernel_rfl) (by kernel_rfl) (by kernel_rfl) (fun _ _ _ h => h) (Or.inl ⟨by rfl, ?_⟩) hHeld ?_
          rotate_left
          · intro W0 hW; go_simp; (try with_reducible rfl)
          try simp only [Act.put, List.setIfInBounds_toArray, List.set_cons_zero, List.set_cons_succ, List.getElem_toArray, List.getElem_cons_zero, List.getElem_cons_succ]
          refine wpAnyH_done (by kernel_rfl) ?_ _
          clear hHeld
          go_wp2_with fail
          go_meet
          exact ⟨_, lb, sb, tb, nb, rfl, HBX.out.congr (fun j => by simp only [putO] <;> (repeat' split) <;> simp_all)⟩
      · go_simp
        have HB12 : Hid (MW w (v11.alloc (.cells (madeCells #[.int .i64 0] N) 3)) N len cap a (putO _ 3 v11.heap.size)) := Lib.hid (HB11.out.mk_ 3)
        refine hK.out _ _ ?_ (fun hHeld => ?_)
        · exact HB12.out.two
        clear hK K
        try simp only [Act.put, List.setIfInBounds_toArray, List.set_cons_zero, List.set_cons_succ, List.getElem_toArray, List.getElem_cons_zero, List.getElem_cons_succ]
        obtain ⟨nb, hnb⟩ : ∃ b, v11.heap.size = b := ⟨_, rfl⟩
        obtain ⟨v12, hv12⟩ : ∃ v, v11.alloc (.cells (madeCells #[.int .i64 0] N) 3) = v := ⟨_, rfl⟩
        rw [hnb, hv12] at HB12
        rw [hv12] at hHeld
        rw [hnb, hv12]
        clear hnb hv12
        refine wpAnyH_ready (rs := [3, 9]) (by kernel_rfl) (by simp) ?_
        refine AllReadyH.cons rfl (fun K hK => ?_) (AllReadyH.cons rfl (fun K hK => ?_) AllReadyH.nil)
        · go_simp
          have HB13 : Hid (MW w (v12.alloc (.cells (madeCells #[.slice none 0 0] N) 88)) N len cap a (putO _ 0 v12.heap.size)) := Lib.hid (HB12.out.mk_ 0)
          refine hK.out _ _ ?_ (fun hHeld => ?_)
          · exact HB13.out.two
          clear hK K
          try simp only [Act.put, List.setIfInBounds_toArray, List.set_cons_zero, List.set_cons_succ, List.getElem_toArray, List.getElem_cons_zero, List.getElem_cons_succ]
          obtain ⟨lb, hlb⟩ : ∃ b, v12.heap.size = b := ⟨_, rfl⟩
          obtain ⟨v13, hv13⟩ : ∃ v, v12.alloc (.cells (madeCells #[.slice none 0 0] N) 88) = v := ⟨_, rfl⟩
          rw [hlb, hv13] at HB13
          rw [hv13] at hHeld
          rw [hlb, hv13]
          clear hlb hv13
          refine wpAnyH_ready (rs := [9]) (by kernel_rfl) (by simp) ?_
          refine AllReadyH.cons rfl (fun K hK => ?_) AllReadyH.nil
          go_simp
          have HB14 : Hid (MW w (v13.alloc (.cells (madeCells #[.int .i64 0] N) 3)) N len cap a (putO _ 2 v13.heap.size)) := Lib.hid (HB13.out.mk_ 2)
          refine hK.out _ _ ?_ (fun hHeld => ?_)
          · exact HB14.out.two
          clear hK K
          try simp only [Act.put, List.setIfInBounds_toArray, List.set_cons_zero, List.set_cons_succ, List.getElem_toArray, List.getElem_cons_zero, List.getElem_cons_succ]
          obtain ⟨tb, htb⟩ : ∃ b, v13.heap.size = b := ⟨_, rfl⟩
          obtain ⟨v14, hv14⟩ : ∃ v, v13.alloc (.cells (madeCells #[.int .i64 0] N) 3) = v := ⟨_, rfl⟩
          rw [htb, hv14] at HB14
          rw [hv14] at hHeld
          rw [htb, hv14]
          clear htb hv14
          refine wpAnyH_take (i := 13) (v := ?_) rfl (by kernel_rfl) (by kernel_rfl) (by kernel_rfl) (fun _ _ _ h => h) (Or.inl ⟨by rfl, ?_⟩) hHeld ?_
          rotate_left
          · intro W0 hW; go_simp; (try with_reducible rfl)
          try simp only [Act.put, List.setIfInBounds_toArray, List.set_cons_zero, List.set_cons_succ, List.getElem_toArray, List.getElem_cons_zero, List.getElem_cons_succ]
          refine wpAnyH_ready (rs := [14]) (by kernel_rfl) (by simp) ?_
          refine AllReadyH.cons rfl (fun K hK => ?_) AllReadyH.nil
          go_simp
          have HBX : Hid (BL w (v14.alloc (.cells (wkC N len cap a lb sb tb nb (.slice none 0 0) (.slice none 0 0) 0) 70)) v14.heap.size N len cap a lb sb tb nb _ (.slice none 0 0) (.slice none 0 0)) := Lib.hid HB14.out.boxed
          refine hK.out _ _ ?_ (fun hHeld => ?_)
          · exact HBX.out.two
          clear hK K
          try simp only [Act.put, List.setIfInBounds_toArray, List.set_cons_zero, List.set_cons_succ, List.getElem_toArray, List.getElem_cons_zero, List.getElem_cons_succ]
          refine wpAnyH_take (i := 15) (v := ?_) rfl (by kernel_rfl) (by kernel_rfl) (by kernel_rfl) (fun _ _ _ h => h) (Or.inl ⟨by rfl, ?_⟩) hHeld ?_
          rotate_left
          · intro W0 hW; go_simp; (try with_reducible rfl)
          try simp only [Act.put, List.setIfInBounds_toArray, List.set_cons_zero, List.set_cons_succ, List.getElem_toArray, List.getElem_cons_zero, List.getElem_cons_succ]
          refine wpAnyH_done (by kernel_rfl) ?_ _
          clear hHeld
          go_wp2_with fail
          go_meet
          exact ⟨_, lb, sb, tb, nb, rfl, HBX.out.congr (fun j => by simp only [putO] <;> (repeat' split) <;> simp_all)⟩
        · go_simp
          have HB13 : Hid (MW w (v12.alloc (.cells (madeCells #[.int .i64 0] N) 3)) N len cap a (putO _ 2 v12.heap.size)) := Lib.hid (HB12.out.mk_ 2)
          refine hK.out _ _ ?_ (fun hHeld => ?_)
          · exact HB13.out.two
          clear hK K
          try simp only [Act.put, List.setIfInBounds_toArray, List.set_cons_zero, List.set_cons_succ, List.getElem_toArray, List.getElem_cons_zero, List.getElem_cons_succ]
          obtain ⟨tb, htb⟩ : ∃ b, v12.heap.size = b := ⟨_, rfl⟩
          obtain ⟨v13, hv13⟩ : ∃ v, v12.alloc (.cells (madeCells #[.int .i64 0] N) 3) = v := ⟨_, rfl⟩
          rw [htb, hv13] at HB13
          rw [hv13] at hHeld
          rw [htb, hv13]
          clear htb hv13
          refine wpAnyH_ready (rs := [3]) (by kernel_rfl) (by simp) ?_
          refine AllReadyH.cons rfl (fun K hK => ?_) AllReadyH.nil
          go_simp
          have HB14 : Hid (MW w (v13.alloc (.cells (madeCells #[.slice none 0 0] N) 88)) N len cap a (putO _ 0 v13.heap.size)) := Lib.hid (HB13.out.mk_ 0)
          refine hK.out _ _ ?_ (fun hHeld => ?_)
          · exact HB14.out.two
          clear hK K
          try simp only [Act.put, List.setIfInBounds_toArray, List.set_cons_zero, List.set_cons_succ, List.getElem_toArray, List.getElem_cons_zero, List.getElem_cons_succ]
          obtain ⟨lb, hlb⟩ : ∃ b, v13.heap.size = b := ⟨_, rfl⟩
          obtain ⟨v14, hv14⟩ : ∃ v, v13.alloc (.cells (madeCells #[.slice none 0 0] N) 88) = v := ⟨_, rfl⟩
          rw [hlb, hv14] at HB14
          rw [hv14] at hHeld
          rw [hlb, hv14]
          clear hlb hv14
          refine wpAnyH_take (i := 13) (v := ?_) rfl (by kernel_rfl) (by kernel_rfl) (by kernel_rfl) (fun _ _ _ h => h) (Or.inl ⟨by rfl, ?_⟩) hHeld ?_
          rotate_left
          · intro W0 hW; go_simp; (try with_reducible rfl)
          try simp only [Act.put, List.setIfInBounds_toArray, List.set_cons_zero, List.set_cons_succ, List.getElem_toArray, List.getElem_cons_zero, List.getElem_cons_succ]
          refine wpAnyH_ready (rs := [14]) (by kernel_rfl) (by simp) ?_
          refine AllReadyH.cons rfl (fun K hK => ?_) AllReadyH.nil
          go_simp
          have HBX : Hid (BL w (v14.alloc (.cells (wkC N len cap a lb sb tb nb (.slice none 0 0) (.slice none 0 0) 0) 70)) v14.heap.size N len cap a lb sb tb nb _ (.slice none 0 0) (.slice none 0 0)) := Lib.hid HB14.out.boxed
          refine hK.out _ _ ?_ (fun hHeld => ?_)
          · exact HBX.out.two
          clear hK K
          try simp only [Act.put, List.setIfInBounds_toArray, List.set_cons_zero, List.set_cons_succ, List.getElem_toArray, List.getElem_cons_zero, List.getElem_cons_succ]
          refine wpAnyH_take (i := 15) (v := ?_) rfl (by kernel_rfl) (by kernel_rfl) (by kernel_rfl) (fun _ _ _ h => h) (Or.inl ⟨by rfl, ?_⟩) hHeld ?_
          rotate_left
          · intro W0 hW; go_simp; (try with_reducible rfl)
          try simp only [Act.put, List.setIfInBounds_toArray, List.set_cons_zero, List.set_cons_succ, List.getElem_toArray, List.getElem_cons_zero, List.getElem_cons_succ]
          refine wpAnyH_done (by kernel_rfl) ?_ _
          clear hHeld
          go_wp2_with fail
          go_meet
          exact ⟨_, lb, sb, tb, nb, rfl, HBX.out.congr (fun j => by simp only [putO] <;> (repeat' split) <;> simp_all)⟩
    · go_simp
      have HB11 : Hid (MW w (wz.alloc (.cells (madeCells #[.int .i64 0] N) 3)) N len cap a (putO _ 2 wz.heap.size)) := Lib.hid (HBd.out.mk_ 2)
      refine hK.out _ _ ?_ (fun hHeld => ?_)
      · exact HB11.out.two
      clear hK K
      try simp only [Act.put, List.setIfInBounds_toArray, List.set_cons_zero, List.set_cons_succ, List.getElem_toArray, List.getElem_cons_zero, List.getElem_cons_succ]
      obtain ⟨tb, htb⟩ : ∃ b, wz.heap.size = b := ⟨_, rfl⟩
      obtain ⟨v11, hv11⟩ : ∃ v, wz.alloc (.cells (madeCells #[.int .i64 0] N) 3) = v := ⟨_, rfl⟩
      rw [htb, hv11] at HB11
      rw [hv11] at hHeld
      rw [htb, hv11]
      clear htb hv11
      refine wpAnyH_ready (rs := [3, 6, 12]) (by kernel_rfl) (by simp) ?_
      refine AllReadyH.cons rfl (fun K hK => ?_) (AllReadyH.cons rfl (fun K hK => ?_) (AllReadyH.cons rfl (fun K hK => ?_) AllReadyH.nil))
      · go_simp
        have HB12 : Hid (MW w (v11.alloc (.cells (madeCells #[.slice none 0 0] N) 88)) N len cap a (putO _ 0 v11.heap.size)) := Lib.hid (HB11.out.mk_ 0)
        refine hK.out _ _ ?_ (fun hHeld => ?_)
        · exact HB12.out.two
        clear hK K
        try simp only [Act.put, List.setIfInBounds_toArray, List.set_cons_zero, List.set_cons_succ, List.getElem_toArray, List.getElem_cons_zero, List.getElem_cons_succ]
        obtain ⟨lb, hlb⟩ : ∃ b, v11.heap.size = b := ⟨_, rfl⟩
        obtain ⟨v12, hv12⟩ : ∃ v, v11.alloc (.cells (madeCells #[.slice none 0 0] N) 88) = v := ⟨_, rfl⟩
        rw [hlb, hv12] at HB12
        rw [hv12] at hHeld
        rw [hlb, hv12]
        clear hlb hv12
        refine wpAnyH_ready (rs := [6, 12]) (by kernel_rfl) (by simp) ?_
        refine AllReadyH.cons rfl (fun K hK => ?_) (AllReadyH.cons rfl (fun K hK => ?_) AllReadyH.nil)
        · go_simp
          have HB13 : Hid (MW w (v12.alloc (.cells (madeCells #[.int .i64 0] N) 2)) N len cap a (putO _ 1 v12.heap.size)) := Lib.hid (HB12.out.mk_ 1)
          refine hK.out _ _ ?_ (fun hHeld => ?_)
          · exact HB13.out.two
          clear hK K
          try simp only [Act.put, List.setIfInBounds_toArray, List.set_cons_zero, List.set_cons_succ, List.getElem_toArray, List.getElem_cons_zero, List.getElem_cons_succ]
          obtain ⟨sb, hsb⟩ : ∃ b, v12.heap.size = b := ⟨_, rfl⟩
          obtain ⟨v13, hv13⟩ : ∃ v, v12.alloc (.cells (madeCells #[.int .i64 0] N) 2) = v := ⟨_, rfl⟩
          rw [hsb, hv13] at HB13
          rw [hv13] at hHeld
          rw [hsb, hv13]
          clear hsb hv13
          refine wpAnyH_ready (rs := [12]) (by kernel_rfl) (by simp) ?_
          refine AllReadyH.cons rfl (fun K hK => ?_) AllReadyH.nil
          go_simp
          have HB14 : Hid (MW w (v13.alloc (.cells (madeCells #[.int .i64 0] N) 3)) N len cap a (putO _ 3 v13.heap.size)) := Lib.hid (HB13.out.mk_ 3)
          refine hK.out _ _ ?_ (fun hHeld => ?_)
          · exact HB14.out.two
          clear hK K
          try simp only [Act.put, List.setIfInBounds_toArray, List.set_cons_zero, List.set_cons_succ, List.getElem_toArray, List.getElem_cons_zero, List.getElem_cons_succ]
          obtain ⟨nb, hnb⟩ : ∃ b, v13.heap.size = b := ⟨_, rfl⟩
          obtain ⟨v14, hv14⟩ : ∃ v, v13.alloc (.cells (madeCells #[.int .i64 0] N) 3) = v := ⟨_, rfl⟩
          rw [hnb, hv14] at HB14
          rw [hv14] at hHeld
          rw [hnb, hv14]
          clear hnb hv14
          refine wpAnyH_take (i := 13) (v := ?_) rfl (by kernel_rfl) (by kernel_rfl) (by kernel_rfl) (fun _ _ _ h => h) (Or.inl ⟨by rfl, ?_⟩) hHeld ?_
          rotate_left
          · intro W0 hW; go_simp; (try with_reducible rfl)
          try simp only [Act.put, List.setIfInBounds_toArray, List.set_cons_zero, List.set_cons_succ, List.getElem_toArray, List.getElem_cons_zero, List.getElem_cons_succ]
          refine wpAnyH_ready (rs := [14]) (by kernel_rfl) (by simp) ?_
          refine AllReadyH.cons rfl (fun K hK => ?_) AllReadyH.nil
          go_simp
          have HBX : Hid (BL w (v14.alloc (.cells (wkC N len cap a lb sb tb nb (.slice none 0 0) (.slice none 0 0) 0) 70)) v14.heap.size N len cap a lb sb tb nb _ (.slice none 0 0) (.slice none 0 0)) := Lib.hid HB14.out.boxed
          refine hK.out _ _ ?_ (fun hHeld => ?_)
          · exact HBX.out.two
          clear hK K
          try simp only [Act.put, List.setIfInBounds_toArray, List.set_cons_zero, List.set_cons_succ, List.getElem_toArray, List.getElem_cons_zero, List.getElem_cons_succ]
          refine wpAnyH_take (i := 15) (v := ?_) rfl (by kernel_rfl) (by kernel_rfl) (by kernel_rfl) (fun _ _ _ h => h) (Or.inl ⟨by rfl, ?_⟩) hHeld ?_
          rotate_left
          · intro W0 hW; go_simp; (try with_reducible rfl)
          try simp only [Act.put, List.setIfInBounds_toArray, List.set_cons_zero, List.set_cons_succ, List.getElem_toArray, List.getElem_cons_zero, List.getElem_cons_succ]
          refine wpAnyH_done (by kernel_rfl) ?_ _
          clear hHeld
          go_wp2_with fail
          go_meet
          exact ⟨_, lb, sb, tb, nb, rfl, HBX.out.congr (fun j => by simp only [putO] <;> (repeat' split) <;> simp_all)⟩
        · go_simp
          have HB13 : Hid (MW w (v12.alloc (.cells (madeCells #[.int .i64 0] N) 3)) N len cap a (putO _ 3 v12.heap.size)) := Lib.hid (HB12.out.mk_ 3)
          refine hK.out _ _ ?_ (fun hHeld => ?_)
          · exact HB13.out.two
          clear hK K
          try simp only [Act.put, List.setIfInBounds_toArray, List.set_cons_zero, List.set_cons_succ, List.getElem_toArray, List.getElem_cons_zero, List.getElem_cons_succ]
          obtain ⟨nb, hnb⟩ : ∃ b, v12.heap.size = b := ⟨_, rfl⟩
          obtain ⟨v13, hv13⟩ : ∃ v, v12.alloc (.cells (madeCells #[.int .i64 0] N) 3) = v := ⟨_, rfl⟩
          rw [hnb, hv13] at HB13
          rw [hv13] at hHeld
          rw [hnb, hv13]
          clear hnb hv13
          refine wpAnyH_ready (rs := [6]) (by kernel_rfl) (by simp) ?_
          refine AllReadyH.cons rfl (fun K hK => ?_) AllReadyH.nil
          go_simp
          have HB14 : Hid (MW w (v13.alloc (.cells (madeCells #[.int .i64 0] N) 2)) N len cap a (putO _ 1 v13.heap.size)) := Lib.hid (HB13.out.mk_ 1)
          refine hK.out _ _ ?_ (fun hHeld => ?_)
          · exact HB14.out.two
          clear hK K
          try simp only [Act.put, List.setIfInBounds_toArray, List.set_cons_zero, List.set_cons_succ, List.getElem_toArray, List.getElem_cons_zero, List.getElem_cons_succ]
          obtain ⟨sb, hsb⟩ : ∃ b, v13.heap.size = b := ⟨_, rfl⟩
          obtain ⟨v14, hv14⟩ : ∃ v, v13.alloc (.cells (madeCells #[.int .i64 0] N) 2) = v := ⟨_, rfl⟩
          rw [hsb, hv14] at HB14
          rw [hv14] at hHeld
          rw [hsb, hv14]
          clear hsb hv14
          refine wpAnyH_take (i := 13) (v := ?_) rfl (by kernel_rfl) (by kernel_rfl) (by kernel_rfl) (fun _ _ _ h => h) (Or.inl ⟨by rfl, ?_⟩) hHeld ?_
          rotate_left
          · intro W0 hW; go_simp; (try with_reducible rfl)
          try simp only [Act.put, List.setIfInBounds_toArray, List.set_cons_zero, List.set_cons_succ, List.getElem_toArray, List.getElem_cons_zero, List.getElem_cons_succ]
          refine wpAnyH_ready (rs := [14]) (by kernel_rfl) (by simp) ?_
          refine AllReadyH.cons rfl (fun K hK => ?_) AllReadyH.nil
          go_simp
          have HBX : Hid (BL w (v14.alloc (.cells (wkC N len cap a lb sb tb nb (.slice none 0 0) (.slice none 0 0) 0) 70)) v14.heap.size N len cap a lb sb tb nb _ (.slice none 0 0) (.slice none 0 0)) := Lib.hid HB14.out.boxed
          refine hK.out _ _ ?_ (fun hHeld => ?_)
          · exact HBX.out.two
          clear hK K
          try simp only [Act.put, List.setIfInBounds_toArray, List.set_cons_zero, List.set_cons_succ, List.getElem_toArray, List.getElem_cons_zero, List.getElem_cons_succ]
          refine wpAnyH_take (i := 15) (v := ?_) rfl (by kernel_rfl) (by kernel_rfl) (by kernel_rfl) (fun _ _ _ h => h) (Or.inl ⟨by rfl, ?_⟩) hHeld ?_
          rotate_left
          · intro W0 hW; go_simp; (try with_reducible rfl)
          try simp only [Act.put, List.setIfInBounds_toArray, List.set_cons_zero, List.set_cons_succ, List.getElem_toArray, List.getElem_cons_zero, List.getElem_cons_succ]
          refine wpAnyH_done (by kernel_rfl) ?_ _
          clear hHeld
          go_wp2_with fail
          go_meet
          exact ⟨_, lb, sb, tb, nb, rfl, HBX.out.congr (fun j => by simp only [putO] <;> (repeat' split) <;> simp_all)⟩
      · go_simp
        have HB12 : Hid (MW w (v11.alloc (.cells (madeCells #[.int .i64 0] N) 2)) N len cap a (putO _ 1 v11.heap.size)) := Lib.hid (HB11.out.mk_ 1)
        refine hK.out _ _ ?_ (fun hHeld => ?_)
        · exact HB12.out.two
        clear hK K
        try simp only [Act.put, List.setIfInBounds_toArray, List.set_cons_zero, List.set_cons_succ, List.getElem_toArray, List.getElem_cons_zero, List.getElem_cons_succ]
        obtain ⟨sb, hsb⟩ : ∃ b, v11.heap.size = b := ⟨_, rfl⟩
        obtain ⟨v12, hv12⟩ : ∃ v, v11.alloc (.cells (madeCells #[.int .i64 0] N) 2) = v := ⟨_, rfl⟩
        rw [hsb, hv12] at HB12
        rw [hv12] at hHeld
        rw [hsb, hv12]
        clear hsb hv12
        refine wpAnyH_ready (rs := [3, 12]) (by kernel_rfl) (by simp) ?_
        refine AllReadyH.cons rfl (fun K hK => ?_) (AllReadyH.cons rfl (fun K hK => ?_) AllReadyH.nil)
        · go_simp
          have HB13 : Hid (MW w (v12.alloc (.cells (madeCells #[.slice none 0 0] N) 88)) N len cap a (putO _ 0 v12.heap.size)) := Lib.hid (HB12.out.mk_ 0)
          refine hK.out _ _ ?_ (fun hHeld => ?_)
          · exact HB13.out.two
          clear hK K
          try simp only [Act.put, List.setIfInBounds_toArray, List.set_cons_zero, List.set_cons_succ, List.getElem_toArray, List.getElem_cons_zero, List.getElem_cons_succ]
          obtain ⟨lb, hlb⟩ : ∃ b, v12.heap.size = b := ⟨_, rfl⟩
          obtain ⟨v13, hv13⟩ : ∃ v, v12.alloc (.cells (madeCells #[.slice none 0 0] N) 88) = v := ⟨_, rfl⟩
          rw [hlb, hv13] at HB13
          rw [hv13] at hHeld
          rw [hlb, hv13]
          clear hlb hv13
          refine wpAnyH_ready (rs := [12]) (by kernel_rfl) (by simp) ?_
          refine AllReadyH.cons rfl (fun K hK => ?_) AllReadyH.nil
          go_simp
          have HB14 : Hid (MW w (v13.alloc (.cells (madeCells #[.int .i64 0] N) 3)) N len cap a (putO _ 3 v13.heap.size)) := Lib.hid (HB13.out.mk_ 3)
          refine hK.out _ _ ?_ (fun hHeld => ?_)
          · exact HB14.out.two
          clear hK K
          try simp only [Act.put, List.setIfInBounds_toArray, List.set_cons_zero, List.set_cons_succ, List.getElem_toArray, List.getElem_cons_zero, List.getElem_cons_succ]
          obtain ⟨nb, hnb⟩ : ∃ b, v13.heap.size = b := ⟨_, rfl⟩
          obtain ⟨v14, hv14⟩ : ∃ v, v13.alloc (.cells (madeCells #[.int .i64 0] N) 3) = v := ⟨_, rfl⟩
          rw [hnb, hv14] at HB14
          rw [hv14] at hHeld
          rw [hnb, hv14]
          clear hnb hv14
          refine wpAnyH_take (i := 13) (v := ?_) rfl (by kernel_rfl) (by kernel_rfl) (by kernel_rfl) (fun _ _ _ h => h) (Or.inl ⟨by rfl, ?_⟩) hHeld ?_
          rotate_left
          · intro W0 hW; go_simp; (try with_reducible rfl)
          try simp only [Act.put, List.setIfInBounds_toArray, List.set_cons_zero, List.set_cons_succ, List.getElem_toArray, List.getElem_cons_zero, List.getElem_cons_succ]
          refine wpAnyH_ready (rs := [14]) (by kernel_rfl) (by simp) ?_
          refine AllReadyH.cons rfl (fun K hK => ?_) AllReadyH.nil
          go_simp
          have HBX : Hid (BL w (v14.alloc (.cells (wkC N len cap a lb sb tb nb (.slice none 0 0) (.slice none 0 0) 0) 70)) v14.heap.size N len cap a lb sb tb nb _ (.slice none 0 0) (.slice none 0 0)) := Lib.hid HB14.out.boxed
          refine hK.out _ _ ?_ (fun hHeld => ?_)
          · exact HBX.out.two
          clear hK K
          try simp only [Act.put, List.setIfInBounds_toArray, List.set_cons_zero, List.set_cons_succ, List.getElem_toArray, List.getElem_cons_zero, List.getElem_cons_succ]
          refine wpAnyH_take (i := 15) (v := ?_) rfl (by kernel_rfl) (by kernel_rfl) (by kernel_rfl) (fun _ _ _ h => h) (Or.inl ⟨by rfl, ?_⟩) hHeld ?_
          rotate_left
          · intro W0 hW; go_simp; (try with_reducible rfl)
          try simp only [Act.put, List.setIfInBounds_toArray, List.set_cons_zero, List.set_cons_succ, List.getElem_toArray, List.getElem_cons_zero, List.getElem_cons_succ]
          refine wpAnyH_done (by kernel_rfl) ?_ _
          clear hHeld
          go_wp2_with fail
          go_meet
          exact ⟨_, lb, sb, tb, nb, rfl, HBX.out.congr (fun j => by simp only [putO] <;> (repeat' split) <;> simp_all)⟩
        · go_simp
          have HB13 : Hid (MW w (v12.alloc (.cells (madeCells #[.int .i64 0] N) 3)) N len cap a (putO _ 3 v12.heap.size)) := Lib.hid (HB12.out.mk_ 3)
          refine hK.out _ _ ?_ (fun hHeld => ?_)
          · exact HB13.out.two
          clear hK K
          try simp only [Act.put, List.setIfInBounds_toArray, List.set_cons_zero, List.set_cons_succ, List.getElem_toArray, List.getElem_cons_zero, List.getElem_cons_succ]
          obtain ⟨nb, hnb⟩ : ∃ b, v12.heap.size = b := ⟨_, rfl⟩
          obtain ⟨v13, hv13⟩ : ∃ v, v12.alloc (.cells (madeCells #[.int .i64 0] N) 3) = v := ⟨_, rfl⟩
          rw [hnb, hv13] at HB13
          rw [hv13] at hHeld
          rw [hnb, hv13]
          clear hnb hv13
          refine wpAnyH_ready (rs := [3]) (by kernel_rfl) (by simp) ?_
          refine AllReadyH.cons rfl (fun K hK => ?_) AllReadyH.nil
          go_simp
          have HB14 : Hid (MW w (v13.alloc (.cells (madeCells #[.slice none 0 0] N) 88)) N len cap a (putO _ 0 v13.heap.size)) := Lib.hid (HB13.out.mk_ 0)
          refine hK.out _ _ ?_ (fun hHeld => ?_)
          · exact HB14.out.two
          clear hK K
          try simp only [Act.put, List.setIfInBounds_toArray, List.set_cons_zero, List.set_cons_succ, List.getElem_toArray, List.getElem_cons_zero, List.getElem_cons_succ]
          obtain ⟨lb, hlb⟩ : ∃ b, v13.heap.size = b := ⟨_, rfl⟩
          obtain ⟨v14, hv14⟩ : ∃ v, v13.alloc (.cells (madeCells #[.slice none 0 0] N) 88) = v := ⟨_, rfl⟩
          rw [hlb, hv14] at HB14
          rw [hv14] at hHeld
          rw [hlb, hv14]
          clear hlb hv14
          refine wpAnyH_take (i := 13) (v := ?_) rfl (by kernel_rfl) (by kernel_rfl) (by kernel_rfl) (fun _ _ _ h => h) (Or.inl ⟨by rfl, ?_⟩) hHeld ?_
          rotate_left
          · intro W0 hW; go_simp; (try with_reducible rfl)
          try simp only [Act.put, List.setIfInBounds_toArray, List.set_cons_zero, List.set_cons_succ, List.getElem_toArray, List.getElem_cons_zero, List.getElem_cons_succ]
          refine wpAnyH_ready (rs := [14]) (by kernel_rfl) (by simp) ?_
          refine AllReadyH.cons rfl (fun K hK => ?_) AllReadyH.nil
          go_simp
          have HBX : Hid (BL w (v14.alloc (.cells (wkC N len cap a lb sb tb nb (.slice none 0 0) (.slice none 0 0) 0) 70)) v14.heap.size N len cap a lb sb tb nb _ (.slice none 0 0) (.slice none 0 0)) := Lib.hid HB14.out.boxed
          refine hK.out _ _ ?_ (fun hHeld => ?_)
          · exact HBX.out.two
          clear hK K
          try simp only [Act.put, List.setIfInBounds_toArray, List.set_cons_zero, List.set_cons_succ, List.getElem_toArray, List.getElem_cons_zero, List.getElem_cons_succ]
          refine wpAnyH_take (i := 15) (v := ?_) rfl (by kernel_rfl) (by kernel_rfl) (by kernel_rfl) (fun _ _ _ h => h) (Or.inl ⟨by rfl, ?_⟩) hHeld ?_
          rotate_left
          · intro W0 hW; go_simp; (try with_reducible rfl)
          try simp only [Act.put, List.setIfInBounds_toArray, List.set_cons_zero, List.set_cons_succ, List.getElem_toArray, List.getElem_cons_zero, List.getElem_cons_succ]
          refine wpAnyH_done (by kernel_rfl) ?_ _
          clear hHeld
          go_wp2_with fail
          go_meet
          exact ⟨_, lb, sb, tb, nb, rfl, HBX.out.congr (fun j => by simp only [putO] <;> (repeat' split) <;> simp_all)⟩
      · go_simp
        have HB12 : Hid (MW w (v11.alloc (.cells (madeCells #[.int .i64 0] N) 3)) N len cap a (putO _ 3 v11.heap.size)) := Lib.hid (HB11.out.mk_ 3)
        refine hK.out _ _ ?_ (fun hHeld => ?_)
        · exact HB12.out.two
        clear hK K
        try simp only [Act.put, List.setIfInBounds_toArray, List.set_cons_zero, List.set_cons_succ, List.getElem_toArray, List.getElem_cons_zero, List.getElem_cons_succ]
        obtain ⟨nb, hnb⟩ : ∃ b, v11.heap.size = b := ⟨_, rfl⟩
        obtain ⟨v12, hv12⟩ : ∃ v, v11.alloc (.cells (madeCells #[.int .i64 0] N) 3) = v := ⟨_, rfl⟩
        rw [hnb, hv12] at HB12
        rw [hv12] at hHeld
        rw [hnb, hv12]
        clear hnb hv12
        refine wpAnyH_ready (rs := [3, 6]) (by kernel_rfl) (by simp) ?_
        refine AllReadyH.cons rfl (fun K hK => ?_) (AllReadyH.cons rfl (fun K hK => ?_) AllReadyH.nil)
        · go_simp
          have HB13 : Hid (MW w (v12.alloc (.cells (madeCells #[.slice none 0 0] N) 88)) N len cap a (putO _ 0 v12.heap.size)) := Lib.hid (HB12.out.mk_ 0)
          refine hK.out _ _ ?_ (fun hHeld => ?_)
          · exact HB13.out.two
          clear hK K
          try simp only [Act.put, List.setIfInBounds_toArray, List.set_cons_zero, List.set_cons_succ, List.getElem_toArray, List.getElem_cons_zero, List.getElem_cons_succ]
          obtain ⟨lb, hlb⟩ : ∃ b, v12.heap.size = b := ⟨_, rfl⟩
          obtain ⟨v13, hv13⟩ : ∃ v, v12.alloc (.cells (madeCells #[.slice none 0 0] N) 88) = v := ⟨_, rfl⟩
          rw [hlb, hv13] at HB13
          rw [hv13] at hHeld
          rw [hlb, hv13]
          clear hlb hv13
          refine wpAnyH_ready (rs := [6]) (by kernel_rfl) (by simp) ?_
          refine AllReadyH.cons rfl (fun K hK => ?_) AllReadyH.nil
          go_simp
          have HB14 : Hid (MW w (v13.alloc (.cells (madeCells #[.int .i64 0] N) 2)) N len cap a (putO _ 1 v13.heap.size)) := Lib.hid (HB13.out.mk_ 1)
          refine hK.out _ _ ?_ (fun hHeld => ?_)
          · exact HB14.out.two
          clear hK K
          try simp only [Act.put, List.setIfInBounds_toArray, List.set_cons_zero, List.set_cons_succ, List.getElem_toArray, List.getElem_cons_zero, List.getElem_cons_succ]
          obtain ⟨sb, hsb⟩ : ∃ b, v13.heap.size = b := ⟨_, rfl⟩
          obtain ⟨v14, hv14⟩ : ∃ v, v13.alloc (.cells (madeCells #[.int .i64 0] N) 2) = v := ⟨_, rfl⟩
          rw [hsb, hv14] at HB14
          rw [hv14] at hHeld
          rw [hsb, hv14]
          clear hsb hv14
          refine wpAnyH_take (i := 13) (v := ?_) rfl (by kernel_rfl) (by kernel_rfl) (by kernel_rfl) (fun _ _ _ h => h) (Or.inl ⟨by rfl, ?_⟩) hHeld ?_
          rotate_left
          · intro W0 hW; go_simp; (try with_reducible rfl)
          try simp only [Act.put, List.setIfInBounds_toArray, List.set_cons_zero, List.set_cons_succ, List.getElem_toArray, List.getElem_cons_zero, List.getElem_cons_succ]
          refine wpAnyH_ready (rs := [14]) (by kernel_rfl) (by simp) ?_
          refine AllReadyH.cons rfl (fun K hK => ?_) AllReadyH.nil
          go_simp
          have HBX : Hid (BL w (v14.alloc (.cells (wkC N len cap a lb sb tb nb (.slice none 0 0) (.slice none 0 0) 0) 70)) v14.heap.size N len cap a lb sb tb nb _ (.slice none 0 0) (.slice none 0 0)) := Lib.hid HB14.out.boxed
          refine hK.out _ _ ?_ (fun hHeld => ?_)
          · exact HBX.out.two
          clear hK K
          try simp only [Act.put, List.setIfInBounds_toArray, List.set_cons_zero, List.set_cons_succ, List.getElem_toArray, List.getElem_cons_zero, List.getElem_cons_succ]
          refine wpAnyH_take (i := 15) (v := ?_) rfl (by kernel_rfl) (by kernel_rfl) (by kernel_rfl) (fun _ _ _ h => h) (Or.inl ⟨by rfl, ?_⟩) hHeld ?_
          rotate_left
          · intro W0 hW; go_simp; (try with_reducible rfl)
          try simp only [Act.put, List.setIfInBounds_toArray, List.set_cons_zero, List.set_cons_succ, List.getElem_toArray, List.getElem_cons_zero, List.getElem_cons_succ]
          refine wpAnyH_done (by kernel_rfl) ?_ _
          clear hHeld
          go_wp2_with fail
          go_meet
          exact ⟨_, lb, sb, tb, nb, rfl, HBX.out.congr (fun j => by simp only [putO] <;> (repeat' split) <;> simp_all)⟩
        · go_simp
          have HB13 : Hid (MW w (v12.alloc (.cells (madeCells #[.int .i64 0] N) 2)) N len cap a (putO _ 1 v12.heap.size)) := Lib.hid (HB12.out.mk_ 1)
          refine hK.out _ _ ?_ (fun hHeld => ?_)
          · exact HB13.out.two
          clear hK K
          try simp only [Act.put, List.setIfInBounds_toArray, List.set_cons_zero, List.set_cons_succ, List.getElem_toArray, List.getElem_cons_zero, List.getElem_cons_succ]
          obtain ⟨sb, hsb⟩ : ∃ b, v12.heap.size = b := ⟨_, rfl⟩
          obtain ⟨v13, hv13⟩ : ∃ v, v12.alloc (.cells (madeCells #[.int .i64 0] N) 2) = v := ⟨_, rfl⟩
          rw [hsb, hv13] at HB13
          rw [hv13] at hHeld
          rw [hsb, hv13]
          clear hsb hv13
          refine wpAnyH_ready (rs := [3]) (by kernel_rfl) (by simp) ?_
          refine AllReadyH.cons rfl (fun K hK => ?_) AllReadyH.nil
          go_simp
          have HB14 : Hid (MW w (v13.alloc (.cells (madeCells #[.slice none 0 0] N) 88)) N len cap a (putO _ 0 v13.heap.size)) := Lib.hid (HB13.out.mk_ 0)
          refine hK.out _ _ ?_ (fun hHeld => ?_)
          · exact HB14.out.two
          clear hK K
          try simp only [Act.put, List.setIfInBounds_toArray, List.set_cons_zero, List.set_cons_succ, List.getElem_toArray, List.getElem_cons_zero, List.getElem_cons_succ]
          obtain ⟨lb, hlb⟩ : ∃ b, v13.heap.size = b := ⟨_, rfl⟩
          obtain ⟨v14, hv14⟩ : ∃ v, v13.alloc (.cells (madeCells #[.slice none 0 0] N) 88) = v := ⟨_, rfl⟩
          rw [hlb, hv14] at HB14
          rw [hv14] at hHeld
          rw [hlb, hv14]
          clear hlb hv14
          refine wpAnyH_take (i := 13) (v := ?_) rfl (by kernel_rfl) (by kernel_rfl) (by kernel_rfl) (fun _ _ _ h => h) (Or.inl ⟨by rfl, ?_⟩) hHeld ?_
          rotate_left
          · intro W0 hW; go_simp; (try with_reducible rfl)
          try simp only [Act.put, List.setIfInBounds_toArray, List.set_cons_zero, List.set_cons_succ, List.getElem_toArray, List.getElem_cons_zero, List.getElem_cons_succ]
          refine wpAnyH_ready (rs := [14]) (by kernel_rfl) (by simp) ?_
          refine AllReadyH.cons rfl (fun K hK => ?_) AllReadyH.nil
          go_simp
          have HBX : Hid (BL w (v14.alloc (.cells (wkC N len cap a lb sb tb nb (.slice none 0 0) (.slice none 0 0) 0) 70)) v14.heap.size N len cap a lb sb tb nb _ (.slice none 0 0) (.slice none 0 0)) := Lib.hid HB14.out.boxed
          refine hK.out _ _ ?_ (fun hHeld => ?_)
          · exact HBX.out.two
          clear hK K
          try simp only [Act.put, List.setIfInBounds_toArray, List.set_cons_zero, List.set_cons_succ, List.getElem_toArray, List.getElem_cons_zero, List.getElem_cons_succ]
          refine wpAnyH_take (i := 15) (v := ?_) rfl (by kernel_rfl) (by kernel_rfl) (by kernel_rfl) (fun _ _ _ h => h) (Or.inl ⟨by rfl, ?_⟩) hHeld ?_
          rotate_left
          · intro W0 hW; go_simp; (try with_reducible rfl)
          try simp only [Act.put, List.setIfInBounds_toArray, List.set_cons_zero, List.set_cons_succ, List.getElem_toArray, List.getElem_cons_zero, List.getElem_cons_succ]
          refine wpAnyH_done (by kernel_rfl) ?_ _
          clear hHeld
          go_wp2_with fail
          go_meet
          exact ⟨_, lb, sb, tb, nb, rfl, HBX.out.congr (fun j => by simp only [putO] <;> (repeat' split) <;> simp_all)⟩
    · go_simp
      have HB11 : Hid (MW w (wz.alloc (.cells (madeCells #[.int .i64 0] N) 3)) N len cap a (putO _ 3 wz.heap.size)) := Lib.hid (HBd.out.mk_ 3)
      refine hK.out _ _ ?_ (fun hHeld => ?_)
      · exact HB11.out.two
      clear hK K
      try simp only [Act.put, List.setIfInBounds_toArray, List.set_cons_zero, List.set_cons_succ, List.getElem_toArray, List.getElem_cons_zero, List.getElem_cons_succ]
      obtain ⟨nb, hnb⟩ : ∃ b, wz.heap.size = b := ⟨_, rfl⟩
      obtain ⟨v11, hv11⟩ : ∃ v, wz.alloc (.cells (madeCells #[.int .i64 0] N) 3) = v := ⟨_, rfl⟩
      rw [hnb, hv11] at HB11
      rw [hv11] at hHeld
      rw [hnb, hv11]
      clear hnb hv11
      refine wpAnyH_ready (rs := [3, 6, 9]) (by kernel_rfl) (by simp) ?_
      refine AllReadyH.cons rfl (fun K hK => ?_) (AllReadyH.cons rfl (fun K hK => ?_) (AllReadyH.cons rfl (fun K hK => ?_) AllReadyH.nil))
      · go_simp
        have HB12 : Hid (MW w (v11.alloc (.cells (madeCells #[.slice none 0 0] N) 88)) N len cap a (putO _ 0 v11.heap.size)) := Lib.hid (HB11.out.mk_ 0)
        refine hK.out _ _ ?_ (fun hHeld => ?_)
        · exact HB12.out.two
        clear hK K
        try simp only [Act.put, List.setIfInBounds_toArray, List.set_cons_zero, List.set_cons_succ, List.getElem_toArray, List.getElem_cons_zero, List.getElem_cons_succ]
        obtain ⟨lb, hlb⟩ : ∃ b, v11.heap.size = b := ⟨_, rfl⟩
        obtain ⟨v12, hv12⟩ : ∃ v, v11.alloc (.cells (madeCells #[.slice none 0 0] N) 88) = v := ⟨_, rfl⟩
        rw [hlb, hv12] at HB12
        rw [hv12] at hHeld
        rw [hlb, hv12]
        clear hlb hv12
        refine wpAnyH_ready (rs := [6, 9]) (by kernel_rfl) (by simp) ?_
        refine AllReadyH.cons rfl (fun K hK => ?_) (AllReadyH.cons rfl (fun K hK => ?_) AllReadyH.nil)
        · go_simp
          have HB13 : Hid (MW w (v12.alloc (.cells (madeCells #[.int .i64 0] N) 2)) N len cap a (putO _ 1 v12.heap.size)) := Lib.hid (HB12.out.mk_ 1)
          refine hK.out _ _ ?_ (fun hHeld => ?_)
          · exact HB13.out.two
          clear hK K
          try simp only [Act.put, List.setIfInBounds_toArray, List.set_cons_zero, List.set_cons_succ, List.getElem_toArray, List.getElem_cons_zero, List.getElem_cons_succ]
          obtain ⟨sb, hsb⟩ : ∃ b, v12.heap.size = b := ⟨_, rfl⟩
          obtain ⟨v13, hv13⟩ : ∃ v, v12.alloc (.cells (madeCells #[.int .i64 0] N) 2) = v := ⟨_, rfl⟩
          rw [hsb, hv13] at HB13
          rw [hv13] at hHeld
          rw [hsb, hv13]
          clear hsb hv13
          refine wpAnyH_ready (rs := [9]) (by kernel_rfl) (by simp) ?_
          refine AllReadyH.cons rfl (fun K hK => ?_) AllReadyH.nil
          go_simp
          have HB14 : Hid (MW w (v13.alloc (.cells (madeCells #[.int .i64 0] N) 3)) N len cap a (putO _ 2 v13.heap.size)) := Lib.hid (HB13.out.mk_ 2)
          refine hK.out _ _ ?_ (fun hHeld => ?_)
          · exact HB14.out.two
          clear hK K
          try simp only [Act.put, List.setIfInBounds_toArray, List.set_cons_zero, List.set_cons_succ, List.getElem_toArray, List.getElem_cons_zero, List.getElem_cons_succ]
          obtain ⟨tb, htb⟩ : ∃ b, v13.heap.size = b := ⟨_, rfl⟩
          obtain ⟨v14, hv14⟩ : ∃ v, v13.alloc (.cells (madeCells #[.int .i64 0] N) 3) = v := ⟨_, rfl⟩
          rw [htb, hv14] at HB14
          rw [hv14] at hHeld
          rw [htb, hv14]
          clear htb hv14
          refine wpAnyH_take (i := 13) (v := ?_) rfl (by kernel_rfl) (by kernel_rfl) (by kernel_rfl) (fun _ _ _ h => h) (Or.inl ⟨by rfl, ?_⟩) hHeld ?_
          rotate_left
          · intro W0 hW; go_simp; (try with_reducible rfl)
          try simp only [Act.put, List.setIfInBounds_toArray, List.set_cons_zero, List.set_cons_succ, List.getElem_toArray, List.getElem_cons_zero, List.getElem_cons_succ]
          refine wpAnyH_ready (rs := [14]) (by kernel_rfl) (by simp) ?_
          refine AllReadyH.cons rfl (fun K hK => ?_) AllReadyH.nil
          go_simp
          have HBX : Hid (BL w (v14.alloc (.cells (wkC N len cap a lb sb tb nb (.slice none 0 0) (.slice none 0 0) 0) 70)) v14.heap.size N len cap a lb sb tb nb _ (.slice none 0 0) (.slice none 0 0)) := Lib.hid HB14.out.boxed
          refine hK.out _ _ ?_ (fun hHeld => ?_)
          · exact HBX.out.two
          clear hK K
          try simp only [Act.put, List.setIfInBounds_toArray, List.set_cons_zero, List.set_cons_succ, List.getElem_toArray, List.getElem_cons_zero, List.getElem_cons_succ]
          refine wpAnyH_take (i := 15) (v := ?_) rfl (by kernel_rfl) (by kernel_rfl) (by kernel_rfl) (fun _ _ _ h => h) (Or.inl ⟨by rfl, ?_⟩) hHeld ?_
          rotate_left
          · intro W0 hW; go_simp; (try with_reducible rfl)
          try simp only [Act.put, List.setIfInBounds_toArray, List.set_cons_zero, List.set_cons_succ, List.getElem_toArray, List.getElem_cons_zero, List.getElem_cons_succ]
          refine wpAnyH_done (by kernel_rfl) ?_ _
          clear hHeld
          go_wp2_with fail
          go_meet
          exact ⟨_, lb, sb, tb, nb, rfl, HBX.out.congr (fun j => by simp only [putO] <;> (repeat' split) <;> simp_all)⟩
        · go_simp
          have HB13 : Hid (MW w (v12.alloc (.cells (madeCells #[.int .i64 0] N) 3)) N len cap a (putO _ 2 v12.heap.size)) := Lib.hid (HB12.out.mk_ 2)
          refine hK.out _ _ ?_ (fun hHeld => ?_)
          · exact HB13.out.two
          clear hK K
          try simp only [Act.put, List.setIfInBounds_toArray, List.set_cons_zero, List.set_cons_succ, List.getElem_toArray, List.getElem_cons_zero, List.getElem_cons_succ]
          obtain ⟨tb, htb⟩ : ∃ b, v12.heap.size = b := ⟨_, rfl⟩
          obtain ⟨v13, hv13⟩ : ∃ v, v12.alloc (.cells (madeCells #[.int .i64 0] N) 3) = v := ⟨_, rfl⟩
          rw [htb, hv13] at HB13
          rw [hv13] at hHeld
          rw [htb, hv13]
          clear htb hv13
          refine wpAnyH_ready (rs := [6]) (by kernel_rfl) (by simp) ?_
          refine AllReadyH.cons rfl (fun K hK => ?_) AllReadyH.nil
          go_simp
          have HB14 : Hid (MW w (v13.alloc (.cells (madeCells #[.int .i64 0] N) 2)) N len cap a (putO _ 1 v13.heap.size)) := Lib.hid (HB13.out.mk_ 1)
          refine hK.out _ _ ?_ (fun hHeld => ?_)
          · exact HB14.out.two
          clear hK K
          try simp only [Act.put, List.setIfInBounds_toArray, List.set_cons_zero, List.set_cons_succ, List.getElem_toArray, List.getElem_cons_zero, List.getElem_cons_succ]
          obtain ⟨sb, hsb⟩ : ∃ b, v13.heap.size = b := ⟨_, rfl⟩
          obtain ⟨v14, hv14⟩ : ∃ v, v13.alloc (.cells (madeCells #[.int .i64 0] N) 2) = v := ⟨_, rfl⟩
          rw [hsb, hv14] at HB14
          rw [hv14] at hHeld
          rw [hsb, hv14]
          clear hsb hv14
          refine wpAnyH_take (i := 13) (v := ?_) rfl (by kernel_rfl) (by kernel_rfl) (by kernel_rfl) (fun _ _ _ h => h) (Or.inl ⟨by rfl, ?_⟩) hHeld ?_
          rotate_left
          · intro W0 hW; go_simp; (try with_reducible rfl)
          try simp only [Act.put, List.setIfInBounds_toArray, List.set_cons_zero, List.set_cons_succ, List.getElem_toArray, List.getElem_cons_zero, List.getElem_cons_succ]
          refine wpAnyH_ready (rs := [14]) (by kernel_rfl) (by simp) ?_
          refine AllReadyH.cons rfl (fun K hK => ?_) AllReadyH.nil
          go_simp
          have HBX : Hid (BL w (v14.alloc (.cells (wkC N len cap a lb sb tb nb (.slice none 0 0) (.slice none 0 0) 0) 70)) v14.heap.size N len cap a lb sb tb nb _ (.slice none 0 0) (.slice none 0 0)) := Lib.hid HB14.out.boxed
          refine hK.out _ _ ?_ (fun hHeld => ?_)
          · exact HBX.out.two
          clear hK K
          try simp only [Act.put, List.setIfInBounds_toArray, List.set_cons_zero, List.set_cons_succ, List.getElem_toArray, List.getElem_cons_zero, List.getElem_cons_succ]
          refine wpAnyH_take (i := 15) (v := ?_) rfl (by kernel_rfl) (by kernel_rfl) (by kernel_rfl) (fun _ _ _ h => h) (Or.inl ⟨by rfl, ?_⟩) hHeld ?_
          rotate_left
          · intro W0 hW; go_simp; (try with_reducible rfl)
          try simp only [Act.put, List.setIfInBounds_toArray, List.set_cons_zero, List.set_cons_succ, List.getElem_toArray, List.getElem_cons_zero, List.getElem_cons_succ]
          refine wpAnyH_done (by kernel_rfl) ?_ _
          clear hHeld
          go_wp2_with fail
          go_meet
          exact ⟨_, lb, sb, tb, nb, rfl, HBX.out.congr (fun j => by simp only [putO] <;> (repeat' split) <;> simp_all)⟩
      · go_simp
        have HB12 : Hid (MW w (v11.alloc (.cells (madeCells #[.int .i64 0] N) 2)) N len cap a (putO _ 1 v11.heap.size)) := Lib.hid (HB11.out.mk_ 1)
        refine hK.out _ _ ?_ (fun hHeld => ?_)
        · exact HB12.out.two
        clear hK K
        try simp only [Act.put, List.setIfInBounds_toArray, List.set_cons_zero, List.set_cons_succ, List.getElem_toArray, List.getElem_cons_zero, List.getElem_cons_succ]
        obtain ⟨sb, hsb⟩ : ∃ b, v11.heap.size = b := ⟨_, rfl⟩
        obtain ⟨v12, hv12⟩ : ∃ v, v11.alloc (.cells (madeCells #[.int .i64 0] N) 2) = v := ⟨_, rfl⟩
        rw [hsb, hv12] at HB12
        rw [hv12] at hHeld
        rw [hsb, hv12]
        clear hsb hv12
        refine wpAnyH_ready (rs := [3, 9]) (by kernel_rfl) (by simp) ?_
        refine AllReadyH.cons rfl (fun K hK => ?_) (AllReadyH.cons rfl (fun K hK => ?_) AllReadyH.nil)
        · go_simp
          have HB13 : Hid (MW w (v12.alloc (.cells (madeCells #[.slice none 0 0] N) 88)) N len cap a (putO _ 0 v12.heap.size)) := Lib.hid (HB12.out.mk_ 0)
          refine hK.out _ _ ?_ (fun hHeld => ?_)
          · exact HB13.out.two
          clear hK K
          try simp only [Act.put, List.setIfInBounds_toArray, List.set_cons_zero, List.set_cons_succ, List.getElem_toArray, List.getElem_cons_zero, List.getElem_cons_succ]
          obtain ⟨lb, hlb⟩ : ∃ b, v12.heap.size = b := ⟨_, rfl⟩
          obtain ⟨v13, hv13⟩ : ∃ v, v12.alloc (.cells (madeCells #[.slice none 0 0] N) 88) = v := ⟨_, rfl⟩
          rw [hlb, hv13] at HB13
          rw [hv13] at hHeld
          rw [hlb, hv13]
          clear hlb hv13
          refine wpAnyH_ready (rs := [9]) (by kernel_rfl) (by simp) ?_
          refine AllReadyH.cons rfl (fun K hK => ?_) AllReadyH.nil
          go_simp
          have HB14 : Hid (MW w (v13.alloc (.cells (madeCells #[.int .i64 0] N) 3)) N len cap a (putO _ 2 v13.heap.size)) := Lib.hid (HB13.out.mk_ 2)
          refine hK.out _ _ ?_ (fun hHeld => ?_)
          · exact HB14.out.two
          clear hK K
          try simp only [Act.put, List.setIfInBounds_toArray, List.set_cons_zero, List.set_cons_succ, List.getElem_toArray, List.getElem_cons_zero, List.getElem_cons_succ]
          obtain ⟨tb, htb⟩ : ∃ b, v13.heap.size = b := ⟨_, rfl⟩
          obtain ⟨v14, hv14⟩ : ∃ v, v13.alloc (.cells (madeCells #[.int .i64 0] N) 3) = v := ⟨_, rfl⟩
          rw [htb, hv14] at HB14
          rw [hv14] at hHeld
          rw [htb, hv14]
          clear htb hv14
          refine wpAnyH_take (i := 13) (v := ?_) rfl (by kernel_rfl) (by kernel_rfl) (by kernel_rfl) (fun _ _ _ h => h) (Or.inl ⟨by rfl, ?_⟩) hHeld ?_
          rotate_left
          · intro W0 hW; go_simp; (try with_reducible rfl)
          try simp only [Act.put, List.setIfInBounds_toArray, List.set_cons_zero, List.set_cons_succ, List.getElem_toArray, List.getElem_cons_zero, List.getElem_cons_succ]
          refine wpAnyH_ready (rs := [14]) (by kernel_rfl) (by simp) ?_
          refine AllReadyH.cons rfl (fun K hK => ?_) AllReadyH.nil
          go_simp
          have HBX : Hid (BL w (v14.alloc (.cells (wkC N len cap a lb sb tb nb (.slice none 0 0) (.slice none 0 0) 0) 70)) v14.heap.size N len cap a lb sb tb nb _ (.slice none 0 0) (.slice none 0 0)) := Lib.hid HB14.out.boxed
          refine hK.out _ _ ?_ (fun hHeld => ?_)
          · exact HBX.out.two
          clear hK K
          try simp only [Act.put, List.setIfInBounds_toArray, List.set_cons_zero, List.set_cons_succ, List.getElem_toArray, List.getElem_cons_zero, List.getElem_cons_succ]
          refine wpAnyH_take (i := 15) (v := ?_) rfl (by kernel_rfl) (by kernel_rfl) (by kernel_rfl) (fun _ _ _ h => h) (Or.inl ⟨by rfl, ?_⟩) hHeld ?_
          rotate_left
          · intro W0 hW; go_simp; (try with_reducible rfl)
          try simp only [Act.put, List.setIfInBounds_toArray, List.set_cons_zero, List.set_cons_succ, List.getElem_toArray, List.getElem_cons_zero, List.getElem_cons_succ]
          refine wpAnyH_done (by kernel_rfl) ?_ _
          clear hHeld
          go_wp2_with fail
          go_meet
          exact ⟨_, lb, sb, tb, nb, rfl, HBX.out.congr (fun j => by simp only [putO] <;> (repeat' split) <;> simp_all)⟩
        · go_simp
          have HB13 : Hid (MW w (v12.alloc (.cells (madeCells #[.int .i64 0] N) 3)) N len cap a (putO _ 2 v12.heap.size)) := Lib.hid (HB12.out.mk_ 2)
          refine hK.out _ _ ?_ (fun hHeld => ?_)
          · exact HB13.out.two
          clear hK K
          try simp only [Act.put, List.setIfInBounds_toArray, List.set_cons_zero, List.set_cons_succ, List.getElem_toArray, List.getElem_cons_zero, List.getElem_cons_succ]
          obtain ⟨tb, htb⟩ : ∃ b, v12.heap.size = b := ⟨_, rfl⟩
          obtain ⟨v13, hv13⟩ : ∃ v, v12.alloc (.cells (madeCells #[.int .i64 0] N) 3) = v := ⟨_, rfl⟩
          rw [htb, hv13] at HB13
          rw [hv13] at hHeld
          rw [htb, hv13]
          clear htb hv13
          refine wpAnyH_ready (rs := [3]) (by kernel_rfl) (by simp) ?_
          refine AllReadyH.cons rfl (fun K hK => ?_) AllReadyH.nil
          go_simp
          have HB14 : Hid (MW w (v13.alloc (.cells (madeCells #[.slice none 0 0] N) 88)) N len cap a (putO _ 0 v13.heap.size)) := Lib.hid (HB13.out.mk_ 0)
          refine hK.out _ _ ?_ (fun hHeld => ?_)
          · exact HB14.out.two
          clear hK K
          try simp only [Act.put, List.setIfInBounds_toArray, List.set_cons_zero, List.set_cons_succ, List.getElem_toArray, List.getElem_cons_zero, List.getElem_cons_succ]
          obtain ⟨lb, hlb⟩ : ∃ b, v13.heap.size = b := ⟨_, rfl⟩
          obtain ⟨v14, hv14⟩ : ∃ v, v13.alloc (.cells (madeCells #[.slice none 0 0] N) 88) = v := ⟨_, rfl⟩
          rw [hlb, hv14] at HB14
          rw [hv14] at hHeld
          rw [hlb, hv14]
          clear hlb hv14
          refine wpAnyH_take (i := 13) (v := ?_) rfl (by kernel_rfl) (by kernel_rfl) (by kernel_rfl) (fun _ _ _ h => h) (Or.inl ⟨by rfl, ?_⟩) hHeld ?_
          rotate_left
          · intro W0 hW; go_simp; (try with_reducible rfl)
          try simp only [Act.put, List.setIfInBounds_toArray, List.set_cons_zero, List.set_cons_succ, List.getElem_toArray, List.getElem_cons_zero, List.getElem_cons_succ]
          refine wpAnyH_ready (rs := [14]) (by kernel_rfl) (by simp) ?_
          refine AllReadyH.cons rfl (fun K hK => ?_) AllReadyH.nil
          go_simp
          have HBX : Hid (BL w (v14.alloc (.cells (wkC N len cap a lb sb tb nb (.slice none 0 0) (.slice none 0 0) 0) 70)) v14.heap.size N len cap a lb sb tb nb _ (.slice none 0 0) (.slice none 0 0)) := Lib.hid HB14.out.boxed
          refine hK.out _ _ ?_ (fun hHeld => ?_)
          · exact HBX.out.two
          clear hK K
          try simp only [Act.put, List.setIfInBounds_toArray, List.set_cons_zero, List.set_cons_succ, List.getElem_toArray, List.getElem_cons_zero, List.getElem_cons_succ]
          refine wpAnyH_take (i := 15) (v := ?_) rfl (by kernel_rfl) (by kernel_rfl) (by kernel_rfl) (fun _ _ _ h => h) (Or.inl ⟨by rfl, ?_⟩) hHeld ?_
          rotate_left
          · intro W0 hW; go_simp; (try with_reducible rfl)
          try simp only [Act.put, List.setIfInBounds_toArray, List.set_cons_zero, List.set_cons_succ, List.getElem_toArray, List.getElem_cons_zero, List.getElem_cons_succ]
          refine wpAnyH_done (by kernel_rfl) ?_ _
          clear hHeld
          go_wp2_with fail
          go_meet
          exact ⟨_, lb, sb, tb, nb, rfl, HBX.out.congr (fun j => by simp only [putO] <;> (repeat' split) <;> simp_all)⟩
      · go_simp
        have HB12 : Hid (MW w (v11.alloc (.cells (madeCells #[.int .i64 0] N) 3)) N len cap a (putO _ 2 v11.heap.size)) := Lib.hid (HB11.out.mk_ 2)
        refine hK.out _ _ ?_ (fun hHeld => ?_)
        · exact HB12.out.two
        clear hK K
        try simp only [Act.put, List.setIfInBounds_toArray, List.set_cons_zero, List.set_cons_succ, List.getElem_toArray, List.getElem_cons_zero, List.getElem_cons_succ]
        obtain ⟨tb, htb⟩ : ∃ b, v11.heap.size = b := ⟨_, rfl⟩
        obtain ⟨v12, hv12⟩ : ∃ v, v11.alloc (.cells (madeCells #[.int .i64 0] N) 3) = v := ⟨_, rfl⟩
        rw [htb, hv12] at HB12
        rw [hv12] at hHeld
        rw [htb, hv12]
        clear htb hv12
        refine wpAnyH_ready (rs := [3, 6]) (by kernel_rfl) (by simp) ?_
        refine AllReadyH.cons rfl (fun K hK => ?_) (AllReadyH.cons rfl (fun K hK => ?_) AllReadyH.nil)
        · go_simp
          have HB13 : Hid (MW w (v12.alloc (.cells (madeCells #[.slice none 0 0] N) 88)) N len cap a (putO _ 0 v12.heap.size)) := Lib.hid (HB12.out.mk_ 0)
          refine hK.out _ _ ?_ (fun hHeld => ?_)
          · exact HB13.out.two
          clear hK K
          try simp only [Act.put, List.setIfInBounds_toArray, List.set_cons_zero, List.set_cons_succ, List.getElem_toArray, List.getElem_cons_zero, List.getElem_cons_succ]
          obtain ⟨lb, hlb⟩ : ∃ b, v12.heap.size = b := ⟨_, rfl⟩
          obtain ⟨v13, hv13⟩ : ∃ v, v12.alloc (.cells (madeCells #[.slice none 0 0] N) 88) = v := ⟨_, rfl⟩
          rw [hlb, hv13] at HB13
          rw [hv13] at hHeld
          rw [hlb, hv13]
          clear hlb hv13
          refine wpAnyH_ready (rs := [6]) (by kernel_rfl) (by simp) ?_
          refine AllReadyH.cons rfl (fun K hK => ?_) AllReadyH.nil
          go_simp
          have HB14 : Hid (MW w (v13.alloc (.cells (madeCells #[.int .i64 0] N) 2)) N len cap a (putO _ 1 v13.heap.size)) := Lib.hid (HB13.out.mk_ 1)
          refine hK.out _ _ ?_ (fun hHeld => ?_)
          · exact HB14.out.two
          clear hK K
          try simp only [Act.put, List.setIfInBounds_toArray, List.set_cons_zero, List.set_cons_succ, List.getElem_toArray, List.getElem_cons_zero, List.getElem_cons_succ]
          obtain ⟨sb, hsb⟩ : ∃ b, v13.heap.size = b := ⟨_, rfl⟩
          obtain ⟨v14, hv14⟩ : ∃ v, v13.alloc (.cells (madeCells #[.int .i64 0] N) 2) = v := ⟨_, rfl⟩
          rw [hsb, hv14] at HB14
          rw [hv14] at hHeld
          rw [hsb, hv14]
          clear hsb hv14
          refine wpAnyH_take (i := 13) (v := ?_) rfl (by kernel_rfl) (by kernel_rfl) (by kernel_rfl) (fun _ _ _ h => h) (Or.inl ⟨by rfl, ?_⟩) hHeld ?_
          rotate_left
          · intro W0 hW; go_simp; (try with_reducible rfl)
          try simp only [Act.put, List.setIfInBounds_toArray, List.set_cons_zero, List.set_cons_succ, List.getElem_toArray, List.getElem_cons_zero, List.getElem_cons_succ]
          refine wpAnyH_ready (rs := [14]) (by kernel_rfl) (by simp) ?_
          refine AllReadyH.cons rfl (fun K hK => ?_) AllReadyH.nil
          go_simp
          have HBX : Hid (BL w (v14.alloc (.cells (wkC N len cap a lb sb tb nb (.slice none 0 0) (.slice none 0 0) 0) 70)) v14.heap.size N len cap a lb sb tb nb _ (.slice none 0 0) (.slice none 0 0)) := Lib.hid HB14.out.boxed
          refine hK.out _ _ ?_ (fun hHeld => ?_)
          · exact HBX.out.two
          clear hK K
          try simp only [Act.put, List.setIfInBounds_toArray, List.set_cons_zero, List.set_cons_succ, List.getElem_toArray, List.getElem_cons_zero, List.getElem_cons_succ]
          refine wpAnyH_take (i := 15) (v := ?_) rfl (by kernel_rfl) (by kernel_rfl) (by kernel_rfl) (fun _ _ _ h => h) (Or.inl ⟨by rfl, ?_⟩) hHeld ?_
          rotate_left
          · intro W0 hW; go_simp; (try with_reducible rfl)
          try simp only [Act.put, List.setIfInBounds_toArray, List.set_cons_zero, List.set_cons_succ, List.getElem_toArray, List.getElem_cons_zero, List.getElem_cons_succ]
          refine wpAnyH_done (by kernel_rfl) ?_ _
          clear hHeld
          go_wp2_with fail
          go_meet
          exact ⟨_, lb, sb, tb, nb, rfl, HBX.out.congr (fun j => by simp only [putO] <;> (repeat' split) <;> simp_all)⟩
        · go_simp
          have HB13 : Hid (MW w (v12.alloc (.cells (madeCells #[.int .i64 0] N) 2)) N len cap a (putO _ 1 v12.heap.size)) := Lib.hid (HB12.out.mk_ 1)
          refine hK.out _ _ ?_ (fun hHeld => ?_)
          · exact HB13.out.two
          clear hK K
          try simp only [Act.put, List.setIfInBounds_toArray, List.set_cons_zero, List.set_cons_succ, List.getElem_toArray, List.getElem_cons_zero, List.getElem_cons_succ]
          obtain ⟨sb, hsb⟩ : ∃ b, v12.heap.size = b := ⟨_, rfl⟩
          obtain ⟨v13, hv13⟩ : ∃ v, v12.alloc (.cells (madeCells #[.int .i64 0] N) 2) = v := ⟨_, rfl⟩
          rw [hsb, hv13] at HB13
          rw [hv13] at hHeld
          rw [hsb, hv13]
          clear hsb hv13
          refine wpAnyH_ready (rs := [3]) (by kernel_rfl) (by simp) ?_
          refine AllReadyH.cons rfl (fun K hK => ?_) AllReadyH.nil
          go_simp
          have HB14 : Hid (MW w (v13.alloc (.cells (madeCells #[.slice none 0 0] N) 88)) N len cap a (putO _ 0 v13.heap.size)) := Lib.hid (HB13.out.mk_ 0)
          refine hK.out _ _ ?_ (fun hHeld => ?_)
          · exact HB14.out.two
          clear hK K
          try simp only [Act.put, List.setIfInBounds_toArray, List.set_cons_zero, List.set_cons_succ, List.getElem_toArray, List.getElem_cons_zero, List.getElem_cons_succ]
          obtain ⟨lb, hlb⟩ : ∃ b, v13.heap.size = b := ⟨_, rfl⟩
          obtain ⟨v14, hv14⟩ : ∃ v, v13.alloc (.cells (madeCells #[.slice none 0 0] N) 88) = v := ⟨_, rfl⟩
          rw [hlb, hv14] at HB14
          rw [hv14] at hHeld
          rw [hlb, hv14]
          clear hlb hv14
          refine wpAnyH_take (i := 13) (v := ?_) rfl (by kernel_rfl) (by kernel_rfl) (by kernel_rfl) (fun _ _ _ h => h) (Or.inl ⟨by rfl, ?_⟩) hHeld ?_
          rotate_left
          · intro W0 hW; go_simp; (try with_reducible rfl)
          try simp only [Act.put, List.setIfInBounds_toArray, List.set_cons_zero, List.set_cons_succ, List.getElem_toArray, List.getElem_cons_zero, List.getElem_cons_succ]
          refine wpAnyH_ready (rs := [14]) (by kernel_rfl) (by simp) ?_
          refine AllReadyH.cons rfl (fun K hK => ?_) AllReadyH.nil
          go_simp
          have HBX : Hid (BL w (v14.alloc (.cells (wkC N len cap a lb sb tb nb (.slice none 0 0) (.slice none 0 0) 0) 70)) v14.heap.size N len cap a lb sb tb nb _ (.slice none 0 0) (.slice none 0 0)) := Lib.hid HB14.out.boxed
          refine hK.out _ _ ?_ (fun hHeld => ?_)
          · exact HBX.out.two
          clear hK K
          try simp only [Act.put, List.setIfInBounds_toArray, List.set_cons_zero, List.set_cons_succ, List.getElem_toArray, List.getElem_cons_zero, List.getElem_cons_succ]
          refine wpAnyH_take (i := 15) (v := ?_) rfl (by kernel_rfl) (by kernel_rfl) (by kernel_rfl) (fun _ _ _ h => h) (Or.inl ⟨by rfl, ?_⟩) hHeld ?_
          rotate_left
          · intro W0 hW; go_simp; (try with_reducible rfl)
          try simp only [Act.put, List.setIfInBounds_toArray, List.set_cons_zero, List.set_cons_succ, List.getElem_toArray, List.getElem_cons_zero, List.getElem_cons_succ]
          refine wpAnyH_done (by kernel_rfl) ?_ _
          clear hHeld
          go_wp2_with fail
          go_meet
          exact ⟨_, lb, sb, tb, nb, rfl, HBX.out.congr (fun j => by simp only [putO] <;> (repeat' split) <;> simp_all)⟩
  case rest =>
    obtain ⟨p, lb, sb, tb, nb, rfl, hB⟩ := hcut
    have HB1 := Lib.hid hB
    clear hB HB0
    go_wp2_with fail
    go_cut [] from 21 (fun wx => ∃ fb hb, BL w wx p N len cap a lb sb tb nb (six lb sb tb nb fb hb) (.slice (some ⟨fb, 0, none⟩) len len) (.slice (some ⟨hb, 0, none⟩) N N))
    case first =>
      have HBd := Lib.hid HB1.out.drew
      refine wp_region_held_drew (S := fun W => W.cell? ⟨w.heap.size, 0, none⟩ = some (.int .i64 (N : Int)) ∧ W.cell? ⟨w.heap.size, 1, none⟩ = some (.slice a len cap)) (by kernel_rfl) HBd.out.two (fun hHeld => ?_)
      obtain ⟨wz, hwz⟩ : ∃ wz, World.drew wc = wz := ⟨_, rfl⟩
      rw [hwz] at HBd hHeld ⊢
      clear hwz
      refine wpAnyH_take (i := 0) (v := ?_) rfl (by kernel_rfl) (by kernel_rfl) (by kernel_rfl) (fun _ _ _ h => h) (Or.inl ⟨by rfl, ?_⟩) hHeld ?_
      rotate_left
      · intro W0 hW; obtain ⟨hW1, hW2⟩ := hW; go_simp; (try with_reducible rfl)
      try simp only [Act.put, List.setIfInBounds_toArray, List.set_cons_zero, List.set_cons_succ, List.getElem_toArray, List.getElem_cons_zero]
      refine wpAnyH_take (i := 1) (v := ?_) rfl (by kernel_rfl) (by kernel_rfl) (by kernel_rfl) (fun _ _ _ h => h) (Or.inl ⟨by rfl, ?_⟩) hHeld ?_
      rotate_left
      · intro W0 hW; obtain ⟨hW1, hW2⟩ := hW; go_simp; (try with_reducible rfl)
      try simp only [Act.put, List.setIfInBounds_toArray, List.set_cons_zero, List.set_cons_succ, List.getElem_toArray, List.getElem_cons_zero, List.getElem_cons_succ]
      refine wpAnyH_take (i := 2) (v := ?_) rfl (by kernel_rfl) (by kernel_rfl) (by kernel_rfl) (fun _ _ _ h => h) (Or.inl ⟨by rfl, ?_⟩) hHeld ?_
      rotate_left
      · intro W0 hW; obtain ⟨hW1, hW2⟩ := hW; go_simp; (try with_reducible rfl)
      try simp only [Act.put, List.setIfInBounds_toArray, List.set_cons_zero, List.set_cons_succ, List.getElem_toArray, List.getElem_cons_zero, List.getElem_cons_succ]
      refine wpAnyH_take (i := 3) (v := ?_) rfl (by kernel_rfl) (by kernel_rfl) (by kernel_rfl) (fun _ _ _ h => h) (Or.inl ⟨by rfl, ?_⟩) hHeld ?_
      rotate_left
      · intro W0 hW; obtain ⟨hW1, hW2⟩ := hW; go_simp; (try with_reducible rfl)
      try simp only [Act.put, List.setIfInBounds_toArray, List.set_cons_zero, List.set_cons_succ, List.getElem_toArray, List.getElem_cons_zero, List.getElem_cons_succ]
      refine wpAnyH_take (i := 4) (v := ?_) rfl (by kernel_rfl) (by kernel_rfl) (by kernel_rfl) (fun _ _ _ h => h) (Or.inl ⟨by rfl, ?_⟩) hHeld ?_
      rotate_left
      · intro W0 hW; obtain ⟨hW1, hW2⟩ := hW; go_simp; (try with_reducible rfl)
      try simp only [Act.put, List.setIfInBounds_toArray, List.set_cons_zero, List.set_cons_succ, List.getElem_toArray, List.getElem_cons_zero, List.getElem_cons_succ]
      refine wpAnyH_take (i := 6) (v := ?_) rfl (by kernel_rfl) (by kernel_rfl) (by kernel_rfl) (fun _ _ _ h => h) (Or.inl ⟨by rfl, ?_⟩) hHeld ?_
      rotate_left
      · intro W0 hW; obtain ⟨hW1, hW2⟩ := hW; go_simp; (try with_reducible rfl)
      try simp only [Act.put, List.setIfInBounds_toArray, List.set_cons_zero, List.set_cons_succ, List.getElem_toArray, List.getElem_cons_zero, List.getElem_cons_succ]
      refine wpAnyH_take (i := 7) (v := ?_) rfl (by kernel_rfl) (by kernel_rfl) (by kernel_rfl) (fun _ _ _ h => h) (Or.inl ⟨by rfl, ?_⟩) hHeld ?_
      rotate_left
      · intro W0 hW; obtain ⟨hW1, hW2⟩ := hW; go_simp; (try with_reducible rfl)
      try simp only [Act.put, List.setIfInBounds_toArray, List.set_cons_zero, List.set_cons_succ, List.getElem_toArray, List.getElem_cons_zero, List.getElem_cons_succ]
      refine wpAnyH_ready (rs := [5, 8]) (by kernel_rfl) (by simp) ?_
      refine AllReadyH.cons rfl (fun K hK => ?_) (AllReadyH.cons rfl (fun K hK => ?_) AllReadyH.nil)
      · go_simp
        have HB11 : Hid (BL w (wz.alloc (.cells (madeCells #[.int .i64 0] len) 2)) p N len cap a lb sb tb nb (putO _ 4 wz.heap.size) _ _) := Lib.hid (HBd.out.mk_ 4)
        refine hK.out _ _ ?_ (fun hHeld => ?_)
        · exact HB11.out.two
        clear hK K
        try simp only [Act.put, List.setIfInBounds_toArray, List.set_cons_zero, List.set_cons_succ, List.getElem_toArray, List.getElem_cons_zero, List.getElem_cons_succ]
        obtain ⟨fb, hfb⟩ : ∃ b, wz.heap.size = b := ⟨_, rfl⟩
        obtain ⟨v11, hv11⟩ : ∃ v, wz.alloc (.cells (madeCells #[.int .i64 0] len) 2) = v := ⟨_, rfl⟩
        rw [hfb, hv11] at HB11
        rw [hv11] at hHeld
        rw [hfb, hv11]
        clear hfb hv11
        refine wpAnyH_take (i := 9) (v := ?_) rfl (by kernel_rfl) (by kernel_rfl) (by kernel_rfl) (fun _ _ _ h => h) (Or.inl ⟨by rfl, ?_⟩) hHeld ?_
        rotate_left
        · intro W0 hW; go_simp; (try with_reducible rfl)
        try simp only [Act.put, List.setIfInBounds_toArray, List.set_cons_zero, List.set_cons_succ, List.getElem_toArray, List.getElem_cons_zero, List.getElem_cons_succ]
        refine wpAnyH_take (i := 10) (v := ?_) rfl (by kernel_rfl) (by kernel_rfl) (by kernel_rfl) (fun _ _ _ h => h) (Or.inl ⟨by rfl, ?_⟩) hHeld ?_
        rotate_left
        · intro W0 hW; go_simp; (try with_reducible rfl)
        try simp only [Act.put, List.setIfInBounds_toArray, List.set_cons_zero, List.set_cons_succ, List.getElem_toArray, List.getElem_cons_zero, List.getElem_cons_succ]
        refine wpAnyH_take (i := 11) (v := ?_) rfl (by kernel_rfl) (by kernel_rfl) (by kernel_rfl) (fun _ _ _ h => h) (Or.inl ⟨by rfl, ?_⟩) hHeld ?_
        rotate_left
        · intro W0 hW; go_simp; (try with_reducible rfl)
        try simp only [Act.put, List.setIfInBounds_toArray, List.set_cons_zero, List.set_cons_succ, List.getElem_toArray, List.getElem_cons_zero, List.getElem_cons_succ]
        refine wpAnyH_ready (rs := [8, 12]) (by kernel_rfl) (by simp) ?_
        refine AllReadyH.cons rfl (fun K hK => ?_) (AllReadyH.cons rfl (fun K hK => ?_) AllReadyH.nil)
        · go_simp
          have HB12 : Hid (BL w (v11.alloc (.cells (madeCells #[.int .i64 0] N) 2)) p N len cap a lb sb tb nb (putO _ 5 v11.heap.size) _ _) := Lib.hid (HB11.out.mk_ 5)
          refine hK.out _ _ ?_ (fun hHeld => ?_)
          · exact HB12.out.two
          clear hK K
          try simp only [Act.put, List.setIfInBounds_toArray, List.set_cons_zero, List.set_cons_succ, List.getElem_toArray, List.getElem_cons_zero, List.getElem_cons_succ]
          obtain ⟨hb, hhb⟩ : ∃ b, v11.heap.size = b := ⟨_, rfl⟩
          obtain ⟨v12, hv12⟩ : ∃ v, v11.alloc (.cells (madeCells #[.int .i64 0] N) 2) = v := ⟨_, rfl⟩
          rw [hhb, hv12] at HB12
          rw [hv12] at hHeld
          rw [hhb, hv12]
          clear hhb hv12
          refine wpAnyH_ready (rs := [12]) (by kernel_rfl) (by simp) ?_
          refine AllReadyH.cons rfl (fun K hK => ?_) AllReadyH.nil
          obtain ⟨c2, c4, f2, f4⟩ := HB12.out.cells
          go_simp
          clear c2 c4 f2 f4
          have HB13 := Lib.hid (HB12.out.st4 (.slice (some ⟨fb, 0, none⟩) len len))
          refine hK.out _ _ ?_ (fun hHeld => ?_)
          · exact HB13.out.two
          clear hK K
          try simp only [Act.put, List.setIfInBounds_toArray, List.set_cons_zero, List.set_cons_succ, List.getElem_toArray, List.getElem_cons_zero, List.getElem_cons_succ]
          obtain ⟨v13, hv13⟩ : ∃ v, v12.setCell ⟨p, 2, none⟩ (.slice (some ⟨fb, 0, none⟩) len len) = v := ⟨_, rfl⟩
          rw [hv13] at HB13 hHeld ⊢
          clear hv13
          refine wpAnyH_take (i := 13) (v := ?_) rfl (by kernel_rfl) (by kernel_rfl) (by kernel_rfl) (fun _ _ _ h => h) (Or.inl ⟨by rfl, ?_⟩) hHeld ?_
          rotate_left
          · intro W0 hW; go_simp; (try with_reducible rfl)
          try simp only [Act.put, List.setIfInBounds_toArray, List.set_cons_zero, List.set_cons_succ, List.getElem_toArray, List.getElem_cons_zero, List.getElem_cons_succ]
          refine wpAnyH_take (i := 14) (v := ?_) rfl (by kernel_rfl) (by kernel_rfl) (by kernel_rfl) (fun _ _ _ h => h) (Or.inl ⟨by rfl, ?_⟩) hHeld ?_
          rotate_left
          · intro W0 hW; go_simp; (try with_reducible rfl)
          try simp only [Act.put, List.setIfInBounds_toArray, List.set_cons_zero, List.set_cons_succ, List.getElem_toArray, List.getElem_cons_zero, List.getElem_cons_succ]
          refine wpAnyH_take (i := 15) (v := ?_) rfl (by kernel_rfl) (by kernel_rfl) (by kernel_rfl) (fun _ _ _ h => h) (Or.inl ⟨by rfl, ?_⟩) hHeld ?_
          rotate_left
          · intro W0 hW; go_simp; (try with_reducible rfl)
          try simp only [Act.put, List.setIfInBounds_toArray, List.set_cons_zero, List.set_cons_succ, List.getElem_toArray, List.getElem_cons_zero, List.getElem_cons_succ]
          refine wpAnyH_ready (rs := [16]) (by kernel_rfl) (by simp) ?_
          refine AllReadyH.cons rfl (fun K hK => ?_) AllReadyH.nil
          obtain ⟨c2, c4, f2, f4⟩ := HB13.out.cells
          go_simp
          clear c2 c4 f2 f4
          have HB14 := Lib.hid (HB13.out.st5 (.slice (some ⟨hb, 0, none⟩) N N))
          refine hK.out _ _ ?_ (fun hHeld => ?_)
          · exact HB14.out.two
          clear hK K
          try simp only [Act.put, List.setIfInBounds_toArray, List.set_cons_zero, List.set_cons_succ, List.getElem_toArray, List.getElem_cons_zero, List.getElem_cons_succ]
          obtain ⟨v14, hv14⟩ : ∃ v, v13.setCell ⟨p, 4, none⟩ (.slice (some ⟨hb, 0, none⟩) N N) = v := ⟨_, rfl⟩
          rw [hv14] at HB14 hHeld ⊢
          clear hv14
          refine wpAnyH_done (by kernel_rfl) ?_ _
          clear hHeld
          go_wp2_with fail
          go_meet
          exact ⟨fb, hb, HB14.out.congr (fun j => by simp only [putO, six] <;> (repeat' split) <;> simp_all)⟩
        · obtain ⟨c2, c4, f2, f4⟩ := HB11.out.cells
          go_simp
          clear c2 c4 f2 f4
          have HB12 := Lib.hid (HB11.out.st4 (.slice (some ⟨fb, 0, none⟩) len len))
          refine hK.out _ _ ?_ (fun hHeld => ?_)
          · exact HB12.out.two
          clear hK K
          try simp only [Act.put, List.setIfInBounds_toArray, List.set_cons_zero, List.set_cons_succ, List.getElem_toArray, List.getElem_cons_zero, List.getElem_cons_succ]
          obtain ⟨v12, hv12⟩ : ∃ v, v11.setCell ⟨p, 2, none⟩ (.slice (some ⟨fb, 0, none⟩) len len) = v := ⟨_, rfl⟩
          rw [hv12] at HB12 hHeld ⊢
          clear hv12
          refine wpAnyH_ready (rs := [8]) (by kernel_rfl) (by simp) ?_
          refine AllReadyH.cons rfl (fun K hK => ?_) AllReadyH.nil
          go_simp
          have HB13 : Hid (BL w (v12.alloc (.cells (madeCells #[.int .i64 0] N) 2)) p N len cap a lb sb tb nb (putO _ 5 v12.heap.size) _ _) := Lib.hid (HB12.out.mk_ 5)
          refine hK.out _ _ ?_ (fun hHeld => ?_)
          · exact HB13.out.two
          clear hK K
          try simp only [Act.put, List.setIfInBounds_toArray, List.set_cons_zero, List.set_cons_succ, List.getElem_toArray, List.getElem_cons_zero, List.getElem_cons_succ]
          obtain ⟨hb, hhb⟩ : ∃ b, v12.heap.size = b := ⟨_, rfl⟩
          obtain ⟨v13, hv13⟩ : ∃ v, v12.alloc (.cells (madeCells #[.int .i64 0] N) 2) = v := ⟨_, rfl⟩
          rw [hhb, hv13] at HB13
          rw [hv13] at hHeld
          rw [hhb, hv13]
          clear hhb hv13
          refine wpAnyH_take (i := 13) (v := ?_) rfl (by kernel_rfl) (by kernel_rfl) (by kernel_rfl) (fun _ _ _ h => h) (Or.inl ⟨by rfl, ?_⟩) hHeld ?_
          rotate_left
          · intro W0 hW; go_simp; (try with_reducible rfl)
          try simp only [Act.put, List.setIfInBounds_toArray, List.set_cons_zero, List.set_cons_succ, List.getElem_toArray, List.getElem_cons_zero, List.getElem_cons_succ]
          refine wpAnyH_take (i := 14) (v := ?_) rfl (by kernel_rfl) (by kernel_rfl) (by kernel_rfl) (fun _ _ _ h => h) (Or.inl ⟨by rfl, ?_⟩) hHeld ?_
          rotate_left
          · intro W0 hW; go_simp; (try with_reducible rfl)
          try simp only [Act.put, List.setIfInBounds_toArray, List.set_cons_zero, List.set_cons_succ, List.getElem_toArray, List.getElem_cons_zero, List.getElem_cons_succ]
          refine wpAnyH_take (i := 15) (v := ?_) rfl (by kernel_rfl) (by kernel_rfl) (by kernel_rfl) (fun _ _ _ h => h) (Or.inl ⟨by rfl, ?_⟩) hHeld ?_
          rotate_left
          · intro W0 hW; go_simp; (try with_reducible rfl)
          try simp only [Act.put, List.setIfInBounds_toArray, List.set_cons_zero, List.set_cons_succ, List.getElem_toArray, List.getElem_cons_zero, List.getElem_cons_succ]
          refine wpAnyH_ready (rs := [16]) (by kernel_rfl) (by simp) ?_
          refine AllReadyH.cons rfl (fun K hK => ?_) AllReadyH.nil
          obtain ⟨c2, c4, f2, f4⟩ := HB13.out.cells
          go_simp
          clear c2 c4 f2 f4
          have HB14 := Lib.hid (HB13.out.st5 (.slice (some ⟨hb, 0, none⟩) N N))
          refine hK.out _ _ ?_ (fun hHeld => ?_)
          · exact HB14.out.two
          clear hK K
          try simp only [Act.put, List.setIfInBounds_toArray, List.set_cons_zero, List.set_cons_succ, List.getElem_toArray, List.getElem_cons_zero, List.getElem_cons_succ]
          obtain ⟨v14, hv14⟩ : ∃ v, v13.setCell ⟨p, 4, none⟩ (.slice (some ⟨hb, 0, none⟩) N N) = v := ⟨_, rfl⟩
          rw [hv14] at HB14 hHeld ⊢
          clear hv14
          refine wpAnyH_done (by kernel_rfl) ?_ _
          clear hHeld
          go_wp2_with fail
          go_meet
          exact ⟨fb, hb, HB14.out.congr (fun j => by simp only [putO, six] <;> (repeat' split) <;> simp_all)⟩
      · go_simp
        have HB11 : Hid (BL w (wz.alloc (.cells (madeCells #[.int .i64 0] N) 2)) p N len cap a lb sb tb nb (putO _ 5 wz.heap.size) _ _) := Lib.hid (HBd.out.mk_ 5)
        refine hK.out _ _ ?_ (fun hHeld => ?_)
        · exact HB11.out.two
        clear hK K
        try simp only [Act.put, List.setIfInBounds_toArray, List.set_cons_zero, List.set_cons_succ, List.getElem_toArray, List.getElem_cons_zero, List.getElem_cons_succ]
        obtain ⟨hb, hhb⟩ : ∃ b, wz.heap.size = b := ⟨_, rfl⟩
        obtain ⟨v11, hv11⟩ : ∃ v, wz.alloc (.cells (madeCells #[.int .i64 0] N) 2) = v := ⟨_, rfl⟩
        rw [hhb, hv11] at HB11
        rw [hv11] at hHeld
        rw [hhb, hv11]
        clear hhb hv11
        refine wpAnyH_ready (rs := [5]) (by kernel_rfl) (by simp) ?_
        refine AllReadyH.cons rfl (fun K hK => ?_) AllReadyH.nil
        go_simp
        have HB12 : Hid (BL w (v11.alloc (.cells (madeCells #[.int .i64 0] len) 2)) p N len cap a lb sb tb nb (putO _ 4 v11.heap.size) _ _) := Lib.hid (HB11.out.mk_ 4)
        refine hK.out _ _ ?_ (fun hHeld => ?_)
        · exact HB12.out.two
        clear hK K
        try simp only [Act.put, List.setIfInBounds_toArray, List.set_cons_zero, List.set_cons_succ, List.getElem_toArray, List.getElem_cons_zero, List.getElem_cons_succ]
        obtain ⟨fb, hfb⟩ : ∃ b, v11.heap.size = b := ⟨_, rfl⟩
        obtain ⟨v12, hv12⟩ : ∃ v, v11.alloc (.cells (madeCells #[.int .i64 0] len) 2) = v := ⟨_, rfl⟩
        rw [hfb, hv12] at HB12
        rw [hv12] at hHeld
        rw [hfb, hv12]
        clear hfb hv12
        refine wpAnyH_take (i := 9) (v := ?_) rfl (by kernel_rfl) (by kernel_rfl) (by kernel_rfl) (fun _ _ _ h => h) (Or.inl ⟨by rfl, ?_⟩) hHeld ?_
        rotate_left
        · intro W0 hW; go_simp; (try with_reducible rfl)
        try simp only [Act.put, List.setIfInBounds_toArray, List.set_cons_zero, List.set_cons_succ, List.getElem_toArray, List.getElem_cons_zero, List.getElem_cons_succ]
        refine wpAnyH_take (i := 10) (v := ?_) rfl (by kernel_rfl) (by kernel_rfl) (by kernel_rfl) (fun _ _ _ h => h) (Or.inl ⟨by rfl, ?_⟩) hHeld ?_
        rotate_left
        · intro W0 hW; go_simp; (try with_reducible rfl)
        try simp only [Act.put, List.setIfInBounds_toArray, List.set_cons_zero, List.set_cons_succ, List.getElem_toArray, List.getElem_cons_zero, List.getElem_cons_succ]
        refine wpAnyH_take (i := 11) (v := ?_) rfl (by kernel_rfl) (by kernel_rfl) (by kernel_rfl) (fun _ _ _ h => h) (Or.inl ⟨by rfl, ?_⟩) hHeld ?_
        rotate_left
        · intro W0 hW; go_simp; (try with_reducible rfl)
        try simp only [Act.put, List.setIfInBounds_toArray, List.set_cons_zero, List.set_cons_succ, List.getElem_toArray, List.getElem_cons_zero, List.getElem_cons_succ]
        refine wpAnyH_ready (rs := [12]) (by kernel_rfl) (by simp) ?_
        refine AllReadyH.cons rfl (fun K hK => ?_) AllReadyH.nil
        obtain ⟨c2, c4, f2, f4⟩ := HB12.out.cells
        go_simp
        clear c2 c4 f2 f4
        have HB13 := Lib.hid (HB12.out.st4 (.slice (some ⟨fb, 0, none⟩) len len))
        refine hK.out _ _ ?_ (fun hHeld => ?_)
        · exact HB13.out.two
        clear hK K
        try simp only [Act.put, List.setIfInBounds_toArray, List.set_cons_zero, List.set_cons_succ, List.getElem_toArray, List.getElem_cons_zero, List.getElem_cons_succ]
        obtain ⟨v13, hv13⟩ : ∃ v, v12.setCell ⟨p, 2, none⟩ (.slice (some ⟨fb, 0, none⟩) len len) = v := ⟨_, rfl⟩
        rw [hv13] at HB13 hHeld ⊢
        clear hv13
        refine wpAnyH_take (i := 13) (v := ?_) rfl (by kernel_rfl) (by kernel_rfl) (by kernel_rfl) (fun _ _ _ h => h) (Or.inl ⟨by rfl, ?_⟩) hHeld ?_
        rotate_left
        · intro W0 hW; go_simp; (try with_reducible rfl)
        try simp only [Act.put, List.setIfInBounds_toArray, List.set_cons_zero, List.set_cons_succ, List.getElem_toArray, List.getElem_cons_zero, List.getElem_cons_succ]
        refine wpAnyH_take (i := 14) (v := ?_) rfl (by kernel_rfl) (by kernel_rfl) (by kernel_rfl) (fun _ _ _ h => h) (Or.inl ⟨by rfl, ?_⟩) hHeld ?_
        rotate_left
        · intro W0 hW; go_simp; (try with_reducible rfl)
        try simp only [Act.put, List.setIfInBounds_toArray, List.set_cons_zero, List.set_cons_succ, List.getElem_toArray, List.getElem_cons_zero, List.getElem_cons_succ]
        refine wpAnyH_take (i := 15) (v := ?_) rfl (by kernel_rfl) (by kernel_rfl) (by kernel_rfl) (fun _ _ _ h => h) (Or.inl ⟨by rfl, ?_⟩) hHeld ?_
        rotate_left
        · intro W0 hW; go_simp; (try with_reducible rfl)
        try simp only [Act.put, List.setIfInBounds_toArray, List.set_cons_zero, List.set_cons_succ, List.getElem_toArray, List.getElem_cons_zero, List.getElem_cons_succ]
        refine wpAnyH_ready (rs := [16]) (by kernel_rfl) (by simp) ?_
        refine AllReadyH.cons rfl (fun K hK => ?_) AllReadyH.nil
        obtain ⟨c2, c4, f2, f4⟩ := HB13.out.cells
        go_simp
        clear c2 c4 f2 f4
        have HB14 := Lib.hid (HB13.out.st5 (.slice (some ⟨hb, 0, none⟩) N N))
        refine hK.out _ _ ?_ (fun hHeld => ?_)
        · exact HB14.out.two
        clear hK K
        try simp only [Act.put, List.setIfInBounds_toArray, List.set_cons_zero, List.set_cons_succ, List.getElem_toArray, List.getElem_cons_zero, List.getElem_cons_succ]
        obtain ⟨v14, hv14⟩ : ∃ v, v13.setCell ⟨p, 4, none⟩ (.slice (some ⟨hb, 0, none⟩) N N) = v := ⟨_, rfl⟩
        rw [hv14] at HB14 hHeld ⊢
        clear hv14
        refine wpAnyH_done (by kernel_rfl) ?_ _
        clear hHeld
        go_wp2_with fail
        go_meet
        exact ⟨fb, hb, HB14.out.congr (fun j => by simp only [putO, six] <;> (repeat' split) <;> simp_all)⟩
    case rest =>
      obtain ⟨fb, hb, hB⟩ := hcut
      have HG0 := Lib.hid (Bg.begin_ hB l)
      clear hB HB1
      obtain ⟨D0, hD0⟩ : ∃ D0, wc.heap.size = D0 := ⟨_, rfl⟩
      rw [hD0] at HG0
      clear hD0
      have b1 := HG0.out.cells.1
      go_wp2_with fail
      clear b1 hmk0 hmk1 hmk2 hmk4
      go_loopw [42] (fun i wr => ∃ (k co : Nat) (V : Nat → Value), i = .int .i64 (k : Int) ∧ k ≤ len ∧ co ≤ 33 ∧ Hid (∀ (j : Nat) (x : Pi), j < k → l[j]? = some x → x.2.2.2 < 2 ^ co) ∧ Hid (Bg w wr p fb sb hb tb nb lb D0 N len cap a V (fun i => lanesK l i k) (co : Int))) (fun i _ => len - (intOf i).toNat)
      case atStart => exact ⟨0, 0, _, rfl, Nat.zero_le _, Nat.zero_le _, Lib.hid (fun j x hj => by omega), HG0⟩
      case round =>
        clear HG0
        obtain ⟨k, co, V, rfl, hk, hco, HCO, HG⟩ := hrel
        by_cases hlt : k < len
        · obtain ⟨pb, off, x, rfl, hpb, hx, p0, p1, p2, p3⟩ := (HL.out.later HG.out.below).at_ hlt
          have hmem := List.mem_of_getElem? hx
          have hxo := okP_true.1 (HOK.out x hmem)
          have hxc := HCS.out x hmem
          clear hmem
          obtain ⟨f0, t0, x3, c0⟩ := x
          simp only at p0 p1 p2 p3 hxo hxc
          obtain ⟨f, rfl⟩ : ∃ f : Nat, f0 = (f : Int) := ⟨f0.toNat, by omega⟩
          obtain ⟨q, rfl⟩ : ∃ q : Nat, t0 = (q : Int) := ⟨t0.toNat, by omega⟩
          obtain ⟨c4, rfl⟩ : ∃ c4 : Nat, c0 = (c4 : Int) := ⟨c0.toNat, by omega⟩
          have HX := Lib.hid hx
          have hf : f < N := by omega
          have hq : q < N := by omega
          have hc4 : c4 ≤ 4294967296 := by omega
          have hcv : IntKind.u64.wrap (c4 : Int) = (c4 : Int) := by show (c4 : Int) % 18446744073709551616 = (c4 : Int); omega
          have HLC := Lib.hid (fun W => len64_any c4 W hc4)
          clear hx hxo hxc
          have HLL : Hid (lb < wr.heap.size ∧ p < wr.heap.size ∧ p ≠ lb) := Lib.hid ⟨by have := HG.out.dis.dl; have := HG.out.size; omega, by have := HG.out.dis.dp; have := HG.out.size; omega, HG.out.dis.lp.symm⟩
          have HAV0 : Hid (∀ i, i < N → ¬ ((V i).ownBlock = some wr.heap.size) ∧ ¬ ((V i).ownBlock = some p)) := Lib.hid (fun i hi => ⟨fun e => by have := (World.ownsRow.lt (HG.out.adj.row i hi) _ e).2; omega, fun e => by have := (World.ownsRow.lt (HG.out.adj.row i hi) _ e).1; have := HG.out.dis.dp; omega⟩)
          have HG1a := Lib.hid (HG.out.later ((Below.refl wr.heap.size wr).alloc (Nat.le_refl _) (.cells #[.int .i64 (f : Int), .int .i64 (q : Int), .int .i64 x3, .int .i64 (c4 : Int)] 47)))
          have HP1a : Hid (PC (wr.alloc (.cells #[.int .i64 (f : Int), .int .i64 (q : Int), .int .i64 x3, .int .i64 (c4 : Int)] 47)) wr.heap.size ((f : Int), (q : Int), x3, (c4 : Int))) := Lib.hid (heap_alloc_new _ _)
          go_wp2_with fail
          obtain ⟨ab, hab⟩ : ∃ ab, wr.heap.size = ab := ⟨_, rfl⟩
          obtain ⟨wa, hwa⟩ : ∃ wa, wr.alloc (.cells #[.int .i64 (f : Int), .int .i64 (q : Int), .int .i64 x3, .int .i64 (c4 : Int)] 47) = wa := ⟨_, rfl⟩
          rw [hwa] at HG1a HP1a
          rw [hab] at HP1a HLL HAV0
          rw [hab, hwa]
          have HAP : Hid (ab ≠ p) := Lib.hid (by have := HLL.out; omega)
          have HAB : Hid (ab ≠ lb ∧ p ≠ lb) := Lib.hid ⟨by have := HLL.out; omega, HLL.out.2.2⟩
          clear hab hwa HG p0 p1 p2 p3
          go_cut [] from 47 to 58 (fun wx => ∃ m : Nat, m ≤ 33 ∧ (∀ (j : Nat) (x : Pi), j < k + 1 → l[j]? = some x → x.2.2.2 < 2 ^ m) ∧ Bg w wx p fb sb hb tb nb lb D0 N len cap (some ⟨pb, off, none⟩) V (fun i => lanesK l i k) (m : Int) ∧ PC wx ab ((f : Int), (q : Int), x3, (c4 : Int)))
          case first =>
            have h3 : (wa.drew).cell? ⟨ab, 3, none⟩ = some (.int .i64 (c4 : Int)) := HP1a.out.cells.2.2
            refine wp_region_held_drew (S := fun W => W.cell? ⟨ab, 3, none⟩ = some (.int .i64 (c4 : Int))) (by kernel_rfl) h3 (fun hHeld => ?_)
            obtain ⟨wz, hwz⟩ : ∃ wz, World.drew wa = wz := ⟨_, rfl⟩
            have HG1 : Hid (Bg w wz p fb sb hb tb nb lb D0 N len cap (some ⟨pb, off, none⟩) V (fun i => lanesK l i k) (co : Int)) := Lib.hid (hwz ▸ HG1a.out.later (Below.refl _ _).drew)
            have HP1 : Hid (PC wz ab ((f : Int), (q : Int), x3, (c4 : Int))) := Lib.hid (hwz ▸ HP1a.out)
            rw [hwz] at hHeld ⊢
            clear hwz h3 HG1a HP1a
            obtain ⟨_, x5, _, f5⟩ := HG1.out.cells
            refine wpAnyH_take (i := 0) (v := ?_) rfl (by kernel_rfl) (by kernel_rfl) (by kernel_rfl) (fun _ _ _ h => h) (Or.inl ⟨by rfl, ?_⟩) hHeld ?_
            rotate_left
            · intro W0 hW; have hW1 := hW; go_simp; (try with_reducible rfl)
            try simp only [Act.put, List.setIfInBounds_toArray, List.set_cons_zero, List.set_cons_succ, List.getElem_toArray, List.getElem_cons_zero]
            refine wpAnyH_take (i := 1) (v := ?_) rfl (by kernel_rfl) (by kernel_rfl) (by kernel_rfl) (fun _ _ _ h => h) (Or.inl ⟨by rfl, ?_⟩) hHeld ?_
            rotate_left
            · intro W0 hW; have hW1 := hW; go_simp; (try with_reducible rfl)
            try simp only [Act.put, List.setIfInBounds_toArray, List.set_cons_zero, List.set_cons_succ, List.getElem_toArray, List.getElem_cons_zero, List.getElem_cons_succ]
            refine wpAnyH_take (i := 2) (v := ?_) rfl (by kernel_rfl) (by kernel_rfl) (by kernel_rfl) (fun _ _ _ h => h) (Or.inl ⟨by rfl, ?_⟩) hHeld ?_
            rotate_left
            · intro W0 hW; have hW1 := hW; go_simp; (try with_reducible rfl)
            try simp only [Act.put, List.setIfInBounds_toArray, List.set_cons_zero, List.set_cons_succ, List.getElem_toArray, List.getElem_cons_zero, List.getElem_cons_succ]
            refine wpAnyH_take (i := 3) (v := ?_) rfl (by kernel_rfl) (by kernel_rfl) (by kernel_rfl) (fun _ _ _ h => h) (Or.inl ⟨by rfl, ?_⟩) hHeld ?_
            rotate_left
            · intro W0 hW; have hW1 := hW; go_simp; (try with_reducible rfl)
            try simp only [Act.put, List.setIfInBounds_toArray, List.set_cons_zero, List.set_cons_succ, List.getElem_toArray, List.getElem_cons_zero, List.getElem_cons_succ]
            refine wpAnyH_take (i := 5) (v := ?_) rfl (by kernel_rfl) (by kernel_rfl) (by kernel_rfl) (fun _ _ _ h => h) (Or.inl ⟨by rfl, ?_⟩) hHeld ?_
            rotate_left
            · intro W0 hW; have hW1 := hW; go_simp; (try with_reducible rfl)
            try simp only [Act.put, List.setIfInBounds_toArray, List.set_cons_zero, List.set_cons_succ, List.getElem_toArray, List.getElem_cons_zero, List.getElem_cons_succ]
            refine wpAnyH_take (i := 6) (v := ?_) rfl (by kernel_rfl) (by kernel_rfl) (by kernel_rfl) (fun _ _ _ h => h) (Or.inl ⟨by rfl, ?_⟩) hHeld ?_
            rotate_left
            · intro W0 hW; have hW1 := hW; go_simp; (try with_reducible rfl)
            try simp only [Act.put, List.setIfInBounds_toArray, List.set_cons_zero, List.set_cons_succ, List.getElem_toArray, List.getElem_cons_zero, List.getElem_cons_succ]
            refine wpAnyH_take (i := 7) (v := ?_) rfl (by kernel_rfl) (by kernel_rfl) (by kernel_rfl) (fun _ _ _ h => h) (Or.inl ⟨by rfl, ?_⟩) hHeld ?_
            rotate_left
            · intro W0 hW; have hW1 := hW; go_simp; (try with_reducible rfl)
            try simp only [Act.put, List.setIfInBounds_toArray, List.set_cons_zero, List.set_cons_succ, List.getElem_toArray, List.getElem_cons_zero, List.getElem_cons_succ]
            refine wpAnyH_ready (rs := [4, 8]) (by kernel_rfl) (by simp) ?_
            refine AllReadyH.cons rfl (fun K hK => ?_) (AllReadyH.cons rfl (fun K hK => ?_) AllReadyH.nil)
            · go_simp
              refine hK.out _ _ ?_ (fun hHeld => ?_)
              · exact hHeld
              clear hK K
              try simp only [Act.put, List.setIfInBounds_toArray, List.set_cons_zero, List.set_cons_succ, List.getElem_toArray, List.getElem_cons_zero, List.getElem_cons_succ]
              refine wpAnyH_ready (rs := [8]) (by kernel_rfl) (by simp) ?_
              refine AllReadyH.cons rfl (fun K hK => ?_) AllReadyH.nil
              go_simp
              refine (HLC.out wz).mono ?_
              rintro e w5 ⟨n, rfl, hn33, hn2, rfl⟩
              have HN33 := Lib.hid hn33
              have HN2 := Lib.hid hn2
              clear hn33 hn2
              refine hK.out _ _ ?_ (fun hHeld => ?_)
              · exact hHeld
              clear hK K
              try simp only [Act.put, List.setIfInBounds_toArray, List.set_cons_zero, List.set_cons_succ, List.getElem_toArray, List.getElem_cons_zero, List.getElem_cons_succ]
              rcases Int.lt_or_le (co : Int) (n : Int) with hcn | hcn
              · have hcd : decide ((co : Int) < (n : Int)) = true := by simp; omega
                refine wpAnyH_take (i := 9) (v := ?_) rfl (by kernel_rfl) (by kernel_rfl) (by kernel_rfl) (fun _ _ _ h => h) (Or.inl ⟨by rfl, ?_⟩) hHeld ?_
                rotate_left
                · intro W0 hW; have hW1 := hW; go_simp; (try with_reducible rfl)
                try simp only [Act.put, List.setIfInBounds_toArray, List.set_cons_zero, List.set_cons_succ, List.getElem_toArray, List.getElem_cons_zero, List.getElem_cons_succ]
                refine wpAnyH_take (i := 10) (v := ?_) rfl (by kernel_rfl) (by kernel_rfl) (by kernel_rfl) (fun _ _ _ h => h) (Or.inl ⟨by rfl, ?_⟩) hHeld ?_
                rotate_left
                · intro W0 hW; have hW1 := hW; go_simp; (try with_reducible rfl)
                try simp only [Act.put, List.setIfInBounds_toArray, List.set_cons_zero, List.set_cons_succ, List.getElem_toArray, List.getElem_cons_zero, List.getElem_cons_succ]
                refine wpAnyH_take (i := 11) (v := ?_) rfl (by kernel_rfl) (by kernel_rfl) (by kernel_rfl) (fun _ _ _ h => h) (Or.inl ⟨by rfl, ?_⟩) hHeld ?_
                rotate_left
                · intro W0 hW; have hW1 := hW; go_simp; (try with_reducible rfl)
                try simp only [Act.put, List.setIfInBounds_toArray, List.set_cons_zero, List.set_cons_succ, List.getElem_toArray, List.getElem_cons_zero, List.getElem_cons_succ]
                refine wpAnyH_ready (rs := [12]) (by kernel_rfl) (by simp) ?_
                refine AllReadyH.cons rfl (fun K hK => ?_) AllReadyH.nil
                have HG2 := Lib.hid (HG1.out.setCo (n : Int))
                go_simp
                refine hK.out _ _ ?_ (fun hHeld => ?_)
                · exact (World.cell?_of_block (heap_setCell_other _ _ _ _ (fun e => HAP.out e))).trans hHeld
                clear hK K
                try simp only [Act.put, List.setIfInBounds_toArray, List.set_cons_zero, List.set_cons_succ, List.getElem_toArray, List.getElem_cons_zero, List.getElem_cons_succ]
                refine wpAnyH_done (by kernel_rfl) ?_ _
                have hmm : max co n = n := by omega
                clear hHeld x5 f5
                go_wp2_with fail
                go_meet
                exact ⟨n, by have := HN33.out; omega, maxed HCO.out HX.out HN2.out hmm, HG2.out, HP1.out.set_ HAP.out⟩
              · have hcx : ¬ (co : Int) < (n : Int) := by omega
                have hcd : decide ((co : Int) < (n : Int)) = false := by simp; omega
                refine wpAnyH_take (i := 9) (v := ?_) rfl (by kernel_rfl) (by kernel_rfl) (by kernel_rfl) (fun _ _ _ h => h) (Or.inl ⟨by rfl, ?_⟩) hHeld ?_
                rotate_left
                · intro W0 hW; have hW1 := hW; go_simp; (try with_reducible rfl)
                try simp only [Act.put, List.setIfInBounds_toArray, List.set_cons_zero, List.set_cons_succ, List.getElem_toArray, List.getElem_cons_zero, List.getElem_cons_succ]
                refine wpAnyH_take (i := 10) (v := ?_) rfl (by kernel_rfl) (by kernel_rfl) (by kernel_rfl) (fun _ _ _ h => h) (Or.inl ⟨by rfl, ?_⟩) hHeld ?_
                rotate_left
                · intro W0 hW; have hW1 := hW; go_simp; (try with_reducible rfl)
                try simp only [Act.put, List.setIfInBounds_toArray, List.set_cons_zero, List.set_cons_succ, List.getElem_toArray, List.getElem_cons_zero, List.getElem_cons_succ]
                refine wpAnyH_take (i := 11) (v := ?_) rfl (by kernel_rfl) (by kernel_rfl) (by kernel_rfl) (fun _ _ _ h => h) (Or.inl ⟨by rfl, ?_⟩) hHeld ?_
                rotate_left
                · intro W0 hW; have hW1 := hW; go_simp; (try with_reducible rfl)
                try simp only [Act.put, List.setIfInBounds_toArray, List.set_cons_zero, List.set_cons_succ, List.getElem_toArray, List.getElem_cons_zero, List.getElem_cons_succ]
                refine wpAnyH_ready (rs := [12]) (by kernel_rfl) (by simp) ?_
                refine AllReadyH.cons rfl (fun K hK => ?_) AllReadyH.nil
                have HG2 := Lib.hid (HG1.out.setCo (co : Int))
                go_simp
                refine hK.out _ _ ?_ (fun hHeld => ?_)
                · exact (World.cell?_of_block (heap_setCell_other _ _ _ _ (fun e => HAP.out e))).trans hHeld
                clear hK K
                try simp only [Act.put, List.setIfInBounds_toArray, List.set_cons_zero, List.set_cons_succ, List.getElem_toArray, List.getElem_cons_zero, List.getElem_cons_succ]
                refine wpAnyH_done (by kernel_rfl) ?_ _
                have hmm : max co n = co := by omega
                clear hHeld x5 f5
                go_wp2_with fail
                go_meet
                exact ⟨co, by have := HN33.out; omega, maxed HCO.out HX.out HN2.out hmm, HG2.out, HP1.out.set_ HAP.out⟩
            · go_simp
              refine (HLC.out wz).mono ?_
              rintro e w5 ⟨n, rfl, hn33, hn2, rfl⟩
              have HN33 := Lib.hid hn33
              have HN2 := Lib.hid hn2
              clear hn33 hn2
              refine hK.out _ _ ?_ (fun hHeld => ?_)
              · exact hHeld
              clear hK K
              try simp only [Act.put, List.setIfInBounds_toArray, List.set_cons_zero, List.set_cons_succ, List.getElem_toArray, List.getElem_cons_zero, List.getElem_cons_succ]
              refine wpAnyH_ready (rs := [4]) (by kernel_rfl) (by simp) ?_
              refine AllReadyH.cons rfl (fun K hK => ?_) AllReadyH.nil
              go_simp
              refine hK.out _ _ ?_ (fun hHeld => ?_)
              · exact hHeld
              clear hK K
              try simp only [Act.put, List.setIfInBounds_toArray, List.set_cons_zero, List.set_cons_succ, List.getElem_toArray, List.getElem_cons_zero, List.getElem_cons_succ]
              rcases Int.lt_or_le (co : Int) (n : Int) with hcn | hcn
              · have hcd : decide ((co : Int) < (n : Int)) = true := by simp; omega
                refine wpAnyH_take (i := 9) (v := ?_) rfl (by kernel_rfl) (by kernel_rfl) (by kernel_rfl) (fun _ _ _ h => h) (Or.inl ⟨by rfl, ?_⟩) hHeld ?_
                rotate_left
                · intro W0 hW; have hW1 := hW; go_simp; (try with_reducible rfl)
                try simp only [Act.put, List.setIfInBounds_toArray, List.set_cons_zero, List.set_cons_succ, List.getElem_toArray, List.getElem_cons_zero, List.getElem_cons_succ]
                refine wpAnyH_take (i := 10) (v := ?_) rfl (by kernel_rfl) (by kernel_rfl) (by kernel_rfl) (fun _ _ _ h => h) (Or.inl ⟨by rfl, ?_⟩) hHeld ?_
                rotate_left
                · intro W0 hW; have hW1 := hW; go_simp; (try with_reducible rfl)
                try simp only [Act.put, List.setIfInBounds_toArray, List.set_cons_zero, List.set_cons_succ, List.getElem_toArray, List.getElem_cons_zero, List.getElem_cons_succ]
                refine wpAnyH_take (i := 11) (v := ?_) rfl (by kernel_rfl) (by kernel_rfl) (by kernel_rfl) (fun _ _ _ h => h) (Or.inl ⟨by rfl, ?_⟩) hHeld ?_
                rotate_left
                · intro W0 hW; have hW1 := hW; go_simp; (try with_reducible rfl)
                try simp only [Act.put, List.setIfInBounds_toArray, List.set_cons_zero, List.set_cons_succ, List.getElem_toArray, List.getElem_cons_zero, List.getElem_cons_succ]
                refine wpAnyH_ready (rs := [12]) (by kernel_rfl) (by simp) ?_
                refine AllReadyH.cons rfl (fun K hK => ?_) AllReadyH.nil
                have HG2 := Lib.hid (HG1.out.setCo (n : Int))
                go_simp
                refine hK.out _ _ ?_ (fun hHeld => ?_)
                · exact (World.cell?_of_block (heap_setCell_other _ _ _ _ (fun e => HAP.out e))).trans hHeld
                clear hK K
                try simp only [Act.put, List.setIfInBounds_toArray, List.set_cons_zero, List.set_cons_succ, List.getElem_toArray, List.getElem_cons_zero, List.getElem_cons_succ]
                refine wpAnyH_done (by kernel_rfl) ?_ _
                have hmm : max co n = n := by omega
                clear hHeld x5 f5
                go_wp2_with fail
                go_meet
                exact ⟨n, by have := HN33.out; omega, maxed HCO.out HX.out HN2.out hmm, HG2.out, HP1.out.set_ HAP.out⟩
              · have hcx : ¬ (co : Int) < (n : Int) := by omega
                have hcd : decide ((co : Int) < (n : Int)) = false := by simp; omega
                refine wpAnyH_take (i := 9) (v := ?_) rfl (by kernel_rfl) (by kernel_rfl) (by kernel_rfl) (fun _ _ _ h => h) (Or.inl ⟨by rfl, ?_⟩) hHeld ?_
                rotate_left
                · intro W0 hW; have hW1 := hW; go_simp; (try with_reducible rfl)
                try simp only [Act.put, List.setIfInBounds_toArray, List.set_cons_zero, List.set_cons_succ, List.getElem_toArray, List.getElem_cons_zero, List.getElem_cons_succ]
                refine wpAnyH_take (i := 10) (v := ?_) rfl (by kernel_rfl) (by kernel_rfl) (by kernel_rfl) (fun _ _ _ h => h) (Or.inl ⟨by rfl, ?_⟩) hHeld ?_
                rotate_left
                · intro W0 hW; have hW1 := hW; go_simp; (try with_reducible rfl)
                try simp only [Act.put, List.setIfInBounds_toArray, List.set_cons_zero, List.set_cons_succ, List.getElem_toArray, List.getElem_cons_zero, List.getElem_cons_succ]
                refine wpAnyH_take (i := 11) (v := ?_) rfl (by kernel_rfl) (by kernel_rfl) (by kernel_rfl) (fun _ _ _ h => h) (Or.inl ⟨by rfl, ?_⟩) hHeld ?_
                rotate_left
                · intro W0 hW; have hW1 := hW; go_simp; (try with_reducible rfl)
                try simp only [Act.put, List.setIfInBounds_toArray, List.set_cons_zero, List.set_cons_succ, List.getElem_toArray, List.getElem_cons_zero, List.getElem_cons_succ]
                refine wpAnyH_ready (rs := [12]) (by kernel_rfl) (by simp) ?_
                refine AllReadyH.cons rfl (fun K hK => ?_) AllReadyH.nil
                have HG2 := Lib.hid (HG1.out.setCo (co : Int))
                go_simp
                refine hK.out _ _ ?_ (fun hHeld => ?_)
                · exact (World.cell?_of_block (heap_setCell_other _ _ _ _ (fun e => HAP.out e))).trans hHeld
                clear hK K
                try simp only [Act.put, List.setIfInBounds_toArray, List.set_cons_zero, List.set_cons_succ, List.getElem_toArray, List.getElem_cons_zero, List.getElem_cons_succ]
                refine wpAnyH_done (by kernel_rfl) ?_ _
                have hmm : max co n = co := by omega
                clear hHeld x5 f5
                go_wp2_with fail
                go_meet
                exact ⟨co, by have := HN33.out; omega, maxed HCO.out HX.out HN2.out hmm, HG2.out, HP1.out.set_ HAP.out⟩
          case rest =>
            obtain ⟨m, hm33, hmc, hG, hP⟩ := hcut
            have HMC := Lib.hid hmc
            have HG3 := Lib.hid hG
            have HP3 : Hid (PipK ab p lb N f q wc) := Lib.hid ⟨hP.cells.1, hP.cells.2.1, hG.cells.2.2.1, hP.lt, by have := hG.dis.dp; have := hG.size; omega⟩
            clear hmc hG hP HG1a HP1a
            obtain ⟨RA, hRA⟩ : ∃ RA : Nat → List La, (fun i => lanesK l i k) = RA := ⟨_, rfl⟩
            have HRLA : Hid (∀ i, (RA i).length ≤ 40001) := Lib.hid (fun i => by rw [← hRA]; have := lanesK_le l i k; simp only; omega)
            have HRAE := Lib.hid hRA
            rw [hRA] at HG3
            clear hRA
            have HAVA := HAV0
            go_wp2_with fail
            go_cut [] from 59 to 79 (fun wx => ∃ VB, Bg w wx p fb sb hb tb nb lb D0 N len cap (some ⟨pb, off, none⟩) VB (fun j => if j = f then RA f ++ [(k, q, false)] else RA j) (m : Int) ∧ PipK ab p lb N f q wx ∧ ∀ i, i < N → ¬ ((VB i).ownBlock = some ab) ∧ ¬ ((VB i).ownBlock = some p))
            case first =>
              obtain ⟨vaA, vcA, hvA⟩ := owns_shape (HG3.out.adj.row f hf)
              have HVVA := Lib.hid hvA
              have HYA := Lib.hid (HG3.out.later (((Below.refl wc.heap.size wc).drew).alloc (Nat.le_refl _) (.cells #[.int .i64 (k : Int), .int .i64 (q : Int), .bool false] 90)))
              have cA := HG3.out.adj.out.cell hf
              have dA := HYA.out.adj.out.cell hf
              rw [hvA] at cA dA
              have d2A : (wc.alloc (.cells #[.int .i64 (k : Int), .int .i64 (q : Int), .bool false] 90)).cell? ⟨lb, f, none⟩ = some (.slice vaA (RA f).length vcA) := dA
              obtain ⟨nlA, hnlA⟩ : ∃ m, (RA f).length = m := ⟨_, rfl⟩
              have HNLA := Lib.hid hnlA
              have hmlA : nlA ≤ 40001 := by rw [← hnlA]; exact HRLA.out f
              have HOA : Hid ((wc.drew.alloc (.cells #[.int .i64 (k : Int), .int .i64 (q : Int), .bool false] 90)).ownsRow D0 90 3 (.slice vaA nlA vcA) nlA (flatL (RA f))) := Lib.hid (by have := HYA.out.adj.row f hf; rw [hvA] at this; simp only [hnlA] at this; exact this)
              rw [hnlA] at cA dA d2A
              have hvbA : (Value.slice vaA nlA vcA).ownBlock = (V f).ownBlock := by rw [hvA, hnlA]
              have HVBA := Lib.hid hvbA
              have HDA := Lib.hid (show PipK ab p lb N f q wc.drew from HP3.out)
              have HSZA : Hid (D0 ≤ (wc.drew.alloc (.cells #[.int .i64 (k : Int), .int .i64 (q : Int), .bool false] 90)).heap.size) := Lib.hid HYA.out.size
              have HNSA : Hid (¬ ((Value.slice vaA nlA vcA).ownBlock = some ab) ∧ ¬ ((Value.slice vaA nlA vcA).ownBlock = some p)) := Lib.hid (by rw [hvbA]; exact HAVA.out f hf)
              clear hvA hnlA hvbA
              refine wp_region_held_drew (S := PipK ab p lb N f q) (by kernel_rfl) HDA.out (fun hHeld => ?_)
              refine wpAnyH_take (i := 0) (v := ?_) rfl (by kernel_rfl) (by kernel_rfl) (by kernel_rfl) (fun _ _ _ h => h) (Or.inl ⟨by rfl, ?_⟩) hHeld ?_
              rotate_left
              · intro W0 hW; obtain ⟨hW1, hW2, hW3, hW4⟩ := hW; go_simp; (try with_reducible rfl)
              try simp only [Act.put, List.setIfInBounds_toArray, List.set_cons_zero, List.set_cons_succ, List.getElem_toArray, List.getElem_cons_zero]
              refine wpAnyH_take (i := 1) (v := ?_) rfl (by kernel_rfl) (by kernel_rfl) (by kernel_rfl) (fun _ _ _ h => h) (Or.inl ⟨by rfl, ?_⟩) hHeld ?_
              rotate_left
              · intro W0 hW; obtain ⟨hW1, hW2, hW3, hW4⟩ := hW; go_simp; (try with_reducible rfl)
              try simp only [Act.put, List.setIfInBounds_toArray, List.set_cons_zero, List.set_cons_succ, List.getElem_toArray, List.getElem_cons_zero, List.getElem_cons_succ]
              refine wpAnyH_take (i := 2) (v := ?_) rfl (by kernel_rfl) (by kernel_rfl) (by kernel_rfl) (fun _ _ _ h => h) (Or.inl ⟨by rfl, ?_⟩) hHeld ?_
              rotate_left
              · intro W0 hW; obtain ⟨hW1, hW2, hW3, hW4⟩ := hW; go_simp; (try with_reducible rfl)
              try simp only [Act.put, List.setIfInBounds_toArray, List.set_cons_zero, List.set_cons_succ, List.getElem_toArray, List.getElem_cons_zero, List.getElem_cons_succ]
              refine wpAnyH_take (i := 3) (v := ?_) rfl (by kernel_rfl) (by kernel_rfl) (by kernel_rfl) (fun _ _ _ h => h) (Or.inl ⟨by rfl, ?_⟩) hHeld ?_
              rotate_left
              · intro W0 hW; obtain ⟨hW1, hW2, hW3, hW4⟩ := hW; go_simp; (try with_reducible rfl)
              try simp only [Act.put, List.setIfInBounds_toArray, List.set_cons_zero, List.set_cons_succ, List.getElem_toArray, List.getElem_cons_zero, List.getElem_cons_succ]
              refine wpAnyH_take (i := 4) (v := ?_) rfl (by kernel_rfl) (by kernel_rfl) (by kernel_rfl) (fun _ _ _ h => h) (Or.inl ⟨by rfl, ?_⟩) hHeld ?_
              rotate_left
              · intro W0 hW; obtain ⟨hW1, hW2, hW3, hW4⟩ := hW; go_simp; (try with_reducible rfl)
              try simp only [Act.put, List.setIfInBounds_toArray, List.set_cons_zero, List.set_cons_succ, List.getElem_toArray, List.getElem_cons_zero, List.getElem_cons_succ]
              refine wpAnyH_take (i := 5) (v := ?_) rfl (by kernel_rfl) (by kernel_rfl) (by kernel_rfl) (fun _ _ _ h => h) (Or.inl ⟨by rfl, ?_⟩) hHeld ?_
              rotate_left
              · intro W0 hW; obtain ⟨hW1, hW2, hW3, hW4⟩ := hW; go_simp; (try with_reducible rfl)
              try simp only [Act.put, List.setIfInBounds_toArray, List.set_cons_zero, List.set_cons_succ, List.getElem_toArray, List.getElem_cons_zero, List.getElem_cons_succ]
              refine wpAnyH_take (i := 6) (v := ?_) rfl (by kernel_rfl) (by kernel_rfl) (by kernel_rfl) (fun _ _ _ h => h) (Or.inl ⟨by rfl, ?_⟩) hHeld ?_
              rotate_left
              · intro W0 hW; obtain ⟨hW1, hW2, hW3, hW4⟩ := hW; go_simp; (try with_reducible rfl)
              try simp only [Act.put, List.setIfInBounds_toArray, List.set_cons_zero, List.set_cons_succ, List.getElem_toArray, List.getElem_cons_zero, List.getElem_cons_succ]
              refine wpAnyH_take (i := 7) (v := ?_) rfl (by kernel_rfl) (by kernel_rfl) (by kernel_rfl) (fun _ _ _ h => h) (Or.inl ⟨by rfl, ?_⟩) hHeld ?_
              rotate_left
              · intro W0 hW; obtain ⟨hW1, hW2, hW3, hW4⟩ := hW; go_simp; (try with_reducible rfl)
              try simp only [Act.put, List.setIfInBounds_toArray, List.set_cons_zero, List.set_cons_succ, List.getElem_toArray, List.getElem_cons_zero, List.getElem_cons_succ]
              refine wpAnyH_take (i := 8) (v := ?_) rfl (by kernel_rfl) (by kernel_rfl) (by kernel_rfl) (fun _ _ _ h => h) (Or.inl ⟨by rfl, ?_⟩) hHeld ?_
              rotate_left
              · intro W0 hW; obtain ⟨hW1, hW2, hW3, hW4⟩ := hW; go_simp; (try with_reducible rfl)
              try simp only [Act.put, List.setIfInBounds_toArray, List.set_cons_zero, List.set_cons_succ, List.getElem_toArray, List.getElem_cons_zero, List.getElem_cons_succ]
              refine wpAnyH_take (i := 9) (v := ?_) rfl (by kernel_rfl) (by kernel_rfl) (by kernel_rfl) (fun _ _ _ h => h) (Or.inl ⟨by rfl, ?_⟩) hHeld ?_
              rotate_left
              · intro W0 hW; obtain ⟨hW1, hW2, hW3, hW4⟩ := hW; go_simp; (try with_reducible rfl)
              try simp only [Act.put, List.setIfInBounds_toArray, List.set_cons_zero, List.set_cons_succ, List.getElem_toArray, List.getElem_cons_zero, List.getElem_cons_succ]
              refine wpAnyH_take (i := 10) (v := ?_) rfl (by kernel_rfl) (by kernel_rfl) (by kernel_rfl) (fun _ _ _ h => h) (Or.inl ⟨by rfl, ?_⟩) hHeld ?_
              rotate_left
              · intro W0 hW; obtain ⟨hW1, hW2, hW3, hW4⟩ := hW; go_simp; (try with_reducible rfl)
              try simp only [Act.put, List.setIfInBounds_toArray, List.set_cons_zero, List.set_cons_succ, List.getElem_toArray, List.getElem_cons_zero, List.getElem_cons_succ]
              refine wpAnyH_take (i := 11) (v := ?_) rfl (by kernel_rfl) (by kernel_rfl) (by kernel_rfl) (fun _ _ _ h => h) (Or.inl ⟨by rfl, ?_⟩) hHeld ?_
              rotate_left
              · intro W0 hW; obtain ⟨hW1, hW2, hW3, hW4⟩ := hW; go_simp; (try with_reducible rfl)
              try simp only [Act.put, List.setIfInBounds_toArray, List.set_cons_zero, List.set_cons_succ, List.getElem_toArray, List.getElem_cons_zero, List.getElem_cons_succ]
              refine wpAnyH_take (i := 12) (v := ?_) rfl (by kernel_rfl) (by kernel_rfl) (by kernel_rfl) (fun _ _ _ h => h) (Or.inl ⟨by rfl, ?_⟩) hHeld ?_
              rotate_left
              · intro W0 hW; obtain ⟨hW1, hW2, hW3, hW4⟩ := hW; go_simp; (try with_reducible rfl)
              try simp only [Act.put, List.setIfInBounds_toArray, List.set_cons_zero, List.set_cons_succ, List.getElem_toArray, List.getElem_cons_zero, List.getElem_cons_succ]
              refine wpAnyH_take (i := 14) (v := ?_) rfl (by kernel_rfl) (by kernel_rfl) (by kernel_rfl) (fun _ _ _ h => h) (Or.inl ⟨by rfl, ?_⟩) hHeld ?_
              rotate_left
              · intro W0 hW; obtain ⟨hW1, hW2, hW3, hW4⟩ := hW; go_simp; (try with_reducible rfl)
              try simp only [Act.put, List.setIfInBounds_toArray, List.set_cons_zero, List.set_cons_succ, List.getElem_toArray, List.getElem_cons_zero, List.getElem_cons_succ]
              refine wpAnyH_take (i := 15) (v := ?_) rfl (by kernel_rfl) (by kernel_rfl) (by kernel_rfl) (fun _ _ _ h => h) (Or.inl ⟨by rfl, ?_⟩) hHeld ?_
              rotate_left
              · intro W0 hW; obtain ⟨hW1, hW2, hW3, hW4⟩ := hW; go_simp; (try with_reducible rfl)
              try simp only [Act.put, List.setIfInBounds_toArray, List.set_cons_zero, List.set_cons_succ, List.getElem_toArray, List.getElem_cons_zero, List.getElem_cons_succ]
              refine wpAnyH_take (i := 16) (v := ?_) rfl (by kernel_rfl) (by kernel_rfl) (by kernel_rfl) (fun _ _ _ h => h) (Or.inl ⟨by rfl, ?_⟩) hHeld ?_
              rotate_left
              · intro W0 hW; obtain ⟨hW1, hW2, hW3, hW4⟩ := hW; go_simp; (try with_reducible rfl)
              try simp only [Act.put, List.setIfInBounds_toArray, List.set_cons_zero, List.set_cons_succ, List.getElem_toArray, List.getElem_cons_zero, List.getElem_cons_succ]
              refine wpAnyH_take (i := 17) (v := ?_) rfl (by kernel_rfl) (by kernel_rfl) (by kernel_rfl) (fun _ _ _ h => h) (Or.inl ⟨by rfl, ?_⟩) hHeld ?_
              rotate_left
              · intro W0 hW; obtain ⟨hW1, hW2, hW3, hW4⟩ := hW; go_simp; (try with_reducible rfl)
              try simp only [Act.put, List.setIfInBounds_toArray, List.set_cons_zero, List.set_cons_succ, List.getElem_toArray, List.getElem_cons_zero, List.getElem_cons_succ]
              refine wpAnyH_ready (rs := [13, 18]) (by kernel_rfl) (by simp) ?_
              refine AllReadyH.cons rfl (fun K hK => ?_) (AllReadyH.cons rfl (fun K hK => ?_) AllReadyH.nil)
              · go_simp
                refine hK.out _ _ ?_ (fun hHeld => ?_)
                · exact hHeld
                clear hK K
                try simp only [Act.put, List.setIfInBounds_toArray, List.set_cons_zero, List.set_cons_succ, List.getElem_toArray, List.getElem_cons_zero, List.getElem_cons_succ]
                refine wpAnyH_ready (rs := [18]) (by kernel_rfl) (by simp) ?_
                refine AllReadyH.cons rfl (fun K hK => ?_) AllReadyH.nil
                go_simp
                refine hK.out _ _ ?_ (fun hHeld => ?_)
                · exact hHeld.mod ((Mod.refl (fun _ => False) _).alloc _) (fun h => h) (fun h => h)
                clear hK K
                try simp only [Act.put, List.setIfInBounds_toArray, List.set_cons_zero, List.set_cons_succ, List.getElem_toArray, List.getElem_cons_zero, List.getElem_cons_succ]
                refine wpAnyH_ready (rs := [19]) (by kernel_rfl) (by simp) ?_
                refine AllReadyH.cons rfl (fun K hK => ?_) AllReadyH.nil
                refine step_append_fresh rfl (.tmp 72) (.tmp 77) 88 rfl D0 90 i0 _ 3 24 Try.underlying88 HI0.out HZ0.out HZ1.out HZ2.out (by decide) (.slice vaA nlA vcA) nlA (flatL (RA f)) rfl HOA.out ⟨wc.heap.size, 0, none⟩ 1 (laneC (k, q, false)) rfl rfl (newsL_at _ (k, q, false) _ _ rfl) (oneL _) (by unfold maxLen; omega) (by omega) HSZA.out ?_
                intro gA cpA w4A hown hgrow hfr
                have x4 : PipK ab p lb N f q w4A := HDA.out.mod (((Mod.refl (fun k => (Value.slice vaA nlA vcA).ownBlock = some k) _).alloc _).grown hgrow (fun k hk => .inr hk)) HNSA.out.1 HNSA.out.2
                rw [HVBA.out] at hgrow hfr
                have hown2 := hown
                rw [← HNLA.out] at hown2
                obtain ⟨_, c4, f4⟩ := HYA.out.adj.push hf hown2 hgrow hfr
                have HZA := Lib.hid (HYA.out.push hf hown2 hgrow hfr)
                have HFRA := Lib.hid (fresh_av (nl := nlA + 1) (cp := cpA) HAVA.out hf hfr (Nat.lt_of_lt_of_le HDA.out.2.2.2.1 ((Below.refl _ _).alloc (Nat.le_refl _) _).size) (Nat.lt_of_lt_of_le HDA.out.2.2.2.2 ((Below.refl _ _).alloc (Nat.le_refl _) _).size))
                clear hown hown2 hgrow hfr
                refine hK.out _ _ ?_ (fun hHeld => ?_)
                · exact x4
                clear hK K
                try simp only [Act.put, List.setIfInBounds_toArray, List.set_cons_zero, List.set_cons_succ, List.getElem_toArray, List.getElem_cons_zero, List.getElem_cons_succ]
                refine wpAnyH_take (i := 20) (v := ?_) rfl (by kernel_rfl) (by kernel_rfl) (by kernel_rfl) (fun _ _ _ h => h) (Or.inl ⟨by rfl, ?_⟩) hHeld ?_
                rotate_left
                · intro W0 hW; obtain ⟨hW1, hW2, hW3, hW4⟩ := hW; go_simp; (try with_reducible rfl)
                try simp only [Act.put, List.setIfInBounds_toArray, List.set_cons_zero, List.set_cons_succ, List.getElem_toArray, List.getElem_cons_zero, List.getElem_cons_succ]
                refine wpAnyH_ready (rs := [21]) (by kernel_rfl) (by simp) ?_
                refine AllReadyH.cons rfl (fun K hK => ?_) AllReadyH.nil
                go_simp
                refine hK.out _ _ ?_ (fun hHeld => ?_)
                · exact x4.mod ((Mod.refl (fun b => b = lb) _).setCell (p := ⟨lb, f, none⟩) (.inr rfl) _) (fun h => HAB.out.1 h) (fun h => HAB.out.2 h)
                clear hK K
                try simp only [Act.put, List.setIfInBounds_toArray, List.set_cons_zero, List.set_cons_succ, List.getElem_toArray, List.getElem_cons_zero, List.getElem_cons_succ]
                refine wpAnyH_done (by kernel_rfl) ?_ _
                rw [HNLA.out] at HZA
                clear c4 f4 x4
                have HQ1 := Lib.hid hHeld
                clear hHeld
                go_wp2_with fail
                go_meet
                exact ⟨_, HZA.out, HQ1.out, HFRA.out⟩
              · go_simp
                refine hK.out _ _ ?_ (fun hHeld => ?_)
                · exact hHeld.mod ((Mod.refl (fun _ => False) _).alloc _) (fun h => h) (fun h => h)
                clear hK K
                try simp only [Act.put, List.setIfInBounds_toArray, List.set_cons_zero, List.set_cons_succ, List.getElem_toArray, List.getElem_cons_zero, List.getElem_cons_succ]
                refine wpAnyH_ready (rs := [13]) (by kernel_rfl) (by simp) ?_
                refine AllReadyH.cons rfl (fun K hK => ?_) AllReadyH.nil
                go_simp
                refine hK.out _ _ ?_ (fun hHeld => ?_)
                · exact hHeld
                clear hK K
                try simp only [Act.put, List.setIfInBounds_toArray, List.set_cons_zero, List.set_cons_succ, List.getElem_toArray, List.getElem_cons_zero, List.getElem_cons_succ]
                refine wpAnyH_ready (rs := [19]) (by kernel_rfl) (by simp) ?_
                refine AllReadyH.cons rfl (fun K hK => ?_) AllReadyH.nil
                refine step_append_fresh rfl (.tmp 72) (.tmp 77) 88 rfl D0 90 i0 _ 3 24 Try.underlying88 HI0.out HZ0.out HZ1.out HZ2.out (by decide) (.slice vaA nlA vcA) nlA (flatL (RA f)) rfl HOA.out ⟨wc.heap.size, 0, none⟩ 1 (laneC (k, q, false)) rfl rfl (newsL_at _ (k, q, false) _ _ rfl) (oneL _) (by unfold maxLen; omega) (by omega) HSZA.out ?_
                intro gA cpA w4A hown hgrow hfr
                have x4 : PipK ab p lb N f q w4A := HDA.out.mod (((Mod.refl (fun k => (Value.slice vaA nlA vcA).ownBlock = some k) _).alloc _).grown hgrow (fun k hk => .inr hk)) HNSA.out.1 HNSA.out.2
                rw [HVBA.out] at hgrow hfr
                have hown2 := hown
                rw [← HNLA.out] at hown2
                obtain ⟨_, c4, f4⟩ := HYA.out.adj.push hf hown2 hgrow hfr
                have HZA := Lib.hid (HYA.out.push hf hown2 hgrow hfr)
                have HFRA := Lib.hid (fresh_av (nl := nlA + 1) (cp := cpA) HAVA.out hf hfr (Nat.lt_of_lt_of_le HDA.out.2.2.2.1 ((Below.refl _ _).alloc (Nat.le_refl _) _).size) (Nat.lt_of_lt_of_le HDA.out.2.2.2.2 ((Below.refl _ _).alloc (Nat.le_refl _) _).size))
                clear hown hown2 hgrow hfr
                refine hK.out _ _ ?_ (fun hHeld => ?_)
                · exact x4
                clear hK K
                try simp only [Act.put, List.setIfInBounds_toArray, List.set_cons_zero, List.set_cons_succ, List.getElem_toArray, List.getElem_cons_zero, List.getElem_cons_succ]
                refine wpAnyH_take (i := 20) (v := ?_) rfl (by kernel_rfl) (by kernel_rfl) (by kernel_rfl) (fun _ _ _ h => h) (Or.inl ⟨by rfl, ?_⟩) hHeld ?_
                rotate_left
                · intro W0 hW; obtain ⟨hW1, hW2, hW3, hW4⟩ := hW; go_simp; (try with_reducible rfl)
                try simp only [Act.put, List.setIfInBounds_toArray, List.set_cons_zero, List.set_cons_succ, List.getElem_toArray, List.getElem_cons_zero, List.getElem_cons_succ]
                refine wpAnyH_ready (rs := [21]) (by kernel_rfl) (by simp) ?_
                refine AllReadyH.cons rfl (fun K hK => ?_) AllReadyH.nil
                go_simp
                refine hK.out _ _ ?_ (fun hHeld => ?_)
                · exact x4.mod ((Mod.refl (fun b => b = lb) _).setCell (p := ⟨lb, f, none⟩) (.inr rfl) _) (fun h => HAB.out.1 h) (fun h => HAB.out.2 h)
                clear hK K
                try simp only [Act.put, List.setIfInBounds_toArray, List.set_cons_zero, List.set_cons_succ, List.getElem_toArray, List.getElem_cons_zero, List.getElem_cons_succ]
                refine wpAnyH_done (by kernel_rfl) ?_ _
                rw [HNLA.out] at HZA
                clear c4 f4 x4
                have HQ1 := Lib.hid hHeld
                clear hHeld
                go_wp2_with fail
                go_meet
                exact ⟨_, HZA.out, HQ1.out, HFRA.out⟩
            case rest =>
              obtain ⟨VB, hG2, hP2, hAV2⟩ := hcut
              have HZA2 := Lib.hid hG2
              have HQ2 := Lib.hid hP2
              have HAVB := Lib.hid hAV2
              clear hG2 hP2 hAV2 HG3 HP3
              obtain ⟨RB, hRB⟩ : ∃ RB : Nat → List La, (fun j => if j = f then RA f ++ [(k, q, false)] else RA j) = RB := ⟨_, rfl⟩
              have HRLB : Hid (∀ i, (RB i).length ≤ 40001) := Lib.hid (fun i => by
                rw [← hRB, ← HRAE.out]
                have h1 := lanesK_le l i k
                have h2 := lanesK_le l f k
                simp only
                split <;> simp <;> omega)
              have HRBE : Hid ((fun j => if j = f then lanesK l f k ++ [(k, q, false)] else lanesK l j k) = RB) := Lib.hid (by rw [← hRB, ← HRAE.out])
              rw [hRB] at HZA2
              clear hRB
              go_wp2_with fail
              obtain ⟨vaB, vcB, hvB⟩ := owns_shape (HZA2.out.adj.row q hq)
              have HVVB := Lib.hid hvB
              have HYB := Lib.hid (HZA2.out.later (((Below.refl wc.heap.size wc).drew).alloc (Nat.le_refl _) (.cells #[.int .i64 (k : Int), .int .i64 (f : Int), .bool true] 90)))
              have cB := HZA2.out.adj.out.cell hq
              have dB := HYB.out.adj.out.cell hq
              rw [hvB] at cB dB
              have d2B : (wc.alloc (.cells #[.int .i64 (k : Int), .int .i64 (f : Int), .bool true] 90)).cell? ⟨lb, q, none⟩ = some (.slice vaB (RB q).length vcB) := dB
              obtain ⟨nlB, hnlB⟩ : ∃ m, (RB q).length = m := ⟨_, rfl⟩
              have HNLB := Lib.hid hnlB
              have hmlB : nlB ≤ 40001 := by rw [← hnlB]; exact HRLB.out q
              have HOB : Hid ((wc.drew.alloc (.cells #[.int .i64 (k : Int), .int .i64 (f : Int), .bool true] 90)).ownsRow D0 90 3 (.slice vaB nlB vcB) nlB (flatL (RB q))) := Lib.hid (by have := HYB.out.adj.row q hq; rw [hvB] at this; simp only [hnlB] at this; exact this)
              rw [hnlB] at cB dB d2B
              have hvbB : (Value.slice vaB nlB vcB).ownBlock = (VB q).ownBlock := by rw [hvB, hnlB]
              have HVBB := Lib.hid hvbB
              have HDB := Lib.hid (show PipK ab p lb N f q wc.drew from HQ2.out)
              have HSZB : Hid (D0 ≤ (wc.drew.alloc (.cells #[.int .i64 (k : Int), .int .i64 (f : Int), .bool true] 90)).heap.size) := Lib.hid HYB.out.size
              have HNSB : Hid (¬ ((Value.slice vaB nlB vcB).ownBlock = some ab) ∧ ¬ ((Value.slice vaB nlB vcB).ownBlock = some p)) := Lib.hid (by rw [hvbB]; exact HAVB.out q hq)
              clear hvB hnlB hvbB
              refine wp_region_held_drew (S := PipK ab p lb N f q) (by kernel_rfl) HDB.out (fun hHeld => ?_)
              refine wpAnyH_take (i := 0) (v := ?_) rfl (by kernel_rfl) (by kernel_rfl) (by kernel_rfl) (fun _ _ _ h => h) (Or.inl ⟨by rfl, ?_⟩) hHeld ?_
              rotate_left
              · intro W0 hW; obtain ⟨hW1, hW2, hW3, hW4⟩ := hW; go_simp; (try with_reducible rfl)
              try simp only [Act.put, List.setIfInBounds_toArray, List.set_cons_zero, List.set_cons_succ, List.getElem_toArray, List.getElem_cons_zero]
              refine wpAnyH_take (i := 1) (v := ?_) rfl (by kernel_rfl) (by kernel_rfl) (by kernel_rfl) (fun _ _ _ h => h) (Or.inl ⟨by rfl, ?_⟩) hHeld ?_
              rotate_left
              · intro W0 hW; obtain ⟨hW1, hW2, hW3, hW4⟩ := hW; go_simp; (try with_reducible rfl)
              try simp only [Act.put, List.setIfInBounds_toArray, List.set_cons_zero, List.set_cons_succ, List.getElem_toArray, List.getElem_cons_zero, List.getElem_cons_succ]
              refine wpAnyH_take (i := 2) (v := ?_) rfl (by kernel_rfl) (by kernel_rfl) (by kernel_rfl) (fun _ _ _ h => h) (Or.inl ⟨by rfl, ?_⟩) hHeld ?_
              rotate_left
              · intro W0 hW; obtain ⟨hW1, hW2, hW3, hW4⟩ := hW; go_simp; (try with_reducible rfl)
              try simp only [Act.put, List.setIfInBounds_toArray, List.set_cons_zero, List.set_cons_succ, List.getElem_toArray, List.getElem_cons_zero, List.getElem_cons_succ]
              refine wpAnyH_take (i := 3) (v := ?_) rfl (by kernel_rfl) (by kernel_rfl) (by kernel_rfl) (fun _ _ _ h => h) (Or.inl ⟨by rfl, ?_⟩) hHeld ?_
              rotate_left
              · intro W0 hW; obtain ⟨hW1, hW2, hW3, hW4⟩ := hW; go_simp; (try with_reducible rfl)
              try simp only [Act.put, List.setIfInBounds_toArray, List.set_cons_zero, List.set_cons_succ, List.getElem_toArray, List.getElem_cons_zero, List.getElem_cons_succ]
              refine wpAnyH_take (i := 4) (v := ?_) rfl (by kernel_rfl) (by kernel_rfl) (by kernel_rfl) (fun _ _ _ h => h) (Or.inl ⟨by rfl, ?_⟩) hHeld ?_
              rotate_left
              · intro W0 hW; obtain ⟨hW1, hW2, hW3, hW4⟩ := hW; go_simp; (try with_reducible rfl)
              try simp only [Act.put, List.setIfInBounds_toArray, List.set_cons_zero, List.set_cons_succ, List.getElem_toArray, List.getElem_cons_zero, List.getElem_cons_succ]
              refine wpAnyH_take (i := 5) (v := ?_) rfl (by kernel_rfl) (by kernel_rfl) (by kernel_rfl) (fun _ _ _ h => h) (Or.inl ⟨by rfl, ?_⟩) hHeld ?_
              rotate_left
              · intro W0 hW; obtain ⟨hW1, hW2, hW3, hW4⟩ := hW; go_simp; (try with_reducible rfl)
              try simp only [Act.put, List.setIfInBounds_toArray, List.set_cons_zero, List.set_cons_succ, List.getElem_toArray, List.getElem_cons_zero, List.getElem_cons_succ]
              refine wpAnyH_take (i := 6) (v := ?_) rfl (by kernel_rfl) (by kernel_rfl) (by kernel_rfl) (fun _ _ _ h => h) (Or.inl ⟨by rfl, ?_⟩) hHeld ?_
              rotate_left
              · intro W0 hW; obtain ⟨hW1, hW2, hW3, hW4⟩ := hW; go_simp; (try with_reducible rfl)
              try simp only [Act.put, List.setIfInBounds_toArray, List.set_cons_zero, List.set_cons_succ, List.getElem_toArray, List.getElem_cons_zero, List.getElem_cons_succ]
              refine wpAnyH_take (i := 7) (v := ?_) rfl (by kernel_rfl) (by kernel_rfl) (by kernel_rfl) (fun _ _ _ h => h) (Or.inl ⟨by rfl, ?_⟩) hHeld ?_
              rotate_left
              · intro W0 hW; obtain ⟨hW1, hW2, hW3, hW4⟩ := hW; go_simp; (try with_reducible rfl)
              try simp only [Act.put, List.setIfInBounds_toArray, List.set_cons_zero, List.set_cons_succ, List.getElem_toArray, List.getElem_cons_zero, List.getElem_cons_succ]
              refine wpAnyH_take (i := 8) (v := ?_) rfl (by kernel_rfl) (by kernel_rfl) (by kernel_rfl) (fun _ _ _ h => h) (Or.inl ⟨by rfl, ?_⟩) hHeld ?_
              rotate_left
              · intro W0 hW; obtain ⟨hW1, hW2, hW3, hW4⟩ := hW; go_simp; (try with_reducible rfl)
              try simp only [Act.put, List.setIfInBounds_toArray, List.set_cons_zero, List.set_cons_succ, List.getElem_toArray, List.getElem_cons_zero, List.getElem_cons_succ]
              refine wpAnyH_take (i := 9) (v := ?_) rfl (by kernel_rfl) (by kernel_rfl) (by kernel_rfl) (fun _ _ _ h => h) (Or.inl ⟨by rfl, ?_⟩) hHeld ?_
              rotate_left
              · intro W0 hW; obtain ⟨hW1, hW2, hW3, hW4⟩ := hW; go_simp; (try with_reducible rfl)
              try simp only [Act.put, List.setIfInBounds_toArray, List.set_cons_zero, List.set_cons_succ, List.getElem_toArray, List.getElem_cons_zero, List.getElem_cons_succ]
              refine wpAnyH_take (i := 10) (v := ?_) rfl (by kernel_rfl) (by kernel_rfl) (by kernel_rfl) (fun _ _ _ h => h) (Or.inl ⟨by rfl, ?_⟩) hHeld ?_
              rotate_left
              · intro W0 hW; obtain ⟨hW1, hW2, hW3, hW4⟩ := hW; go_simp; (try with_reducible rfl)
              try simp only [Act.put, List.setIfInBounds_toArray, List.set_cons_zero, List.set_cons_succ, List.getElem_toArray, List.getElem_cons_zero, List.getElem_cons_succ]
              refine wpAnyH_take (i := 11) (v := ?_) rfl (by kernel_rfl) (by kernel_rfl) (by kernel_rfl) (fun _ _ _ h => h) (Or.inl ⟨by rfl, ?_⟩) hHeld ?_
              rotate_left
              · intro W0 hW; obtain ⟨hW1, hW2, hW3, hW4⟩ := hW; go_simp; (try with_reducible rfl)
              try simp only [Act.put, List.setIfInBounds_toArray, List.set_cons_zero, List.set_cons_succ, List.getElem_toArray, List.getElem_cons_zero, List.getElem_cons_succ]
              refine wpAnyH_take (i := 12) (v := ?_) rfl (by kernel_rfl) (by kernel_rfl) (by kernel_rfl) (fun _ _ _ h => h) (Or.inl ⟨by rfl, ?_⟩) hHeld ?_
              rotate_left
              · intro W0 hW; obtain ⟨hW1, hW2, hW3, hW4⟩ := hW; go_simp; (try with_reducible rfl)
              try simp only [Act.put, List.setIfInBounds_toArray, List.set_cons_zero, List.set_cons_succ, List.getElem_toArray, List.getElem_cons_zero, List.getElem_cons_succ]
              refine wpAnyH_take (i := 14) (v := ?_) rfl (by kernel_rfl) (by kernel_rfl) (by kernel_rfl) (fun _ _ _ h => h) (Or.inl ⟨by rfl, ?_⟩) hHeld ?_
              rotate_left
              · intro W0 hW; obtain ⟨hW1, hW2, hW3, hW4⟩ := hW; go_simp; (try with_reducible rfl)
              try simp only [Act.put, List.setIfInBounds_toArray, List.set_cons_zero, List.set_cons_succ, List.getElem_toArray, List.getElem_cons_zero, List.getElem_cons_succ]
              refine wpAnyH_take (i := 15) (v := ?_) rfl (by kernel_rfl) (by kernel_rfl) (by kernel_rfl) (fun _ _ _ h => h) (Or.inl ⟨by rfl, ?_⟩) hHeld ?_
              rotate_left
              · intro W0 hW; obtain ⟨hW1, hW2, hW3, hW4⟩ := hW; go_simp; (try with_reducible rfl)
              try simp only [Act.put, List.setIfInBounds_toArray, List.set_cons_zero, List.set_cons_succ, List.getElem_toArray, List.getElem_cons_zero, List.getElem_cons_succ]
              refine wpAnyH_take (i := 16) (v := ?_) rfl (by kernel_rfl) (by kernel_rfl) (by kernel_rfl) (fun _ _ _ h => h) (Or.inl ⟨by rfl, ?_⟩) hHeld ?_
              rotate_left
              · intro W0 hW; obtain ⟨hW1, hW2, hW3, hW4⟩ := hW; go_simp; (try with_reducible rfl)
              try simp only [Act.put, List.setIfInBounds_toArray, List.set_cons_zero, List.set_cons_succ, List.getElem_toArray, List.getElem_cons_zero, List.getElem_cons_succ]
              refine wpAnyH_take (i := 17) (v := ?_) rfl (by kernel_rfl) (by kernel_rfl) (by kernel_rfl) (fun _ _ _ h => h) (Or.inl ⟨by rfl, ?_⟩) hHeld ?_
              rotate_left
              · intro W0 hW; obtain ⟨hW1, hW2, hW3, hW4⟩ := hW; go_simp; (try with_reducible rfl)
              try simp only [Act.put, List.setIfInBounds_toArray, List.set_cons_zero, List.set_cons_succ, List.getElem_toArray, List.getElem_cons_zero, List.getElem_cons_succ]
              refine wpAnyH_ready (rs := [13, 18]) (by kernel_rfl) (by simp) ?_
              refine AllReadyH.cons rfl (fun K hK => ?_) (AllReadyH.cons rfl (fun K hK => ?_) AllReadyH.nil)
              · go_simp
                refine hK.out _ _ ?_ (fun hHeld => ?_)
                · exact hHeld
                clear hK K
                try simp only [Act.put, List.setIfInBounds_toArray, List.set_cons_zero, List.set_cons_succ, List.getElem_toArray, List.getElem_cons_zero, List.getElem_cons_succ]
                refine wpAnyH_ready (rs := [18]) (by kernel_rfl) (by simp) ?_
                refine AllReadyH.cons rfl (fun K hK => ?_) AllReadyH.nil
                go_simp
                refine hK.out _ _ ?_ (fun hHeld => ?_)
                · exact hHeld.mod ((Mod.refl (fun _ => False) _).alloc _) (fun h => h) (fun h => h)
                clear hK K
                try simp only [Act.put, List.setIfInBounds_toArray, List.set_cons_zero, List.set_cons_succ, List.getElem_toArray, List.getElem_cons_zero, List.getElem_cons_succ]
                refine wpAnyH_ready (rs := [19]) (by kernel_rfl) (by simp) ?_
                refine AllReadyH.cons rfl (fun K hK => ?_) AllReadyH.nil
                refine step_append_fresh rfl (.tmp 93) (.tmp 98) 88 rfl D0 90 i0 _ 3 24 Try.underlying88 HI0.out HZ0.out HZ1.out HZ2.out (by decide) (.slice vaB nlB vcB) nlB (flatL (RB q)) rfl HOB.out ⟨wc.heap.size, 0, none⟩ 1 (laneC (k, f, true)) rfl rfl (newsL_at _ (k, f, true) _ _ rfl) (oneL _) (by unfold maxLen; omega) (by omega) HSZB.out ?_
                intro gB cpB w4B hown hgrow hfr
                have x4 : PipK ab p lb N f q w4B := HDB.out.mod (((Mod.refl (fun k => (Value.slice vaB nlB vcB).ownBlock = some k) _).alloc _).grown hgrow (fun k hk => .inr hk)) HNSB.out.1 HNSB.out.2
                rw [HVBB.out] at hgrow hfr
                have hown2 := hown
                rw [← HNLB.out] at hown2
                obtain ⟨_, c4, f4⟩ := HYB.out.adj.push hq hown2 hgrow hfr
                have HZB := Lib.hid (HYB.out.push hq hown2 hgrow hfr)
                have HFRB := Lib.hid (fresh_av (nl := nlB + 1) (cp := cpB) HAVB.out hq hfr (Nat.lt_of_lt_of_le HDB.out.2.2.2.1 ((Below.refl _ _).alloc (Nat.le_refl _) _).size) (Nat.lt_of_lt_of_le HDB.out.2.2.2.2 ((Below.refl _ _).alloc (Nat.le_refl _) _).size))
                clear hown hown2 hgrow hfr
                refine hK.out _ _ ?_ (fun hHeld => ?_)
                · exact x4
                clear hK K
                try simp only [Act.put, List.setIfInBounds_toArray, List.set_cons_zero, List.set_cons_succ, List.getElem_toArray, List.getElem_cons_zero, List.getElem_cons_succ]
                refine wpAnyH_take (i := 20) (v := ?_) rfl (by kernel_rfl) (by kernel_rfl) (by kernel_rfl) (fun _ _ _ h => h) (Or.inl ⟨by rfl, ?_⟩) hHeld ?_
                rotate_left
                · intro W0 hW; obtain ⟨hW1, hW2, hW3, hW4⟩ := hW; go_simp; (try with_reducible rfl)
                try simp only [Act.put, List.setIfInBounds_toArray, List.set_cons_zero, List.set_cons_succ, List.getElem_toArray, List.getElem_cons_zero, List.getElem_cons_succ]
                refine wpAnyH_ready (rs := [21]) (by kernel_rfl) (by simp) ?_
                refine AllReadyH.cons rfl (fun K hK => ?_) AllReadyH.nil
                go_simp
                refine hK.out _ _ ?_ (fun hHeld => ?_)
                · exact x4.mod ((Mod.refl (fun b => b = lb) _).setCell (p := ⟨lb, q, none⟩) (.inr rfl) _) (fun h => HAB.out.1 h) (fun h => HAB.out.2 h)
                clear hK K
                try simp only [Act.put, List.setIfInBounds_toArray, List.set_cons_zero, List.set_cons_succ, List.getElem_toArray, List.getElem_cons_zero, List.getElem_cons_succ]
                refine wpAnyH_done (by kernel_rfl) ?_ _
                rw [HNLB.out] at HZB
                clear c4 f4 x4
                clear hHeld
                go_wp2_with fail
                go_roundw
                case rel => exact ⟨k + 1, m, _, by go_num, by omega, hm33, HMC.out, Lib.hid (HZB.out.congr (fun i _ => by have h1 := lanesK_two HX.out i; rw [← HRBE.out]; exact h1))⟩
                case measure => simp [intOf]; omega
              · go_simp
                refine hK.out _ _ ?_ (fun hHeld => ?_)
                · exact hHeld.mod ((Mod.refl (fun _ => False) _).alloc _) (fun h => h) (fun h => h)
                clear hK K
                try simp only [Act.put, List.setIfInBounds_toArray, List.set_cons_zero, List.set_cons_succ, List.getElem_toArray, List.getElem_cons_zero, List.getElem_cons_succ]
                refine wpAnyH_ready (rs := [13]) (by kernel_rfl) (by simp) ?_
                refine AllReadyH.cons rfl (fun K hK => ?_) AllReadyH.nil
                go_simp
                refine hK.out _ _ ?_ (fun hHeld => ?_)
                · exact hHeld
                clear hK K
                try simp only [Act.put, List.setIfInBounds_toArray, List.set_cons_zero, List.set_cons_succ, List.getElem_toArray, List.getElem_cons_zero, List.getElem_cons_succ]
                refine wpAnyH_ready (rs := [19]) (by kernel_rfl) (by simp) ?_
                refine AllReadyH.cons rfl (fun K hK => ?_) AllReadyH.nil
                refine step_append_fresh rfl (.tmp 93) (.tmp 98) 88 rfl D0 90 i0 _ 3 24 Try.underlying88 HI0.out HZ0.out HZ1.out HZ2.out (by decide) (.slice vaB nlB vcB) nlB (flatL (RB q)) rfl HOB.out ⟨wc.heap.size, 0, none⟩ 1 (laneC (k, f, true)) rfl rfl (newsL_at _ (k, f, true) _ _ rfl) (oneL _) (by unfold maxLen; omega) (by omega) HSZB.out ?_
                intro gB cpB w4B hown hgrow hfr
                have x4 : PipK ab p lb N f q w4B := HDB.out.mod (((Mod.refl (fun k => (Value.slice vaB nlB vcB).ownBlock = some k) _).alloc _).grown hgrow (fun k hk => .inr hk)) HNSB.out.1 HNSB.out.2
                rw [HVBB.out] at hgrow hfr
                have hown2 := hown
                rw [← HNLB.out] at hown2
                obtain ⟨_, c4, f4⟩ := HYB.out.adj.push hq hown2 hgrow hfr
                have HZB := Lib.hid (HYB.out.push hq hown2 hgrow hfr)
                have HFRB := Lib.hid (fresh_av (nl := nlB + 1) (cp := cpB) HAVB.out hq hfr (Nat.lt_of_lt_of_le HDB.out.2.2.2.1 ((Below.refl _ _).alloc (Nat.le_refl _) _).size) (Nat.lt_of_lt_of_le HDB.out.2.2.2.2 ((Below.refl _ _).alloc (Nat.le_refl _) _).size))
                clear hown hown2 hgrow hfr
                refine hK.out _ _ ?_ (fun hHeld => ?_)
                · exact x4
                clear hK K
                try simp only [Act.put, List.setIfInBounds_toArray, List.set_cons_zero, List.set_cons_succ, List.getElem_toArray, List.getElem_cons_zero, List.getElem_cons_succ]
                refine wpAnyH_take (i := 20) (v := ?_) rfl (by kernel_rfl) (by kernel_rfl) (by kernel_rfl) (fun _ _ _ h => h) (Or.inl ⟨by rfl, ?_⟩) hHeld ?_
                rotate_left
                · intro W0 hW; obtain ⟨hW1, hW2, hW3, hW4⟩ := hW; go_simp; (try with_reducible rfl)
                try simp only [Act.put, List.setIfInBounds_toArray, List.set_cons_zero, List.set_cons_succ, List.getElem_toArray, List.getElem_cons_zero, List.getElem_cons_succ]
                refine wpAnyH_ready (rs := [21]) (by kernel_rfl) (by simp) ?_
                refine AllReadyH.cons rfl (fun K hK => ?_) AllReadyH.nil
                go_simp
                refine hK.out _ _ ?_ (fun hHeld => ?_)
                · exact x4.mod ((Mod.refl (fun b => b = lb) _).setCell (p := ⟨lb, q, none⟩) (.inr rfl) _) (fun h => HAB.out.1 h) (fun h => HAB.out.2 h)
                clear hK K
                try simp only [Act.put, List.setIfInBounds_toArray, List.set_cons_zero, List.set_cons_succ, List.getElem_toArray, List.getElem_cons_zero, List.getElem_cons_succ]
                refine wpAnyH_done (by kernel_rfl) ?_ _
                rw [HNLB.out] at HZB
                clear c4 f4 x4
                clear hHeld
                go_wp2_with fail
                go_roundw
                case rel => exact ⟨k + 1, m, _, by go_num, by omega, hm33, HMC.out, Lib.hid (HZB.out.congr (fun i _ => by have h1 := lanesK_two HX.out i; rw [← HRBE.out]; exact h1))⟩
                case measure => simp [intOf]; omega
        · have hkl : k = len := by omega
          subst hkl
          go_wp2_with fail
          go_ret
          have hll := HLn.out
          subst hll
          refine ⟨⟨p, lb, fb, sb, hb, tb, nb, wr.heap.size, N, l.length, cap, a, l, V, fun i => lanesK l i l.length⟩, co, rfl, rfl, rfl, rfl, HG.out.below, HG.out.done HL.out, hco, fun x hx => ?_, lanesK_good HOK.out, lanesK_sum HOK.out l.length, fun b hb2 => ?_⟩
          · obtain ⟨j, hj⟩ := List.getElem?_of_mem hx
            have h1 := HCO.out j x (List.getElem?_eq_some_iff.1 hj).1 hj
            exact Int.ediv_eq_zero_of_lt (HCS.out x hx).1 h1
          · have d := HG.out.dis
            have := d.gp; have := d.gf; have := d.gs; have := d.gh; have := d.gt; have := d.gn
            rcases hb2 with e | e | e | e | e | e <;> (simp only at e; omega)
end Go.Proofs.Ytbenmebmfihleaa

/- New, Put, Take, Len of package pile. -/
import Derived.Test.YtgoegkajfhhcjaaPHeap
import Derived.StillTailTactics
namespace Go.Proofs.Ytgoegkajfhhcjaa
open Go.RowKit
open Go.Sort (swp size_swp swp_get HoldsK putRowK flatK)

theorem new_any (w : World) : Calls Try.prog 29 #[] w fun e w' => e = .returned (.pointer (some ⟨w.heap.size, 0, none⟩)) ∧ w' = w.alloc (.cells #[.slice none 0 0] 78) := by
  go_enter Try.func29, Try.ntmps29
  go_wp2_with fail
  go_ret
  exact ⟨rfl, rfl⟩
theorem PileW.new (w : World) (base : Nat) : PileW (w.alloc (.cells #[.slice none 0 0] 78)) base w.heap.size (.slice none 0 0) #[] :=
  ⟨heap_alloc_new w _, RowW.nil _ _, by simp [Value.ownBlock]⟩

theorem plen_any {w : World} {base b : Nat} {v : Value} {d : Array It} (hP : PileW w base b v d) :
    Calls Try.prog 37 #[.pointer (some ⟨b, 0, none⟩)] w fun e w' => e = .returned (.int .i64 d.size) ∧ w = w' := by
  have hc := hP.cell
  obtain ⟨a, cap, rfl⟩ := hP.row.shape
  clear hP
  go_enter Try.func37, Try.ntmps37
  go_wp2_with fail
  go_ret
  exact ⟨rfl, rfl⟩
theorem plen_nil (w : World) : Calls Try.prog 37 #[.pointer none] w fun e w' => e = .returned (.int .i64 0) ∧ w = w' := by
  go_enter Try.func37, Try.ntmps37
  go_wp2_with fail
  go_ret
  exact ⟨rfl, rfl⟩

theorem Put.later {w w1 w2 : World} {base b : Nat} {v : Value} {d : Array It} {x : It} (hM : Mod (fun _ => False) w w1) (h : Put w1 base b v d x w2) : Put w base b v d x w2 := by
  obtain ⟨g, cap, dk, h1, h2, h3, h4, h5, h6⟩ := h
  exact ⟨g, cap, dk, h1, h2, h3, h4, (hM.mono fun _ _ h => h.elim).trans h5, h6.imp id (fun h => Nat.le_trans hM.size h)⟩

set_option maxHeartbeats 2000000 in
set_option maxRecDepth 100000 in
theorem put_any (b base : Nat) (v : Value) (d : Array It) (x : It) (w : World) (hbig : d.size ≤ 2000) (hP : PileW w base b v d) (hh : HeapB d.size d) (hbase : base ≤ w.heap.size) :
    Calls Try.prog 30 #[.pointer (some ⟨b, 0, none⟩), .agg #[.int .i64 x.1, .int .i64 x.2]] w fun e w' => e = .returned (.tuple #[]) ∧ Put w base b v d x w' := by
  have HH := Lib.hid hh; clear hh
  have HP := Lib.hid hP; clear hP
  have HB := Lib.hid hbase; clear hbase
  go_enter Try.func30, Try.ntmps30
  go_wp2_with fail
  have HP1 : Hid (PileW (w.alloc (.cells #[.int .i64 x.1, .int .i64 x.2] 66)) base b v d) := Lib.hid (HP.out.kept ((Mod.refl (fun _ => False) w).alloc _) (fun h => h) (fun _ _ h => h))
  have HM1 : Hid (Mod (fun _ => False) w (w.alloc (.cells #[.int .i64 x.1, .int .i64 x.2] 66))) := Lib.hid ((Mod.refl _ w).alloc _)
  have c1 : (w.alloc (.cells #[.int .i64 x.1, .int .i64 x.2] 66)).cell? ⟨w.heap.size, 0, none⟩ = some (.int .i64 x.1) := by simp
  have c2 : (w.alloc (.cells #[.int .i64 x.1, .int .i64 x.2] 66)).cell? ⟨w.heap.size, 1, none⟩ = some (.int .i64 x.2) := by simp
  generalize w.alloc (.cells #[.int .i64 x.1, .int .i64 x.2] 66) = w1 at HP1 HM1 c1 c2 ⊢
  go_region_with (go_at_call 36; refine (heapPush_any b base d.size v d x w1.drew rfl hbig (HP1.out.kept (Mod.refl (fun _ => False) w1).drew (fun h => h) (fun _ _ h => h)) HH.out (Nat.le_trans HB.out HM1.out.size)).mono ?_; rintro e w2 ⟨rfl, h2⟩)
  all_goals
    go_end0
    exact ⟨rfl, Put.later HM1.out.drew h2⟩
theorem put_nil (x : It) (w : World) : Calls Try.prog 30 #[.pointer none, .agg #[.int .i64 x.1, .int .i64 x.2]] w fun e w' => e = .returned (.tuple #[]) ∧ Below w.heap.size w w' := by
  go_enter Try.func30, Try.ntmps30
  go_wp2_with fail
  (try simp only [Exit.inBlock, Exit.then])
  refine bodyPost_ret (results_none rfl _ _ _) rfl ?_
  exact ⟨rfl, (Below.refl _ _).alloc (Nat.le_refl _) _⟩

/-- The least isn't there any more: what Take leaves. -/
def Took (w : World) (base b : Nat) (v : Value) (d : Array It) (w' : World) : Prop :=
  ∃ v' dk, PileW w' base b v' dk ∧ dk.size + 1 = d.size ∧ HeapB dk.size dk ∧ d.toList.Perm (d[0]! :: dk.toList) ∧ Mod (pileS b v) w w' ∧ v'.ownBlock = v.ownBlock
theorem taken_cells {w w2 : World} {base b g n cap : Nat} {d : Array It} (hb : b < w.heap.size) (hg : g < w.heap.size) (h : Taken (w.alloc (.cells #[.int .i64 0, .int .i64 0] 66)) base b g n cap d w2) :
    w2.cell? ⟨w.heap.size, 0, none⟩ = some (.int .i64 0) ∧ w2.cell? ⟨w.heap.size, 1, none⟩ = some (.int .i64 0) ∧ w2.frozen? ⟨w.heap.size, 0, none⟩ = false ∧ w2.frozen? ⟨w.heap.size, 1, none⟩ = false ∧ w.heap.size < w2.heap.size := by
  obtain ⟨dk, _, _, _, _, hM⟩ := h
  have hs : ¬ pileS b (.slice (some ⟨g, 0, none⟩) n cap) w.heap.size := by
    rintro (h | h)
    · omega
    · injection h with h; exact absurd h (by simp; omega)
  refine ⟨(hM.cell (p := ⟨w.heap.size, 0, none⟩) (by simp) hs).trans (by simp), (hM.cell (p := ⟨w.heap.size, 1, none⟩) (by simp) hs).trans (by simp), (hM.frozen (p := ⟨w.heap.size, 0, none⟩) (by simp) hs).trans (by simp), (hM.frozen (p := ⟨w.heap.size, 1, none⟩) (by simp) hs).trans (by simp), by have := hM.size; simp at this; omega⟩

theorem took_of {w w2 : World} {base b g n cap m cap' : Nat} {d : Array It} (hP : PileW w base b (.slice (some ⟨g, 0, none⟩) m cap') d) (hd : d.size = n + 1) (h : Taken (w.alloc (.cells #[.int .i64 0, .int .i64 0] 66)) base b g n cap d w2) (x y : Value) (o : Obj) (k : Nat) :
    Took w base b (.slice (some ⟨g, 0, none⟩) k cap') d (((w2.setCell ⟨w.heap.size, 0, none⟩ x).setCell ⟨w.heap.size, 1, none⟩ y).alloc o) := by
  obtain ⟨dk, hP2, hs, hh, hp, hM⟩ := h
  have hb := hP.lt
  have hg : g < w.heap.size := by
    rcases hP.row.2 with ⟨e, _⟩ | ⟨g', _, _, e, _, hg, _⟩
    · cases e
    · injection e with e1
      injection e1 with e1
      injection e1 with e1
      subst e1
      exact (Array.getElem?_eq_some_iff.1 hg).1
  have hM2 : Mod (fun k => k = w.heap.size) w2 (((w2.setCell ⟨w.heap.size, 0, none⟩ x).setCell ⟨w.heap.size, 1, none⟩ y).alloc o) := (((Mod.refl (fun k => k = w.heap.size) w2).setCell (p := ⟨w.heap.size, 0, none⟩) (.inr rfl) x).setCell (p := ⟨w.heap.size, 1, none⟩) (.inr rfl) y).alloc o
  refine ⟨.slice (some ⟨g, 0, none⟩) n cap, dk, hP2.kept hM2 (by omega) (fun k hk e => by injection hk with hk; simp only at hk; omega), by omega, hh, hp, ?_, rfl⟩
  have h1 : Mod (pileS b (.slice (some ⟨g, 0, none⟩) k cap')) w w2 := ((Mod.refl _ w).alloc _).trans hM
  exact ((h1.setCell (p := ⟨w.heap.size, 0, none⟩) (.inl (Nat.le_refl _)) x).setCell (p := ⟨w.heap.size, 1, none⟩) (.inl (Nat.le_refl _)) y).alloc o

theorem take_none (b base : Nat) (v : Value) (w : World) (d : Array It) (hd : d.size = 0) (hP : PileW w base b v d) :
    Calls Try.prog 31 #[.pointer (some ⟨b, 0, none⟩)] w fun e w' => e = .returned (.tuple #[.agg #[.int .i64 0, .int .i64 0], .bool false]) ∧ Below w.heap.size w w' := by
  have HP1 : Hid (PileW (w.alloc (.cells #[.int .i64 0, .int .i64 0] 66)) base b v d) := Lib.hid (hP.kept ((Mod.refl (fun _ => False) w).alloc _) (fun h => h) (fun _ _ h => h))
  have HL : Hid (Calls Try.prog 37 #[.pointer (some ⟨b, 0, none⟩)] (w.alloc (.cells #[.int .i64 0, .int .i64 0] 66)) fun e w' => e = .returned (.int .i64 0) ∧ w.alloc (.cells #[.int .i64 0, .int .i64 0] 66) = w') := Lib.hid (by have := plen_any HP1.out; rw [hd] at this; exact this)
  clear hd hP
  go_enter Try.func31, Try.ntmps31
  go_wp2_with (go_at_call 37; refine HL.out.mono ?_; rintro e w' ⟨rfl, rfl⟩)
  refine bodyPost_ret (v := .tuple #[.agg #[.int .i64 0, .int .i64 0], .bool false]) (by simp [results, Try.results31, go_sem]) rfl ⟨rfl, ?_⟩
  exact (Below.refl _ _).alloc (Nat.le_refl _) _
theorem take_nil (w : World) :
    Calls Try.prog 31 #[.pointer none] w fun e w' => e = .returned (.tuple #[.agg #[.int .i64 0, .int .i64 0], .bool false]) ∧ Below w.heap.size w w' := by
  go_enter Try.func31, Try.ntmps31
  go_wp2_with (go_at_call 37; refine (plen_nil _).mono ?_; rintro e w' ⟨rfl, rfl⟩)
  refine bodyPost_ret (v := .tuple #[.agg #[.int .i64 0, .int .i64 0], .bool false]) (by simp [results, Try.results31, go_sem]) rfl ⟨rfl, ?_⟩
  exact (Below.refl _ _).alloc (Nat.le_refl _) _

set_option maxHeartbeats 2000000 in
set_option maxRecDepth 100000 in
theorem take_some (b base n : Nat) (v : Value) (w : World) (d : Array It) (hd : d.size = n + 1) (hbig : n ≤ 2000) (hP : PileW w base b v d) (hh : HeapB d.size d) :
    Calls Try.prog 31 #[.pointer (some ⟨b, 0, none⟩)] w fun e w' => e = .returned (.tuple #[.agg #[.int .i64 d[0]!.1, .int .i64 d[0]!.2], .bool true]) ∧ Took w base b v d w' := by
  obtain ⟨g, cap, rfl, _, hg, hcap⟩ := hP.row.some_ (by omega)
  rw [hd] at hP
  have HP1 : Hid (PileW (w.alloc (.cells #[.int .i64 0, .int .i64 0] 66)) base b (.slice (some ⟨g, 0, none⟩) (n + 1) cap) d) := Lib.hid (hP.kept ((Mod.refl (fun _ => False) w).alloc _) (fun h => h) (fun _ _ h => h))
  have HL : Hid (Calls Try.prog 37 #[.pointer (some ⟨b, 0, none⟩)] (w.alloc (.cells #[.int .i64 0, .int .i64 0] 66)) fun e w' => e = .returned (.int .i64 ((n : Int) + 1)) ∧ w.alloc (.cells #[.int .i64 0, .int .i64 0] 66) = w') := Lib.hid (by have := plen_any HP1.out; rw [hd] at this; exact this)
  have hne : ((n : Int) + 1 == 0) = false := by simp; omega
  have HHP := Lib.hid (heapPop_any b base g n cap d _ hd hbig HP1.out hh)
  have HD := Lib.hid hd; clear hd
  have HP := Lib.hid hP; clear hP hh
  have hb := HP.out.lt
  have hta : ∀ w, (Instr.typeAssert (.iface 66 (.agg #[.int .i64 d[0]!.1, .int .i64 d[0]!.2])) 20 66 true).run Try.prog w = .ok (.tuple #[.agg #[.int .i64 d[0]!.1, .int .i64 d[0]!.2], .bool true]) w := fun w => assert_it _ w
  obtain ⟨x, hx⟩ : ∃ x, d[0]! = x := ⟨_, rfl⟩
  have HX := Lib.hid hx
  rw [hx] at HHP hta ⊢
  clear hx
  go_enter Try.func31, Try.ntmps31
  go_wp2_with (first
    | (go_at_call 37; refine HL.out.mono ?_; rintro e w' ⟨rfl, rfl⟩)
    | (go_at_call 38; refine HHP.out.mono ?_; rintro e w2 ⟨rfl, h2⟩; obtain ⟨c1, c2, f1, f2, z2⟩ := taken_cells hb hg h2; have H2 := Lib.hid h2; clear h2 hb hg))
  refine bodyPost_ret (v := .tuple #[.agg #[.int .i64 x.1, .int .i64 x.2], .bool true]) (by simp [results, Try.results31, go_sem, c1, c2, z2]) rfl ⟨rfl, ?_⟩
  exact took_of HP.out HD.out H2.out _ _ _ _
end Go.Proofs.Ytgoegkajfhhcjaa

/- Package parse: Parse. -/
import Derived.Test.YtnnddmojcaicbaaDoorQDo
import Derived.Test.YtnnddmojcaicbaaDoorRdB
namespace Go.Proofs.YtnnddmojcaicbaaDoor
open Go.RowKit

variable {s : ByteArray} {w w1 w2 : World} {ws : List W} {n bx : Nat} {F : Rr}
/-- What is read of a text: the instance, where, why. -/
def textI (l : List UInt8) : Ins := if toN badB l < l.length then zeroI else ansI (cutL l 0) (runR (cutL l 0) instP 0)
def textAt (l : List UInt8) : Nat := if toN badB l < l.length then toN badB l else ansAt (cutL l 0) l.length (runR (cutL l 0) instP 0)
def textC (l : List UInt8) : Int := if toN badB l < l.length then 3 else ansC (cutL l 0) (runR (cutL l 0) instP 0)
/-- What Read leaves in the instance's box. -/
def XOk (base bx : Nat) (x : Ins) (w' : World) : Prop := ∃ A, w'.heap[bx]? = some (.cells (insC A x) 38 (0, 0)) ∧ ∀ w2, Mod (fun b => b < base) w' w2 → IsIns w2.heap.size w2 A x
theorem XOk.stable (base bx : Nat) (x : Ins) : Stable (XOk base bx x) := fun a b h hb => by
  obtain ⟨A, h1, h2⟩ := h
  exact ⟨A, (hb.block bx (Array.getElem?_eq_some_iff.1 h1).1).trans h1, fun w2 hm => h2 w2 ((Mod.of_below _ hb).trans hm)⟩
theorem body_parse : Body 28 := fun _ _ => by kernel_rfl
def ReadP (base bx : Nat) (W0 : World) (x : Ins) (p : Nat) (c : Int) (e : Ending) (w' : World) : Prop :=
  e = .returned (.tuple #[.int .i64 (p : Int), .int .i64 c]) ∧ Mod (fun b => b = bx) W0 w' ∧ (c = 0 → XOk base bx x w')
theorem read_ins (s : ByteArray) (W0 : World) (hs : s.size ≤ 131072) (hbx : W0.heap[bx]? = some (.cells #[.int .i64 0, .int .i64 0, .int .i64 0, .int .i64 0, .int .i64 0, .slice none 0 0, .slice none 0 0, .slice none 0 0, .slice none 0 0] 38 (0, 0))) :
    Calls Tryd.prog 27 #[.string s, .func (.func 28) #[] #[.pointer (some ⟨bx, 0, none⟩)]] W0 (ReadP W0.heap.size bx W0 (textI s.data.toList) (textAt s.data.toList) (textC s.data.toList)) := by
  have hl : s.data.toList.length = s.size := by simp
  have hbl : bx < W0.heap.size := (Array.getElem?_eq_some_iff.1 hbx).1
  by_cases hb : toN badB s.data.toList < s.size
  · have e1 : textAt s.data.toList = toN badB s.data.toList := by rw [textAt, if_pos (by omega)]
    have e2 : textC s.data.toList = 3 := by rw [textC, if_pos (by omega)]
    rw [e1, e2]
    exact (read_bad s _ W0 hs hb).mono fun e w' ⟨h1, h2⟩ => ⟨h1, h2 ▸ Mod.refl _ _, fun h => by cases h⟩
  · have hg : toN badB s.data.toList = s.size := by
      have := toN_le badB s.data.toList
      omega
    have e1 : textAt s.data.toList = ansAt (cutL s.data.toList 0) s.size (runR (cutL s.data.toList 0) instP 0) := by rw [textAt, if_neg (by omega), hl]
    have e2 : textC s.data.toList = ansC (cutL s.data.toList 0) (runR (cutL s.data.toList 0) instP 0) := by rw [textC, if_neg (by omega)]
    have e3 : textI s.data.toList = ansI (cutL s.data.toList 0) (runR (cutL s.data.toList 0) instP 0) := by rw [textI, if_neg (by omega)]
    rw [e1, e2, e3]
    have htx : ∀ x ∈ cutL s.data.toList 0, x.1.length ≤ 1000000 := fun x hx => by
      obtain ⟨_, _, _, h4, _⟩ := cutL_mem s.data.toList.length s.data.toList 0 (Nat.le_refl _) x.1 x.2 hx
      omega
    have hdo : ∀ R v Wd, W0.heap.size ≤ R → Rd W0.heap.size R v (cutL s.data.toList 0) s.size 0 0 0 Wd → Below W0.heap.size W0 Wd →
        Calls Tryd.prog 28 (#[ptrR R] ++ #[.pointer (some ⟨bx, 0, none⟩)]) Wd (DoQ W0.heap.size R v (cutL s.data.toList 0) s.size bx Wd (runR (cutL s.data.toList 0) instP 0)) := fun R v Wd hR hr hbe =>
      do_ins hr ((hbe.block bx hbl).trans hbx) hbl hR htx rfl
    cases hF : runR (cutL s.data.toList 0) instP 0 with
    | ok x k =>
      have hd : Does 28 #[.pointer (some ⟨bx, 0, none⟩)] W0 (cutL s.data.toList 0) s.size (fun _ => .returned (.tuple #[])) k 0 0 (fun b => b = bx) (XOk W0.heap.size bx x) := fun R v Wd hR hr hbe => by
        refine (hdo R v Wd hR hr hbe).mono fun e w' ⟨hm, h⟩ => ?_
        rcases h with ⟨x', k', A, h1, h2, h3, h4, h5⟩ | ⟨_, k', c', h1, _⟩
        · rw [hF] at h1
          cases h1
          exact ⟨h2, h3, hm, A, h4, h5⟩
        · rw [hF] at h1
          cases h1
      refine (read_ret s W0 hs hg _ body_parse _ k 0 _ (fun b hb => by omega) _ (XOk.stable _ _ _) hd).mono fun e w' ⟨h1, h2, h3⟩ => ⟨h1, h2, fun h0 => ?_⟩
      have hk : ¬ k < (cutL s.data.toList 0).length := fun hk => by
        rw [ansC, if_pos hk] at h0
        cases h0
      rw [ansI, if_neg hk]
      exact h3
    | no k c =>
      have hc : (c != 0) = true := by
        rcases run_codes _ _ _ _ hF with h | h | h <;> subst h <;> decide
      have hd : Does 28 #[.pointer (some ⟨bx, 0, none⟩)] W0 (cutL s.data.toList 0) s.size halted k (placeN (cutL s.data.toList 0) s.size k) c (fun b => b = bx) (fun _ => True) := fun R v Wd hR hr hbe => by
        refine (hdo R v Wd hR hr hbe).mono fun e w' ⟨hm, h⟩ => ?_
        rcases h with ⟨x', k', A, h1, _⟩ | ⟨h2, k', c', h1, _, h3⟩
        · rw [hF] at h1
          cases h1
        · rw [hF] at h1
          cases h1
          exact ⟨h2, h3, hm, trivial⟩
      refine (read_halt s W0 hs hg _ body_parse _ k _ c hc _ (fun b hb => by omega) _ (fun _ _ _ _ => trivial) hd).mono fun e w' ⟨h1, h2, h3⟩ => ⟨h1, h2, fun h0 => ?_⟩
      simp only [ansC] at h0
      subst h0
      cases hc
theorem storeI_mod {S : Nat → Prop} {r : Nat} {y0 y1 y2 y3 y4 y5 y6 y7 y8 : Value} (h : Mod S w w1) (hr : S r) : Mod S w (storeI w1 r y0 y1 y2 y3 y4 y5 y6 y7 y8) := by
  unfold storeI
  exact ((((((((h.setCell (p := ⟨r, 0, none⟩) (.inr hr) _).setCell (p := ⟨r, 1, none⟩) (.inr hr) _).setCell (p := ⟨r, 2, none⟩) (.inr hr) _).setCell (p := ⟨r, 3, none⟩) (.inr hr) _).setCell (p := ⟨r, 4, none⟩) (.inr hr) _).setCell (p := ⟨r, 5, none⟩) (.inr hr) _).setCell (p := ⟨r, 6, none⟩) (.inr hr) _).setCell (p := ⟨r, 7, none⟩) (.inr hr) _).setCell (p := ⟨r, 8, none⟩) (.inr hr) _
theorem zeroI_is (w : World) : IsIns w.heap.size w ⟨none, 0, none, 0, none, 0, none, 0⟩ zeroI := ⟨⟨rfl, .inl rfl⟩, ⟨rfl, .inl rfl⟩, ⟨rfl, .inl rfl⟩, ⟨rfl, .inl rfl⟩⟩
/-- How Parse ends. -/
def ParseP (l : List UInt8) (w : World) (e : Ending) (w' : World) : Prop :=
  ∃ A, e = .returned (.tuple #[.agg (insC A (textI l)), .int .i64 (textAt l : Int), .int .i64 (textC l)]) ∧ IsIns w'.heap.size w' A (textI l) ∧ Below w.heap.size w w'
theorem textI_err {l : List UInt8} (h : textC l ≠ 0) : textI l = zeroI := by
  unfold textC at h
  unfold textI
  split
  · rfl
  · rename_i hb
    rw [if_neg hb] at h
    cases hF : runR (cutL l 0) instP 0 with
    | ok x k =>
      rw [hF] at h
      simp only [ansI]
      split
      · rfl
      · rename_i hk
        exact absurd (by simp only [ansC, if_neg hk]) h
    | no k c => rfl
theorem textAt_ok {l : List UInt8} (h : textC l = 0) : textAt l = 0 := by
  unfold textC at h
  unfold textAt
  split
  · rename_i hb
    rw [if_pos hb] at h
    cases h
  · rename_i hb
    rw [if_neg hb] at h
    cases hF : runR (cutL l 0) instP 0 with
    | ok x k =>
      rw [hF] at h
      simp only [ansC] at h
      simp only [ansAt]
      split
      · rename_i hk
        rw [if_pos hk] at h
        cases h
      · rfl
    | no k c =>
      rw [hF] at h
      simp only [ansC] at h
      subst h
      rcases run_codes _ _ _ _ hF with h | h | h <;> cases h
set_option maxHeartbeats 2000000 in
set_option maxRecDepth 100000 in
theorem parse_ins (s : ByteArray) (w : World) (hs : s.size ≤ 131072) : Calls Tryd.prog 15 #[.string s] w (ParseP s.data.toList w) := by
  have hmf : ∀ (fn : Fn) (first cap : Array Value) (w : World), (Instr.makeFunc fn first cap).run Tryd.prog w = .ok (.func fn first cap) w := fun _ _ _ _ => rfl
  have hsz : (w.alloc (.cells #[.int .i64 0, .int .i64 0, .int .i64 0, .int .i64 0, .int .i64 0, .slice none 0 0, .slice none 0 0, .slice none 0 0, .slice none 0 0] 38)).heap.size = w.heap.size + 1 := by simp
  have HRD := Lib.hid (read_ins (bx := w.heap.size + 1) s ((w.alloc (.cells #[.int .i64 0, .int .i64 0, .int .i64 0, .int .i64 0, .int .i64 0, .slice none 0 0, .slice none 0 0, .slice none 0 0, .slice none 0 0] 38)).alloc (.cells #[.int .i64 0, .int .i64 0, .int .i64 0, .int .i64 0, .int .i64 0, .slice none 0 0, .slice none 0 0, .slice none 0 0, .slice none 0 0] 38)) hs (by rw [← hsz]; exact heap_alloc_new _ _))
  have hB0 : Hid (Below w.heap.size w ((w.alloc (.cells #[.int .i64 0, .int .i64 0, .int .i64 0, .int .i64 0, .int .i64 0, .slice none 0 0, .slice none 0 0, .slice none 0 0, .slice none 0 0] 38)).alloc (.cells #[.int .i64 0, .int .i64 0, .int .i64 0, .int .i64 0, .int .i64 0, .slice none 0 0, .slice none 0 0, .slice none 0 0, .slice none 0 0] 38))) := Lib.hid (((Below.refl _ _).alloc (Nat.le_refl _) _).alloc (by simp) _)
  have hres : Hid (((w.alloc (.cells #[.int .i64 0, .int .i64 0, .int .i64 0, .int .i64 0, .int .i64 0, .slice none 0 0, .slice none 0 0, .slice none 0 0, .slice none 0 0] 38)).alloc (.cells #[.int .i64 0, .int .i64 0, .int .i64 0, .int .i64 0, .int .i64 0, .slice none 0 0, .slice none 0 0, .slice none 0 0, .slice none 0 0] 38)).heap[w.heap.size]? = some (.cells #[.int .i64 0, .int .i64 0, .int .i64 0, .int .i64 0, .int .i64 0, .slice none 0 0, .slice none 0 0, .slice none 0 0, .slice none 0 0] 38 (0, 0))) := Lib.hid (heap_alloc2_old _ _ _)
  have hsz2 : ((w.alloc (.cells #[.int .i64 0, .int .i64 0, .int .i64 0, .int .i64 0, .int .i64 0, .slice none 0 0, .slice none 0 0, .slice none 0 0, .slice none 0 0] 38)).alloc (.cells #[.int .i64 0, .int .i64 0, .int .i64 0, .int .i64 0, .int .i64 0, .slice none 0 0, .slice none 0 0, .slice none 0 0, .slice none 0 0] 38)).heap.size = w.heap.size + 2 := by simp
  have HI : Hid (∀ c, c ≠ 0 → textC s.data.toList = c → textI s.data.toList = zeroI) := Lib.hid fun c h1 h2 => textI_err (h2 ▸ h1)
  have HI0 : Hid (textC s.data.toList = 0 → textAt s.data.toList = 0) := Lib.hid textAt_ok
  unfold ParseP
  generalize textI s.data.toList = x at *
  generalize textAt s.data.toList = p at *
  generalize textC s.data.toList = c at *
  go_enter Tryd.func15, Tryd.ntmps15
  go_wp2_with fail
  obtain ⟨W2, hW2⟩ : ∃ z, (w.alloc (.cells #[.int .i64 0, .int .i64 0, .int .i64 0, .int .i64 0, .int .i64 0, .slice none 0 0, .slice none 0 0, .slice none 0 0, .slice none 0 0] 38)).alloc (.cells #[.int .i64 0, .int .i64 0, .int .i64 0, .int .i64 0, .int .i64 0, .slice none 0 0, .slice none 0 0, .slice none 0 0, .slice none 0 0] 38) = z := ⟨_, rfl⟩
  rw [hW2] at HRD hB0 hres hsz2 ⊢
  clear hW2 hsz
  refine HRD.out.mono ?_
  rintro e w1 ⟨rfl, hm, hx⟩
  have hr1 := (hm.block w.heap.size (by omega) (by omega)).trans hres.out
  have HB1 : Hid (Below w.heap.size w w1) := Lib.hid (hB0.out.trans (hm.below (B := w.heap.size) (by omega) (fun b hb => by omega)))
  have hs1 := hm.size
  have HR1 := Lib.hid hr1
  by_cases hc : c = 0
  · obtain ⟨A, hb, hi⟩ := hx hc
    have hbC := hb
    unfold insC at hbC
    obtain ⟨c0, c1, c2, c3, c4, c5, c6, c7, c8, _⟩ := cells9 hbC
    obtain ⟨n0, n1, n2, n3, n4, n5, n6, n7, n8, nf⟩ := cells9 hr1
    have HII := Lib.hid hi
    obtain rfl := HI0.out hc
    subst hc
    clear hx hm hb hbC hr1 hi HRD hB0 hres HI HI0
    go_wp2_with fail
    have hb9 := storeI_blk (y0 := .int .i64 x.en) (y1 := .int .i64 x.tm) (y2 := .int .i64 x.tr) (y3 := .int .i64 x.bm) (y4 := .int .i64 x.br) (y5 := .slice A.sa x.sats.length A.sc) (y6 := .slice A.ca x.cus.length A.cc) (y7 := .slice A.ka x.cost.length A.kc) (y8 := .slice A.ta x.time.length A.tc) HR1.out
    obtain ⟨z0, z1, z2, z3, z4, z5, z6, z7, z8, _⟩ := cells9 hb9
    unfold storeI at z0 z1 z2 z3 z4 z5 z6 z7 z8
    refine bodyPost_ret (v := .tuple #[.agg (insC A x), .int .i64 ((0 : Nat) : Int), .int .i64 0]) ?_ rfl ⟨A, rfl, HII.out _ (storeI_mod (S := fun b => b < W2.heap.size) (Mod.refl _ _) (by omega)), storeI_below HB1.out (Nat.le_refl _)⟩
    unfold insC
    clear c0 c1 c2 c3 c4 c5 c6 c7 c8 n0 n1 n2 n3 n4 n5 n6 n7 n8 nf hb9
    simp only [results, Tryd.results15]
    simp [go_sem, z0, z1, z2, z3, z4, z5, z6, z7, z8]
  · have hd : (c != 0) = true := by simpa using hc
    obtain rfl := HI.out c hc rfl
    obtain ⟨n0, n1, n2, n3, n4, n5, n6, n7, n8, nf⟩ := cells9 hr1
    clear hx hm hr1 HRD hB0 hres HI hc
    go_wp2_with fail
    have hb9 := storeI_blk (y0 := .int .i64 0) (y1 := .int .i64 0) (y2 := .int .i64 0) (y3 := .int .i64 0) (y4 := .int .i64 0) (y5 := .slice none 0 0) (y6 := .slice none 0 0) (y7 := .slice none 0 0) (y8 := .slice none 0 0) HR1.out
    obtain ⟨z0, z1, z2, z3, z4, z5, z6, z7, z8, _⟩ := cells9 hb9
    unfold storeI at z0 z1 z2 z3 z4 z5 z6 z7 z8
    refine bodyPost_ret (v := .tuple #[.agg (insC ⟨none, 0, none, 0, none, 0, none, 0⟩ zeroI), .int .i64 (p : Int), .int .i64 c]) ?_ rfl ⟨⟨none, 0, none, 0, none, 0, none, 0⟩, rfl, zeroI_is _, storeI_below HB1.out (Nat.le_refl _)⟩
    unfold insC zeroI
    clear n0 n1 n2 n3 n4 n5 n6 n7 n8 nf hb9
    simp only [results, Tryd.results15]
    simp [go_sem, z0, z1, z2, z3, z4, z5, z6, z7, z8]
end Go.Proofs.YtnnddmojcaicbaaDoor

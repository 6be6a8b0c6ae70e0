/- The walk of the law on a reader asked anything. -/
import Derived.Test.YtnepnfjghafccaaWAwake
import Derived.Test.YtnepnfjghafccaaReadsDo
import Derived.Test.YtnepnfjghafccaaReadsRef
namespace Go.Proofs.Ytnepnfjghafccaa
open Go.RowKit
variable {B C bt n k : Nat} {tv : Value} {ws : List W} {t : List Int} {w wr w2 : World} {l : List St} {a : Option Addr} {len cap : Nat} {F : Fin3}

theorem Told.rebase (h : Told B bt tv t w) (hC : C ≤ B) (hb : bt < C) : Told C bt tv t w := by
  refine ⟨h.cell, ⟨h.row.1, ?_⟩, hb, Nat.le_trans hC h.size⟩
  rcases h.row.2 with h2 | ⟨g, cap, cur, hv, hb', r⟩
  · exact .inl h2
  · exact .inr ⟨g, cap, cur, hv, by omega, r⟩
theorem IsSteps.below (h : IsSteps w a len l) (hb : Below w.heap.size w w2) : IsSteps w2 a len l := by
  refine ⟨h.1, ?_⟩
  rcases h.2 with h2 | ⟨b, off, rfl, hlt, hr⟩
  · exact .inl h2
  · refine .inr ⟨b, off, rfl, Nat.lt_of_lt_of_le hlt hb.size, fun i x hx => ?_⟩
    have hc : ∀ j, w2.cell? ((⟨b, off, none⟩ : Addr).add j) = w.cell? ((⟨b, off, none⟩ : Addr).add j) := fun j => hb.cell (p := (⟨b, off, none⟩ : Addr).add j) (by rw [Addr.add_lit]; exact hlt)
    rw [hc, hc, hc, hc]
    exact hr i x hx
theorem body_reads2 : Body 14 := fun _ _ => by kernel_rfl

/-- The law's do, as Read asks for it. -/
theorem reads_does (bl by_ : Nat) (hlen : l.length = len) (hl40 : len ≤ 40) (hl : w2.cell? ⟨bl, 0, none⟩ = some (.slice a len cap)) (hy : w2.cell? ⟨by_, 0, none⟩ = some (.func (.func 12) #[] #[.pointer (some ⟨bt, 0, none⟩)]))
    (ht : w2.heap[bt]? = some (.cells #[.slice none 0 0] 35 (0, 0))) (n1 : bl ≠ bt) (n2 : by_ ≠ bt) (hst : IsSteps w2 a len l) (hap : 0 < len → ∀ b off, a = some ⟨b, off, none⟩ → b < w2.heap.size ∧ b ≠ bt) (htx : ∀ x ∈ ws, x.1.length ≤ 1000000) (hF : goes ws n l 0 [] = F) :
    ∀ R v Wd, w2.heap.size ≤ R → Rd w2.heap.size R v ws n 0 0 0 Wd → Below w2.heap.size w2 Wd →
      Calls Try.prog 14 (#[ptrR R] ++ #[.pointer (some ⟨bl, 0, none⟩), .pointer (some ⟨bt, 0, none⟩), .pointer (some ⟨by_, 0, none⟩)]) Wd (DoPost w2.heap.size Wd Wd.heap.size bt R v ws n F) := by
  intro R v Wd hR hr hb
  have hbt := lt_of_block ht
  have hbl := World.block_lt_of_cell? _ _ hl
  have hby := World.block_lt_of_cell? _ _ hy
  simp only at hbl hby
  have hsz := hb.size
  exact do_any a len cap bl by_ l F hlen hl40 ⟨by omega, hr.lt, fun b hv => by have h := World.ownsRow.lt hr.row b hv; omega⟩
    ⟨hr, ⟨(hb.block bt hbt).trans ht, World.ownsRow_nil _ _ _ _, by omega, Nat.le_refl _⟩, Mod.refl _ _⟩
    ⟨(hb.cell (p := ⟨bl, 0, none⟩) hbl).trans hl, (hb.cell (p := ⟨by_, 0, none⟩) hby).trans hy, ⟨by omega, n1⟩, ⟨by omega, n2⟩, rfl⟩
    (hst.below hb) hF htx (fun h0 b off h => by have := hap h0 b off h; omega)

/-- .. and what Read makes of it. -/
theorem reads_read (s : ByteArray) (bl by_ : Nat) (hs : s.size ≤ 600) (hg : toN badB s.data.toList = s.size) (hlen : l.length = len) (hl40 : len ≤ 40) (hl : w2.cell? ⟨bl, 0, none⟩ = some (.slice a len cap)) (hy : w2.cell? ⟨by_, 0, none⟩ = some (.func (.func 12) #[] #[.pointer (some ⟨bt, 0, none⟩)]))
    (ht : w2.heap[bt]? = some (.cells #[.slice none 0 0] 35 (0, 0))) (n1 : bl ≠ bt) (n2 : by_ ≠ bt) (hst : IsSteps w2 a len l) (hap : 0 < len → ∀ b off, a = some ⟨b, off, none⟩ → b < w2.heap.size ∧ b ≠ bt) (hF : goes (cutL s.data.toList 0) s.size l 0 [] = F) :
    Calls Try.prog 13 #[.string s, .func (.func 14) #[] #[.pointer (some ⟨bl, 0, none⟩), .pointer (some ⟨bt, 0, none⟩), .pointer (some ⟨by_, 0, none⟩)]] w2 fun e w' =>
      e = .returned (.tuple #[.int .i64 (finAt (cutL s.data.toList 0) s.size F : Nat), .int .i64 (finCode (cutL s.data.toList 0) F)]) ∧ Mod (· = bt) w2 w' ∧ ∃ tv, Told w2.heap.size bt tv F.2.1 w' := by
  have hbt := lt_of_block ht
  have htx : ∀ x ∈ cutL s.data.toList 0, x.1.length ≤ 1000000 := fun x hx => by
    obtain ⟨_, _, _, h4, _⟩ := cutL_mem s.data.toList.length s.data.toList 0 (Nat.le_refl _) x.1 x.2 hx
    have : s.data.toList.length = s.size := by simp
    omega
  have hdo := reads_does (w2 := w2) bl by_ hlen hl40 hl hy ht n1 n2 hst hap htx hF
  have hX : Stable (fun w' => ∃ tv, Told w2.heap.size bt tv F.2.1 w') := fun a b ⟨tv, h⟩ hb => ⟨tv, h.below hb⟩
  cases hc : F.2.2 with
  | none =>
    have hd : Does 14 #[.pointer (some ⟨bl, 0, none⟩), .pointer (some ⟨bt, 0, none⟩), .pointer (some ⟨by_, 0, none⟩)] w2 (cutL s.data.toList 0) s.size (fun _ => .returned (.tuple #[])) F.1 0 0 (· = bt) (fun w' => ∃ tv, Told w2.heap.size bt tv F.2.1 w') := fun R v Wd hR hr hb =>
      (hdo R v Wd hR hr hb).mono fun e w' h => by
        obtain ⟨he, tv, hds⟩ := h.1 hc
        exact ⟨he, hds.rd, hds.mod.mono (fun i hi hs => by rcases hs with hs | hs | hs; exact .inl hs; exact .inr hs; omega), tv, hds.told.rebase hb.size hbt⟩
    refine (read_ret s w2 (by omega) hg _ body_reads2 _ F.1 0 _ (fun b hb => by omega) _ hX hd).mono fun e w' ⟨h1, h2, h3⟩ => ⟨?_, h2, h3⟩
    rw [h1]
    simp only [finAt, finCode, hc]
  | some c =>
    have hd : Does 14 #[.pointer (some ⟨bl, 0, none⟩), .pointer (some ⟨bt, 0, none⟩), .pointer (some ⟨by_, 0, none⟩)] w2 (cutL s.data.toList 0) s.size halted F.1 (placeN (cutL s.data.toList 0) s.size F.1) c (· = bt) (fun w' => ∃ tv, Told w2.heap.size bt tv F.2.1 w') := fun R v Wd hR hr hb =>
      (hdo R v Wd hR hr hb).mono fun e w' h => by
        obtain ⟨he, hrd, ⟨tv, htl⟩, hm⟩ := h.2 c hc
        exact ⟨he, hrd, hm.mono (fun i hi hs => by rcases hs with hs | hs | hs; exact .inl hs; exact .inr hs; omega), tv, htl.rebase hb.size hbt⟩
    refine (read_halt s w2 (by omega) hg _ body_reads2 _ F.1 _ c (code_ne hF hc) _ (fun b hb => by omega) _ hX hd).mono fun e w' ⟨h1, h2, h3⟩ => ⟨?_, h2, h3⟩
    rw [h1]
    simp only [finAt, finCode, hc]

theorem wordReads_over (s : ByteArray) (a : Option Addr) (len cap : Nat) (hs : s.size ≤ maxLen) (hlen : len ≤ maxLen) (hbig : 600 < s.size ∨ (¬ 600 < s.size ∧ 40 < len)) (w : World) :
    Calls Try.prog 4 #[.string s, .slice a len cap] w fun e w' => e = .returned (.bool true) ∧ Below w.heap.size w w' := by
  unfold maxLen at hs hlen
  have HB0 : Hid (Below w.heap.size w (w.alloc (.cells #[.slice a len cap] 34))) := Lib.hid ((Below.refl _ _).alloc (Nat.le_refl _) _)
  rcases hbig with h1 | ⟨h1, h2⟩
  · have h1' : (600 : Int) < (s.size : Int) := by omega
    clear h1
    go_enter Try.func4, Try.ntmps4
    go_wp2_with (go_at_call 9; refine (word_awake _).mono ?_; rintro e w1 ⟨rfl, hb1⟩; have HB1 := Lib.hid (HB0.out.trans (hb1.mono (by simp))); have c1 : w1.cell? ⟨w.heap.size, 0, none⟩ = some (.slice a len cap) := (hb1.cell (by simp)).trans (by simp); clear hb1)
    go_ret
    exact ⟨rfl, HB1.out⟩
  · have h1' : ¬ (600 : Int) < (s.size : Int) := by omega
    have h2' : (40 : Int) < (len : Int) := by omega
    clear h1 h2
    go_enter Try.func4, Try.ntmps4
    go_wp2_with (go_at_call 9; refine (word_awake _).mono ?_; rintro e w1 ⟨rfl, hb1⟩; have HB1 := Lib.hid (HB0.out.trans (hb1.mono (by simp))); have c1 : w1.cell? ⟨w.heap.size, 0, none⟩ = some (.slice a len cap) := (hb1.cell (by simp)).trans (by simp); clear hb1)
    go_ret
    exact ⟨rfl, HB1.out⟩

/-- The law's own memory: the boxed steps, what is told, yes. -/
abbrev stW (w1 : World) : World := (w1.alloc (.cells #[.slice none 0 0] 35)).alloc (.cells #[.func (.func 12) #[] #[.pointer (some ⟨w1.heap.size, 0, none⟩)]] 36)

set_option maxHeartbeats 2000000 in
/-- Behind the tests: Read tells p and c, the law's own reading tells the same, and the same numbers. -/
theorem wordReads_rest (s : ByteArray) (a : Option Addr) (len cap : Nat) (w : World) (hs : ¬ 600 < s.size) (hlen : ¬ 40 < len) (p : Nat) (c : Int) (t : List Int) (ht : t.length ≤ 1000)
    (hread : ∀ w1, Below w.heap.size w w1 → w1.cell? ⟨w.heap.size, 0, none⟩ = some (.slice a len cap) →
      Calls Try.prog 13 #[.string s, .func (.func 14) #[] #[.pointer (some ⟨w.heap.size, 0, none⟩), .pointer (some ⟨w1.heap.size, 0, none⟩), .pointer (some ⟨w1.heap.size + 1, 0, none⟩)]] (stW w1) fun e w' =>
        e = .returned (.tuple #[.int .i64 (p : Int), .int .i64 c]) ∧ Mod (· = w1.heap.size) (stW w1) w' ∧ ∃ tv, Told (stW w1).heap.size w1.heap.size tv t w')
    (hrefs : ∀ w3, Below w.heap.size w w3 → Calls Try.prog 20 #[.string s, .slice a len cap] w3 fun e w' => ∃ tv, e = .returned (.tuple #[tv, .int .i64 (p : Int), .int .i64 c]) ∧ w'.ownsRow w3.heap.size 2 1 tv t.length (numsV t) ∧ Below w3.heap.size w3 w') :
    Calls Try.prog 4 #[.string s, .slice a len cap] w fun e w' => e = .returned (.bool true) ∧ Below w.heap.size w w' := by
  have hmf : ∀ (fn : Fn) (first cap : Array Value) (w : World), (Instr.makeFunc fn first cap).run Try.prog w = .ok (.func fn first cap) w := fun _ _ _ _ => rfl
  have HB0 : Hid (Below w.heap.size w (w.alloc (.cells #[.slice a len cap] 34))) := Lib.hid ((Below.refl _ _).alloc (Nat.le_refl _) _)
  have h1' : ¬ (600 : Int) < (s.size : Int) := by omega
  have h2' : ¬ (40 : Int) < (len : Int) := by omega
  have HRD := Lib.hid hread
  have HRF := Lib.hid hrefs
  clear hs hlen hread hrefs
  go_enter Try.func4, Try.ntmps4
  go_wp2_with (go_at_call 9; refine (word_awake _).mono ?_; rintro e w1 ⟨rfl, hb1⟩; have HB1 := Lib.hid (HB0.out.trans (hb1.mono (by simp))); have c1 : w1.cell? ⟨w.heap.size, 0, none⟩ = some (.slice a len cap) := (hb1.cell (by simp)).trans (by simp); clear hb1)
  have hlt1 := World.block_lt_of_cell? _ _ c1
  simp only at hlt1
  refine (HRD.out w1 HB1.out c1).mono ?_
  rintro e w3 ⟨rfl, hm, tv, htold⟩
  have HW3 : Hid (Below w.heap.size w w3) := Lib.hid (((Mod.of_below (fun b => w.heap.size ≤ b) (((HB1.out.alloc HB1.out.size _).alloc (by simp; omega) _))).then_ hm (fun i hi hs => by omega)).below (Nat.le_refl _) (fun _ h => h))
  have c3 : w3.cell? ⟨w.heap.size, 0, none⟩ = some (.slice a len cap) := (hm.cell (p := ⟨w.heap.size, 0, none⟩) (by simp; omega) (by simp; omega)).trans ((World.cell?_alloc_past _ _ _ (by simp; omega)).trans ((World.cell?_alloc_past _ _ _ hlt1).trans c1))
  have HT := Lib.hid htold
  have HF := Lib.hid (HRF.out w3 HW3.out)
  clear hm htold HRD HRF HB1 HB0 c1
  go_wp2_with fail
  refine HF.out.mono ?_
  rintro e w4 ⟨tv2, rfl, hrow2, hb4⟩
  have HT4 := Lib.hid (HT.out.below hb4)
  have HW4 := Lib.hid (HW3.out.trans (hb4.mono HW3.out.size))
  obtain ⟨a1, n1, hv1⟩ := HT.out.shape
  obtain ⟨a2, n2, hv2⟩ : ∃ a2 n2, tv2 = .slice a2 t.length n2 := by
    rcases hrow2.2 with ⟨rfl, h2⟩ | ⟨g, cap, cur, rfl, _⟩
    · exact ⟨none, 0, by rw [h2]⟩
    · exact ⟨_, cap, rfl⟩
  subst hv1 hv2
  have c4 := cell_of_one HT4.out.cell
  have HEQ := Lib.hid (equal_any HT4.out.row hrow2 ht)
  clear hrow2 hb4 HF HT HW3 c3
  go_wp2_with (go_at_call 21; refine HEQ.out.mono ?_; rintro e w5 ⟨rfl, m, rfl⟩)
  go_ret
  exact ⟨rfl, below_drewN HW4.out _⟩

theorem wordReads_row (s : ByteArray) (a : Option Addr) (len cap : Nat) (l : List St) (w : World) (hs : s.size ≤ maxLen) (hlen : len ≤ maxLen) (hst : IsSteps w a len l) :
    Calls Try.prog 4 #[.string s, .slice a len cap] w fun e w' => e = .returned (.bool true) ∧ Below w.heap.size w w' := by
  by_cases h1 : 600 < s.size
  · exact wordReads_over s a len cap hs hlen (.inl h1) w
  · by_cases h2 : 40 < len
    · exact wordReads_over s a len cap hs hlen (.inr ⟨h1, h2⟩) w
    · have hle : toN badB s.data.toList ≤ s.size := by have := toN_le badB s.data.toList; simpa using this
      by_cases hb : toN badB s.data.toList < s.size
      · refine wordReads_rest s a len cap w h1 h2 (toN badB s.data.toList) 3 [] (by simp) (fun w1 hb1 _ => ?_) (fun w3 _ => ?_)
        · refine (read_bad s _ (stW w1) (by omega) hb).mono fun e w' ⟨he, hw⟩ => ⟨he, hw ▸ Mod.refl _ _, .slice none 0 0, ?_⟩
          subst hw
          exact ⟨(((Below.refl (w1.heap.size + 1) _).alloc (by simp) _).block _ (by omega)).trans (heap_alloc_new w1 _), World.ownsRow_nil _ _ _ _, by simp; omega, Nat.le_refl _⟩
        · exact (reads_bad s a len cap w3 (by omega) hb).mono fun e w' ⟨he, hw⟩ => ⟨_, he, World.ownsRow_nil _ _ _ _, hw⟩
      · have hg : toN badB s.data.toList = s.size := by omega
        have htl : (goes (cutL s.data.toList 0) s.size l 0 []).2.1.length ≤ 1000 := by
          have := goes_told (ws := cutL s.data.toList 0) (n := s.size) l 0 []
          have := hst.1
          simp at *
          omega
        refine wordReads_rest s a len cap w h1 h2 (finAt (cutL s.data.toList 0) s.size (goes (cutL s.data.toList 0) s.size l 0 [])) (finCode (cutL s.data.toList 0) (goes (cutL s.data.toList 0) s.size l 0 [])) _ htl (fun w1 hb1 hc => ?_) (fun w3 hb3 => ?_)
        · have hlt := World.block_lt_of_cell? _ _ hc
          simp only at hlt
          have hbl2 : Below w1.heap.size w1 (stW w1) := ((Below.refl _ _).alloc (Nat.le_refl _) _).alloc (by simp) _
          refine reads_read s w.heap.size (w1.heap.size + 1) (by omega) hg hst.1 (by omega) ((hbl2.cell (p := ⟨w.heap.size, 0, none⟩) hlt).trans hc) ?_ ?_ (by omega) (by omega) ((hst.below hb1).below hbl2) (fun hl0 b off ha => ?_) rfl
          · have := heap_alloc_new (w1.alloc (.cells #[.slice none 0 0] 35)) (.cells #[.func (.func 12) #[] #[.pointer (some ⟨w1.heap.size, 0, none⟩)]] 36)
            exact cell_of_one (by simpa using this)
          · exact (((Below.refl (w1.heap.size + 1) _).alloc (by simp) _).block _ (by omega)).trans (heap_alloc_new w1 _)
          · rcases hst.2 with h0 | ⟨b', off', ha', hlt', _⟩
            · omega
            · rw [ha'] at ha
              simp only [Option.some.injEq, Addr.mk.injEq, and_true] at ha
              simp
              omega
        · exact reads_any s a len cap l _ (by omega) hg hst.1 (by omega) (hst.below hb3) rfl
end Go.Proofs.Ytnepnfjghafccaa

/- The law's own reading of a text, step by step. -/
import Derived.Test.YtnepnfjghafccaaTold
import Derived.Test.YtnepnfjghafccaaRWords
import Derived.Test.YtnepnfjghafccaaRParse
namespace Go.Proofs.Ytnepnfjghafccaa
open Go.RowKit

/-- What lies apart. -/
structure RC (w : World) (b0 bw bi : Nat) : Prop where
  n1 : b0 ≠ bw
  n2 : b0 ≠ bi
  n3 : bw ≠ bi
  o0 : w.heap.size ≤ b0
  ow : w.heap.size ≤ bw
  oi : w.heap.size ≤ bi
/-- What the law keeps from step to step. -/
structure RS (w : World) (b0 bw bi : Nat) (s : ByteArray) (uv : Value) (ws : List W) (k : Nat) (tv : Value) (t : List Int) (wr : World) : Prop where
  c0 : wr.heap[b0]? = some (.cells #[.string s] 9 (0, 0))
  cw : wr.heap[bw]? = some (.cells #[uv] 27 (0, 0))
  ci : wr.heap[bi]? = some (.cells #[.int .i64 (k : Int)] 3 (0, 0))
  row : WRow 31 wr w.heap.size uv ws
  told : wr.ownsRow w.heap.size 2 1 tv t.length (numsV t)
  below : Below w.heap.size w wr
  a0 : tv.ownBlock ≠ some b0
  aw : tv.ownBlock ≠ some bw
  ai : tv.ownBlock ≠ some bi
  ui : uv.ownBlock ≠ some bi
  au : ∀ b, uv.ownBlock = some b → tv.ownBlock ≠ some b
  kle : k ≤ ws.length
variable {w wr w2 w4 : World} {b0 bw bi k n : Nat} {s : ByteArray} {uv tv : Value} {ws : List W} {t : List Int}
theorem RS.mod {S : Nat → Prop} (h : RS w b0 bw bi s uv ws k tv t wr) (hm : Mod S wr w2) (hS : ∀ b, b < wr.heap.size → ¬ S b) : RS w b0 bw bi s uv ws k tv t w2 := by
  have hb : Below wr.heap.size wr w2 := ⟨hm.os, hm.tape, hm.output, hm.size, fun b hb => hm.block b hb (hS b hb)⟩
  exact ⟨(hb.block b0 (lt_of_block h.c0)).trans h.c0, (hb.block bw (lt_of_block h.cw)).trans h.cw, (hb.block bi (lt_of_block h.ci)).trans h.ci, h.row.below hb, by
    refine ⟨h.told.1, ?_⟩
    rcases h.told.2 with h2 | ⟨g, cap, cur, hv, hb', hg, r⟩
    · exact .inl h2
    · exact .inr ⟨g, cap, cur, hv, hb', (hb.block g (Array.getElem?_eq_some_iff.1 hg).1).trans hg, r⟩, h.below.trans (hb.mono h.below.size), h.a0, h.aw, h.ai, h.ui, h.au, h.kle⟩
theorem RS.later (h : RS w b0 bw bi s uv ws k tv t wr) (hb : Below wr.heap.size wr w2) : RS w b0 bw bi s uv ws k tv t w2 := h.mod (S := fun _ => False) (Mod.of_below _ hb) (fun _ _ h => h)
/-- One number more. -/
theorem RS.push {x : Int} {g cap : Nat} {o : Obj} (h : RS w b0 bw bi s uv ws k tv t wr) (hown : w4.ownsRow w.heap.size 2 1 (.slice (some ⟨g, 0, none⟩) (t.length + 1) cap) (t.length + 1) (numsV t ++ [.int .i64 x])) (hgrow : (wr.alloc o).grownBy w4 tv.ownBlock) (hfr : tv.ownBlock = some g ∨ g = (wr.alloc o).heap.size) :
    RS w b0 bw bi s uv ws k (.slice (some ⟨g, 0, none⟩) (t.length + 1) cap) (t ++ [x]) w4 := by
  have hm : Mod (fun b => tv.ownBlock = some b) wr w4 := ((Mod.refl _ wr).alloc o).grown hgrow (fun k hk => .inr hk)
  have far : ∀ b, b < wr.heap.size → tv.ownBlock ≠ some b → Value.ownBlock (.slice (some ⟨g, 0, none⟩) (t.length + 1) cap) ≠ some b := fun b hb hne e => by
    have e' : g = b := by simpa [Value.ownBlock] using e
    subst e'
    rcases hfr with h1 | h1
    · exact hne h1
    · simp at h1
      omega
  have e : numsV (t ++ [x]) = numsV t ++ [.int .i64 x] := by simp [numsV]
  refine ⟨(hm.block b0 (lt_of_block h.c0) h.a0).trans h.c0, (hm.block bw (lt_of_block h.cw) h.aw).trans h.cw, (hm.block bi (lt_of_block h.ci) h.ai).trans h.ci, h.row.kept hm (fun b hb => h.au b hb), ?_,
    ((Mod.of_below (fun b => w.heap.size ≤ b) h.below).then_ hm (fun b hb hs => absurd (World.ownsRow.lt h.told b hs).1 (by omega))).below (Nat.le_refl _) (fun _ h => h), far _ (lt_of_block h.c0) h.a0, far _ (lt_of_block h.cw) h.aw, far _ (lt_of_block h.ci) h.ai, h.ui, fun b hb => far b (World.ownsRow.lt h.row b hb).2 (h.au b hb), h.kle⟩
  rw [e, List.length_append]
  exact hown
theorem RS.next (h : RS w b0 bw bi s uv ws k tv t wr) (hc : RC w b0 bw bi) (hk : k < ws.length) : RS w b0 bw bi s uv ws (k + 1) tv t (wr.setCell ⟨bi, 0, none⟩ (.int .i64 ((k : Int) + 1))) := by
  have hm : Mod (fun b => b = bi) wr (wr.setCell ⟨bi, 0, none⟩ (.int .i64 ((k : Int) + 1))) := (Mod.refl (fun b => b = bi) wr).setCell (p := ⟨bi, 0, none⟩) (.inr rfl) _
  exact ⟨(hm.block b0 (lt_of_block h.c0) hc.n2).trans h.c0, (hm.block bw (lt_of_block h.cw) hc.n3).trans h.cw, one_setCell h.ci, ownsRow_setCell_other h.row h.ui _, ownsRow_setCell_other h.told h.ai _, h.below.setCell hc.oi _, h.a0, h.aw, h.ai, h.ui, h.au, hk⟩
theorem RS.cells (h : RS w b0 bw bi s uv ws k tv t wr) : wr.cell? ⟨b0, 0, none⟩ = some (.string s) ∧ wr.cell? ⟨bw, 0, none⟩ = some uv ∧ wr.cell? ⟨bi, 0, none⟩ = some (.int .i64 (k : Int)) ∧ wr.frozen? ⟨bi, 0, none⟩ = false :=
  ⟨cell_of_one h.c0, cell_of_one h.cw, cell_of_one h.ci, free_of_one h.ci⟩
theorem RS.owned (h : RS w b0 bw bi s uv ws k tv t wr) (o : Obj) : (wr.alloc o).ownsRow w.heap.size 2 1 tv t.length (numsV t) := h.told.alloc o
theorem RS.tshape (h : RS w b0 bw bi s uv ws k tv t wr) : ∃ a cap, tv = .slice a t.length cap := by
  rcases h.told.2 with ⟨rfl, h2⟩ | ⟨g, cap, cur, rfl, _⟩
  · exact ⟨none, 0, by rw [h2]⟩
  · exact ⟨_, cap, rfl⟩

theorem RS.start {w1 : World} (hb : Below w.heap.size w w1) (hu : WRow 31 w1 (w.alloc (.cells #[.string s] 9)).heap.size uv ws) (hc : w1.heap[w.heap.size]? = some (.cells #[.string s] 9 (0, 0))) (hsz : w.heap.size + 1 ≤ w1.heap.size) :
    RS w w.heap.size w1.heap.size (w1.heap.size + 1) s uv ws 0 (.slice none 0 0) [] ((w1.alloc (.cells #[uv] 27)).alloc (.cells #[.int .i64 0] 3)) := by
  have hb1 : Below w1.heap.size w1 (w1.alloc (.cells #[uv] 27)) := (Below.refl _ _).alloc (Nat.le_refl _) _
  have hb2 : Below (w1.heap.size + 1) (w1.alloc (.cells #[uv] 27)) ((w1.alloc (.cells #[uv] 27)).alloc (.cells #[.int .i64 0] 3)) := (Below.refl _ _).alloc (by simp) _
  have hb3 : Below w1.heap.size w1 ((w1.alloc (.cells #[uv] 27)).alloc (.cells #[.int .i64 0] 3)) := hb1.trans (hb2.mono (by omega))
  have hui : ∀ b, uv.ownBlock = some b → b < w1.heap.size := fun b h => (World.ownsRow.lt hu b h).2
  refine ⟨(hb3.block _ (by omega)).trans hc, (hb2.block _ (by omega)).trans (heap_alloc_new _ _), ?_, (hu.rebase (by simp)).below hb3, World.ownsRow_nil _ _ _ _, hb.trans (hb3.mono (by omega)), by simp [Value.ownBlock], by simp [Value.ownBlock], by simp [Value.ownBlock], fun e => by have := hui _ e; omega, fun _ _ => by simp [Value.ownBlock], Nat.zero_le _⟩
  have := heap_alloc_new (w1.alloc (.cells #[uv] 27)) (.cells #[.int .i64 0] 3)
  simpa using this

/-- The law's at. -/
theorem at_any (h : RS w b0 bw bi s uv ws k tv t wr) (hl : ws.length ≤ 1000000) : Calls Try.prog 31 #[.pointer (some ⟨bi, 0, none⟩), .pointer (some ⟨bw, 0, none⟩), .pointer (some ⟨b0, 0, none⟩)] wr fun e w' => e = .returned (.int .i64 (placeN ws s.size k : Int)) ∧ wr = w' := by
  obtain ⟨c0, cw, ci, _⟩ := h.cells
  obtain ⟨ua, uc, hv⟩ := h.row.shape
  by_cases hk : k < ws.length
  · obtain ⟨⟨u, a⟩, hx⟩ : ∃ x, ws[k]? = some x := ⟨_, List.getElem?_eq_getElem hk⟩
    rw [placeN_some hx]
    obtain ⟨g, cap, hv2, _, _, hcl, hcm⟩ := h.row.some_ (by omega)
    subst hv2
    have d1 := (h.row.cells hx).2
    unfold maxLen at hcm
    clear h hx hv
    go_enter Try.func31, Try.ntmps31
    go_wp2_with fail
    go_ret
    exact ⟨rfl, rfl⟩
  · rw [placeN_none hk]
    subst hv
    clear h
    go_enter Try.func31, Try.ntmps31
    go_wp2_with fail
    go_ret
    exact ⟨rfl, rfl⟩

/-- How the law's own reading ends. -/
def RefPost (w : World) (ws : List W) (n : Nat) (F : Fin3) (e : Ending) (w' : World) : Prop :=
  ∃ tv, e = .returned (.tuple #[tv, .int .i64 (finAt ws n F : Nat), .int .i64 (finCode ws F)]) ∧ w'.ownsRow w.heap.size 2 1 tv F.2.1.length (numsV F.2.1) ∧ Below w.heap.size w w'
theorem RefPost.off {c : Int} (h : RS w b0 bw bi s uv ws k tv t wr) : RefPost w ws n (k, t, some c) (.returned (.tuple #[tv, .int .i64 (placeN ws n k : Nat), .int .i64 c])) wr := ⟨tv, rfl, h.told, h.below⟩
theorem RefPost.on {p : Nat} {c : Int} (h : RS w b0 bw bi s uv ws k tv t wr) (hp : endAt ws n k = p) (hc : endCode ws k = c) : RefPost w ws n (k, t, none) (.returned (.tuple #[tv, .int .i64 (p : Nat), .int .i64 c])) wr := ⟨tv, by simp only [finAt, finCode, hp, hc], h.told, h.below⟩

theorem reads_bad (s : ByteArray) (a : Option Addr) (len cap : Nat) (w : World) (hs : s.size ≤ 131072) (hb : toN badB s.data.toList < s.size) :
    Calls Try.prog 20 #[.string s, .slice a len cap] w fun e w' => e = .returned (.tuple #[.slice none 0 0, .int .i64 (toN badB s.data.toList : Nat), .int .i64 3]) ∧ Below w.heap.size w w' := by
  have HW := Lib.hid fun Wd => words_bad s Wd hs hb
  generalize toN badB s.data.toList = q at *
  go_enter Try.func20, Try.ntmps20
  go_wp2_with (go_at_call 11; refine (HW.out _).mono ?_; rintro e w3 ⟨rfl, rfl⟩)
  go_ret3
  exact ⟨rfl, ((Below.refl _ _).alloc (Nat.le_refl _) _).alloc (by simp) _⟩

set_option maxHeartbeats 8000000 in
set_option maxRecDepth 100000 in
theorem reads_any (s : ByteArray) (a : Option Addr) (len cap : Nat) (l : List St) (F : Fin3) (hs : s.size ≤ 600) (hb : toN badB s.data.toList = s.size) (hlen : l.length = len) (hl40 : len ≤ 40) (hst : IsSteps w a len l)
    (hF : goes (cutL s.data.toList 0) s.size l 0 [] = F) :
    Calls Try.prog 20 #[.string s, .slice a len cap] w (RefPost w (cutL s.data.toList 0) s.size F) := by
  obtain ⟨i0, hi, hz0, hz1, hz2⟩ := info_parts infoI
  have hmf : ∀ (fn : Fn) (first cap : Array Value) (w : World), (Instr.makeFunc fn first cap).run Try.prog w = .ok (.func fn first cap) w := fun _ _ _ _ => rfl
  have HW := Lib.hid fun Wd => words_good s Wd (by omega) hb
  have hwl := words_few s (by omega)
  have htx : ∀ x ∈ cutL s.data.toList 0, x.1.length ≤ 1000000 := fun x hx => by
    obtain ⟨_, _, _, h4, _⟩ := cutL_mem s.data.toList.length s.data.toList 0 (Nat.le_refl _) x.1 x.2 hx
    have : s.data.toList.length = s.size := by simp
    omega
  have HTX := Lib.hid htx
  generalize hws : cutL s.data.toList 0 = ws at *
  have HF0 : Hid (goes ws s.size (l.drop 0) 0 [] = F) := Lib.hid hF
  have HST := Lib.hid hst
  have HLEN := Lib.hid hlen
  clear hws hF hst hlen htx hb
  go_enter Try.func20, Try.ntmps20
  go_wp2_with fail
  refine (HW.out _).mono ?_
  rintro e w1 ⟨u, rfl, hu, hb1⟩
  have hsz1 := hb1.size
  simp only [World.size_alloc] at hsz1
  have HB1 : Hid (Below w.heap.size w w1) := Lib.hid (((Below.refl w.heap.size w).alloc (Nat.le_refl _) _).trans (hb1.mono (by simp)))
  have HU := Lib.hid hu
  have HC0 : Hid (w1.heap[w.heap.size]? = some (.cells #[.string s] 9 (0, 0))) := Lib.hid ((hb1.block w.heap.size (by simp)).trans (heap_alloc_new w _))
  obtain ⟨ua, uc, hv⟩ := hu.shape
  subst hv
  clear hu hb1 HW
  have HR : Hid (RS w w.heap.size w1.heap.size (w1.heap.size + 1) s (.slice ua ws.length uc) ws 0 (.slice none 0 0) [] ((w1.alloc (.cells #[.slice ua ws.length uc] 27)).alloc (.cells #[.int .i64 0] 3))) := Lib.hid (RS.start HB1.out HU.out HC0.out hsz1)
  have HRC : Hid (RC w w.heap.size w1.heap.size (w1.heap.size + 1)) := Lib.hid ⟨by omega, by omega, by omega, Nat.le_refl _, by omega, by omega⟩
  have hbw : w.heap.size < w1.heap.size := by omega
  clear HB1 HU HC0 hsz1
  go_wp2_with fail
  generalize w1.heap.size + 1 = bi at *
  generalize w1.heap.size = bw at *
  go_loopw [4, 29] (fun tl i wr => ∃ (j k : Nat) (tv : Value) (t : List Int), i = .int .i64 j ∧ tv = tl ∧ j ≤ len ∧ t.length ≤ j ∧ Hid (RS w w.heap.size bw bi s (.slice ua ws.length uc) ws k tv t wr) ∧ Hid (goes ws s.size (l.drop j) k t = F)) (fun _ i _ => len - (intOf i).toNat)
  case atStart => exact ⟨0, 0, _, [], rfl, rfl, Nat.zero_le _, Nat.zero_le _, HR, HF0⟩
  case round =>
    obtain ⟨j, k, tv, t, rfl, rfl, hj, htj, HK, HF⟩ := hrel
    clear HR HF0
    obtain ⟨ta, tc, hv⟩ := HK.out.tshape
    subst hv
    obtain ⟨r0, rw_, ri, rf⟩ := HK.out.cells
    have hkl := HK.out.kle
    by_cases hlt : j < len
    · obtain ⟨x, hx⟩ : ∃ x, l[j]? = some x := ⟨_, List.getElem?_eq_getElem (by have := HLEN.out; omega)⟩
      obtain ⟨b, off, hA, hb, hrow⟩ : ∃ b off, a = some ⟨b, off, none⟩ ∧ b < w.heap.size ∧ StRow w ⟨b, off, none⟩ l := by
        rcases HST.out.2 with h | h
        · omega
        · exact h
      subst hA
      obtain ⟨e0, e1, e2, e3, hd255⟩ := hrow.at_ hx
      have g0 := (HK.out.below.cell (p := ⟨b, off + j * 4, none⟩) hb).trans e0
      have g1 := (HK.out.below.cell (p := ⟨b, off + j * 4 + 1, none⟩) hb).trans e1
      have g2 := (HK.out.below.cell (p := ⟨b, off + j * 4 + 2, none⟩) hb).trans e2
      have g3 := (HK.out.below.cell (p := ⟨b, off + j * 4 + 3, none⟩) hb).trans e3
      have HXJ := Lib.hid hx
      clear e0 e1 e2 e3 hrow hx
      obtain ⟨d, xt, lo, hi'⟩ := x
      simp only at g0 g1 g2 g3 hd255
      have HX := Lib.hid (HK.out.later ((Below.refl wr.heap.size wr).alloc (Nat.le_refl _) (.cells #[.int .u8 (d : Int), .string xt, .int .i64 lo, .int .i64 hi'] 41)))
      obtain ⟨s0, sw, si, sf⟩ := HX.out.cells
      have hbx : bi ≠ wr.heap.size := by have := lt_of_block HK.out.ci; omega
      clear r0 rw_ ri rf
      -- the cases of a round, by gen_readsref.py
      by_cases hk : k < ws.length
      · obtain ⟨⟨u, p⟩, hwx⟩ : ∃ x, ws[k]? = some x := ⟨_, List.getElem?_eq_getElem hk⟩
        obtain ⟨gw, gc, hv, _, hgb, hcl, hcm⟩ := HX.out.row.some_ (by omega)
        injection hv with f1 f2 f3
        subst f1 f3
        try clear f2
        have cu := (HX.out.row.cells hwx).1
        obtain ⟨y, hyy⟩ : ∃ y : ByteArray, (⟨u.toArray⟩ : ByteArray) = y := ⟨_, rfl⟩
        rw [hyy] at cu
        have hw := isW_at hwx xt
        rw [hyy] at hw
        have HWX := Lib.hid hwx
        have HYY := Lib.hid hyy
        clear hyy hwx
        unfold maxLen at hcm
        by_cases hy : y = xt
        · rw [decide_eq_true hy] at hw
          have HW := Lib.hid hw
          subst hy
          clear hw
          have HG5 : Hid (d % 5 = 0 ∨ d % 5 = 1 ∨ d % 5 = 2 ∨ d % 5 = 3 ∨ d % 5 = 4) := Lib.hid (by omega)
          go_wp2_with fail
          go_quiet (fail)
          have HQ : Hid (RS w w.heap.size bw bi s (.slice (some ⟨gw, 0, none⟩) ws.length uc) ws k (.slice ta t.length tc) t ((wr.alloc (.cells #[.int .u8 (d : Int), .string y, .int .i64 lo, .int .i64 hi'] 41)).drewN nq)) := Lib.hid (HX.out.later (below_drewN (Below.refl _ _) nq))
          have x0 : ((wr.alloc (.cells #[.int .u8 (d : Int), .string y, .int .i64 lo, .int .i64 hi'] 41)).drewN nq).cell? ⟨wr.heap.size, 0, none⟩ = some (.int .u8 (d : Int)) := by show (wr.alloc _).cell? _ = _; simp
          have x2 : ((wr.alloc (.cells #[.int .u8 (d : Int), .string y, .int .i64 lo, .int .i64 hi'] 41)).drewN nq).cell? ⟨wr.heap.size, 2, none⟩ = some (.int .i64 lo) := by show (wr.alloc _).cell? _ = _; simp
          have x3 : ((wr.alloc (.cells #[.int .u8 (d : Int), .string y, .int .i64 lo, .int .i64 hi'] 41)).drewN nq).cell? ⟨wr.heap.size, 3, none⟩ = some (.int .i64 hi') := by show (wr.alloc _).cell? _ = _; simp
          clear HX s0 sw si sf g0 g1 g2 g3 cu
          generalize (wr.alloc (.cells #[.int .u8 (d : Int), .string y, .int .i64 lo, .int .i64 hi'] 41)).drewN nq = wq at HQ x0 x2 x3 ⊢
          obtain ⟨q0, qw, qi, qf⟩ := HQ.out.cells
          have cu := (HQ.out.row.cells HWX.out).1
          rw [HYY.out] at cu
          rcases HG5.out with h5 | h5 | h5 | h5 | h5
          · have h5' : (d : Int) % 5 = 0 := by omega
            have HG := Lib.hid (goes_on HF.out HXJ.out (stepO_0 h5))
            clear HF h5
            go_wp2_with (first | (go_at_call 31; refine (at_any HQ.out hwl).mono ?_; rintro e w5 ⟨rfl, rfl⟩) | (at_builtin; refine wpList_append_fresh rfl (.tmp 92) (.tmp 95) 35 rfl w.heap.size 2 i0 _ 1 8 Try.underlying35 hi hz0 hz1 hz2 (by decide) (.slice ta t.length tc) t.length (numsV t) rfl (HQ.out.owned _) ⟨wq.heap.size, 0, none⟩ 1 [.int .i64 (placeN ws s.size k : Int)] rfl rfl (news_at _ _ _ _ (by simp)) (one_int _) (by unfold maxLen; omega) (by omega) (Nat.le_trans HQ.out.below.size (by simp)) ?_; intro g cp4 w4 hown hgrow hfr; have HP := Lib.hid (HQ.out.push hown hgrow hfr); have f3 := HP.out.cells.2.2.1; have f4 := HP.out.cells.2.2.2; clear hown hgrow hfr))
            go_roundw
            case rel => exact ⟨j + 1, k, _, _, by go_num, rfl, by omega, by simp; omega, HP, HG⟩
            case measure => simp [intOf]; omega
          · have h5' : (d : Int) % 5 = 1 := by omega
            have hg := goes_on HF.out HXJ.out (stepO_1 h5)
            rw [if_pos hk] at hg
            have HG := Lib.hid hg
            clear HF h5 hg
            go_wp2_with (at_builtin; refine wpList_append_fresh rfl (.tmp 103) (.tmp 105) 35 rfl w.heap.size 2 i0 _ 1 8 Try.underlying35 hi hz0 hz1 hz2 (by decide) (.slice ta t.length tc) t.length (numsV t) rfl (HQ.out.owned _) ⟨wq.heap.size, 0, none⟩ 1 [.int .i64 1] rfl rfl (news_at _ _ _ _ (by simp)) (one_int _) (by unfold maxLen; omega) (by omega) (Nat.le_trans HQ.out.below.size (by simp)) ?_; intro g cp4 w4 hown hgrow hfr; have HP := Lib.hid (HQ.out.push hown hgrow hfr); have f3 := HP.out.cells.2.2.1; have f4 := HP.out.cells.2.2.2; clear hown hgrow hfr)
            go_roundw
            case rel => exact ⟨j + 1, k, _, _, by go_num, rfl, by omega, by simp; omega, HP, HG⟩
            case measure => simp [intOf]; omega
          · have h5' : (d : Int) % 5 = 2 := by omega
            have hs := stepO_2 (ws := ws) (n := s.size) (k := k) (x := ⟨d, y, lo, hi'⟩) h5
            simp only [HW.out, if_true] at hs
            have HG := Lib.hid (goes_on HF.out HXJ.out hs)
            clear HF h5 hs
            have HN := Lib.hid (HQ.out.next HRC.out hk)
            have x0' : (wq.setCell ⟨bi, 0, none⟩ (.int .i64 ((k : Int) + 1))).cell? ⟨wr.heap.size, 0, none⟩ = some (.int .u8 (d : Int)) := (World.cell?_setCell_other wq ⟨bi, 0, none⟩ ⟨wr.heap.size, 0, none⟩ _ (fun e => hbx (by injection e))).trans x0
            go_wp2_with (at_builtin; refine wpList_append_fresh rfl (.tmp 128) (.tmp 130) 35 rfl w.heap.size 2 i0 _ 1 8 Try.underlying35 hi hz0 hz1 hz2 (by decide) (.slice ta t.length tc) t.length (numsV t) rfl (HN.out.owned _) ⟨wq.heap.size, 0, none⟩ 1 [.int .i64 1] rfl rfl (news_at _ _ _ _ (by simp)) (one_int _) (by unfold maxLen; omega) (by omega) (Nat.le_trans HN.out.below.size (by simp)) ?_; intro g cp4 w4 hown hgrow hfr; have HP := Lib.hid (HN.out.push hown hgrow hfr); have f3 := HP.out.cells.2.2.1; have f4 := HP.out.cells.2.2.2; clear hown hgrow hfr)
            go_roundw
            case rel => exact ⟨j + 1, (k + 1), _, _, by go_num, rfl, by omega, by simp; omega, HP, HG⟩
            case measure => simp [intOf]; omega
          · have h5' : (d : Int) % 5 = 3 := by omega
            have hs := stepO_3 (ws := ws) (n := s.size) (k := k) (x := ⟨d, y, lo, hi'⟩) h5
            simp only [HW.out, if_true] at hs
            have hg := goes_on HF.out HXJ.out hs
            rw [List.append_nil] at hg
            have HG := Lib.hid hg
            clear HF h5 hs hg
            have HN := Lib.hid (HQ.out.next HRC.out hk)
            have x0' : (wq.setCell ⟨bi, 0, none⟩ (.int .i64 ((k : Int) + 1))).cell? ⟨wr.heap.size, 0, none⟩ = some (.int .u8 (d : Int)) := (World.cell?_setCell_other wq ⟨bi, 0, none⟩ ⟨wr.heap.size, 0, none⟩ _ (fun e => hbx (by injection e))).trans x0
            go_wp2_with fail
            go_roundw
            case rel => exact ⟨j + 1, (k + 1), _, _, by go_num, rfl, by omega, by omega, HN, HG⟩
            case measure => simp [intOf]; omega
          · have h5' : (d : Int) % 5 = 4 := by omega
            have hpa : ∀ Wd, Calls Try.prog 32 #[.string y] Wd fun e w' => e = .returned (.tuple #[.int .i64 (((parseO u).getD 0 : Nat) : Int), .bool (parseO u).isSome]) ∧ Wd = w' := fun Wd => by
              have h := rparse_any y (by rw [← HYY.out]; unfold maxLen; simp [ByteArray.size]; have := HTX.out _ (List.mem_of_getElem? HWX.out); simp at this; omega) Wd
              rw [show y.data.toList = u by rw [← HYY.out]] at h
              exact h
            cases hp : parseO u with
            | none =>
              rw [hp] at hpa
              have HPA := Lib.hid hpa
              have hs : stepO ws s.size (⟨d, y, lo, hi'⟩ : St) k = .inr 3 := by rw [stepO_4 h5, HWX.out]; simp [hp]
              have hfin := goes_off HF.out HXJ.out hs
              clear hs h5 hp hpa
              subst hfin
              clear HF
              go_wp2_with (first | (go_at_call 32; refine (HPA.out _).mono ?_; rintro e w6 ⟨rfl, rfl⟩) | (go_at_call 31; refine (at_any HQ.out hwl).mono ?_; rintro e w5 ⟨rfl, rfl⟩))
              go_ret3
              exact RefPost.off HQ.out
            | some q =>
              rw [hp] at hpa
              have HPA := Lib.hid hpa
              simp only [Option.getD_some, Option.isSome_some] at hpa
              have HPB := Lib.hid hpa
              clear HPA hpa
              by_cases c1 : (q : Int) < lo
              · have hs : stepO ws s.size (⟨d, y, lo, hi'⟩ : St) k = .inr 2 := by rw [stepO_4 h5, HWX.out]; simp [hp, c1]
                have hfin := goes_off HF.out HXJ.out hs
                clear hs h5 hp
                subst hfin
                clear HF
                go_wp2_with (first | (go_at_call 32; refine (HPB.out _).mono ?_; rintro e w6 ⟨rfl, rfl⟩) | (go_at_call 31; refine (at_any HQ.out hwl).mono ?_; rintro e w5 ⟨rfl, rfl⟩))
                go_ret3
                exact RefPost.off HQ.out
              · by_cases c2 : hi' < (q : Int)
                · have hs : stepO ws s.size (⟨d, y, lo, hi'⟩ : St) k = .inr 2 := by rw [stepO_4 h5, HWX.out]; simp [hp, c1, c2]
                  have hfin := goes_off HF.out HXJ.out hs
                  clear hs h5 hp
                  subst hfin
                  clear HF
                  go_wp2_with (first | (go_at_call 32; refine (HPB.out _).mono ?_; rintro e w6 ⟨rfl, rfl⟩) | (go_at_call 31; refine (at_any HQ.out hwl).mono ?_; rintro e w5 ⟨rfl, rfl⟩))
                  go_ret3
                  exact RefPost.off HQ.out
                · have hs : stepO ws s.size (⟨d, y, lo, hi'⟩ : St) k = .inl (k + 1, [(q : Int)]) := by rw [stepO_4 h5, HWX.out]; simp [hp, c1, c2]
                  have HG := Lib.hid (goes_on HF.out HXJ.out hs)
                  clear HF hs h5 hp
                  go_wp2_with (first | (go_at_call 32; refine (HPB.out _).mono ?_; rintro e w6 ⟨rfl, rfl⟩) | (at_builtin; refine wpList_append_fresh rfl (.tmp 84) (.tmp 86) 35 rfl w.heap.size 2 i0 _ 1 8 Try.underlying35 hi hz0 hz1 hz2 (by decide) (.slice ta t.length tc) t.length (numsV t) rfl (HQ.out.owned _) ⟨wq.heap.size, 0, none⟩ 1 [.int .i64 (q : Int)] rfl rfl (news_at _ _ _ _ (by simp)) (one_int _) (by unfold maxLen; omega) (by omega) (Nat.le_trans HQ.out.below.size (by simp)) ?_; intro g cp4 w4 hown hgrow hfr; have HP := Lib.hid (HQ.out.push hown hgrow hfr); have f3 := HP.out.cells.2.2.1; have f4 := HP.out.cells.2.2.2; clear hown hgrow hfr))
                  have HN := Lib.hid (HP.out.next HRC.out hk)
                  go_roundw
                  case rel => exact ⟨j + 1, (k + 1), _, _, by go_num, rfl, by omega, by simp; omega, HN, HG⟩
                  case measure => simp [intOf]; omega
        · rw [decide_eq_false hy] at hw
          have HW := Lib.hid hw
          have hyb := str_ne hy
          clear hw hy
          have HG5 : Hid (d % 5 = 0 ∨ d % 5 = 1 ∨ d % 5 = 2 ∨ d % 5 = 3 ∨ d % 5 = 4) := Lib.hid (by omega)
          go_wp2_with fail
          go_quiet (fail)
          have HQ : Hid (RS w w.heap.size bw bi s (.slice (some ⟨gw, 0, none⟩) ws.length uc) ws k (.slice ta t.length tc) t ((wr.alloc (.cells #[.int .u8 (d : Int), .string xt, .int .i64 lo, .int .i64 hi'] 41)).drewN nq)) := Lib.hid (HX.out.later (below_drewN (Below.refl _ _) nq))
          have x0 : ((wr.alloc (.cells #[.int .u8 (d : Int), .string xt, .int .i64 lo, .int .i64 hi'] 41)).drewN nq).cell? ⟨wr.heap.size, 0, none⟩ = some (.int .u8 (d : Int)) := by show (wr.alloc _).cell? _ = _; simp
          have x2 : ((wr.alloc (.cells #[.int .u8 (d : Int), .string xt, .int .i64 lo, .int .i64 hi'] 41)).drewN nq).cell? ⟨wr.heap.size, 2, none⟩ = some (.int .i64 lo) := by show (wr.alloc _).cell? _ = _; simp
          have x3 : ((wr.alloc (.cells #[.int .u8 (d : Int), .string xt, .int .i64 lo, .int .i64 hi'] 41)).drewN nq).cell? ⟨wr.heap.size, 3, none⟩ = some (.int .i64 hi') := by show (wr.alloc _).cell? _ = _; simp
          clear HX s0 sw si sf g0 g1 g2 g3 cu
          generalize (wr.alloc (.cells #[.int .u8 (d : Int), .string xt, .int .i64 lo, .int .i64 hi'] 41)).drewN nq = wq at HQ x0 x2 x3 ⊢
          obtain ⟨q0, qw, qi, qf⟩ := HQ.out.cells
          have cu := (HQ.out.row.cells HWX.out).1
          rw [HYY.out] at cu
          rcases HG5.out with h5 | h5 | h5 | h5 | h5
          · have h5' : (d : Int) % 5 = 0 := by omega
            have HG := Lib.hid (goes_on HF.out HXJ.out (stepO_0 h5))
            clear HF h5
            go_wp2_with (first | (go_at_call 31; refine (at_any HQ.out hwl).mono ?_; rintro e w5 ⟨rfl, rfl⟩) | (at_builtin; refine wpList_append_fresh rfl (.tmp 92) (.tmp 95) 35 rfl w.heap.size 2 i0 _ 1 8 Try.underlying35 hi hz0 hz1 hz2 (by decide) (.slice ta t.length tc) t.length (numsV t) rfl (HQ.out.owned _) ⟨wq.heap.size, 0, none⟩ 1 [.int .i64 (placeN ws s.size k : Int)] rfl rfl (news_at _ _ _ _ (by simp)) (one_int _) (by unfold maxLen; omega) (by omega) (Nat.le_trans HQ.out.below.size (by simp)) ?_; intro g cp4 w4 hown hgrow hfr; have HP := Lib.hid (HQ.out.push hown hgrow hfr); have f3 := HP.out.cells.2.2.1; have f4 := HP.out.cells.2.2.2; clear hown hgrow hfr))
            go_roundw
            case rel => exact ⟨j + 1, k, _, _, by go_num, rfl, by omega, by simp; omega, HP, HG⟩
            case measure => simp [intOf]; omega
          · have h5' : (d : Int) % 5 = 1 := by omega
            have hg := goes_on HF.out HXJ.out (stepO_1 h5)
            rw [if_pos hk] at hg
            have HG := Lib.hid hg
            clear HF h5 hg
            go_wp2_with (at_builtin; refine wpList_append_fresh rfl (.tmp 103) (.tmp 105) 35 rfl w.heap.size 2 i0 _ 1 8 Try.underlying35 hi hz0 hz1 hz2 (by decide) (.slice ta t.length tc) t.length (numsV t) rfl (HQ.out.owned _) ⟨wq.heap.size, 0, none⟩ 1 [.int .i64 1] rfl rfl (news_at _ _ _ _ (by simp)) (one_int _) (by unfold maxLen; omega) (by omega) (Nat.le_trans HQ.out.below.size (by simp)) ?_; intro g cp4 w4 hown hgrow hfr; have HP := Lib.hid (HQ.out.push hown hgrow hfr); have f3 := HP.out.cells.2.2.1; have f4 := HP.out.cells.2.2.2; clear hown hgrow hfr)
            go_roundw
            case rel => exact ⟨j + 1, k, _, _, by go_num, rfl, by omega, by simp; omega, HP, HG⟩
            case measure => simp [intOf]; omega
          · have h5' : (d : Int) % 5 = 2 := by omega
            have hs := stepO_2 (ws := ws) (n := s.size) (k := k) (x := ⟨d, xt, lo, hi'⟩) h5
            simp only [HW.out, Bool.false_eq_true, if_false] at hs
            have HG := Lib.hid (goes_on HF.out HXJ.out hs)
            clear HF h5 hs
            go_wp2_with (at_builtin; refine wpList_append_fresh rfl (.tmp 128) (.tmp 130) 35 rfl w.heap.size 2 i0 _ 1 8 Try.underlying35 hi hz0 hz1 hz2 (by decide) (.slice ta t.length tc) t.length (numsV t) rfl (HQ.out.owned _) ⟨wq.heap.size, 0, none⟩ 1 [.int .i64 0] rfl rfl (news_at _ _ _ _ (by simp)) (one_int _) (by unfold maxLen; omega) (by omega) (Nat.le_trans HQ.out.below.size (by simp)) ?_; intro g cp4 w4 hown hgrow hfr; have HP := Lib.hid (HQ.out.push hown hgrow hfr); have f3 := HP.out.cells.2.2.1; have f4 := HP.out.cells.2.2.2; clear hown hgrow hfr)
            go_roundw
            case rel => exact ⟨j + 1, k, _, _, by go_num, rfl, by omega, by simp; omega, HP, HG⟩
            case measure => simp [intOf]; omega
          · have h5' : (d : Int) % 5 = 3 := by omega
            have hs := stepO_3 (ws := ws) (n := s.size) (k := k) (x := ⟨d, xt, lo, hi'⟩) h5
            simp only [HW.out, Bool.false_eq_true, if_false] at hs
            have hfin := goes_off HF.out HXJ.out hs
            clear hs h5
            subst hfin
            clear HF
            go_wp2_with (go_at_call 31; refine (at_any HQ.out hwl).mono ?_; rintro e w5 ⟨rfl, rfl⟩)
            go_ret3
            exact RefPost.off HQ.out
          · have h5' : (d : Int) % 5 = 4 := by omega
            have hpa : ∀ Wd, Calls Try.prog 32 #[.string y] Wd fun e w' => e = .returned (.tuple #[.int .i64 (((parseO u).getD 0 : Nat) : Int), .bool (parseO u).isSome]) ∧ Wd = w' := fun Wd => by
              have h := rparse_any y (by rw [← HYY.out]; unfold maxLen; simp [ByteArray.size]; have := HTX.out _ (List.mem_of_getElem? HWX.out); simp at this; omega) Wd
              rw [show y.data.toList = u by rw [← HYY.out]] at h
              exact h
            cases hp : parseO u with
            | none =>
              rw [hp] at hpa
              have HPA := Lib.hid hpa
              have hs : stepO ws s.size (⟨d, xt, lo, hi'⟩ : St) k = .inr 3 := by rw [stepO_4 h5, HWX.out]; simp [hp]
              have hfin := goes_off HF.out HXJ.out hs
              clear hs h5 hp hpa
              subst hfin
              clear HF
              go_wp2_with (first | (go_at_call 32; refine (HPA.out _).mono ?_; rintro e w6 ⟨rfl, rfl⟩) | (go_at_call 31; refine (at_any HQ.out hwl).mono ?_; rintro e w5 ⟨rfl, rfl⟩))
              go_ret3
              exact RefPost.off HQ.out
            | some q =>
              rw [hp] at hpa
              have HPA := Lib.hid hpa
              simp only [Option.getD_some, Option.isSome_some] at hpa
              have HPB := Lib.hid hpa
              clear HPA hpa
              by_cases c1 : (q : Int) < lo
              · have hs : stepO ws s.size (⟨d, xt, lo, hi'⟩ : St) k = .inr 2 := by rw [stepO_4 h5, HWX.out]; simp [hp, c1]
                have hfin := goes_off HF.out HXJ.out hs
                clear hs h5 hp
                subst hfin
                clear HF
                go_wp2_with (first | (go_at_call 32; refine (HPB.out _).mono ?_; rintro e w6 ⟨rfl, rfl⟩) | (go_at_call 31; refine (at_any HQ.out hwl).mono ?_; rintro e w5 ⟨rfl, rfl⟩))
                go_ret3
                exact RefPost.off HQ.out
              · by_cases c2 : hi' < (q : Int)
                · have hs : stepO ws s.size (⟨d, xt, lo, hi'⟩ : St) k = .inr 2 := by rw [stepO_4 h5, HWX.out]; simp [hp, c1, c2]
                  have hfin := goes_off HF.out HXJ.out hs
                  clear hs h5 hp
                  subst hfin
                  clear HF
                  go_wp2_with (first | (go_at_call 32; refine (HPB.out _).mono ?_; rintro e w6 ⟨rfl, rfl⟩) | (go_at_call 31; refine (at_any HQ.out hwl).mono ?_; rintro e w5 ⟨rfl, rfl⟩))
                  go_ret3
                  exact RefPost.off HQ.out
                · have hs : stepO ws s.size (⟨d, xt, lo, hi'⟩ : St) k = .inl (k + 1, [(q : Int)]) := by rw [stepO_4 h5, HWX.out]; simp [hp, c1, c2]
                  have HG := Lib.hid (goes_on HF.out HXJ.out hs)
                  clear HF hs h5 hp
                  go_wp2_with (first | (go_at_call 32; refine (HPB.out _).mono ?_; rintro e w6 ⟨rfl, rfl⟩) | (at_builtin; refine wpList_append_fresh rfl (.tmp 84) (.tmp 86) 35 rfl w.heap.size 2 i0 _ 1 8 Try.underlying35 hi hz0 hz1 hz2 (by decide) (.slice ta t.length tc) t.length (numsV t) rfl (HQ.out.owned _) ⟨wq.heap.size, 0, none⟩ 1 [.int .i64 (q : Int)] rfl rfl (news_at _ _ _ _ (by simp)) (one_int _) (by unfold maxLen; omega) (by omega) (Nat.le_trans HQ.out.below.size (by simp)) ?_; intro g cp4 w4 hown hgrow hfr; have HP := Lib.hid (HQ.out.push hown hgrow hfr); have f3 := HP.out.cells.2.2.1; have f4 := HP.out.cells.2.2.2; clear hown hgrow hfr))
                  have HN := Lib.hid (HP.out.next HRC.out hk)
                  go_roundw
                  case rel => exact ⟨j + 1, (k + 1), _, _, by go_num, rfl, by omega, by simp; omega, HN, HG⟩
                  case measure => simp [intOf]; omega
      · have HW := Lib.hid (isW_end hk xt)
        have HNO : Hid (ws[k]? = none) := Lib.hid (by simpa using hk)
        have hkd : decide (k < ws.length) = false := decide_eq_false hk
        have HG5 : Hid (d % 5 = 0 ∨ d % 5 = 1 ∨ d % 5 = 2 ∨ d % 5 = 3 ∨ d % 5 = 4) := Lib.hid (by omega)
        go_wp2_with fail
        go_quiet (fail)
        have HQ : Hid (RS w w.heap.size bw bi s (.slice ua ws.length uc) ws k (.slice ta t.length tc) t ((wr.alloc (.cells #[.int .u8 (d : Int), .string xt, .int .i64 lo, .int .i64 hi'] 41)).drewN nq)) := Lib.hid (HX.out.later (below_drewN (Below.refl _ _) nq))
        have x0 : ((wr.alloc (.cells #[.int .u8 (d : Int), .string xt, .int .i64 lo, .int .i64 hi'] 41)).drewN nq).cell? ⟨wr.heap.size, 0, none⟩ = some (.int .u8 (d : Int)) := by show (wr.alloc _).cell? _ = _; simp
        have x2 : ((wr.alloc (.cells #[.int .u8 (d : Int), .string xt, .int .i64 lo, .int .i64 hi'] 41)).drewN nq).cell? ⟨wr.heap.size, 2, none⟩ = some (.int .i64 lo) := by show (wr.alloc _).cell? _ = _; simp
        have x3 : ((wr.alloc (.cells #[.int .u8 (d : Int), .string xt, .int .i64 lo, .int .i64 hi'] 41)).drewN nq).cell? ⟨wr.heap.size, 3, none⟩ = some (.int .i64 hi') := by show (wr.alloc _).cell? _ = _; simp
        clear HX s0 sw si sf g0 g1 g2 g3
        generalize (wr.alloc (.cells #[.int .u8 (d : Int), .string xt, .int .i64 lo, .int .i64 hi'] 41)).drewN nq = wq at HQ x0 x2 x3 ⊢
        obtain ⟨q0, qw, qi, qf⟩ := HQ.out.cells
        rcases HG5.out with h5 | h5 | h5 | h5 | h5
        · have h5' : (d : Int) % 5 = 0 := by omega
          have HG := Lib.hid (goes_on HF.out HXJ.out (stepO_0 h5))
          clear HF h5
          go_wp2_with (first | (go_at_call 31; refine (at_any HQ.out hwl).mono ?_; rintro e w5 ⟨rfl, rfl⟩) | (at_builtin; refine wpList_append_fresh rfl (.tmp 92) (.tmp 95) 35 rfl w.heap.size 2 i0 _ 1 8 Try.underlying35 hi hz0 hz1 hz2 (by decide) (.slice ta t.length tc) t.length (numsV t) rfl (HQ.out.owned _) ⟨wq.heap.size, 0, none⟩ 1 [.int .i64 (placeN ws s.size k : Int)] rfl rfl (news_at _ _ _ _ (by simp)) (one_int _) (by unfold maxLen; omega) (by omega) (Nat.le_trans HQ.out.below.size (by simp)) ?_; intro g cp4 w4 hown hgrow hfr; have HP := Lib.hid (HQ.out.push hown hgrow hfr); have f3 := HP.out.cells.2.2.1; have f4 := HP.out.cells.2.2.2; clear hown hgrow hfr))
          go_roundw
          case rel => exact ⟨j + 1, k, _, _, by go_num, rfl, by omega, by simp; omega, HP, HG⟩
          case measure => simp [intOf]; omega
        · have h5' : (d : Int) % 5 = 1 := by omega
          have hg := goes_on HF.out HXJ.out (stepO_1 h5)
          rw [if_neg hk] at hg
          have HG := Lib.hid hg
          clear HF h5 hg
          go_wp2_with (at_builtin; refine wpList_append_fresh rfl (.tmp 103) (.tmp 105) 35 rfl w.heap.size 2 i0 _ 1 8 Try.underlying35 hi hz0 hz1 hz2 (by decide) (.slice ta t.length tc) t.length (numsV t) rfl (HQ.out.owned _) ⟨wq.heap.size, 0, none⟩ 1 [.int .i64 0] rfl rfl (news_at _ _ _ _ (by simp)) (one_int _) (by unfold maxLen; omega) (by omega) (Nat.le_trans HQ.out.below.size (by simp)) ?_; intro g cp4 w4 hown hgrow hfr; have HP := Lib.hid (HQ.out.push hown hgrow hfr); have f3 := HP.out.cells.2.2.1; have f4 := HP.out.cells.2.2.2; clear hown hgrow hfr)
          go_roundw
          case rel => exact ⟨j + 1, k, _, _, by go_num, rfl, by omega, by simp; omega, HP, HG⟩
          case measure => simp [intOf]; omega
        · have h5' : (d : Int) % 5 = 2 := by omega
          have hs := stepO_2 (ws := ws) (n := s.size) (k := k) (x := ⟨d, xt, lo, hi'⟩) h5
          simp only [HW.out, Bool.false_eq_true, if_false] at hs
          have HG := Lib.hid (goes_on HF.out HXJ.out hs)
          clear HF h5 hs
          go_wp2_with (at_builtin; refine wpList_append_fresh rfl (.tmp 128) (.tmp 130) 35 rfl w.heap.size 2 i0 _ 1 8 Try.underlying35 hi hz0 hz1 hz2 (by decide) (.slice ta t.length tc) t.length (numsV t) rfl (HQ.out.owned _) ⟨wq.heap.size, 0, none⟩ 1 [.int .i64 0] rfl rfl (news_at _ _ _ _ (by simp)) (one_int _) (by unfold maxLen; omega) (by omega) (Nat.le_trans HQ.out.below.size (by simp)) ?_; intro g cp4 w4 hown hgrow hfr; have HP := Lib.hid (HQ.out.push hown hgrow hfr); have f3 := HP.out.cells.2.2.1; have f4 := HP.out.cells.2.2.2; clear hown hgrow hfr)
          go_roundw
          case rel => exact ⟨j + 1, k, _, _, by go_num, rfl, by omega, by simp; omega, HP, HG⟩
          case measure => simp [intOf]; omega
        · have h5' : (d : Int) % 5 = 3 := by omega
          have hs := stepO_3 (ws := ws) (n := s.size) (k := k) (x := ⟨d, xt, lo, hi'⟩) h5
          simp only [HW.out, Bool.false_eq_true, if_false] at hs
          have hfin := goes_off HF.out HXJ.out hs
          clear hs h5
          subst hfin
          clear HF
          go_wp2_with (go_at_call 31; refine (at_any HQ.out hwl).mono ?_; rintro e w5 ⟨rfl, rfl⟩)
          go_ret3
          exact RefPost.off HQ.out
        · have h5' : (d : Int) % 5 = 4 := by omega
          have hs : stepO ws s.size (⟨d, xt, lo, hi'⟩ : St) k = .inr 3 := by rw [stepO_4 h5, HNO.out]
          have hfin := goes_off HF.out HXJ.out hs
          clear hs h5
          subst hfin
          clear HF
          go_wp2_with (go_at_call 31; refine (at_any HQ.out hwl).mono ?_; rintro e w5 ⟨rfl, rfl⟩)
          go_ret3
          exact RefPost.off HQ.out
      -- the end of the cases
    · have hfin := goes_end HF.out (by have := HLEN.out; omega)
      subst hfin
      by_cases hk : k < ws.length
      · have HE : Hid (endAt ws s.size k = placeN ws s.size k ∧ endCode ws k = 6) := Lib.hid ⟨if_pos hk, if_pos hk⟩
        go_wp2_with (go_at_call 31; refine (at_any HK.out hwl).mono ?_; rintro e w5 ⟨rfl, rfl⟩)
        go_ret3
        exact RefPost.on HK.out HE.out.1 HE.out.2
      · have HE : Hid (endAt ws s.size k = 0 ∧ endCode ws k = 0) := Lib.hid ⟨if_neg hk, if_neg hk⟩
        go_wp2_with fail
        go_ret3
        exact RefPost.on (p := 0) HK.out HE.out.1 HE.out.2
end Go.Proofs.Ytnepnfjghafccaa

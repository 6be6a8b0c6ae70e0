/- Joined: IMakeOk, SBox, ISet, ISetB, AOwn, BWT, FreshT, MayMk, IAwake. -/
import Derived.Test.YtchdpapaojkbhaaIMk
import Derived.Test.YtchdpapaojkbhaaIChA
import Derived.Test.YtchdpapaojkbhaaIMake
import Derived.Test.YtchdpapaojkbhaaBase1
import Derived.Laws.MakeOwn
section
/- What the law's maker makes may be, and is small. -/
namespace Go.Proofs.Ytchdpapaojkbhaa
open Go.RowKit

variable {s : Sm} {zs : List Int} {N i k : Nat}
/-- All its numbers are small ones. -/
structure SmOk (s : Sm) : Prop where
  ok : s.Ok
  sats : ∀ x ∈ s.sats, sm8 x.1 ∧ sm8 x.2
  whos : ∀ x ∈ s.whos, sm8 x.1 ∧ sm8 x.2.1 ∧ sm8 x.2.2.1 ∧ sm8 x.2.2.2
theorem IsSm.okl {w : World} {B : Nat} {A : SmA} (h : IsSm B w A s) : SmOk s := ⟨h.ok, h.sats.2.1, h.whos.2.1⟩
theorem sqE_in (zs : List Int) (N i j : Nat) : 0 ≤ sqE zs N i j ∧ sqE zs N i j < 30 := by
  unfold sqE
  split
  · omega
  · omega
theorem sqE_diag (zs : List Int) (N i : Nat) : sqE zs N i i = 0 := by simp [sqE]
theorem sqRows_length (zs : List Int) (N : Nat) : (sqRows zs N).length = N := by simp [sqRows]
theorem sqRows_get (zs : List Int) (h : i < N) : (sqRows zs N)[i]? = some ((List.range N).map (sqE zs N i)) := by simp [sqRows, h]
theorem sqRows_sq (zs : List Int) (N : Nat) : sqB N (sqRows zs N) = true := by
  unfold sqB
  rw [decide_eq_true (sqRows_length zs N), Bool.true_and, allR_true]
  intro i hi
  rw [sqRows_length] at hi
  rw [getD_ofN (sqRows_get zs hi)]
  simp [lenB]
theorem inB_yes {v low : Int} (h1 : low ≤ v) (h2 : v ≤ 1000000000) : inB_ v low = true := by simp [inB_, h1, h2]
theorem sqRows_good (zs : List Int) (N : Nat) : rowsB (sqRows zs N) = true := by
  unfold rowsB
  rw [allR_true]
  intro i hi
  rw [sqRows_length] at hi
  rw [getD_ofN (sqRows_get zs hi)]
  unfold rowB
  rw [allR_true]
  intro k hk
  have hk2 : k < N := by simpa using hk
  have e : ((List.range N).map (sqE zs N i))[k]? = some (sqE zs N i k) := by simp [hk2]
  rw [getD_ofN e]
  have h := sqE_in zs N i k
  unfold elB
  rw [inB_yes h.1 (by omega), Bool.true_and]
  by_cases e2 : i = k
  · subst e2
    rw [sqE_diag]
    simp
  · simp [e2]
theorem satsOf_le (s : Sm) : 1 ≤ (satsOf s).length ∧ (satsOf s).length ≤ 3 := by
  unfold satsOf
  split
  · exact ⟨Nat.le_refl _, by simp⟩
  · rename_i h
    have := satsTo_len (s := s) (Nat.le_refl s.sats.length)
    have h2 : (satsTo s s.sats.length).length ≠ 0 := fun e => h (List.eq_nil_of_length_eq_zero e)
    omega
theorem cusOf_le (s : Sm) : 1 ≤ (cusOf s).length ∧ (cusOf s).length ≤ 6 := by
  unfold cusOf
  split
  · exact ⟨Nat.le_refl _, by simp⟩
  · rename_i h
    have := cusTo_len (s := s) (Nat.le_refl s.whos.length)
    have h2 : (cusTo s s.whos.length).length ≠ 0 := fun e => h (List.eq_nil_of_length_eq_zero e)
    omega
theorem nodes_le (s : Sm) : 3 ≤ nodesOf s ∧ nodesOf s ≤ 10 := by
  have := satsOf_le s
  have := cusOf_le s
  unfold nodesOf
  omega
theorem wide_in (wd z b : Int) (h : 1 ≤ wd ∧ wd ≤ 9) (hz : 0 ≤ z) (hb : z ≤ b) : 0 ≤ wd * z ∧ wd * z ≤ 9 * b :=
  ⟨Int.mul_nonneg (by omega) hz, Int.le_trans (Int.mul_le_mul_of_nonneg_right h.2 hz) (Int.mul_le_mul_of_nonneg_left hb (by omega))⟩
theorem satOf_good {wd : Int} (h : 1 ≤ wd ∧ wd ≤ 9) {x : Int × Int} : satB (satOf wd x) = true := by
  have := wide_in wd (x.1 % 40) 39 h (by omega) (by omega)
  unfold satB satOf
  rw [Bool.and_eq_true]
  exact ⟨inB_yes (by simp only; omega) (by simp only; omega), inB_yes (by simp only; omega) (by simp only; omega)⟩
theorem whoOf_good {wd : Int} {t : Bool} (h : 1 ≤ wd ∧ wd ≤ 9) {x : Pi} (hx : sm8 x.1 ∧ sm8 x.2.1 ∧ sm8 x.2.2.1 ∧ sm8 x.2.2.2) : cusB (whoOf wd t x) = true := by
  unfold sm8 at hx
  have := wide_in wd x.2.2.1 255 h (by omega) (by omega)
  have hl : 1 ≤ loadOf t x.1 ∧ loadOf t x.1 ≤ 14 := by unfold loadOf; split <;> omega
  unfold cusB whoOf
  simp only [Bool.and_eq_true]
  exact ⟨⟨⟨inB_yes hl.1 (by omega), inB_yes (by omega) (by omega)⟩, inB_yes (by omega) (by omega)⟩, inB_yes (by omega) (by omega)⟩
theorem mem_satsOf (s : Sm) : ∀ x ∈ satsOf s, satB x = true := by
  intro x hx
  unfold satsOf at hx
  split at hx
  · simp at hx
    subst hx
    rfl
  · unfold satsTo at hx
    rw [List.mem_map] at hx
    obtain ⟨y, _, rfl⟩ := hx
    exact satOf_good s.wide_le
theorem mem_cusOf (h : SmOk s) : ∀ x ∈ cusOf s, cusB x = true := by
  intro x hx
  unfold cusOf at hx
  split at hx
  · simp at hx
    subst hx
    rfl
  · unfold cusTo at hx
    rw [List.mem_map] at hx
    obtain ⟨y, hy, rfl⟩ := hx
    exact whoOf_good s.wide_le (h.whos y (List.mem_of_mem_take (List.mem_of_mem_take hy)))
theorem makeI_count (h : SmOk s) : (makeI s).count = true := by
  have h1 := satsOf_le s
  have h2 := cusOf_le s
  have ht := h.ok.t
  have hb := h.ok.b
  unfold sm8 at ht hb
  rw [count_split]
  unfold someB makeI
  simp only [Bool.and_eq_true, decide_eq_true_eq]
  omega
theorem makeI_nodes (s : Sm) : (makeI s).nodes = nodesOf s := rfl
theorem makeI_good (h : SmOk s) : (makeI s).good = true := by
  rw [good_parts]
  have hw := s.wide_le
  have he := h.ok.e
  have ht := h.ok.tr
  have hb := h.ok.br
  unfold sm8 at he ht hb
  have e1 := wide_in s.wide s.e 255 hw (by omega) (by omega)
  have e2 := wide_in s.wide (s.tr % 40) 39 hw (by omega) (by omega)
  have e3 := wide_in s.wide (s.br % 20) 19 hw (by omega) (by omega)
  have e1' : s.e * s.wide = s.wide * s.e := Int.mul_comm _ _
  refine ⟨?_, fun i hi => ?_, fun i hi => ?_, fun i hi => ?_⟩
  · unfold Ins.three makeI
    simp only [List.all_cons, List.all_nil, Bool.and_true, Bool.and_eq_true]
    exact ⟨inB_yes (by omega) (by omega), inB_yes (by omega) (by omega), inB_yes (by omega) (by omega)⟩
  · have hx : (makeI s).sats[i]? = some ((makeI s).sats[i]'hi) := List.getElem?_eq_getElem hi
    rw [getD_ofN hx]
    exact mem_satsOf s _ (List.mem_of_getElem? hx)
  · have hx : (makeI s).cus[i]? = some ((makeI s).cus[i]'hi) := List.getElem?_eq_getElem hi
    rw [getD_ofN hx]
    exact mem_cusOf h _ (List.mem_of_getElem? hx)
  · unfold Ins.pick
    split
    · exact sqRows_good _ _
    · exact sqRows_good _ _
/-- It may be. -/
theorem makeI_ok (h : SmOk s) : instErr (makeI s) = 0 := by
  have hz : (makeI s).size = true := by
    rw [size_pick, Bool.and_eq_true]
    exact ⟨sqRows_sq _ _, sqRows_sq _ _⟩
  simp [instErr, makeI_count h, hz, makeI_good h]
theorem light_of {x : Ins} (h1 : x.sats.length ≤ 40) (h2 : x.cus.length ≤ 60) (h3 : x.cost.length ≤ 70) (h4 : x.time.length ≤ 70) (h5 : ∀ r ∈ x.cost, r.length ≤ 80) (h6 : ∀ r ∈ x.time, r.length ≤ 80) : x.light = true := by
  simp only [Ins.light, Bool.and_eq_true, decide_eq_true_eq, List.all_eq_true]
  exact ⟨⟨⟨⟨⟨h1, h2⟩, h3⟩, h4⟩, h5⟩, h6⟩
theorem sqRows_mem {r : List Int} (h : r ∈ sqRows zs N) : r.length = N := by
  simp only [sqRows, List.mem_map] at h
  obtain ⟨i, _, rfl⟩ := h
  simp
theorem makeI_light (s : Sm) : (makeI s).light = true := by
  have h1 := satsOf_le s
  have h2 := cusOf_le s
  have h3 := nodes_le s
  refine light_of (by show (satsOf s).length ≤ 40; omega) (by show (cusOf s).length ≤ 60; omega) (by show (sqRows s.cost (nodesOf s)).length ≤ 70; rw [sqRows_length]; omega) (by show (sqRows s.time (nodesOf s)).length ≤ 70; rw [sqRows_length]; omega) (fun r hr => ?_) (fun r hr => ?_)
  · have := sqRows_mem (zs := s.cost) (N := nodesOf s) hr; omega
  · have := sqRows_mem (zs := s.time) (N := nodesOf s) hr; omega
end Go.Proofs.Ytchdpapaojkbhaa
end
section
/- A small instance, boxed. -/
namespace Go.Proofs.Ytchdpapaojkbhaa
open Go.RowKit

variable {w wr w2 : World} {B : Nat} {A : SmA} {s : Sm}
/-- The small instance is boxed. -/
structure SBox (w wr : World) (A : SmA) (s : Sm) : Prop where
  below : Below w.heap.size w wr
  blk : wr.heap[w.heap.size]? = some (.cells (smC A s) 26 (0, 0))
theorem SBox.make (w : World) (A : SmA) (s : Sm) : SBox w (w.alloc (.cells (smC A s) 26)) A s := ⟨below1 _ _, heap_alloc_new _ _⟩
theorem SBox.later (h : SBox w wr A s) (hb : Below wr.heap.size wr w2) : SBox w w2 A s := ⟨h.below.trans (hb.mono h.below.size), (hb.block _ (Array.getElem?_eq_some_iff.1 h.blk).1).trans h.blk⟩
theorem SBox.cells (h : SBox w wr A s) : wr.cell? ⟨w.heap.size, 0, none⟩ = some (.int .u8 s.e) ∧ wr.cell? ⟨w.heap.size, 1, none⟩ = some (.int .u8 s.t) ∧ wr.cell? ⟨w.heap.size, 2, none⟩ = some (.int .u8 s.tr) ∧ wr.cell? ⟨w.heap.size, 3, none⟩ = some (.int .u8 s.b) ∧ wr.cell? ⟨w.heap.size, 4, none⟩ = some (.int .u8 s.br) ∧ wr.cell? ⟨w.heap.size, 5, none⟩ = some (.slice A.sa s.sats.length A.sc) ∧ wr.cell? ⟨w.heap.size, 6, none⟩ = some (.slice A.wa s.whos.length A.wc) ∧ wr.cell? ⟨w.heap.size, 7, none⟩ = some (.slice A.ca A.cn A.cc) ∧ wr.cell? ⟨w.heap.size, 8, none⟩ = some (.slice A.ta A.tn A.tc) ∧ wr.cell? ⟨w.heap.size, 9, none⟩ = some (.bool s.tight) ∧ wr.cell? ⟨w.heap.size, 10, none⟩ = some (.bool s.loose) := by
  simp [World.cell?, h.blk]
theorem IsSm.mono {B2 : Nat} (h : IsSm B w A s) (hb : B ≤ B2) : IsSm B2 w A s := by
  refine ⟨⟨h.sats.1, h.sats.2.1, ?_⟩, ⟨h.whos.1, h.whos.2.1, ?_⟩, h.cost.mono hb, h.time.mono hb, h.ok, h.sl, h.wl⟩
  · rcases h.sats.2.2 with h0 | ⟨b, off, e, h1, h2⟩
    · exact .inl h0
    · exact .inr ⟨b, off, e, by omega, h2⟩
  · rcases h.whos.2.2 with h0 | ⟨b, off, e, h1, h2⟩
    · exact .inl h0
    · exact .inr ⟨b, off, e, by omega, h2⟩
theorem SBox.here (h : SBox w wr A s) (hs : IsSm w.heap.size w A s) : IsSm wr.heap.size wr A s := (hs.later h.below).mono h.below.size
end Go.Proofs.Ytchdpapaojkbhaa
end
section
/- An instance of the call's own, one number of it stored: what it is then. -/
namespace Go.Proofs.Ytchdpapaojkbhaa
open Go.RowKit

variable {w wr : World} {A : InA} {x : Ins} {B N C D b i k j g sz n : Nat} {VK VT V : Nat → Nat} {LK LT L : Nat → Nat → Int} {T Tb : TypeId} {u v : Value} {cb : Array Value} {xs : List Value} {z : Int} {p : Int × Int} {c : Pi}
theorem own_block (h : w.ownsRow B T sz v n xs) (hg : v.ownBlock = some g) : ∃ cur, w.heap[g]? = some (.cells cur T (0, 0)) := by
  rcases h.2 with ⟨rfl, _⟩ | ⟨g1, c1, cur, rfl, _, e1, _⟩
  · cases hg
  · injection hg with hg
    change g1 = g at hg
    subst hg
    exact ⟨cur, e1⟩
theorem blk_types {c1 c2 : Array Value} {T1 T2 : TypeId} {g1 g2 : Nat} (h1 : w.heap[g1]? = some (.cells c1 T1 (0, 0))) (h2 : w.heap[g2]? = some (.cells c2 T2 (0, 0))) (hT : ¬ T1 = T2) : g1 ≠ g2 := by
  intro e
  subst e
  rw [h1] at h2
  injection h2 with h2
  injection h2 with _ h2
  exact hT h2
theorem own_keep (h : w.ownsRow B T sz v n xs) (hb : w.heap[b]? = some (.cells cb Tb (0, 0))) (hT : ¬ T = Tb) (i : Nat) (u : Value) : (w.setCell ⟨b, i, none⟩ u).ownsRow B T sz v n xs :=
  ownsRow_setCell_other (a := ⟨b, i, none⟩) h (fun e => by
    obtain ⟨cur, hc⟩ := own_block h e
    exact blk_types hc hb hT rfl) u
theorem rowIs_block {f : Nat → Value} (h : w.rowIs g T n f) : ∃ cur, w.heap[g]? = some (.cells cur T (0, 0)) := by
  obtain ⟨cur, h1, _⟩ := h
  exact ⟨cur, h1⟩
theorem OwnSq.keep (h : OwnSq B w v n N V L) (hb : w.heap[b]? = some (.cells cb Tb (0, 0))) (h1 : ¬ Tb = 37) (h2 : ¬ Tb = 2) (i : Nat) (u : Value) : OwnSq B (w.setCell ⟨b, i, none⟩ u) v n N V L :=
  ⟨own_keep h.outer hb (fun e => h1 e.symm) i u, fun k hk => ⟨(h.row k hk).1.setOther (a := ⟨b, i, none⟩) (by
    obtain ⟨cur, hc⟩ := rowIs_block (h.row k hk).1
    exact blk_types hc hb (fun e => h2 e.symm)) u, (h.row k hk).2⟩, h.inj, h.out⟩
theorem OwnIns.keep (h : OwnIns B w A x N C D VK VT LK LT) (hb : w.heap[b]? = some (.cells cb Tb (0, 0))) (h1 : ¬ Tb = 37) (h2 : ¬ Tb = 2) (h3 : ¬ Tb = 61) (h4 : ¬ Tb = 56) (i : Nat) (u : Value) : OwnIns B (w.setCell ⟨b, i, none⟩ u) A x N C D VK VT LK LT :=
  ⟨own_keep h.sats hb (fun e => h3 e.symm) i u, own_keep h.cus hb (fun e => h4 e.symm) i u, h.cost.keep hb h1 h2 i u, h.time.keep hb h1 h2 i u, h.ck, h.tk, h.nl, h.ap, h.sb, h.kb, h.bc, h.cd⟩
theorem OwnIns.later {w2 : World} (h : OwnIns B w A x N C D VK VT LK LT) (hb : Below w.heap.size w w2) : OwnIns B w2 A x N C D VK VT LK LT :=
  ⟨owns_below h.sats hb, owns_below h.cus hb, h.cost.later hb, h.time.later hb, h.ck, h.tk, h.nl, h.ap, h.sb, h.kb, h.bc, h.cd⟩
/-- One number of a square. -/
def putL (L : Nat → Nat → Int) (i k : Nat) (z : Int) : Nat → Nat → Int := fun i2 k2 => if i2 = i ∧ k2 = k then z else L i2 k2
def sqL (N : Nat) (L : Nat → Nat → Int) : List (List Int) := (List.range N).map (fun i => (List.range N).map (L i))
theorem sqL_length (N : Nat) (L : Nat → Nat → Int) : (sqL N L).length = N := by simp [sqL]
theorem sqL_mem {r : List Int} (h : r ∈ sqL N L) : r.length = N := by
  simp only [sqL, List.mem_map] at h
  obtain ⟨i, _, rfl⟩ := h
  simp
theorem OwnSq.put (h : OwnSq B w v n N V L) (hi : i < n) (_hk : k < N) (z : Int) : OwnSq B (w.setCell ⟨V i, k, none⟩ (.int .i64 z)) v n N V (putL L i k z) := by
  refine ⟨ownsRow_setCell_other (a := ⟨V i, k, none⟩) h.outer (h.out i hi) _, fun j hj => ⟨?_, (h.row j hj).2⟩, h.inj, h.out⟩
  by_cases e : j = i
  · subst e
    refine ((h.row j hj).1.set k (.int .i64 z)).congr (fun t ht => ?_)
    unfold putL
    by_cases e2 : t = k
    · simp [e2]
    · simp [e2]
  · refine ((h.row j hj).1.setOther (a := ⟨V i, k, none⟩) (fun e2 => e (h.inj j i hj hi e2)) _).congr (fun t ht => ?_)
    simp [putL, e]
theorem OwnSq.ne_ (h : OwnSq B w v n N V L) (h1 : ¬ v.ownBlock = some b) (h2 : ∀ j, j < n → V j ≠ b) (i : Nat) (u : Value) : OwnSq B (w.setCell ⟨b, i, none⟩ u) v n N V L :=
  ⟨ownsRow_setCell_other (a := ⟨b, i, none⟩) h.outer h1 u, fun k hk => ⟨(h.row k hk).1.setOther (a := ⟨b, i, none⟩) (h2 k hk) u, (h.row k hk).2⟩, h.inj, h.out⟩
theorem OwnSq.is_ {a : Option Addr} {cap : Nat} (h : OwnSq B w (.slice a N cap) N N V L) (hN : N ≤ 1000) : IsRows w.heap.size w a (sqL N L).length (sqL N L) := by
  obtain ⟨a2, c2, e, hr⟩ := h.rows hN
  injection e with e1 _ _
  subst e1
  rw [sqL_length]
  exact hr
theorem flatS_set0 : ∀ (l : List (Int × Int)) (k : Nat) (p : Int × Int) (z : Int), l[k]? = some p → (flatS l).set (k * 2) (.int .i64 z) = flatS (l.set k (z, p.2))
  | [], k, p, z, h => by simp at h
  | y :: r, 0, p, z, h => by
    simp at h
    subst h
    rfl
  | y :: r, k + 1, p, z, h => by
    have ih := flatS_set0 r k p z (by simpa using h)
    rw [List.set_cons_succ, flatS, flatS, List.flatMap_cons, List.flatMap_cons, ← flatS, ← flatS, ← ih]
    show ([Value.int .i64 y.1, .int .i64 y.2] ++ flatS r).set ((k + 1) * 2) _ = _
    rw [show (k + 1) * 2 = k * 2 + 1 + 1 by omega]
    rfl
theorem flatS_set1 : ∀ (l : List (Int × Int)) (k : Nat) (p : Int × Int) (z : Int), l[k]? = some p → (flatS l).set (k * 2 + 1) (.int .i64 z) = flatS (l.set k (p.1, z))
  | [], k, p, z, h => by simp at h
  | y :: r, 0, p, z, h => by
    simp at h
    subst h
    rfl
  | y :: r, k + 1, p, z, h => by
    have ih := flatS_set1 r k p z (by simpa using h)
    rw [List.set_cons_succ, flatS, flatS, List.flatMap_cons, List.flatMap_cons, ← flatS, ← flatS, ← ih]
    show ([Value.int .i64 y.1, .int .i64 y.2] ++ flatS r).set ((k + 1) * 2 + 1) _ = _
    rw [show (k + 1) * 2 + 1 = k * 2 + 1 + 1 + 1 by omega]
    rfl
theorem flatC_set0 : ∀ (l : List Pi) (k : Nat) (p : Pi) (z : Int), l[k]? = some p → (flatC l).set (k * 4) (.int .i64 z) = flatC (l.set k (z, p.2.1, p.2.2.1, p.2.2.2))
  | [], k, p, z, h => by simp at h
  | y :: r, 0, p, z, h => by
    simp at h
    subst h
    rfl
  | y :: r, k + 1, p, z, h => by
    have ih := flatC_set0 r k p z (by simpa using h)
    rw [List.set_cons_succ, flatC, flatC, List.flatMap_cons, List.flatMap_cons, ← flatC, ← flatC, ← ih]
    show ([Value.int .i64 y.1, .int .i64 y.2.1, .int .i64 y.2.2.1, .int .i64 y.2.2.2] ++ flatC r).set ((k + 1) * 4) _ = _
    rw [show (k + 1) * 4 = k * 4 + 1 + 1 + 1 + 1 by omega]
    rfl
theorem flatC_set1 : ∀ (l : List Pi) (k : Nat) (p : Pi) (z : Int), l[k]? = some p → (flatC l).set (k * 4 + 1) (.int .i64 z) = flatC (l.set k (p.1, z, p.2.2.1, p.2.2.2))
  | [], k, p, z, h => by simp at h
  | y :: r, 0, p, z, h => by
    simp at h
    subst h
    rfl
  | y :: r, k + 1, p, z, h => by
    have ih := flatC_set1 r k p z (by simpa using h)
    rw [List.set_cons_succ, flatC, flatC, List.flatMap_cons, List.flatMap_cons, ← flatC, ← flatC, ← ih]
    show ([Value.int .i64 y.1, .int .i64 y.2.1, .int .i64 y.2.2.1, .int .i64 y.2.2.2] ++ flatC r).set ((k + 1) * 4 + 1) _ = _
    rw [show (k + 1) * 4 + 1 = k * 4 + 1 + 1 + 1 + 1 + 1 by omega]
    rfl
theorem flatC_set2 : ∀ (l : List Pi) (k : Nat) (p : Pi) (z : Int), l[k]? = some p → (flatC l).set (k * 4 + 2) (.int .i64 z) = flatC (l.set k (p.1, p.2.1, z, p.2.2.2))
  | [], k, p, z, h => by simp at h
  | y :: r, 0, p, z, h => by
    simp at h
    subst h
    rfl
  | y :: r, k + 1, p, z, h => by
    have ih := flatC_set2 r k p z (by simpa using h)
    rw [List.set_cons_succ, flatC, flatC, List.flatMap_cons, List.flatMap_cons, ← flatC, ← flatC, ← ih]
    show ([Value.int .i64 y.1, .int .i64 y.2.1, .int .i64 y.2.2.1, .int .i64 y.2.2.2] ++ flatC r).set ((k + 1) * 4 + 2) _ = _
    rw [show (k + 1) * 4 + 2 = k * 4 + 2 + 1 + 1 + 1 + 1 by omega]
    rfl
theorem flatC_set3 : ∀ (l : List Pi) (k : Nat) (p : Pi) (z : Int), l[k]? = some p → (flatC l).set (k * 4 + 3) (.int .i64 z) = flatC (l.set k (p.1, p.2.1, p.2.2.1, z))
  | [], k, p, z, h => by simp at h
  | y :: r, 0, p, z, h => by
    simp at h
    subst h
    rfl
  | y :: r, k + 1, p, z, h => by
    have ih := flatC_set3 r k p z (by simpa using h)
    rw [List.set_cons_succ, flatC, flatC, List.flatMap_cons, List.flatMap_cons, ← flatC, ← flatC, ← ih]
    show ([Value.int .i64 y.1, .int .i64 y.2.1, .int .i64 y.2.2.1, .int .i64 y.2.2.2] ++ flatC r).set ((k + 1) * 4 + 3) _ = _
    rw [show (k + 1) * 4 + 3 = k * 4 + 3 + 1 + 1 + 1 + 1 by omega]
    rfl
/-- What is there in the end: the instance's box, its rows; it is small. -/
structure Fin (wr : World) (gx : Nat) (A : InA) (m : Ins) : Prop where
  box : wr.heap[gx]? = some (.cells (insC A m) 34 (0, 0))
  is_ : IsIns wr.heap.size wr A m
  light : m.light = true
theorem Fin.later {w2 : World} {gx : Nat} {m : Ins} (h : Fin wr gx A m) (hb : Below wr.heap.size wr w2) : Fin w2 gx A m := ⟨(hb.block _ (Array.getElem?_eq_some_iff.1 h.box).1).trans h.box, (h.is_.later hb).mono hb.size, h.light⟩
theorem Fin.cells {gx : Nat} {m : Ins} (h : Fin wr gx A m) : wr.cell? ⟨gx, 0, none⟩ = some (.int .i64 m.en) ∧ wr.cell? ⟨gx, 1, none⟩ = some (.int .i64 m.tm) ∧ wr.cell? ⟨gx, 2, none⟩ = some (.int .i64 m.tr) ∧ wr.cell? ⟨gx, 3, none⟩ = some (.int .i64 m.bm) ∧ wr.cell? ⟨gx, 4, none⟩ = some (.int .i64 m.br) ∧
    wr.cell? ⟨gx, 5, none⟩ = some (.slice A.sa m.sats.length A.sc) ∧ wr.cell? ⟨gx, 6, none⟩ = some (.slice A.ca m.cus.length A.cc) ∧ wr.cell? ⟨gx, 7, none⟩ = some (.slice A.ka m.cost.length A.kc) ∧ wr.cell? ⟨gx, 8, none⟩ = some (.slice A.ta m.time.length A.tc) := by
  simp [World.cell?, h.box]
/-- An instance that was just made, in its box. -/
structure Fresh (wr : World) (gx B : Nat) (A : InA) (x : Ins) (N C D : Nat) (VK VT : Nat → Nat) (LK LT : Nat → Nat → Int) : Prop where
  box : wr.heap[gx]? = some (.cells (insC A x) 34 (0, 0))
  own : OwnIns B wr A x N C D VK VT LK LT
  ns : x.sats.length ≤ 3
  nc : x.cus.length ≤ 6
  nn : N ≤ 10
variable {gx : Nat}
theorem Fresh.klen (h : Fresh wr gx B A x N C D VK VT LK LT) : x.cost.length = N ∧ x.time.length = N := by
  rw [h.own.ck, h.own.tk]
  simp
theorem Fresh.later {w2 : World} (h : Fresh wr gx B A x N C D VK VT LK LT) (hb : Below wr.heap.size wr w2) : Fresh w2 gx B A x N C D VK VT LK LT := ⟨(hb.block _ (Array.getElem?_eq_some_iff.1 h.box).1).trans h.box, h.own.later hb, h.ns, h.nc, h.nn⟩
theorem Fresh.light_ (_h : Fresh wr gx B A x N C D VK VT LK LT) {m : Ins} (h1 : m.sats.length ≤ 4) (h2 : m.cus.length ≤ 6) (h3 : m.cost.length ≤ 10) (h4 : m.time.length ≤ 10) (h5 : ∀ r ∈ m.cost, r.length ≤ 11) (h6 : ∀ r ∈ m.time, r.length ≤ 11) : m.light = true :=
  light_of (by omega) (by omega) (by omega) (by omega) (fun r hr => Nat.le_trans (h5 r hr) (by omega)) (fun r hr => Nat.le_trans (h6 r hr) (by omega))
theorem Fresh.rowsK (h : Fresh wr gx B A x N C D VK VT LK LT) : ∀ r ∈ x.cost, r.length ≤ 11 := fun r hr => by
  rw [h.own.ck] at hr
  have := sqL_mem (N := N) (L := LK) hr
  have := h.nn
  omega
theorem Fresh.rowsT (h : Fresh wr gx B A x N C D VK VT LK LT) : ∀ r ∈ x.time, r.length ≤ 11 := fun r hr => by
  rw [h.own.tk] at hr
  have := sqL_mem (N := N) (L := LT) hr
  have := h.nn
  omega
theorem Fresh.fin (h : Fresh wr gx B A x N C D VK VT LK LT) : Fin wr gx A x :=
  ⟨h.box, h.own.is_, h.light_ (by have := h.ns; omega) h.nc (by rw [h.klen.1]; exact h.nn) (by rw [h.klen.2]; exact h.nn) h.rowsK h.rowsT⟩
theorem Fresh.frozen (h : Fresh wr gx B A x N C D VK VT LK LT) (k : Nat) : wr.frozen? ⟨gx, k, none⟩ = false := by simp [World.frozen?, h.box]
theorem Fresh.put_en (h : Fresh wr gx B A x N C D VK VT LK LT) (z : Int) : Fin (wr.setCell ⟨gx, 0, none⟩ (.int .i64 z)) gx A { x with en := z } :=
  ⟨heap_setCell_same _ _ _ _ _ _ h.box, (h.own.keep h.box (by decide) (by decide) (by decide) (by decide) 0 (.int .i64 z)).is_ |> fun q => ⟨q.sats, q.cus, q.cost, q.time⟩, h.light_ (by have := h.ns; show x.sats.length ≤ 4; omega) h.nc (by show x.cost.length ≤ 10; rw [h.klen.1]; exact h.nn) (by show x.time.length ≤ 10; rw [h.klen.2]; exact h.nn) h.rowsK h.rowsT⟩
theorem Fresh.put_tm (h : Fresh wr gx B A x N C D VK VT LK LT) (z : Int) : Fin (wr.setCell ⟨gx, 1, none⟩ (.int .i64 z)) gx A { x with tm := z } :=
  ⟨heap_setCell_same _ _ _ _ _ _ h.box, (h.own.keep h.box (by decide) (by decide) (by decide) (by decide) 1 (.int .i64 z)).is_ |> fun q => ⟨q.sats, q.cus, q.cost, q.time⟩, h.light_ (by have := h.ns; show x.sats.length ≤ 4; omega) h.nc (by show x.cost.length ≤ 10; rw [h.klen.1]; exact h.nn) (by show x.time.length ≤ 10; rw [h.klen.2]; exact h.nn) h.rowsK h.rowsT⟩
theorem Fresh.put_tr (h : Fresh wr gx B A x N C D VK VT LK LT) (z : Int) : Fin (wr.setCell ⟨gx, 2, none⟩ (.int .i64 z)) gx A { x with tr := z } :=
  ⟨heap_setCell_same _ _ _ _ _ _ h.box, (h.own.keep h.box (by decide) (by decide) (by decide) (by decide) 2 (.int .i64 z)).is_ |> fun q => ⟨q.sats, q.cus, q.cost, q.time⟩, h.light_ (by have := h.ns; show x.sats.length ≤ 4; omega) h.nc (by show x.cost.length ≤ 10; rw [h.klen.1]; exact h.nn) (by show x.time.length ≤ 10; rw [h.klen.2]; exact h.nn) h.rowsK h.rowsT⟩
theorem Fresh.put_bm (h : Fresh wr gx B A x N C D VK VT LK LT) (z : Int) : Fin (wr.setCell ⟨gx, 3, none⟩ (.int .i64 z)) gx A { x with bm := z } :=
  ⟨heap_setCell_same _ _ _ _ _ _ h.box, (h.own.keep h.box (by decide) (by decide) (by decide) (by decide) 3 (.int .i64 z)).is_ |> fun q => ⟨q.sats, q.cus, q.cost, q.time⟩, h.light_ (by have := h.ns; show x.sats.length ≤ 4; omega) h.nc (by show x.cost.length ≤ 10; rw [h.klen.1]; exact h.nn) (by show x.time.length ≤ 10; rw [h.klen.2]; exact h.nn) h.rowsK h.rowsT⟩
theorem Fresh.put_br (h : Fresh wr gx B A x N C D VK VT LK LT) (z : Int) : Fin (wr.setCell ⟨gx, 4, none⟩ (.int .i64 z)) gx A { x with br := z } :=
  ⟨heap_setCell_same _ _ _ _ _ _ h.box, (h.own.keep h.box (by decide) (by decide) (by decide) (by decide) 4 (.int .i64 z)).is_ |> fun q => ⟨q.sats, q.cus, q.cost, q.time⟩, h.light_ (by have := h.ns; show x.sats.length ≤ 4; omega) h.nc (by show x.cost.length ≤ 10; rw [h.klen.1]; exact h.nn) (by show x.time.length ≤ 10; rw [h.klen.2]; exact h.nn) h.rowsK h.rowsT⟩
theorem Fresh.put_sat0 (h : Fresh wr gx B A x N C D VK VT LK LT) (hk : x.sats[k]? = some p) (z : Int) : ∃ g, A.sa = some ⟨g, 0, none⟩ ∧ wr.cell? ⟨g, k * 2, none⟩ = some (.int .i64 p.1) ∧ wr.frozen? ⟨g, k * 2, none⟩ = false ∧ Fin (wr.setCell ⟨g, k * 2, none⟩ (.int .i64 z)) gx A { x with sats := x.sats.set k (z, p.2) } := by
  have hkl := (List.getElem?_eq_some_iff.1 hk).1
  have hs := h.own.sats
  obtain ⟨g, cap, e, hB, _⟩ := owns_some hs (by omega)
  injection e with e1 _ e3
  have hs2 := hs
  rw [e1] at hs2
  obtain ⟨cur, hg⟩ := own_block hs2 (g := g) rfl
  have hn := World.ownsRow.stored hs2 (k * 2) (.int .i64 z)
  have hn1 := hn.1
  rw [flatS_set0 x.sats k p z hk] at hn1
  refine ⟨g, e1, ?_, World.ownsRow.frozenAt hs2 _, (heap_setCell_other _ _ _ _ (fun q => blk_types h.box hg (by decide) (show gx = g from q))).trans ?_, ⟨?_, ?_, ?_, ?_⟩, ?_⟩
  · have := World.ownsRow.cells hs2 (g := g) rfl (k * 2) (.int .i64 p.1) (flatS_get x.sats k p hk).1
    simpa [Addr.add_lit] using this
  · rw [h.box]
    simp [insC]
  · have := owns_sats (a := A.sa) (cap := A.sc) (n := x.sats.length) (by rw [e1]; exact hn1) (by simp)
    simpa using this
  · exact owns_cus (own_keep h.own.cus hg (by decide) _ _) rfl
  · have hq : IsRows _ _ _ _ _ := (h.own.cost.keep hg (by decide) (by decide) (k * 2) (.int .i64 z)).is_ h.own.nl
    have e9 : sqL N LK = x.cost := h.own.ck.symm
    rw [e9] at hq
    exact hq
  · have hq : IsRows _ _ _ _ _ := (h.own.time.keep hg (by decide) (by decide) (k * 2) (.int .i64 z)).is_ h.own.nl
    have e9 : sqL N LT = x.time := h.own.tk.symm
    rw [e9] at hq
    exact hq
  · exact h.light_ (by have := h.ns; simp; omega) h.nc (by show x.cost.length ≤ 10; rw [h.klen.1]; exact h.nn) (by show x.time.length ≤ 10; rw [h.klen.2]; exact h.nn) h.rowsK h.rowsT
theorem Fresh.put_sat1 (h : Fresh wr gx B A x N C D VK VT LK LT) (hk : x.sats[k]? = some p) (z : Int) : ∃ g, A.sa = some ⟨g, 0, none⟩ ∧ wr.cell? ⟨g, k * 2 + 1, none⟩ = some (.int .i64 p.2) ∧ wr.frozen? ⟨g, k * 2 + 1, none⟩ = false ∧ Fin (wr.setCell ⟨g, k * 2 + 1, none⟩ (.int .i64 z)) gx A { x with sats := x.sats.set k (p.1, z) } := by
  have hkl := (List.getElem?_eq_some_iff.1 hk).1
  have hs := h.own.sats
  obtain ⟨g, cap, e, hB, _⟩ := owns_some hs (by omega)
  injection e with e1 _ e3
  have hs2 := hs
  rw [e1] at hs2
  obtain ⟨cur, hg⟩ := own_block hs2 (g := g) rfl
  have hn := World.ownsRow.stored hs2 (k * 2 + 1) (.int .i64 z)
  have hn1 := hn.1
  rw [flatS_set1 x.sats k p z hk] at hn1
  refine ⟨g, e1, ?_, World.ownsRow.frozenAt hs2 _, (heap_setCell_other _ _ _ _ (fun q => blk_types h.box hg (by decide) (show gx = g from q))).trans ?_, ⟨?_, ?_, ?_, ?_⟩, ?_⟩
  · have := World.ownsRow.cells hs2 (g := g) rfl (k * 2 + 1) (.int .i64 p.2) (flatS_get x.sats k p hk).2
    simpa [Addr.add_lit] using this
  · rw [h.box]
    simp [insC]
  · have := owns_sats (a := A.sa) (cap := A.sc) (n := x.sats.length) (by rw [e1]; exact hn1) (by simp)
    simpa using this
  · exact owns_cus (own_keep h.own.cus hg (by decide) _ _) rfl
  · have hq : IsRows _ _ _ _ _ := (h.own.cost.keep hg (by decide) (by decide) (k * 2 + 1) (.int .i64 z)).is_ h.own.nl
    have e9 : sqL N LK = x.cost := h.own.ck.symm
    rw [e9] at hq
    exact hq
  · have hq : IsRows _ _ _ _ _ := (h.own.time.keep hg (by decide) (by decide) (k * 2 + 1) (.int .i64 z)).is_ h.own.nl
    have e9 : sqL N LT = x.time := h.own.tk.symm
    rw [e9] at hq
    exact hq
  · exact h.light_ (by have := h.ns; simp; omega) h.nc (by show x.cost.length ≤ 10; rw [h.klen.1]; exact h.nn) (by show x.time.length ≤ 10; rw [h.klen.2]; exact h.nn) h.rowsK h.rowsT
theorem Fresh.put_cus0 (h : Fresh wr gx B A x N C D VK VT LK LT) (hk : x.cus[k]? = some c) (z : Int) : ∃ g, A.ca = some ⟨g, 0, none⟩ ∧ wr.cell? ⟨g, k * 4, none⟩ = some (.int .i64 c.1) ∧ wr.frozen? ⟨g, k * 4, none⟩ = false ∧ Fin (wr.setCell ⟨g, k * 4, none⟩ (.int .i64 z)) gx A { x with cus := x.cus.set k (z, c.2.1, c.2.2.1, c.2.2.2) } := by
  have hkl := (List.getElem?_eq_some_iff.1 hk).1
  have hs := h.own.cus
  obtain ⟨g, cap, e, hB, _⟩ := owns_some hs (by omega)
  injection e with e1 _ e3
  have hs2 := hs
  rw [e1] at hs2
  obtain ⟨cur, hg⟩ := own_block hs2 (g := g) rfl
  have hn := World.ownsRow.stored hs2 (k * 4) (.int .i64 z)
  have hn1 := hn.1
  rw [flatC_set0 x.cus k c z hk] at hn1
  refine ⟨g, e1, ?_, World.ownsRow.frozenAt hs2 _, (heap_setCell_other _ _ _ _ (fun q => blk_types h.box hg (by decide) (show gx = g from q))).trans ?_, ⟨?_, ?_, ?_, ?_⟩, ?_⟩
  · have := World.ownsRow.cells hs2 (g := g) rfl (k * 4) (.int .i64 c.1) (flatC_get x.cus k c hk).1
    simpa [Addr.add_lit] using this
  · rw [h.box]
    simp [insC]
  · exact owns_sats (own_keep h.own.sats hg (by decide) _ _) rfl
  · have := owns_cus (a := A.ca) (cap := A.cc) (n := x.cus.length) (by rw [e1]; exact hn1) (by simp)
    simpa using this
  · have hq : IsRows _ _ _ _ _ := (h.own.cost.keep hg (by decide) (by decide) (k * 4) (.int .i64 z)).is_ h.own.nl
    have e9 : sqL N LK = x.cost := h.own.ck.symm
    rw [e9] at hq
    exact hq
  · have hq : IsRows _ _ _ _ _ := (h.own.time.keep hg (by decide) (by decide) (k * 4) (.int .i64 z)).is_ h.own.nl
    have e9 : sqL N LT = x.time := h.own.tk.symm
    rw [e9] at hq
    exact hq
  · exact h.light_ (by have := h.ns; show x.sats.length ≤ 4; omega) (by have := h.nc; simpa using this) (by show x.cost.length ≤ 10; rw [h.klen.1]; exact h.nn) (by show x.time.length ≤ 10; rw [h.klen.2]; exact h.nn) h.rowsK h.rowsT
theorem Fresh.put_cus1 (h : Fresh wr gx B A x N C D VK VT LK LT) (hk : x.cus[k]? = some c) (z : Int) : ∃ g, A.ca = some ⟨g, 0, none⟩ ∧ wr.cell? ⟨g, k * 4 + 1, none⟩ = some (.int .i64 c.2.1) ∧ wr.frozen? ⟨g, k * 4 + 1, none⟩ = false ∧ Fin (wr.setCell ⟨g, k * 4 + 1, none⟩ (.int .i64 z)) gx A { x with cus := x.cus.set k (c.1, z, c.2.2.1, c.2.2.2) } := by
  have hkl := (List.getElem?_eq_some_iff.1 hk).1
  have hs := h.own.cus
  obtain ⟨g, cap, e, hB, _⟩ := owns_some hs (by omega)
  injection e with e1 _ e3
  have hs2 := hs
  rw [e1] at hs2
  obtain ⟨cur, hg⟩ := own_block hs2 (g := g) rfl
  have hn := World.ownsRow.stored hs2 (k * 4 + 1) (.int .i64 z)
  have hn1 := hn.1
  rw [flatC_set1 x.cus k c z hk] at hn1
  refine ⟨g, e1, ?_, World.ownsRow.frozenAt hs2 _, (heap_setCell_other _ _ _ _ (fun q => blk_types h.box hg (by decide) (show gx = g from q))).trans ?_, ⟨?_, ?_, ?_, ?_⟩, ?_⟩
  · have := World.ownsRow.cells hs2 (g := g) rfl (k * 4 + 1) (.int .i64 c.2.1) (flatC_get x.cus k c hk).2.1
    simpa [Addr.add_lit] using this
  · rw [h.box]
    simp [insC]
  · exact owns_sats (own_keep h.own.sats hg (by decide) _ _) rfl
  · have := owns_cus (a := A.ca) (cap := A.cc) (n := x.cus.length) (by rw [e1]; exact hn1) (by simp)
    simpa using this
  · have hq : IsRows _ _ _ _ _ := (h.own.cost.keep hg (by decide) (by decide) (k * 4 + 1) (.int .i64 z)).is_ h.own.nl
    have e9 : sqL N LK = x.cost := h.own.ck.symm
    rw [e9] at hq
    exact hq
  · have hq : IsRows _ _ _ _ _ := (h.own.time.keep hg (by decide) (by decide) (k * 4 + 1) (.int .i64 z)).is_ h.own.nl
    have e9 : sqL N LT = x.time := h.own.tk.symm
    rw [e9] at hq
    exact hq
  · exact h.light_ (by have := h.ns; show x.sats.length ≤ 4; omega) (by have := h.nc; simpa using this) (by show x.cost.length ≤ 10; rw [h.klen.1]; exact h.nn) (by show x.time.length ≤ 10; rw [h.klen.2]; exact h.nn) h.rowsK h.rowsT
theorem Fresh.put_cus2 (h : Fresh wr gx B A x N C D VK VT LK LT) (hk : x.cus[k]? = some c) (z : Int) : ∃ g, A.ca = some ⟨g, 0, none⟩ ∧ wr.cell? ⟨g, k * 4 + 2, none⟩ = some (.int .i64 c.2.2.1) ∧ wr.frozen? ⟨g, k * 4 + 2, none⟩ = false ∧ Fin (wr.setCell ⟨g, k * 4 + 2, none⟩ (.int .i64 z)) gx A { x with cus := x.cus.set k (c.1, c.2.1, z, c.2.2.2) } := by
  have hkl := (List.getElem?_eq_some_iff.1 hk).1
  have hs := h.own.cus
  obtain ⟨g, cap, e, hB, _⟩ := owns_some hs (by omega)
  injection e with e1 _ e3
  have hs2 := hs
  rw [e1] at hs2
  obtain ⟨cur, hg⟩ := own_block hs2 (g := g) rfl
  have hn := World.ownsRow.stored hs2 (k * 4 + 2) (.int .i64 z)
  have hn1 := hn.1
  rw [flatC_set2 x.cus k c z hk] at hn1
  refine ⟨g, e1, ?_, World.ownsRow.frozenAt hs2 _, (heap_setCell_other _ _ _ _ (fun q => blk_types h.box hg (by decide) (show gx = g from q))).trans ?_, ⟨?_, ?_, ?_, ?_⟩, ?_⟩
  · have := World.ownsRow.cells hs2 (g := g) rfl (k * 4 + 2) (.int .i64 c.2.2.1) (flatC_get x.cus k c hk).2.2.1
    simpa [Addr.add_lit] using this
  · rw [h.box]
    simp [insC]
  · exact owns_sats (own_keep h.own.sats hg (by decide) _ _) rfl
  · have := owns_cus (a := A.ca) (cap := A.cc) (n := x.cus.length) (by rw [e1]; exact hn1) (by simp)
    simpa using this
  · have hq : IsRows _ _ _ _ _ := (h.own.cost.keep hg (by decide) (by decide) (k * 4 + 2) (.int .i64 z)).is_ h.own.nl
    have e9 : sqL N LK = x.cost := h.own.ck.symm
    rw [e9] at hq
    exact hq
  · have hq : IsRows _ _ _ _ _ := (h.own.time.keep hg (by decide) (by decide) (k * 4 + 2) (.int .i64 z)).is_ h.own.nl
    have e9 : sqL N LT = x.time := h.own.tk.symm
    rw [e9] at hq
    exact hq
  · exact h.light_ (by have := h.ns; show x.sats.length ≤ 4; omega) (by have := h.nc; simpa using this) (by show x.cost.length ≤ 10; rw [h.klen.1]; exact h.nn) (by show x.time.length ≤ 10; rw [h.klen.2]; exact h.nn) h.rowsK h.rowsT
theorem Fresh.put_cus3 (h : Fresh wr gx B A x N C D VK VT LK LT) (hk : x.cus[k]? = some c) (z : Int) : ∃ g, A.ca = some ⟨g, 0, none⟩ ∧ wr.cell? ⟨g, k * 4 + 3, none⟩ = some (.int .i64 c.2.2.2) ∧ wr.frozen? ⟨g, k * 4 + 3, none⟩ = false ∧ Fin (wr.setCell ⟨g, k * 4 + 3, none⟩ (.int .i64 z)) gx A { x with cus := x.cus.set k (c.1, c.2.1, c.2.2.1, z) } := by
  have hkl := (List.getElem?_eq_some_iff.1 hk).1
  have hs := h.own.cus
  obtain ⟨g, cap, e, hB, _⟩ := owns_some hs (by omega)
  injection e with e1 _ e3
  have hs2 := hs
  rw [e1] at hs2
  obtain ⟨cur, hg⟩ := own_block hs2 (g := g) rfl
  have hn := World.ownsRow.stored hs2 (k * 4 + 3) (.int .i64 z)
  have hn1 := hn.1
  rw [flatC_set3 x.cus k c z hk] at hn1
  refine ⟨g, e1, ?_, World.ownsRow.frozenAt hs2 _, (heap_setCell_other _ _ _ _ (fun q => blk_types h.box hg (by decide) (show gx = g from q))).trans ?_, ⟨?_, ?_, ?_, ?_⟩, ?_⟩
  · have := World.ownsRow.cells hs2 (g := g) rfl (k * 4 + 3) (.int .i64 c.2.2.2) (flatC_get x.cus k c hk).2.2.2
    simpa [Addr.add_lit] using this
  · rw [h.box]
    simp [insC]
  · exact owns_sats (own_keep h.own.sats hg (by decide) _ _) rfl
  · have := owns_cus (a := A.ca) (cap := A.cc) (n := x.cus.length) (by rw [e1]; exact hn1) (by simp)
    simpa using this
  · have hq : IsRows _ _ _ _ _ := (h.own.cost.keep hg (by decide) (by decide) (k * 4 + 3) (.int .i64 z)).is_ h.own.nl
    have e9 : sqL N LK = x.cost := h.own.ck.symm
    rw [e9] at hq
    exact hq
  · have hq : IsRows _ _ _ _ _ := (h.own.time.keep hg (by decide) (by decide) (k * 4 + 3) (.int .i64 z)).is_ h.own.nl
    have e9 : sqL N LT = x.time := h.own.tk.symm
    rw [e9] at hq
    exact hq
  · exact h.light_ (by have := h.ns; show x.sats.length ≤ 4; omega) (by have := h.nc; simpa using this) (by show x.cost.length ≤ 10; rw [h.klen.1]; exact h.nn) (by show x.time.length ≤ 10; rw [h.klen.2]; exact h.nn) h.rowsK h.rowsT
/-- A number of a matrix: where it lies. -/
theorem OwnSq.cell_ {a : Option Addr} {cap : Nat} (h : OwnSq B w (.slice a N cap) N N V L) (hi : i < N) (hk : k < N) : ∃ g, a = some ⟨g, 0, none⟩ ∧ w.cell? ⟨g, i, none⟩ = some (.slice (some ⟨V i, 0, none⟩) N N) ∧ w.cell? ⟨V i, k, none⟩ = some (.int .i64 (L i k)) ∧ w.frozen? ⟨V i, k, none⟩ = false := by
  obtain ⟨g, cap2, e, hB, _⟩ := owns_some h.outer (by omega)
  injection e with e1 _ e3
  have ho := h.outer
  rw [e1] at ho
  refine ⟨g, e1, ?_, (h.row i hi).1.cell hk, (h.row i hi).1.frozen k⟩
  rw [World.ownsRow.cellAt ho i (by omega)]
  simp [hi]
theorem Fresh.put_cost (h : Fresh wr gx B A x N C D VK VT LK LT) (hi : i < N) (hk : k < N) (z : Int) : Fin (wr.setCell ⟨VK i, k, none⟩ (.int .i64 z)) gx A { x with cost := sqL N (putL LK i k z) } := by
  obtain ⟨cur, hg⟩ := rowIs_block (h.own.cost.row i hi).1
  have hD : VK i < D := h.own.kb _ (.inr ⟨i, hi, rfl⟩)
  have hq := (h.own.cost.put hi hk z).is_ h.own.nl
  have ht := (h.own.time.set_ (i := k) (u := .int .i64 z) hD).is_ h.own.nl
  rw [show sqL N LT = x.time from h.own.tk.symm] at ht
  refine ⟨(heap_setCell_other _ _ _ _ (fun q => blk_types h.box hg (by decide) (show gx = VK i from q))).trans ?_, ⟨?_, ?_, ?_, ?_⟩, ?_⟩
  · rw [h.box]
    simp [insC, sqL_length, h.klen.1]
  · exact owns_sats (own_keep h.own.sats hg (by decide) _ _) rfl
  · exact owns_cus (own_keep h.own.cus hg (by decide) _ _) rfl
  · simpa using hq
  · simpa using ht
  · exact h.light_ (by have := h.ns; show x.sats.length ≤ 4; omega) h.nc (by show (sqL N _).length ≤ 10; rw [sqL_length]; exact h.nn) (by show x.time.length ≤ 10; rw [h.klen.2]; exact h.nn) (fun r hr => by have := sqL_mem hr; have := h.nn; omega) h.rowsT
theorem Fresh.put_time (h : Fresh wr gx B A x N C D VK VT LK LT) (hi : i < N) (hk : k < N) (z : Int) : Fin (wr.setCell ⟨VT i, k, none⟩ (.int .i64 z)) gx A { x with time := sqL N (putL LT i k z) } := by
  obtain ⟨cur, hg⟩ := rowIs_block (h.own.time.row i hi).1
  have hD : D ≤ VT i := (h.own.time.row i hi).2
  have hq := (h.own.time.put hi hk z).is_ h.own.nl
  have ht := (h.own.cost.ne_ (b := VT i) (fun e => by have := h.own.kb _ (.inl e); omega) (fun j hj e => by have := h.own.kb _ (.inr ⟨j, hj, e⟩); omega) k (.int .i64 z)).is_ h.own.nl
  rw [show sqL N LK = x.cost from h.own.ck.symm] at ht
  refine ⟨(heap_setCell_other _ _ _ _ (fun q => blk_types h.box hg (by decide) (show gx = VT i from q))).trans ?_, ⟨?_, ?_, ?_, ?_⟩, ?_⟩
  · rw [h.box]
    simp [insC, sqL_length, h.klen.2]
  · exact owns_sats (own_keep h.own.sats hg (by decide) _ _) rfl
  · exact owns_cus (own_keep h.own.cus hg (by decide) _ _) rfl
  · simpa using ht
  · simpa using hq
  · exact h.light_ (by have := h.ns; show x.sats.length ≤ 4; omega) h.nc (by show x.cost.length ≤ 10; rw [h.klen.1]; exact h.nn) (by show (sqL N _).length ≤ 10; rw [sqL_length]; exact h.nn) h.rowsK (fun r hr => by have := sqL_mem hr; have := h.nn; omega)
end Go.Proofs.Ytchdpapaojkbhaa
end
section
/- An instance of the call's own: a satellite more, a number more in a row, fewer rows. -/
namespace Go.Proofs.Ytchdpapaojkbhaa
open Go.RowKit

variable {w wr w2 w4 : World} {A : InA} {x : Ins} {B N C D b i k j g sz n gx g4 cap : Nat} {VK VT V : Nat → Nat} {LK LT L : Nat → Nat → Int} {v : Value} {z : Int} {p : Int × Int} {S : Nat → Prop}
theorem OwnSq.mod (h : OwnSq B w v n N V L) (hm : Mod S w w2) (h1 : ∀ k, v.ownBlock = some k → ¬ S k) (h2 : ∀ j, j < n → ¬ S (V j)) : OwnSq B w2 v n N V L :=
  ⟨owns_kept h.outer hm h1, fun k hk => ⟨(h.row k hk).1.of_block (hm.block _ (h.row k hk).1.lt (h2 k hk)), (h.row k hk).2⟩, h.inj, h.out⟩
/-- One satellite more. -/
theorem Fresh.push_sat (h : Fresh wr gx B A x N C D VK VT LK LT) (hown : w4.ownsRow B 61 2 (.slice (some ⟨g4, 0, none⟩) (x.sats.length + 1) cap) (x.sats.length + 1) (flatS x.sats ++ encS p)) (hgrow : wr.grownBy w4 (Value.slice A.sa x.sats.length A.sc).ownBlock) :
    Fin (w4.setCell ⟨gx, 5, none⟩ (.slice (some ⟨g4, 0, none⟩) (x.sats.length + 1) cap)) gx { A with sa := some ⟨g4, 0, none⟩, sc := cap } { x with sats := x.sats ++ [p] } ∧ w4.cell? ⟨gx, 5, none⟩ = some (.slice A.sa x.sats.length A.sc) ∧ w4.frozen? ⟨gx, 5, none⟩ = false := by
  have hM : Mod (fun k => (Value.slice A.sa x.sats.length A.sc).ownBlock = some k) wr w4 := (Mod.refl _ _).grown hgrow (fun k hk => .inr hk)
  have hb4 : w4.heap[gx]? = some (.cells (insC A x) 34 (0, 0)) := (hM.block gx (Array.getElem?_eq_some_iff.1 h.box).1 (fun e => by
    obtain ⟨cur, hc⟩ := own_block h.own.sats e
    exact blk_types hc h.box (by decide) rfl)).trans h.box
  have hcost := (h.own.cost.mod hM (fun k hk hs => by
    obtain ⟨c1, q1⟩ := own_block h.own.cost.outer hk
    obtain ⟨c2, q2⟩ := own_block h.own.sats hs
    exact blk_types q1 q2 (by decide) rfl) (fun j hj hs => by
    obtain ⟨c1, q1⟩ := rowIs_block (h.own.cost.row j hj).1
    obtain ⟨c2, q2⟩ := own_block h.own.sats hs
    exact blk_types q1 q2 (by decide) rfl)).keep hb4 (by decide) (by decide) 5 (.slice (some ⟨g4, 0, none⟩) (x.sats.length + 1) cap)
  have htime := (h.own.time.mod hM (fun k hk hs => by
    obtain ⟨c1, q1⟩ := own_block h.own.time.outer hk
    obtain ⟨c2, q2⟩ := own_block h.own.sats hs
    exact blk_types q1 q2 (by decide) rfl) (fun j hj hs => by
    obtain ⟨c1, q1⟩ := rowIs_block (h.own.time.row j hj).1
    obtain ⟨c2, q2⟩ := own_block h.own.sats hs
    exact blk_types q1 q2 (by decide) rfl)).keep hb4 (by decide) (by decide) 5 (.slice (some ⟨g4, 0, none⟩) (x.sats.length + 1) cap)
  have hk := hcost.is_ h.own.nl
  have ht := htime.is_ h.own.nl
  rw [show sqL N LK = x.cost from h.own.ck.symm] at hk
  rw [show sqL N LT = x.time from h.own.tk.symm] at ht
  refine ⟨⟨?_, ⟨?_, ?_, hk, ht⟩, ?_⟩, by simp [World.cell?, hb4], by simp [World.frozen?, hb4]⟩
  · rw [heap_setCell_same _ _ _ _ _ _ hb4]
    simp [insC]
  · have hs := own_keep hown hb4 (by decide) 5 (.slice (some ⟨g4, 0, none⟩) (x.sats.length + 1) cap)
    rw [← flatS_snoc] at hs
    have := owns_sats hs (by simp)
    simpa using this
  · exact owns_cus (own_keep (owns_kept h.own.cus hM (fun k hk hs => by
      obtain ⟨c1, q1⟩ := own_block h.own.cus hk
      obtain ⟨c2, q2⟩ := own_block h.own.sats hs
      exact blk_types q1 q2 (by decide) rfl)) hb4 (by decide) 5 _) rfl
  · exact h.light_ (by have := h.ns; simp; omega) h.nc (by show x.cost.length ≤ 10; rw [h.klen.1]; exact h.nn) (by show x.time.length ≤ 10; rw [h.klen.2]; exact h.nn) h.rowsK h.rowsT
theorem IsRows.take_ {a : Option Addr} {len : Nat} {L : List (List Int)} (h : IsRows B w a len L) (hi : i ≤ len) : IsRows B w a i (L.take i) := by
  obtain ⟨h1, h2⟩ := h
  subst h1
  refine ⟨by rw [List.length_take]; omega, ?_⟩
  rcases h2 with h2 | ⟨b, off, e, hb, hr⟩
  · exact .inl (by omega)
  · refine .inr ⟨b, off, e, hb, fun k r hk => ?_⟩
    rw [List.getElem?_take] at hk
    split at hk
    · exact hr k r hk
    · cases hk
/-- Fewer rows. -/
theorem Fresh.cut_time (h : Fresh wr gx B A x N C D VK VT LK LT) (hi : i ≤ N) : Fin (wr.setCell ⟨gx, 8, none⟩ (.slice A.ta i A.tc)) gx A { x with time := x.time.take i } := by
  have ho := (h.own.keep h.box (by decide) (by decide) (by decide) (by decide) 8 (.slice A.ta i A.tc)).is_
  have hl := h.klen.2
  have hil : i ≤ x.time.length := by omega
  have e : (x.time.take i).length = i := by rw [List.length_take]; omega
  have ht := ho.time.take_ hil
  refine ⟨?_, ⟨ho.sats, ho.cus, ho.cost, by rw [show ({ x with time := x.time.take i } : Ins).time.length = i from e]; exact ht⟩, ?_⟩
  · rw [heap_setCell_same _ _ _ _ _ _ h.box]
    simp [insC, hil]
  · exact h.light_ (by have := h.ns; show x.sats.length ≤ 4; omega) h.nc (by show x.cost.length ≤ 10; rw [h.klen.1]; exact h.nn) (by show (x.time.take i).length ≤ 10; have := h.nn; omega) h.rowsK (fun r hr => h.rowsT r (List.mem_of_mem_take hr))
/-- A row as one that may grow. -/
theorem rowIs_owns {f : Nat → Int} (h : w.rowIs g 2 N (fun k => .int .i64 (f k))) (hB : B ≤ g) (hN : N ≤ 1000) : w.ownsRow B 2 1 (.slice (some ⟨g, 0, none⟩) N N) N (numsV ((List.range N).map f)) := by
  obtain ⟨c, hb, hn, hc⟩ := h
  refine ⟨by simp [numsV], .inr ⟨g, N, c, rfl, hB, hb, Nat.le_refl _, by unfold maxLen; omega, by omega, ?_⟩⟩
  apply List.ext_getElem?
  intro j
  rw [List.getElem?_take, Nat.mul_one]
  by_cases hj : j < N
  · rw [if_pos hj]
    have := hc j hj
    simp only [Array.getElem?_toList, this]
    simp [numsV, hj]
  · rw [if_neg hj, List.getElem?_eq_none (by simp [numsV]; omega)]
/-- A number more in row i of the costs. -/
theorem Fresh.push_row (h : Fresh wr gx B A x N C D VK VT LK LT) (hi : i < N) {gk : Nat} (hka : A.ka = some ⟨gk, 0, none⟩) (hown : w4.ownsRow C 2 1 (.slice (some ⟨g4, 0, none⟩) (N + 1) cap) (N + 1) (numsV ((List.range N).map (LK i)) ++ [.int .i64 z])) (hgrow : wr.grownBy w4 (some (VK i))) :
    Fin (w4.setCell ⟨gk, i, none⟩ (.slice (some ⟨g4, 0, none⟩) (N + 1) cap)) gx A { x with cost := (sqL N LK).set i ((List.range N).map (LK i) ++ [z]) } ∧ (∃ u, w4.cell? ⟨gk, i, none⟩ = some u) ∧ w4.frozen? ⟨gk, i, none⟩ = false ∧ w4.cell? ⟨gx, 7, none⟩ = some (.slice A.ka x.cost.length A.kc) := by
  have hM : Mod (fun k => k = VK i) wr w4 := (Mod.refl _ _).grown hgrow (fun k hk => .inr (by injection hk with hk; exact hk.symm))
  obtain ⟨ci, hci⟩ := rowIs_block (h.own.cost.row i hi).1
  have hb4 : w4.heap[gx]? = some (.cells (insC A x) 34 (0, 0)) := (hM.block gx (Array.getElem?_eq_some_iff.1 h.box).1 (fun e => blk_types h.box hci (by decide) e)).trans h.box
  have ho := owns_kept h.own.cost.outer hM (fun k hk e => by
    obtain ⟨c1, q1⟩ := own_block h.own.cost.outer hk
    exact blk_types q1 hci (by decide) e)
  rw [hka] at ho
  obtain ⟨co, hco⟩ := own_block ho (g := gk) rfl
  have hst := World.ownsRow.stored ho i (.slice (some ⟨g4, 0, none⟩) (N + 1) cap)
  have hnl := h.own.nl
  have hrowi := ownsRow_setCell_other (a := ⟨gk, i, none⟩) hown (fun e => by
    obtain ⟨c1, q1⟩ := own_block hown e
    exact blk_types q1 hco (by decide) rfl) (.slice (some ⟨g4, 0, none⟩) (N + 1) cap)
  have hs4 := own_keep (owns_kept h.own.sats hM (fun k hk e => by
    obtain ⟨c1, q1⟩ := own_block h.own.sats hk
    exact blk_types q1 hci (by decide) e)) hco (by decide) i (.slice (some ⟨g4, 0, none⟩) (N + 1) cap)
  have hc4 := own_keep (owns_kept h.own.cus hM (fun k hk e => by
    obtain ⟨c1, q1⟩ := own_block h.own.cus hk
    exact blk_types q1 hci (by decide) e)) hco (by decide) i (.slice (some ⟨g4, 0, none⟩) (N + 1) cap)
  have hgk : gk < D := h.own.kb _ (.inl (by rw [hka]; rfl))
  have ht4 := ((h.own.time.mod hM (fun k hk e => by
    obtain ⟨c1, q1⟩ := own_block h.own.time.outer hk
    exact blk_types q1 hci (by decide) e) (fun j hj e => by
    have := (h.own.time.row j hj).2
    have := h.own.kb _ (.inr ⟨i, hi, rfl⟩)
    omega)).set_ (i := i) (u := .slice (some ⟨g4, 0, none⟩) (N + 1) cap) hgk).is_ hnl
  rw [show sqL N LT = x.time from h.own.tk.symm] at ht4
  refine ⟨⟨(heap_setCell_other _ _ _ _ (fun e => blk_types hb4 hco (by decide) (show gx = gk from e))).trans ?_, ⟨owns_sats hs4 rfl, owns_cus hc4 rfl, ?_, ht4⟩, ?_⟩, ?_, World.ownsRow.frozenAt ho i, by simp [World.cell?, hb4]⟩
  · rw [hb4]
    simp [insC, sqL_length, h.klen.1]
  · have e0 : ({ x with cost := (sqL N LK).set i ((List.range N).map (LK i) ++ [z]) } : Ins).cost.length = N := by simp [sqL_length]
    rw [e0, hka]
    refine ⟨by simp [sqL_length], .inr ⟨gk, 0, rfl, by simpa using (Array.getElem?_eq_some_iff.1 hco).1, fun j r hj => ?_⟩⟩
    have hjn : j < N := by have := (List.getElem?_eq_some_iff.1 hj).1; simpa [sqL_length] using this
    have hcell := World.ownsRow.cellAt hst.1 j (by omega)
    rw [Nat.zero_add]
    by_cases e : j = i
    · subst e
      have er : r = (List.range N).map (LK j) ++ [z] := by
        simp [sqL_length, hjn] at hj
        exact hj.symm
      subst er
      have hl : ((List.range N).map (LK j) ++ [z]).length = N + 1 := by simp
      rw [hl]
      have hnum : IsNums (w4.setCell ⟨gk, j, none⟩ (.slice (some ⟨g4, 0, none⟩) (N + 1) cap)).heap.size (w4.setCell ⟨gk, j, none⟩ (.slice (some ⟨g4, 0, none⟩) (N + 1) cap)) (some ⟨g4, 0, none⟩) (N + 1) ((List.range N).map (LK j) ++ [z]) := by
        refine ⟨hl, .inr ⟨g4, 0, rfl, (World.ownsRow.lt hrowi g4 rfl).2, fun t y hy => ?_⟩⟩
        have hr2 := hrowi
        rw [← numsV_snoc] at hr2
        rw [Nat.zero_add]
        exact nums_cell hr2 hy
      refine ⟨by omega, some ⟨g4, 0, none⟩, cap, ?_, hnum⟩
      rw [hcell]
      simp [hjn]
    · have er : r = (List.range N).map (LK j) := by
        have e2 : ¬ i = j := fun q => e q.symm
        simp only [List.getElem?_set, e2, if_false] at hj
        simp only [sqL, List.getElem?_map, List.getElem?_range hjn, Option.map_some, Option.some.injEq] at hj
        exact hj.symm
      subst er
      have hl : ((List.range N).map (LK j)).length = N := by simp
      rw [hl]
      have hrj : (w4.setCell ⟨gk, i, none⟩ (.slice (some ⟨g4, 0, none⟩) (N + 1) cap)).rowIs (VK j) 2 N (fun t => .int .i64 (LK j t)) := by
        have hrw := (h.own.cost.row j hjn).1
        have h1 := hrw.of_block (hM.block _ hrw.lt (fun e2 => e (h.own.cost.inj j i hjn hi e2)))
        obtain ⟨c9, q9⟩ := rowIs_block h1
        exact h1.setOther (a := ⟨gk, i, none⟩) (blk_types q9 hco (by decide)) _
      refine ⟨by omega, some ⟨VK j, 0, none⟩, N, ?_, by simp, .inr ⟨VK j, 0, rfl, hrj.lt, fun t y hy => ?_⟩⟩
      · rw [hcell]
        have e2 : ¬ i = j := fun q => e q.symm
        simp [e2, hjn]
      · have ht : t < N := by have := (List.getElem?_eq_some_iff.1 hy).1; simpa using this
        simp [ht] at hy
        subst hy
        rw [Nat.zero_add]
        exact hrj.cell ht
  · refine h.light_ (by have := h.ns; show x.sats.length ≤ 4; omega) h.nc (by show ((sqL N LK).set i _).length ≤ 10; simp [sqL_length]; exact h.nn) (by show x.time.length ≤ 10; rw [h.klen.2]; exact h.nn) (fun r hr => ?_) h.rowsT
    rcases List.mem_or_eq_of_mem_set hr with hr | rfl
    · have := sqL_mem hr
      have := h.nn
      omega
    · have := h.nn
      simp
      omega
  · rw [World.ownsRow.cellAt ho i (by omega)]
    exact ⟨.slice (some ⟨VK i, 0, none⟩) N N, by simp [hi]⟩
end Go.Proofs.Ytchdpapaojkbhaa
end
section
/- Two instances of the call's own, made in whatever order. -/
namespace Go.Proofs.Ytchdpapaojkbhaa
open Go.RowKit

variable {w wr w2 : World} {A3 : InA} {m : Ins} {D0 ga b B N C D : Nat} {u : Value} {VK VT : Nat → Nat} {LK LT : Nat → Nat → Int} {S P Q : Nat → Prop}
/-- Each block of an instance of the call's own. -/
def OwnAll (A : InA) (x : Ins) (N : Nat) (VK VT : Nat → Nat) (P : Nat → Prop) : Prop :=
  (∀ g, (Value.slice A.sa x.sats.length A.sc).ownBlock = some g → P g) ∧ (∀ g, (Value.slice A.ca x.cus.length A.cc).ownBlock = some g → P g) ∧ (∀ g, (Value.slice A.ka N A.kc).ownBlock = some g → P g) ∧ (∀ g, (Value.slice A.ta N A.tc).ownBlock = some g → P g) ∧ (∀ i, i < N → P (VK i)) ∧ ∀ i, i < N → P (VT i)
theorem OwnAll.imp (h : OwnAll A3 m N VK VT P) (hp : ∀ g, P g → Q g) : OwnAll A3 m N VK VT Q :=
  ⟨fun g e => hp _ (h.1 g e), fun g e => hp _ (h.2.1 g e), fun g e => hp _ (h.2.2.1 g e), fun g e => hp _ (h.2.2.2.1 g e), fun i hi => hp _ (h.2.2.2.2.1 i hi), fun i hi => hp _ (h.2.2.2.2.2 i hi)⟩
theorem OwnIns.all_lt (h : OwnIns B w A3 m N C D VK VT LK LT) : OwnAll A3 m N VK VT (fun g => g < w.heap.size) :=
  ⟨fun g e => (World.ownsRow.lt h.sats g e).2, fun g e => (World.ownsRow.lt h.cus g e).2, fun g e => (World.ownsRow.lt h.cost.outer g e).2, fun g e => (World.ownsRow.lt h.time.outer g e).2, fun i hi => (h.cost.row i hi).1.lt, fun i hi => (h.time.row i hi).1.lt⟩
theorem OwnIns.mod (h : OwnIns B w A3 m N C D VK VT LK LT) (hm : Mod S w w2) (hP : OwnAll A3 m N VK VT (fun g => ¬ S g)) : OwnIns B w2 A3 m N C D VK VT LK LT :=
  ⟨owns_kept h.sats hm hP.1, owns_kept h.cus hm hP.2.1, h.cost.mod hm hP.2.2.1 hP.2.2.2.2.1, h.time.mod hm hP.2.2.2.1 hP.2.2.2.2.2, h.ck, h.tk, h.nl, h.ap, h.sb, h.kb, h.bc, h.cd⟩
/-- An instance of the call's own, all its blocks below D0. -/
def AOwn (w : World) (D0 : Nat) (A : InA) (x : Ins) : Prop := ∃ B N C D VK VT LK LT, OwnIns B w A x N C D VK VT LK LT ∧ OwnAll A x N VK VT (fun g => g < D0)
theorem AOwn.make (h : OwnIns B w A3 m N C D VK VT LK LT) : AOwn w w.heap.size A3 m := ⟨B, N, C, D, VK, VT, LK, LT, h, h.all_lt⟩
theorem AOwn.later (h : AOwn w D0 A3 m) (hb : Below w.heap.size w w2) : AOwn w2 D0 A3 m := by
  obtain ⟨B, N, C, D, VK, VT, LK, LT, h1, h2⟩ := h
  exact ⟨B, N, C, D, VK, VT, LK, LT, h1.later hb, h2⟩
theorem AOwn.mod (h : AOwn w D0 A3 m) (hm : Mod S w w2) (hS : ∀ k, S k → D0 ≤ k) : AOwn w2 D0 A3 m := by
  obtain ⟨B, N, C, D, VK, VT, LK, LT, h1, h2⟩ := h
  exact ⟨B, N, C, D, VK, VT, LK, LT, h1.mod hm (h2.imp (fun g hg hs => by have := hS g hs; omega)), h2⟩
theorem AOwn.box (h : AOwn w D0 A3 m) {cb : Array Value} (hb : w.heap[b]? = some (.cells cb 34 (0, 0))) (i : Nat) (u : Value) : AOwn (w.setCell ⟨b, i, none⟩ u) D0 A3 m := by
  obtain ⟨B, N, C, D, VK, VT, LK, LT, h1, h2⟩ := h
  exact ⟨B, N, C, D, VK, VT, LK, LT, h1.keep hb (by decide) (by decide) (by decide) (by decide) i u, h2⟩
theorem AOwn.is_ (h : AOwn w D0 A3 m) : IsIns w.heap.size w A3 m := by
  obtain ⟨B, N, C, D, VK, VT, LK, LT, h1, _⟩ := h
  exact h1.is_
/-! ### The two instances made, in whatever order -/
abbrev Zc : Array Value := #[.int .i64 0, .int .i64 0, .int .i64 0, .int .i64 0, .int .i64 0, .slice none 0 0, .slice none 0 0, .slice none 0 0, .slice none 0 0]
theorem below_storeI {r : Nat} {y0 y1 y2 y3 y4 y5 y6 y7 y8 : Value} (hr : B ≤ r) : Below B wr (storeI wr r y0 y1 y2 y3 y4 y5 y6 y7 y8) := storeI_below (Below.refl _ _) hr
theorem OwnIns.storeI_ {r : Nat} {y0 y1 y2 y3 y4 y5 y6 y7 y8 v0 v1 v2 v3 v4 v5 v6 v7 v8 : Value} (h : OwnIns B w A3 m N C D VK VT LK LT) (hb : w.heap[r]? = some (.cells #[v0, v1, v2, v3, v4, v5, v6, v7, v8] 34 (0, 0))) : OwnIns B (storeI w r y0 y1 y2 y3 y4 y5 y6 y7 y8) A3 m N C D VK VT LK LT := by
  unfold storeI
  have k : ∀ {W : World} {c : Array Value}, W.heap[r]? = some (.cells c 34 (0, 0)) → OwnIns B W A3 m N C D VK VT LK LT → ∀ i u, OwnIns B (W.setCell ⟨r, i, none⟩ u) A3 m N C D VK VT LK LT ∧ ∃ c2, (W.setCell ⟨r, i, none⟩ u).heap[r]? = some (.cells c2 34 (0, 0)) := fun hc ho i u => ⟨ho.keep hc (by decide) (by decide) (by decide) (by decide) i u, _, heap_setCell_same _ _ _ _ _ _ hc⟩
  obtain ⟨h0, _, b0⟩ := k hb h 0 y0
  obtain ⟨h1, _, b1⟩ := k b0 h0 1 y1
  obtain ⟨h2, _, b2⟩ := k b1 h1 2 y2
  obtain ⟨h3, _, b3⟩ := k b2 h2 3 y3
  obtain ⟨h4, _, b4⟩ := k b3 h3 4 y4
  obtain ⟨h5, _, b5⟩ := k b4 h4 5 y5
  obtain ⟨h6, _, b6⟩ := k b5 h5 6 y6
  obtain ⟨h7, _, b7⟩ := k b6 h6 7 y7
  exact (k b7 h7 8 y8).1
theorem storeI_other {r b : Nat} {y0 y1 y2 y3 y4 y5 y6 y7 y8 : Value} (h : b ≠ r) : (storeI w r y0 y1 y2 y3 y4 y5 y6 y7 y8).heap[b]? = w.heap[b]? := by
  unfold storeI
  have k : ∀ (W : World) i u, (W.setCell ⟨r, i, none⟩ u).heap[b]? = W.heap[b]? := fun W i u => heap_setCell_other _ _ _ _ (fun e => h (show b = r from e))
  rw [k, k, k, k, k, k, k, k, k]
theorem AOwn.storeI_ {r : Nat} {y0 y1 y2 y3 y4 y5 y6 y7 y8 v0 v1 v2 v3 v4 v5 v6 v7 v8 : Value} (h : AOwn w D0 A3 m) (hb : w.heap[r]? = some (.cells #[v0, v1, v2, v3, v4, v5, v6, v7, v8] 34 (0, 0))) : AOwn (storeI w r y0 y1 y2 y3 y4 y5 y6 y7 y8) D0 A3 m := by
  obtain ⟨B, N, C, D, VK, VT, LK, LT, h1, h2⟩ := h
  exact ⟨B, N, C, D, VK, VT, LK, LT, h1.storeI_ hb, h2⟩
/-! ### A clone as what came in -/
end Go.Proofs.Ytchdpapaojkbhaa
end
section
/- Two instances that a law made: one stays, one is changed. -/
namespace Go.Proofs.Ytchdpapaojkbhaa
open Go.RowKit

variable {w wr w2 : World} {A A3 : InA} {AS : SmA} {s : Sm} {x y m : Ins} {D0 ga gx b B N C D i k : Nat} {u : Value} {VK VT : Nat → Nat} {LK LT : Nat → Nat → Int} {S : Nat → Prop} {z n : Int} {p : Pi}
theorem SBox.lt (h : SBox w wr AS s) : w.heap.size + 1 ≤ wr.heap.size := (Array.getElem?_eq_some_iff.1 h.blk).1
theorem SBox.mod (h : SBox w wr AS s) (hb : Below (w.heap.size + 1) wr w2) : SBox w w2 AS s := ⟨h.below.trans (hb.mono (by omega)), (hb.block _ (by omega)).trans h.blk⟩
/-- The argument's box, and the instance that stays. -/
structure BW (w wr : World) (D0 ga : Nat) (AS : SmA) (s : Sm) (A3 : InA) (m : Ins) : Prop where
  sb : SBox w wr AS s
  a : wr.heap[ga]? = some (.cells (insC A3 m) 34 (0, 0))
  ao : AOwn wr D0 A3 m
  ge : w.heap.size + 1 ≤ ga
  dge : w.heap.size + 1 ≤ D0
theorem BW.later (h : BW w wr D0 ga AS s A3 m) (hb : Below wr.heap.size wr w2) : BW w w2 D0 ga AS s A3 m :=
  ⟨h.sb.later hb, (hb.block _ (Array.getElem?_eq_some_iff.1 h.a).1).trans h.a, h.ao.later hb, h.ge, h.dge⟩
theorem BW.mod (h : BW w wr D0 ga AS s A3 m) (hm : Mod S wr w2) (hS : ∀ k, S k → D0 ≤ k) (hg : ¬ S ga) : BW w w2 D0 ga AS s A3 m :=
  ⟨h.sb.mod (hm.below h.sb.lt (fun k hk => Nat.le_trans h.dge (hS k hk))), (hm.block _ (Array.getElem?_eq_some_iff.1 h.a).1 hg).trans h.a, h.ao.mod hm hS, h.ge, h.dge⟩
theorem BW.set_ (h : BW w wr D0 ga AS s A3 m) (hb : D0 ≤ b) (hne : ga ≠ b) (i : Nat) (u : Value) : BW w (wr.setCell ⟨b, i, none⟩ u) D0 ga AS s A3 m :=
  h.mod ((Mod.refl (fun k => k = b) wr).setCell (p := ⟨b, i, none⟩) (.inr rfl) u) (fun k e => by rw [e]; exact hb) (fun e => hne e)
theorem BW.box (h : BW w wr D0 ga AS s A3 m) {cb : Array Value} (hb : wr.heap[b]? = some (.cells cb 34 (0, 0))) (hge : w.heap.size + 1 ≤ b) (hne : ga ≠ b) (i : Nat) (u : Value) : BW w (wr.setCell ⟨b, i, none⟩ u) D0 ga AS s A3 m :=
  ⟨h.sb.mod ((Below.refl _ wr).setCell (p := ⟨b, i, none⟩) hge u), (heap_setCell_other _ _ _ _ (fun e => hne (show ga = b from e))).trans h.a, h.ao.box hb i u, h.ge, h.dge⟩
/-- What the law's maker makes leaves room for a small number more. -/
structure Low (m : Ins) : Prop where
  en : 0 ≤ m.en ∧ m.en ≤ 10000
  stay : ∀ q ∈ m.cus, 0 ≤ q.2.2.2 ∧ q.2.2.2 ≤ 10000
  time : ∀ r ∈ m.time, ∀ v ∈ r, 0 ≤ v ∧ v ≤ 10000
theorem Low.lt (h : Low m) (ht : m.time = (List.range N).map (fun i => (List.range N).map (LT i))) (hi : i < N) (hk : k < N) : 0 ≤ LT i k ∧ LT i k ≤ 10000 :=
  h.time _ (by rw [ht]; exact List.mem_map.2 ⟨i, List.mem_range.2 hi, rfl⟩) _ (List.mem_map.2 ⟨k, List.mem_range.2 hk, rfl⟩)
theorem makeI_low (h : SmOk s) : Low (makeI s) := by
  have hw := s.wide_le
  have he := h.ok.e
  unfold sm8 at he
  refine ⟨?_, ?_, ?_⟩
  · have := wide_in s.wide s.e 255 hw he.1 he.2
    show 0 ≤ 40 + s.e * s.wide ∧ 40 + s.e * s.wide ≤ 10000
    rw [Int.mul_comm s.e]
    omega
  · intro q hq
    change q ∈ cusOf s at hq
    unfold cusOf at hq
    split at hq
    · simp at hq
      subst hq
      exact ⟨by decide, by decide⟩
    · unfold cusTo at hq
      rw [List.mem_map] at hq
      obtain ⟨c, _, rfl⟩ := hq
      show 0 ≤ c.2.2.2 % 8 ∧ c.2.2.2 % 8 ≤ 10000
      omega
  · intro r hr v hv
    change r ∈ sqRows s.time (nodesOf s) at hr
    unfold sqRows at hr
    rw [List.mem_map] at hr
    obtain ⟨i, _, rfl⟩ := hr
    rw [List.mem_map] at hv
    obtain ⟨j, _, rfl⟩ := hv
    have := sqE_in s.time (nodesOf s) i j
    omega
end Go.Proofs.Ytchdpapaojkbhaa
end
section
/- An instance of the call's own, one number of it stored: still one. -/
namespace Go.Proofs.Ytchdpapaojkbhaa
open Go.RowKit

variable {w wr w2 : World} {A : InA} {x m : Ins} {gx B N C D i k : Nat} {VK VT : Nat → Nat} {LK LT L : Nat → Nat → Int} {z : Int} {p : Int × Int}
theorem Fresh.cost_ (h : Fresh wr gx B A x N C D VK VT LK LT) (hi : i < N) (hk : k < N) (z : Int) : Fresh (wr.setCell ⟨VK i, k, none⟩ (.int .i64 z)) gx B A { x with cost := sqL N (putL LK i k z) } N C D VK VT (putL LK i k z) LT := by
  obtain ⟨cur, hg⟩ := rowIs_block (h.own.cost.row i hi).1
  have hD : VK i < D := h.own.kb _ (.inr ⟨i, hi, rfl⟩)
  refine ⟨(heap_setCell_other _ _ _ _ (fun q => blk_types h.box hg (by decide) (show gx = VK i from q))).trans ?_, ⟨own_keep h.own.sats hg (by decide) _ _, own_keep h.own.cus hg (by decide) _ _, h.own.cost.put hi hk z, h.own.time.set_ (i := k) (u := .int .i64 z) hD, rfl, h.own.tk, h.own.nl, h.own.ap, h.own.sb, h.own.kb, h.own.bc, h.own.cd⟩, h.ns, h.nc, h.nn⟩
  rw [h.box]
  simp [insC, sqL_length, h.klen.1]
theorem Fresh.time_ (h : Fresh wr gx B A x N C D VK VT LK LT) (hi : i < N) (hk : k < N) (z : Int) : Fresh (wr.setCell ⟨VT i, k, none⟩ (.int .i64 z)) gx B A { x with time := sqL N (putL LT i k z) } N C D VK VT LK (putL LT i k z) := by
  obtain ⟨cur, hg⟩ := rowIs_block (h.own.time.row i hi).1
  have hD : D ≤ VT i := (h.own.time.row i hi).2
  refine ⟨(heap_setCell_other _ _ _ _ (fun q => blk_types h.box hg (by decide) (show gx = VT i from q))).trans ?_, ⟨own_keep h.own.sats hg (by decide) _ _, own_keep h.own.cus hg (by decide) _ _, h.own.cost.ne_ (b := VT i) (fun e => by have := h.own.kb _ (.inl e); omega) (fun j hj e => by have := h.own.kb _ (.inr ⟨j, hj, e⟩); omega) k (.int .i64 z), h.own.time.put hi hk z, h.own.ck, rfl, h.own.nl, h.own.ap, h.own.sb, h.own.kb, h.own.bc, h.own.cd⟩, h.ns, h.nc, h.nn⟩
  rw [h.box]
  simp [insC, sqL_length, h.klen.2]
theorem Fresh.sat_ (h : Fresh wr gx B A x N C D VK VT LK LT) (hk : x.sats[k]? = some p) (z : Int) : ∃ g, A.sa = some ⟨g, 0, none⟩ ∧ wr.cell? ⟨g, k * 2, none⟩ = some (.int .i64 p.1) ∧ wr.frozen? ⟨g, k * 2, none⟩ = false ∧ Fresh (wr.setCell ⟨g, k * 2, none⟩ (.int .i64 z)) gx B A { x with sats := x.sats.set k (z, p.2) } N C D VK VT LK LT := by
  have hkl := (List.getElem?_eq_some_iff.1 hk).1
  have hs := h.own.sats
  obtain ⟨g, cap, e, hB, _⟩ := owns_some hs (by omega)
  injection e with e1 _ e3
  have hs2 := hs
  rw [e1] at hs2
  obtain ⟨cur, hg⟩ := own_block hs2 (g := g) rfl
  have hn := World.ownsRow.stored hs2 (k * 2) (.int .i64 z)
  have hn1 := hn.1
  rw [flatS_set0 x.sats k p z hk] at hn1
  refine ⟨g, e1, ?_, World.ownsRow.frozenAt hs2 _, (heap_setCell_other _ _ _ _ (fun q => blk_types h.box hg (by decide) (show gx = g from q))).trans ?_, ⟨?_, own_keep h.own.cus hg (by decide) _ _, h.own.cost.keep hg (by decide) (by decide) (k * 2) (.int .i64 z), h.own.time.keep hg (by decide) (by decide) (k * 2) (.int .i64 z), h.own.ck, h.own.tk, h.own.nl, by simpa using h.own.ap, by simpa using h.own.sb, h.own.kb, h.own.bc, h.own.cd⟩, by simpa using h.ns, h.nc, h.nn⟩
  · have := World.ownsRow.cells hs2 (g := g) rfl (k * 2) (.int .i64 p.1) (flatS_get x.sats k p hk).1
    simpa [Addr.add_lit] using this
  · rw [h.box]
    simp [insC]
  · simpa [e1] using hn1
theorem Fresh.hold_ (h : Fresh wr gx B A x N C D VK VT LK LT) (hk : x.sats[k]? = some p) (z : Int) : ∃ g, A.sa = some ⟨g, 0, none⟩ ∧ wr.cell? ⟨g, k * 2 + 1, none⟩ = some (.int .i64 p.2) ∧ wr.frozen? ⟨g, k * 2 + 1, none⟩ = false ∧ Fresh (wr.setCell ⟨g, k * 2 + 1, none⟩ (.int .i64 z)) gx B A { x with sats := x.sats.set k (p.1, z) } N C D VK VT LK LT := by
  have hkl := (List.getElem?_eq_some_iff.1 hk).1
  have hs := h.own.sats
  obtain ⟨g, cap, e, hB, _⟩ := owns_some hs (by omega)
  injection e with e1 _ e3
  have hs2 := hs
  rw [e1] at hs2
  obtain ⟨cur, hg⟩ := own_block hs2 (g := g) rfl
  have hn := World.ownsRow.stored hs2 (k * 2 + 1) (.int .i64 z)
  have hn1 := hn.1
  rw [flatS_set1 x.sats k p z hk] at hn1
  refine ⟨g, e1, ?_, World.ownsRow.frozenAt hs2 _, (heap_setCell_other _ _ _ _ (fun q => blk_types h.box hg (by decide) (show gx = g from q))).trans ?_, ⟨?_, own_keep h.own.cus hg (by decide) _ _, h.own.cost.keep hg (by decide) (by decide) (k * 2 + 1) (.int .i64 z), h.own.time.keep hg (by decide) (by decide) (k * 2 + 1) (.int .i64 z), h.own.ck, h.own.tk, h.own.nl, by simpa using h.own.ap, by simpa using h.own.sb, h.own.kb, h.own.bc, h.own.cd⟩, by simpa using h.ns, h.nc, h.nn⟩
  · have := World.ownsRow.cells hs2 (g := g) rfl (k * 2 + 1) (.int .i64 p.2) (flatS_get x.sats k p hk).2
    simpa [Addr.add_lit] using this
  · rw [h.box]
    simp [insC]
  · simpa [e1] using hn1
theorem Fresh.en_ (h : Fresh wr gx B A x N C D VK VT LK LT) (z : Int) : Fresh (wr.setCell ⟨gx, 0, none⟩ (.int .i64 z)) gx B A { x with en := z } N C D VK VT LK LT :=
  ⟨heap_setCell_same _ _ _ _ _ _ h.box, (h.own.keep h.box (by decide) (by decide) (by decide) (by decide) 0 (.int .i64 z)) |> fun q => ⟨q.sats, q.cus, q.cost, q.time, q.ck, q.tk, q.nl, q.ap, q.sb, q.kb, q.bc, q.cd⟩, h.ns, h.nc, h.nn⟩
theorem Fresh.br_ (h : Fresh wr gx B A x N C D VK VT LK LT) (z : Int) : Fresh (wr.setCell ⟨gx, 4, none⟩ (.int .i64 z)) gx B A { x with br := z } N C D VK VT LK LT :=
  ⟨heap_setCell_same _ _ _ _ _ _ h.box, (h.own.keep h.box (by decide) (by decide) (by decide) (by decide) 4 (.int .i64 z)) |> fun q => ⟨q.sats, q.cus, q.cost, q.time, q.ck, q.tk, q.nl, q.ap, q.sb, q.kb, q.bc, q.cd⟩, h.ns, h.nc, h.nn⟩
theorem Fresh.close_ {c : Pi} (h : Fresh wr gx B A x N C D VK VT LK LT) (hk : x.cus[k]? = some c) (z : Int) : ∃ g, A.ca = some ⟨g, 0, none⟩ ∧ wr.cell? ⟨g, k * 4 + 2, none⟩ = some (.int .i64 c.2.2.1) ∧ wr.frozen? ⟨g, k * 4 + 2, none⟩ = false ∧ Fresh (wr.setCell ⟨g, k * 4 + 2, none⟩ (.int .i64 z)) gx B A { x with cus := x.cus.set k (c.1, c.2.1, z, c.2.2.2) } N C D VK VT LK LT := by
  have hkl := (List.getElem?_eq_some_iff.1 hk).1
  have hs := h.own.cus
  obtain ⟨g, cap, e, hB, _⟩ := owns_some hs (by omega)
  injection e with e1 _ e3
  have hs2 := hs
  rw [e1] at hs2
  obtain ⟨cur, hg⟩ := own_block hs2 (g := g) rfl
  have hn := World.ownsRow.stored hs2 (k * 4 + 2) (.int .i64 z)
  have hn1 := hn.1
  rw [flatC_set2 x.cus k c z hk] at hn1
  refine ⟨g, e1, ?_, World.ownsRow.frozenAt hs2 _, (heap_setCell_other _ _ _ _ (fun q => blk_types h.box hg (by decide) (show gx = g from q))).trans ?_, ⟨own_keep h.own.sats hg (by decide) _ _, ?_, h.own.cost.keep hg (by decide) (by decide) (k * 4 + 2) (.int .i64 z), h.own.time.keep hg (by decide) (by decide) (k * 4 + 2) (.int .i64 z), h.own.ck, h.own.tk, h.own.nl, by simpa using h.own.ap, by simpa using h.own.sb, h.own.kb, h.own.bc, h.own.cd⟩, h.ns, by simpa using h.nc, h.nn⟩
  · have := World.ownsRow.cells hs2 (g := g) rfl (k * 4 + 2) (.int .i64 c.2.2.1) (flatC_get x.cus k c hk).2.2.1
    simpa [Addr.add_lit] using this
  · rw [h.box]
    simp [insC]
  · simpa [e1] using hn1
end Go.Proofs.Ytchdpapaojkbhaa
end
section
/- What the law's maker makes may be. -/
namespace Go.Proofs.Ytchdpapaojkbhaa

theorem may_make {s : Sm} (h : SmOk s) : May (makeI s) := May.of_err (makeI_ok h)
end Go.Proofs.Ytchdpapaojkbhaa
end
section
/- The laws' plain instance, and the fixed fact (chapter 11's example). -/
namespace Go.Proofs.Ytchdpapaojkbhaa
open Go.RowKit

theorem sm8_zero : sm8 0 := ⟨by decide, by decide⟩
/-- No numbers at all. -/
def smallZ : Sm := ⟨0, 0, 0, 0, 0, [], [], [], [], false, false⟩
def smallZA : SmA := ⟨none, 0, none, 0, none, 0, 0, none, 0, 0⟩
theorem smallZ_is (w : World) : IsSm w.heap.size w smallZA smallZ :=
  ⟨⟨rfl, fun x hx => (by simp [smallZ] at hx), .inl rfl⟩, ⟨rfl, fun x hx => (by simp [smallZ] at hx), .inl rfl⟩, ⟨rfl, fun x hx => (by simp [smallZ] at hx), .inl rfl⟩, ⟨rfl, fun x hx => (by simp [smallZ] at hx), .inl rfl⟩, ⟨sm8_zero, sm8_zero, sm8_zero, sm8_zero, sm8_zero⟩, by decide, by decide⟩
theorem smallZ_ok : SmOk smallZ := ⟨⟨sm8_zero, sm8_zero, sm8_zero, sm8_zero, sm8_zero⟩, fun x hx => (by simp [smallZ] at hx), fun x hx => (by simp [smallZ] at hx)⟩
set_option maxRecDepth 100000 in
/-- The plain instance. -/
theorem one_own (w : World) : Calls Try.prog 21 #[] w fun e w' => (∃ A2, e = .returned (.agg (insC A2 (makeI smallZ))) ∧ ∃ C D VK VT, OwnIns (w.heap.size + 1 + 3) w' A2 (makeI smallZ) (nodesOf smallZ) C D VK VT (sqE smallZ.cost (nodesOf smallZ)) (sqE smallZ.time (nodesOf smallZ))) ∧ Below w.heap.size w w' := by
  have HW := Lib.hid (heap_alloc_new w (.cells #[.int .i64 0, .int .i64 0, .int .i64 0, .int .i64 0, .int .i64 0, .slice none 0 0, .slice none 0 0, .slice none 0 0, .slice none 0 0] 34))
  have HB0 := Lib.hid (below1 w (.cells #[.int .i64 0, .int .i64 0, .int .i64 0, .int .i64 0, .int .i64 0, .slice none 0 0, .slice none 0 0, .slice none 0 0, .slice none 0 0] 34))
  have hs0 : (w.alloc (.cells #[.int .i64 0, .int .i64 0, .int .i64 0, .int .i64 0, .int .i64 0, .slice none 0 0, .slice none 0 0, .slice none 0 0, .slice none 0 0] 34)).heap.size = w.heap.size + 1 := by simp
  go_enter Try.func21, Try.ntmps21
  go_wp2_with fail
  refine (make_any smallZA smallZ _ (smallZ_is _)).mono ?_
  rintro e w2 ⟨⟨A2, rfl, C, D, VK, VT, hown⟩, hb⟩
  rw [hs0] at hown hb
  have HR := Lib.hid ((hb.block _ (Nat.lt_succ_self _)).trans HW.out)
  have HO := Lib.hid hown
  have HB2 := Lib.hid (HB0.out.trans (hb.mono (Nat.le_succ _)))
  clear hown hb hs0 HW HB0
  obtain ⟨x0, hx0⟩ : ∃ x0, makeI smallZ = x0 := ⟨_, rfl⟩
  rw [hx0] at HO ⊢
  have HX0 := Lib.hid hx0
  clear hx0
  obtain ⟨n0, n1, n2, n3, n4, n5, n6, n7, n8, nf⟩ := cells9 HR.out
  unfold insC
  go_wp2_with fail
  have hb9 := storeI_blk (y0 := .int .i64 x0.en) (y1 := .int .i64 x0.tm) (y2 := .int .i64 x0.tr) (y3 := .int .i64 x0.bm) (y4 := .int .i64 x0.br) (y5 := .slice A2.sa x0.sats.length A2.sc) (y6 := .slice A2.ca x0.cus.length A2.cc) (y7 := .slice A2.ka x0.cost.length A2.kc) (y8 := .slice A2.ta x0.time.length A2.tc) HR.out
  obtain ⟨z0, z1, z2, z3, z4, z5, z6, z7, z8, _⟩ := cells9 hb9
  unfold storeI at z0 z1 z2 z3 z4 z5 z6 z7 z8
  have ho9 := (storeI_own (r := w.heap.size) (y0 := .int .i64 x0.en) (y1 := .int .i64 x0.tm) (y2 := .int .i64 x0.tr) (y3 := .int .i64 x0.bm) (y4 := .int .i64 x0.br) (y5 := .slice A2.sa x0.sats.length A2.sc) (y6 := .slice A2.ca x0.cus.length A2.cc) (y7 := .slice A2.ka x0.cost.length A2.kc) (y8 := .slice A2.ta x0.time.length A2.tc) HO.out (by omega))
  refine bodyPost_ret (v := .agg (insC A2 x0)) ?_ rfl ⟨⟨A2, by rw [HX0.out], C, D, VK, VT, by rw [HX0.out]; exact ho9⟩, storeI_below HB2.out (Nat.le_refl _)⟩
  unfold insC
  clear ho9 n0 n1 n2 n3 n4 n5 n6 n7 n8 nf hb9
  simp only [results, Try.results21]
  simp [go_sem, z0, z1, z2, z3, z4, z5, z6, z7, z8]
theorem one_any (w : World) : Calls Try.prog 21 #[] w fun e w' => (∃ A2, e = .returned (.agg (insC A2 (makeI smallZ))) ∧ IsIns w'.heap.size w' A2 (makeI smallZ)) ∧ Below w.heap.size w w' :=
  (one_own w).mono fun _ _ ⟨⟨A2, h1, _, _, _, _, h2⟩, h3⟩ => ⟨⟨A2, h1, h2.is_⟩, h3⟩
/-- Two satellites, nothing else. -/
def twoS : Ins := ⟨0, 0, 0, 0, 0, [(0, 0), (0, 0)], [], [], []⟩
def twoA (g : Nat) : InA := ⟨some ⟨g, 0, none⟩, 2, none, 0, none, 0, none, 0⟩
theorem twoS_err : instErr twoS = 9 := by decide
theorem twoS_light : twoS.light = true := by decide
theorem twoS_is (w : World) : IsIns (w.alloc (.cells #[.int .i64 0, .int .i64 0, .int .i64 0, .int .i64 0] 61)).heap.size (w.alloc (.cells #[.int .i64 0, .int .i64 0, .int .i64 0, .int .i64 0] 61)) (twoA w.heap.size) twoS := by
  refine ⟨⟨rfl, .inr ⟨w.heap.size, 0, rfl, by simp, fun k x hk => ?_⟩⟩, ⟨rfl, .inl rfl⟩, ⟨rfl, .inl rfl⟩, ⟨rfl, .inl rfl⟩⟩
  match k, hk with
  | 0, hk => simp [twoS] at hk; subst hk; simp
  | 1, hk => simp [twoS] at hk; subst hk; simp
set_option maxRecDepth 100000 in
theorem make_two (w : World) : (Instr.makeSlice 30 (.int .i64 2) (.int .i64 2)).run Try.prog w = .ok (.slice (some ⟨w.heap.size, 0, none⟩) 2 2) (w.alloc (.cells #[.int .i64 0, .int .i64 0, .int .i64 0, .int .i64 0] 61)) := by
  obtain ⟨i, hi, hz, hs, hb⟩ := info_parts infoSatM
  have h := run_make w 30 61 i _ Try.underlying30 hi hz .i64 .i64 2 2 (by omega) (by omega) (by rw [hb]; decide) (by decide)
  rw [hs, show madeCells (Value.agg #[Value.int .i64 0, Value.int .i64 0]).cells (Int.toNat 2 * 2) = #[Value.int .i64 0, .int .i64 0, .int .i64 0, .int .i64 0] from by kernel_rfl] at h
  exact h
set_option maxRecDepth 100000 in
theorem inst_awake (w : World) : Calls Try.prog 22 #[] w fun e w' => e = .returned (.bool true) ∧ Below w.heap.size w w' := by
  have hmk := make_two
  have HB0 := Lib.hid (below1 w (.cells #[.int .i64 0, .int .i64 0, .int .i64 0, .int .i64 0] 61))
  have HX1 := Lib.hid (XBox.make HB0.out (twoA w.heap.size) twoS)
  have HI1 := Lib.hid (IsIns.mono ((twoS_is w).later (below1 (w.alloc (.cells #[.int .i64 0, .int .i64 0, .int .i64 0, .int .i64 0] 61)) (.cells (insC (twoA w.heap.size) twoS) 34))) (Nat.le_of_lt HX1.out.lt))
  go_enter Try.func22, Try.ntmps22
  go_wp2_with fail
  go_at_call 38
  refine (customer_any (twoA w.heap.size) twoS 1 _ (by decide)).mono ?_
  rw [show wrap64 (1 + (twoS.sats.length : Int) + 1) = 4 from by first | kernel_rfl | (simp [twoS, wrap64])]
  rintro e w2 ⟨rfl, hb2⟩
  have HX2 := Lib.hid (HX1.out.later hb2)
  have HI2 := Lib.hid ((HI1.out.later hb2).mono hb2.size)
  have HZ := Lib.hid (show (w.alloc (.cells #[.int .i64 0, .int .i64 0, .int .i64 0, .int .i64 0] 61)).heap.size = w.heap.size + 1 from by simp)
  clear hb2
  have hz := HZ.out
  rw [hz] at HX2
  clear hz
  obtain ⟨k0, k1, k2, k3, k4, k5, k6, k7, k8⟩ := HX2.out.cells
  clear HX1 HI1 HB0 hmk
  go_wp2_with fail
  go_at_call 19
  refine (check_any (twoA w.heap.size) twoS _ HI2.out twoS_light).mono ?_
  rw [twoS_err]
  rintro e w3 ⟨rfl, hb3⟩
  have HB3 := Lib.hid (HX2.out.later hb3).below
  clear hb3 k0 k1 k2 k3 k4 k5 k6 k7 k8
  go_wp2_with fail
  go_at_call 21
  refine (one_any _).mono ?_
  rintro e w4 ⟨⟨A2, rfl, hi4⟩, hb4⟩
  have HI4 := Lib.hid hi4
  have HB4 := Lib.hid (HB3.out.trans (hb4.mono HB3.out.size))
  clear hi4 hb4
  go_wp2_with fail
  go_at_call 19
  refine (check_any A2 (makeI smallZ) _ HI4.out (makeI_light _)).mono ?_
  rw [makeI_ok smallZ_ok]
  rintro e w5 ⟨rfl, hb5⟩
  have HB5 := Lib.hid (HB4.out.trans (hb5.mono HB4.out.size))
  clear hb5
  go_wp2_with fail
  go_ret
  exact ⟨rfl, HB5.out⟩
end Go.Proofs.Ytchdpapaojkbhaa
end

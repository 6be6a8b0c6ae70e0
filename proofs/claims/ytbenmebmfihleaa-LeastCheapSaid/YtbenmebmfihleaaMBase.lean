/- Joined: Mod, PAppend, Own, LongRow, LongsEq. -/
import Derived.WalkKit
import Derived.Deep.QuietTactic
import Derived.Below
import Derived.Laws.AppendOwn
import Derived.Laws.NewBlocks
import Derived.OneCell
import Derived.Deep.RegionLaw
import Derived.Test.YtbenmebmfihleaaRows
import Derived.OwnWalk
import Derived.Deep.OwnRows
import Derived.Laws.OwnMore
import Derived.Lib.Hide
import Derived.Deep.AppendLies
import Derived.Lib.LazyBuf
section
/- Worlds in which some blocks alone have been written. -/
namespace Go.Proofs.Ytbenmebmfihleaa
open Go.RowKit

/-- w' is w with new blocks, and writes to blocks of S alone. -/
structure Mod (S : Nat → Prop) (w w' : World) : Prop where
  os : w'.os = w.os
  tape : w'.tape = w.tape
  output : w'.output = w.output
  size : w.heap.size ≤ w'.heap.size
  block : ∀ k, k < w.heap.size → ¬ S k → w'.heap[k]? = w.heap[k]?
theorem Mod.refl (S : Nat → Prop) (w : World) : Mod S w w := ⟨rfl, rfl, rfl, Nat.le_refl _, fun _ _ _ => rfl⟩
theorem Mod.trans {S : Nat → Prop} {a b c : World} (h : Mod S a b) (k : Mod S b c) : Mod S a c :=
  ⟨k.os.trans h.os, k.tape.trans h.tape, k.output.trans h.output, Nat.le_trans h.size k.size, fun i hi hs => (k.block i (Nat.lt_of_lt_of_le hi h.size) hs).trans (h.block i hi hs)⟩
/-- What was written behind may be blocks that are new. -/
theorem Mod.then_ {S T : Nat → Prop} {a b c : World} (h : Mod S a b) (k : Mod T b c) (hT : ∀ i, i < a.heap.size → T i → S i) : Mod S a c :=
  ⟨k.os.trans h.os, k.tape.trans h.tape, k.output.trans h.output, Nat.le_trans h.size k.size, fun i hi hs => (k.block i (Nat.lt_of_lt_of_le hi h.size) (fun ht => hs (hT i hi ht))).trans (h.block i hi hs)⟩
theorem Mod.mono {S T : Nat → Prop} {w w' : World} (h : Mod S w w') (hT : ∀ i, i < w.heap.size → S i → T i) : Mod T w w' :=
  ⟨h.os, h.tape, h.output, h.size, fun i hi hs => h.block i hi (fun ht => hs (hT i hi ht))⟩
theorem Mod.drew {S : Nat → Prop} {a w : World} (h : Mod S a w) : Mod S a w.drew := ⟨h.os, h.tape, h.output, h.size, h.block⟩
theorem Mod.drewN {S : Nat → Prop} {a w : World} (h : Mod S a w) (n : Nat) : Mod S a (w.drewN n) := ⟨h.os, h.tape, h.output, h.size, h.block⟩
theorem Mod.alloc {S : Nat → Prop} {a w : World} (h : Mod S a w) (o : Obj) : Mod S a (w.alloc o) :=
  h.trans ⟨rfl, rfl, rfl, by simp, fun k hk _ => RowKit.Below.heap_alloc _ _ _ hk⟩
theorem Mod.setCell {S : Nat → Prop} {a w : World} (h : Mod S a w) {p : Addr} (hp : a.heap.size ≤ p.block ∨ S p.block) (u : Value) : Mod S a (w.setCell p u) := by
  refine ⟨h.os, h.tape, h.output, by simpa [World.setCell] using h.size, fun k hk hs => ?_⟩
  rw [RowKit.Below.heap_setCell _ _ _ _ (fun e => by subst e; rcases hp with hp | hp <;> first | omega | exact hs hp)]
  exact h.block k hk hs
theorem Mod.grown {S : Nat → Prop} {a w w' : World} {row : Option Nat} (h : Mod S a w) (hg : w.grownBy w' row) (hr : ∀ k, row = some k → a.heap.size ≤ k ∨ S k) : Mod S a w' :=
  ⟨hg.os.trans h.os, hg.tape.trans h.tape, hg.output.trans h.output, Nat.le_trans h.size hg.size, fun k hk hs =>
    (hg.block k (Nat.lt_of_lt_of_le hk h.size) (fun e => by rcases hr k e.symm with q | q <;> first | omega | exact hs q)).trans (h.block k hk hs)⟩
theorem Mod.of_below {w w' : World} (S : Nat → Prop) (h : Below w.heap.size w w') : Mod S w w' := ⟨h.os, h.tape, h.output, h.size, fun k hk _ => h.block k hk⟩
theorem Mod.below {S : Nat → Prop} {B : Nat} {w w' : World} (h : Mod S w w') (hB : B ≤ w.heap.size) (hS : ∀ k, S k → B ≤ k) : Below B w w' :=
  ⟨h.os, h.tape, h.output, h.size, fun k hk => h.block k (by omega) (fun hs => by have := hS k hs; omega)⟩
theorem Mod.cell {S : Nat → Prop} {w w' : World} (h : Mod S w w') {p : Addr} (hp : p.block < w.heap.size) (hs : ¬ S p.block) : w'.cell? p = w.cell? p := World.cell?_of_block (h.block p.block hp hs)
theorem Mod.frozen {S : Nat → Prop} {w w' : World} (h : Mod S w w') {p : Addr} (hp : p.block < w.heap.size) (hs : ¬ S p.block) : w'.frozen? p = w.frozen? p := World.frozen?_of_block (h.block p.block hp hs)
theorem below_drewN {B : Nat} {a w : World} (h : Below B a w) (n : Nat) : Below B a (w.drewN n) := ⟨h.os, h.tape, h.output, h.size, h.block⟩
end Go.Proofs.Ytbenmebmfihleaa
end
section
/- One more thing at a row's end: where it lies then. -/
namespace Go.Proofs.Ytbenmebmfihleaa
open Go.RowKit

/-- As the library's law on append at a row of one's own, and: the row's block is the old one, or a new one. -/
theorem run_append_fresh {P : Program} (w : World) (base : Nat) (t ty e : TypeId) (i : TypeInfo) (z : Value) (size bytes : Nat) (ht : P.underlying t = some (.slice e)) (hi : P.info? e = some i) (hz : i.zero = some z)
    (hsize : i.size = size) (hby : i.bytes = bytes) (hzs : z.cells.size = size) (v : Value) (n : Nat) (xs : List Value) (hown : w.ownsRow base e size v n xs)
    (a : Addr) (c : Nat) (news : List Value) (hl : news.length = size) (hnews : ∀ j u, news[j]? = some u → w.cell? (a.add j) = some u) (h1 : ∀ u ∈ news, u.oneCell' = true)
    (h63 : n + 1 ≤ maxLen) (hbytes : (n + 1) * bytes ≤ 140737488355328) (hbase : base ≤ w.heap.size) :
    ∃ g cap w', (Builtin.append_ #[t, t] ty #[v, .slice (some a) 1 c]).run P w = .ok (.slice (some ⟨g, 0, none⟩) (n + 1) cap) w' ∧ w'.ownsRow base e size (.slice (some ⟨g, 0, none⟩) (n + 1) cap) (n + 1) (xs ++ news) ∧ w.grownBy w' v.ownBlock ∧
      (v.ownBlock = some g ∨ g = w.heap.size) := by
  subst hsize
  subst hby
  have hsmall : n + 1 ≤ 9223372036854775807 := by simp only [maxLen] at h63; omega
  have hl1 : news.length = 1 * i.size := by omega
  have hlen : (xs ++ news).length = (n + 1) * i.size := by rw [List.length_append, hown.1, hl1, Nat.add_mul]
  have grown : ∀ (old : Nat), old < n + 1 → ∀ (row : Option Nat),
      (w.drew.alloc (.cells (xs.toArray ++ news.toArray ++ Builtin.zeroCells z.cells (grownCap w (n + 1) old e - (n + 1))) e)).ownsRow base e i.size
        (.slice (some ⟨w.heap.size, 0, none⟩) (n + 1) (grownCap w (n + 1) old e)) (n + 1) (xs ++ news) ∧
      w.grownBy (w.drew.alloc (.cells (xs.toArray ++ news.toArray ++ Builtin.zeroCells z.cells (grownCap w (n + 1) old e - (n + 1))) e)) row := by
    intro old ho row
    have hge := grownCap_ge w (n + 1) old e
    have hcm : grownCap w (n + 1) old e ≤ maxLen := grownCap_le_maxLen w (n + 1) old e h63
    refine ⟨⟨hlen, .inr ⟨w.heap.size, _, _, rfl, hbase, _root_.Go.heap_alloc_new w.drew _, hge, hcm, ?_, ?_⟩⟩, ⟨rfl, rfl, rfl, by simp, fun k hk _ => Below.heap_alloc w.drew _ k hk⟩⟩
    · simp only [Array.size_append, List.size_toArray, size_zeroCells, hzs, hown.1, hl1, ← Nat.add_mul]
      congr 1
      omega
    · simp only [Array.toList_append, List.append_assoc]
      rw [← List.append_assoc, ← hlen]
      exact List.take_left
  rcases hown.2 with ⟨rfl, rfl⟩ | ⟨g, cap, cur, rfl, hbg, hg, hnc, hcm, hcs, htake⟩
  · have hx : xs = [] := List.eq_nil_of_length_eq_zero (by simpa using hown.1)
    subst hx
    have hr := run_append_nil (P := P) w t ty e i z ht hi hz a 1 c news hl1 hnews (by omega) (by omega) (by have hb := hbytes; simp only [Nat.zero_add] at hb; omega)
    have hgr := grown 0 (by omega) (Value.ownBlock (.slice none 0 0))
    simp only [Nat.zero_add, List.nil_append, Array.empty_append] at hgr ⊢
    exact ⟨_, _, _, hr, hgr.1, hgr.2, .inr rfl⟩
  · by_cases hroom : n + 1 ≤ cap
    · have hfit : n * i.size + news.length ≤ cur.size := by rw [hl1, hcs, ← Nat.add_mul]; exact Nat.mul_le_mul_right _ hroom
      have hr := run_append_room (P := P) w t ty e i ht hi g n cap cur hg a 1 c news hl1 hnews h1 hroom hfit
      refine ⟨g, _, _, hr, ⟨hlen, .inr ⟨g, cap, _, rfl, hbg, setRow_heap w g cur _ e _ hg, hroom, hcm, ?_, ?_⟩⟩, ⟨rfl, rfl, rfl, by simp, fun k hk _ => setRow_other w g k _ (fun e => by subst e; simp [Value.ownBlock] at *)⟩, .inl rfl⟩
      · simp only [List.size_toArray, List.length_append, List.length_take, List.length_drop, Array.length_toList]
        omega
      · rw [htake, ← hlen]
        exact List.take_left
    · have holds : ∀ j u, xs[j]? = some u → w.cell? ((⟨g, 0, none⟩ : Addr).add j) = some u := hown.cells (g := g) rfl
      have hr := run_append_grow (P := P) w t ty e i z ht hi hz ⟨g, 0, none⟩ n cap xs hown.1 holds a 1 c news hl1 hnews (by omega) (by omega) (growslice_fits (by omega) hbytes)
      have hgr := grown cap (by omega) (Value.ownBlock (.slice (some ⟨g, 0, none⟩) n cap))
      exact ⟨_, _, _, hr, hgr.1, hgr.2, .inr rfl⟩

/-- .. as one step of a region that draws its order. -/
theorem step_append_fresh {P : Program} {ops : Array Oper} {o : Oper} {a : Act} {w : World} {K : Act → World → Prop} {Q : Exit → Act → World → Prop} {E : Prop}
    (hg : o.guard = none) (s x : Operand) (t : TypeId) (hop : o.op = Op.call { callee := Callee.builtin Builtin.append, args := #[s, x], argTypes := #[t, t] })
    (base : Nat) (e : TypeId) (i : TypeInfo) (z : Value) (size bytes : Nat) (ht : P.underlying t = some (.slice e)) (hi : P.info? e = some i) (hz : i.zero = some z)
    (hsize : i.size = size) (hby : i.bytes = bytes) (hzs : z.cells.size = size) (v : Value) (n : Nat) (xs : List Value) (hs : a.eval s = v) (hown : w.ownsRow base e size v n xs)
    (ad : Addr) (c : Nat) (news : List Value) (hx : a.eval x = .slice (some ad) 1 c) (hl : news.length = size) (hnews : ∀ j u, news[j]? = some u → w.cell? (ad.add j) = some u) (h1 : ∀ u ∈ news, u.oneCell' = true)
    (h63 : n + 1 ≤ maxLen) (hbytes : (n + 1) * bytes ≤ 140737488355328) (hbase : base ≤ w.heap.size)
    (hK : ∀ g cap w', w'.ownsRow base e size (.slice (some ⟨g, 0, none⟩) (n + 1) cap) (n + 1) (xs ++ news) → w.grownBy w' v.ownBlock → (v.ownBlock = some g ∨ g = w.heap.size) → K (a.put o.dst (.slice (some ⟨g, 0, none⟩) (n + 1) cap)) w') :
    if Region.wanted o (yielded ops a.tmps) = true then Oper.wp P o a w K Q else E := by
  have hw : Region.wanted o (yielded ops a.tmps) = true := by simp [Region.wanted, hg]
  rw [if_pos hw]
  obtain ⟨g, cap, w', hrun, h2, h3, h4⟩ := run_append_fresh (P := P) w base t o.type e i z size bytes ht hi hz hsize hby hzs v n xs hown ad c news hl hnews h1 h63 hbytes hbase
  unfold Oper.wp
  simp [execOp, hop, resolve, invoke, builtin, hs, hx, hrun, Result.andThen]
  exact hK g cap w' h2 h3 h4
theorem wpList_append_fresh {P : Program} {ops : Array Oper} {rest : List Oper} {o : Oper} {a : Act} {w : World} {Q : Exit → Act → World → Prop} (hgd : o.guard = none) (s x : Operand) (t : TypeId)
    (ho : o.op = .call { callee := .builtin .append, args := #[s, x], argTypes := #[t, t] })
    (base : Nat) (e : TypeId) (i : TypeInfo) (z : Value) (size bytes : Nat) (ht : P.underlying t = some (.slice e)) (hi : P.info? e = some i) (hz : i.zero = some z)
    (hsize : i.size = size) (hby : i.bytes = bytes) (hzs : z.cells.size = size) (v : Value) (n : Nat) (xs : List Value) (hs : a.eval s = v) (hown : w.ownsRow base e size v n xs)
    (ad : Addr) (c : Nat) (news : List Value) (hx : a.eval x = .slice (some ad) 1 c) (hl : news.length = size) (hnews : ∀ j u, news[j]? = some u → w.cell? (ad.add j) = some u) (h1 : ∀ u ∈ news, u.oneCell' = true)
    (h63 : n + 1 ≤ maxLen) (hbytes : (n + 1) * bytes ≤ 140737488355328) (hbase : base ≤ w.heap.size)
    (h : ∀ g cap w', w'.ownsRow base e size (.slice (some ⟨g, 0, none⟩) (n + 1) cap) (n + 1) (xs ++ news) → w.grownBy w' v.ownBlock → (v.ownBlock = some g ∨ g = w.heap.size) → wpList P ops Q rest (a.put o.dst (.slice (some ⟨g, 0, none⟩) (n + 1) cap)) w') : wpList P ops Q (o :: rest) a w := by
  refine wpList_plain hgd fun _ hK => ?_
  obtain ⟨g, cap, w', hr, h2, h3, h4⟩ := run_append_fresh (P := P) w base t o.type e i z size bytes ht hi hz hsize hby hzs v n xs hown ad c news hl hnews h1 h63 hbytes hbase
  unfold Oper.wp execOp
  simp only [ho, resolve, invoke, builtin, Sem.run_bind, Sem.run_pure, Result.andThen_ok, List.map_toArray, List.map_cons, List.map_nil, hs, hx, hr]
  exact hK _ _ (h g cap w' h2 h3 h4)
end Go.Proofs.Ytbenmebmfihleaa
end
section
/- Rows of the call's own, of whatever elements: what they keep. -/
namespace Go.Proofs.Ytbenmebmfihleaa
open Go.RowKit

variable {w w2 wr : World} {base sz n : Nat} {T : TypeId} {v : Value} {xs : List Value}
theorem owns_kept {S : Nat → Prop} (h : w.ownsRow base T sz v n xs) (hm : Mod S w w2) (hs : ∀ k, v.ownBlock = some k → ¬ S k) : w2.ownsRow base T sz v n xs := by
  refine ⟨h.1, ?_⟩
  rcases h.2 with h2 | ⟨g, cap, cur, rfl, hb, hg, r⟩
  · exact .inl h2
  · refine .inr ⟨g, cap, cur, rfl, hb, ?_, r⟩
    rw [hm.block g (Array.getElem?_eq_some_iff.1 hg).1 (hs g rfl)]
    exact hg
theorem owns_below (h : w.ownsRow base T sz v n xs) (hb : Below w.heap.size w w2) : w2.ownsRow base T sz v n xs := owns_kept h (Mod.of_below (fun _ => False) hb) (fun _ _ h => h)
theorem owns_shape (h : w.ownsRow base T sz v n xs) : ∃ a cap, v = .slice a n cap := by
  rcases h.2 with ⟨rfl, h2⟩ | ⟨g, cap, cur, rfl, _⟩
  · exact ⟨none, 0, by rw [h2]⟩
  · exact ⟨_, cap, rfl⟩
theorem owns_rebase {base' : Nat} (h : w.ownsRow base T sz v n xs) (hb : base' ≤ base) : w.ownsRow base' T sz v n xs := by
  refine ⟨h.1, ?_⟩
  rcases h.2 with h2 | ⟨g, cap, cur, rfl, hb', r⟩
  · exact .inl h2
  · exact .inr ⟨g, cap, cur, rfl, by omega, r⟩
/-- A row that isn't empty: where it lies. -/
theorem owns_some (h : w.ownsRow base T sz v n xs) (h0 : 0 < n) : ∃ g cap, v = .slice (some ⟨g, 0, none⟩) n cap ∧ base ≤ g ∧ g < w.heap.size ∧ n ≤ cap ∧ cap ≤ maxLen := by
  rcases h.2 with ⟨_, h2⟩ | ⟨g, cap, cur, hv, hb, hg, hc, hm, _⟩
  · omega
  · exact ⟨g, cap, hv, hb, (Array.getElem?_eq_some_iff.1 hg).1, hc, hm⟩

/-- Numbers, as cells. -/
def numsV (t : List Int) : List Value := t.map (Value.int .i64)
theorem numsV_snoc (t : List Int) (x : Int) : numsV (t ++ [x]) = numsV t ++ [.int .i64 x] := by simp [numsV]
theorem nums_cell {t : List Int} {g m cap : Nat} (h : w.ownsRow base T 1 (.slice (some ⟨g, 0, none⟩) m cap) n (numsV t)) {k : Nat} {x : Int} (hx : t[k]? = some x) : w.cell? ⟨g, k, none⟩ = some (.int .i64 x) := by
  have := World.ownsRow.cells h (g := g) rfl k (.int .i64 x) (by simp [numsV, hx])
  simpa [Addr.add_lit] using this
theorem news_at (w : World) (x : Value) (T : TypeId) (z : Nat) (hz : w.heap.size = z) : ∀ (j : Nat) (u : Value), [x][j]? = some u → (w.alloc (.cells #[x] T)).cell? ((⟨z, 0, none⟩ : Addr).add j) = some u := by
  subst hz
  intro j u hj
  match j, hj with
  | 0, hj =>
    simp at hj
    subst hj
    rw [Addr.add_lit]
    simp
theorem one_int (x : Int) : ∀ u ∈ [Value.int .i64 x], u.oneCell' = true := by
  intro u hu
  simp at hu
  subst hu
  rfl
theorem rowIs_below {b N : Nat} {f : Nat → Value} (h : w.rowIs b T N f) (hb : Below w.heap.size w w2) : w2.rowIs b T N f := h.of_block (hb.block b h.lt)
end Go.Proofs.Ytbenmebmfihleaa
end
section
/- Rows of numbers (int64) of the call's own, by the index. -/
namespace Go.Proofs.Ytbenmebmfihleaa
open Go.RowKit

def rowF (N : Nat) (f : Nat → Int) : List Value := (List.range N).map (fun i => .int .i64 (f i))
variable {w w2 wr w4 : World} {base N g cap i k : Nat} {f f2 : Nat → Int} {v : Value} {u : Int}
theorem rowF_length (N : Nat) (f : Nat → Int) : (rowF N f).length = N := by simp [rowF]
theorem rowF_get (f : Nat → Int) (h : i < N) : (rowF N f)[i]? = some (.int .i64 (f i)) := by simp [rowF, h]
theorem rowF_congr (h : ∀ i, i < N → f i = f2 i) : rowF N f = rowF N f2 := by
  unfold rowF
  apply List.map_congr_left
  intro i hi
  rw [h i (List.mem_range.1 hi)]
theorem rowF_set (h : k < N) : (rowF N f).set k (.int .i64 u) = rowF N (fun t => if t = k then u else f t) := by
  apply List.ext_getElem?
  intro j
  rw [List.getElem?_set]
  by_cases hj : j < N
  · rw [rowF_get _ hj]
    by_cases e : k = j
    · subst e
      rw [if_pos rfl, if_pos (by rw [rowF_length]; exact h), rowF_get _ h]
      simp
    · simp only [e, if_false]
      rw [rowF_get _ hj, if_neg (fun h => e h.symm)]
  · rw [List.getElem?_eq_none (by rw [rowF_length]; omega), if_neg (by omega), List.getElem?_eq_none (by rw [rowF_length]; omega)]
/-- The slice v is a row of the call's own, from block base on, of these N numbers. -/
def LongRow (w : World) (base : Nat) (v : Value) (N : Nat) (f : Nat → Int) : Prop := w.ownsRow base 2 1 v N (rowF N f)
theorem LongRow.cell (h : LongRow w base (.slice (some ⟨g, 0, none⟩) N cap) N f) (hi : i < N) : w.cell? ⟨g, i, none⟩ = some (.int .i64 (f i)) := by
  rw [World.ownsRow.cellAt h i (by omega)]
  exact rowF_get _ hi
theorem LongRow.frozen (h : LongRow w base (.slice (some ⟨g, 0, none⟩) N cap) N f) (i : Nat) : w.frozen? ⟨g, i, none⟩ = false := World.ownsRow.frozenAt h i
theorem LongRow.set_ (h : LongRow w base (.slice (some ⟨g, 0, none⟩) N cap) N f) (hk : k < N) (u : Int) : LongRow (w.setCell ⟨g, k, none⟩ (.int .i64 u)) base (.slice (some ⟨g, 0, none⟩) N cap) N (fun t => if t = k then u else f t) := by
  have := (World.ownsRow.stored h k (.int .i64 u)).1
  rw [rowF_set hk] at this
  exact this
theorem LongRow.congr (h : LongRow w base v N f) (e : ∀ i, i < N → f i = f2 i) : LongRow w base v N f2 := by
  unfold LongRow
  rw [← rowF_congr e]
  exact h
theorem LongRow.below (h : LongRow w base v N f) (hb : Below w.heap.size w w2) : LongRow w2 base v N f := owns_below h hb
theorem LongRow.kept {S : Nat → Prop} (h : LongRow w base v N f) (hm : Mod S w w2) (hs : ∀ k, v.ownBlock = some k → ¬ S k) : LongRow w2 base v N f := owns_kept h hm hs
theorem LongRow.rebase {base' : Nat} (h : LongRow w base v N f) (hb : base' ≤ base) : LongRow w base' v N f := owns_rebase h hb
theorem LongRow.some_ (h : LongRow w base v N f) (h0 : 0 < N) : ∃ g cap, v = .slice (some ⟨g, 0, none⟩) N cap ∧ base ≤ g ∧ g < w.heap.size ∧ N ≤ cap ∧ cap ≤ maxLen := owns_some h h0
theorem LongRow.cap_ {a : Option Addr} (h : LongRow w base (.slice a N cap) N f) (h0 : 0 < N) : N ≤ cap ∧ cap ≤ maxLen := by
  obtain ⟨_, _, e, _, _, h1, h2⟩ := h.some_ h0
  simp only [Value.slice.injEq] at e
  obtain ⟨_, _, rfl⟩ := e
  exact ⟨h1, h2⟩
theorem LongRow.base_ (h : LongRow w base (.slice (some ⟨g, 0, none⟩) N cap) N f) : base ≤ g ∧ g < w.heap.size := World.ownsRow.lt h g rfl
theorem infoLong : (Try.prog.info? 2).map (fun i => (i.zero, i.size, i.bytes)) = some (some (.int .i64 0), 1, 8) := by kernel_rfl
theorem oneF (N : Nat) (f : Nat → Int) : ∀ u ∈ rowF N f, u.oneCell' = true := by
  intro u hu
  simp only [rowF, List.mem_map] at hu
  obtain ⟨i, _, rfl⟩ := hu
  rfl
end Go.Proofs.Ytbenmebmfihleaa
end
section
/- slices.Equal of two rows of numbers (int64) of the call's own: whether they are the same. -/
namespace Go.Proofs.Ytbenmebmfihleaa
open Go.RowKit

variable {w : World} {B C g1 g2 N c1 c2 : Nat} {f1 f2 : Nat → Int}
/-- Are the first N the same? -/
def sameN (f1 f2 : Nat → Int) : Nat → Bool
  | 0 => true
  | n + 1 => sameN f1 f2 n && decide (f1 n = f2 n)
theorem sameN_true : ∀ {n : Nat}, sameN f1 f2 n = true ↔ ∀ i, i < n → f1 i = f2 i
  | 0 => by simp [sameN]
  | n + 1 => by
    rw [sameN, Bool.and_eq_true, decide_eq_true_eq, sameN_true]
    constructor
    · intro h i hi
      by_cases e : i = n
      · subst e; exact h.2
      · exact h.1 i (by omega)
    · intro h
      exact ⟨fun i hi => h i (by omega), h n (by omega)⟩
theorem sameN_not {k n : Nat} (h : ¬ f1 k = f2 k) (hk : k < n) : sameN f1 f2 n = false := by
  cases e : sameN f1 f2 n with
  | false => rfl
  | true => exact absurd (sameN_true.1 e k hk) h
theorem ret_boolE {p q : Bool} (h : p = q) : Ending.returned (.bool p) = .returned (.bool q) := by rw [h]

set_option maxHeartbeats 1000000 in
theorem eqRows (h1 : LongRow w B (.slice (some ⟨g1, 0, none⟩) N c1) N f1) (h2 : LongRow w C (.slice (some ⟨g2, 0, none⟩) N c2) N f2) (hN : N ≤ 1000000) :
    Calls Try.prog 18 #[.slice (some ⟨g1, 0, none⟩) N c1, .slice (some ⟨g2, 0, none⟩) N c2] w fun e w' => e = .returned (.bool (sameN f1 f2 N)) ∧ Below w.heap.size w w' := by
  have H1 := Lib.hid h1
  have H2 := Lib.hid h2
  by_cases h0 : 0 < N
  · obtain ⟨hc1, hm1⟩ := h1.cap_ h0
    obtain ⟨hc2, hm2⟩ := h2.cap_ h0
    unfold maxLen at hm1 hm2
    clear h1 h2
    have HS0 : Hid (sameN f1 f2 0 = true) := Lib.hid rfl
    go_enter Try.func18, Try.ntmps18
    go_wp2_with fail
    go_loopw [13] (fun i wr => ∃ k m : Nat, i = .int .i64 k ∧ k ≤ N ∧ wr = w.drewN m ∧ Hid (sameN f1 f2 k = true)) (fun i _ => N - (intOf i).toNat)
    case atStart => exact ⟨0, 0, rfl, Nat.zero_le _, rfl, HS0⟩
    case round =>
      obtain ⟨k, m, rfl, hk, rfl, HS⟩ := hrel
      clear HS0
      by_cases hlt : k < N
      · have q1 := H1.out.cell hlt
        have q2 := H2.out.cell hlt
        by_cases he : f1 k = f2 k
        · have HT : Hid (sameN f1 f2 (k + 1) = true) := Lib.hid (by rw [sameN, HS.out, decide_eq_true he]; rfl)
          rw [← he] at q2
          clear he
          generalize f1 k = a at q1 q2
          go_wp2_with fail
          go_quiet (fail)
          go_wp2_with fail
          go_roundw
          case rel => exact ⟨k + 1, _, by go_num, by omega, rfl, HT⟩
          case measure => simp [intOf]; omega
        · have HT := Lib.hid (sameN_not he hlt)
          generalize f1 k = a at q1 he
          generalize f2 k = b at q2 he
          have he2 : (a != b) = true := by simpa using he
          clear he
          go_wp2_with fail
          go_quiet (fail)
          go_wp2_with fail
          go_ret
          exact ⟨ret_boolE HT.out.symm, by first | exact below_drewN (Below.refl _ _) _ | exact below_drewN (below_drewN (Below.refl _ _) _) _⟩
      · obtain rfl : k = N := by omega
        go_wp2_with fail
        go_ret
        exact ⟨ret_boolE HS.out.symm, below_drewN (Below.refl _ _) _⟩
  · obtain rfl : N = 0 := by omega
    clear h1 h2
    go_enter Try.func18, Try.ntmps18
    go_wp2_with fail
    refine wp_loop_rounds 1 ?_
    rw [rounds_succ]
    go_wp2_with fail
    go_ret
    exact ⟨rfl, Below.refl _ _⟩
end Go.Proofs.Ytbenmebmfihleaa
end

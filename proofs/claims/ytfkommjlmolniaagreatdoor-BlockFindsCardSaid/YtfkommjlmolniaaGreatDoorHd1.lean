/- Joined: Mod, PAppend, Own, LongRow, PiRow, InstT. -/
import Derived.WalkKit
import Derived.Deep.QuietTactic
import Derived.Below
import Derived.Laws.AppendOwn
import Derived.Laws.NewBlocks
import Derived.OneCell
import Derived.Deep.RegionLaw
import Derived.Test.YtfkommjlmolniaaGreatDoorRows
import Derived.OwnWalk
import Derived.Deep.OwnRows
import Derived.Laws.OwnMore
import Derived.Lib.Hide
import Derived.Deep.AppendLies
import Derived.Lib.LazyBuf
import Derived.Laws.Rows
import Derived.Deep.Slices
import Derived.Deep.Draws
import Derived.Deep.RegionWith
set_option linter.unusedVariables false
section

namespace Go.Proofs.YtfkommjlmolniaaGreatDoor
theorem layT {α : Type _} : (∀ (l : List α) (i : Nat) (a : α), l.toArray.setIfInBounds i a = (l.set i a).toArray) ∧ (∀ (x : α) (l : List α) (a : α), (x :: l).set 0 a = a :: l) ∧ (∀ (x : α) (l : List α) (n : Nat) (a : α), (x :: l).set (n + 1) a = x :: l.set n a) ∧ (∀ (l : List α) (i : Nat) (h : i < l.toArray.size), l.toArray[i] = l[i]'(by simpa using h)) ∧ (∀ (x : α) (l : List α) (h : 0 < (x :: l).length), (x :: l)[0] = x) ∧ (∀ (x : α) (l : List α) (i : Nat) (h : i + 1 < (x :: l).length), (x :: l)[i + 1] = l[i]'(by simpa using h)) := ⟨fun _ _ _ => List.setIfInBounds_toArray .., fun _ _ _ => rfl, fun _ _ _ _ => rfl, fun _ _ _ => rfl, fun _ _ _ => rfl, fun _ _ _ _ => rfl⟩
open Go.RowKit
structure Mod (S : Nat → Prop) (w w' : World) : Prop where
 os : w'.os = w.os
 tape : w'.tape = w.tape
 output : w'.output = w.output
 size : w.heap.size ≤ w'.heap.size
 block : ∀ k,k < w.heap.size → ¬ S k → w'.heap[k]? = w.heap[k]?
theorem Mod.refl (S : Nat → Prop) (w : World) : Mod S w w := ⟨rfl,rfl,rfl,Nat.le_refl _,fun _ _ _ => rfl⟩
theorem Mod.trans {S : Nat → Prop} {a b c : World} (h : Mod S a b) (k : Mod S b c) : Mod S a c :=
 ⟨k.os.trans h.os,k.tape.trans h.tape,k.output.trans h.output,Nat.le_trans h.size k.size,fun i hi hs => (k.block i (Nat.lt_of_lt_of_le hi h.size) hs).trans (h.block i hi hs)⟩
theorem Mod.then_ {S T : Nat → Prop} {a b c : World} (h : Mod S a b) (k : Mod T b c) (hT : ∀ i,i < a.heap.size → T i → S i) : Mod S a c :=
 ⟨k.os.trans h.os,k.tape.trans h.tape,k.output.trans h.output,Nat.le_trans h.size k.size,fun i hi hs => (k.block i (Nat.lt_of_lt_of_le hi h.size) (fun ht => hs (hT i hi ht))).trans (h.block i hi hs)⟩
theorem Mod.mono {S T : Nat → Prop} {w w' : World} (h : Mod S w w') (hT : ∀ i,i < w.heap.size → S i → T i) : Mod T w w' :=
 ⟨h.os,h.tape,h.output,h.size,fun i hi hs => h.block i hi (fun ht => hs (hT i hi ht))⟩
theorem Mod.drew {S : Nat → Prop} {a w : World} (h : Mod S a w) : Mod S a w.drew := ⟨h.os,h.tape,h.output,h.size,h.block⟩
theorem Mod.drewN {S : Nat → Prop} {a w : World} (h : Mod S a w) (n : Nat) : Mod S a (w.drewN n) := ⟨h.os,h.tape,h.output,h.size,h.block⟩
theorem Mod.alloc {S : Nat → Prop} {a w : World} (h : Mod S a w) (o : Obj) : Mod S a (w.alloc o) :=
 h.trans ⟨rfl,rfl,rfl,by simp,fun k hk _ => RowKit.Below.heap_alloc _ _ _ hk⟩
theorem Mod.setCell {S : Nat → Prop} {a w : World} (h : Mod S a w) {p : Addr} (hp : a.heap.size ≤ p.block ∨ S p.block) (u : Value) : Mod S a (w.setCell p u) := by
 refine ⟨h.os,h.tape,h.output,by simpa [World.setCell] using h.size,fun k hk hs => ?_⟩
 rw [RowKit.Below.heap_setCell _ _ _ _ (fun e => by subst e; rcases hp with hp | hp <;> first | omega | exact hs hp)]
 exact h.block k hk hs
theorem Mod.grown {S : Nat → Prop} {a w w' : World} {row : Option Nat} (h : Mod S a w) (hg : w.grownBy w' row) (hr : ∀ k,row = some k → a.heap.size ≤ k ∨ S k) : Mod S a w' :=
 ⟨hg.os.trans h.os,hg.tape.trans h.tape,hg.output.trans h.output,Nat.le_trans h.size hg.size,fun k hk hs =>
  (hg.block k (Nat.lt_of_lt_of_le hk h.size) (fun e => by rcases hr k e.symm with q | q <;> first | omega | exact hs q)).trans (h.block k hk hs)⟩
theorem Mod.of_below {w w' : World} (S : Nat → Prop) (h : Below w.heap.size w w') : Mod S w w' := ⟨h.os,h.tape,h.output,h.size,fun k hk _ => h.block k hk⟩
theorem Mod.below {S : Nat → Prop} {B : Nat} {w w' : World} (h : Mod S w w') (hB : B ≤ w.heap.size) (hS : ∀ k,S k → B ≤ k) : Below B w w' :=
 ⟨h.os,h.tape,h.output,h.size,fun k hk => h.block k (by omega) (fun hs => by have := hS k hs; omega)⟩
theorem Mod.cell {S : Nat → Prop} {w w' : World} (h : Mod S w w') {p : Addr} (hp : p.block < w.heap.size) (hs : ¬ S p.block) : w'.cell? p = w.cell? p := World.cell?_of_block (h.block p.block hp hs)
theorem Mod.frozen {S : Nat → Prop} {w w' : World} (h : Mod S w w') {p : Addr} (hp : p.block < w.heap.size) (hs : ¬ S p.block) : w'.frozen? p = w.frozen? p := World.frozen?_of_block (h.block p.block hp hs)
theorem Z03 {B : Nat} {a w : World} (h : Below B a w) (n : Nat) : Below B a (w.drewN n) := ⟨h.os,h.tape,h.output,h.size,h.block⟩
end Go.Proofs.YtfkommjlmolniaaGreatDoor
end
section

namespace Go.Proofs.YtfkommjlmolniaaGreatDoor
open Go.RowKit
theorem Z34 {P : Program} (w : World) (base : Nat) (t ty e : TypeId) (i : TypeInfo) (z : Value) (size bytes : Nat) (ht : P.underlying t = some (.slice e)) (hi : P.info? e = some i) (hz : i.zero = some z)
  (hsize : i.size = size) (hby : i.bytes = bytes) (hzs : z.cells.size = size) (v : Value) (n : Nat) (xs : List Value) (hown : w.ownsRow base e size v n xs)
  (a : Addr) (c : Nat) (news : List Value) (hl : news.length = size) (hnews : ∀ j u,news[j]? = some u → w.cell? (a.add j) = some u) (h1 : ∀ u ∈ news,u.oneCell' = true)
  (h63 : n + 1 ≤ maxLen) (hbytes : (n + 1) * bytes ≤ 140737488355328) (hbase : base ≤ w.heap.size) :
  ∃ g cap w',(Builtin.append_ #[t,t] ty #[v,.slice (some a) 1 c]).run P w = .ok (.slice (some ⟨g,0,none⟩) (n + 1) cap) w' ∧ w'.ownsRow base e size (.slice (some ⟨g,0,none⟩) (n + 1) cap) (n + 1) (xs ++ news) ∧ w.grownBy w' v.ownBlock ∧
   (v.ownBlock = some g ∨ g = w.heap.size) := by
 subst hsize; subst hby; have hsmall : n + 1 ≤ 9223372036854775807 := by simp only [maxLen] at h63; omega
 have hl1 : news.length = 1 * i.size := by omega
 have hlen : (xs ++ news).length = (n + 1) * i.size := by rw [List.length_append,hown.1,hl1,Nat.add_mul]
 have grown : ∀ (old : Nat),old < n + 1 → ∀ (row : Option Nat),
   (w.drew.alloc (.cells (xs.toArray ++ news.toArray ++ Builtin.zeroCells z.cells (grownCap w (n + 1) old e - (n + 1))) e)).ownsRow base e i.size
    (.slice (some ⟨w.heap.size,0,none⟩) (n + 1) (grownCap w (n + 1) old e)) (n + 1) (xs ++ news) ∧
   w.grownBy (w.drew.alloc (.cells (xs.toArray ++ news.toArray ++ Builtin.zeroCells z.cells (grownCap w (n + 1) old e - (n + 1))) e)) row := by
  intro old ho row; have hge := grownCap_ge w (n + 1) old e; have hcm : grownCap w (n + 1) old e ≤ maxLen := grownCap_le_maxLen w (n + 1) old e h63; refine ⟨⟨hlen,.inr ⟨w.heap.size,_,_,rfl,hbase,_root_.Go.heap_alloc_new w.drew _,hge,hcm,?_,?_⟩⟩,⟨rfl,rfl,rfl,by simp,fun k hk _ => Below.heap_alloc w.drew _ k hk⟩⟩
  ·simp only [Array.size_append,List.size_toArray,size_zeroCells,hzs,hown.1,hl1,← Nat.add_mul]
   congr 1
   omega
  ·simp only [Array.toList_append,List.append_assoc]
   rw [← List.append_assoc,← hlen]; exact List.take_left
 rcases hown.2 with ⟨rfl,rfl⟩ | ⟨g,cap,cur,rfl,hbg,hg,hnc,hcm,hcs,htake⟩
 ·have hx : xs = [] := List.eq_nil_of_length_eq_zero (by simpa using hown.1)
  subst hx; have hr := run_append_nil (P := P) w t ty e i z ht hi hz a 1 c news hl1 hnews (by omega) (by omega) (by have hb := hbytes; simp only [Nat.zero_add] at hb; omega)
  have hgr := grown 0 (by omega) (Value.ownBlock (.slice none 0 0))
  simp only [Nat.zero_add,List.nil_append,Array.empty_append] at hgr ⊢
  exact ⟨_,_,_,hr,hgr.1,hgr.2,.inr rfl⟩
 ·by_cases hroom : n + 1 ≤ cap
  ·have hfit : n * i.size + news.length ≤ cur.size := by rw [hl1,hcs,← Nat.add_mul]; exact Nat.mul_le_mul_right _ hroom
   have hr := run_append_room (P := P) w t ty e i ht hi g n cap cur hg a 1 c news hl1 hnews h1 hroom hfit; refine ⟨g,_,_,hr,⟨hlen,.inr ⟨g,cap,_,rfl,hbg,setRow_heap w g cur _ e _ hg,hroom,hcm,?_,?_⟩⟩,⟨rfl,rfl,rfl,by simp,fun k hk _ => setRow_other w g k _ (fun e => by subst e; simp [Value.ownBlock] at *)⟩,.inl rfl⟩
   ·simp only [List.size_toArray,List.length_append,List.length_take,List.length_drop,Array.length_toList]
    omega
   ·rw [htake,← hlen]
    exact List.take_left
  ·have holds : ∀ j u,xs[j]? = some u → w.cell? ((⟨g,0,none⟩ : Addr).add j) = some u := hown.cells (g := g) rfl
   have hr := run_append_grow (P := P) w t ty e i z ht hi hz ⟨g,0,none⟩ n cap xs hown.1 holds a 1 c news hl1 hnews (by omega) (by omega) (growslice_fits (by omega) hbytes)
   have hgr := grown cap (by omega) (Value.ownBlock (.slice (some ⟨g,0,none⟩) n cap))
   exact ⟨_,_,_,hr,hgr.1,hgr.2,.inr rfl⟩
theorem Z01 {P : Program} {ops : Array Oper} {o : Oper} {a : Act} {w : World} {K : Act → World → Prop} {Q : Exit → Act → World → Prop} {E : Prop}
  (hg : o.guard = none) (s x : Operand) (t : TypeId) (hop : o.op = Op.call { callee := Callee.builtin Builtin.append,args := #[s,x],argTypes := #[t,t] })
  (base : Nat) (e : TypeId) (i : TypeInfo) (z : Value) (size bytes : Nat) (ht : P.underlying t = some (.slice e)) (hi : P.info? e = some i) (hz : i.zero = some z)
  (hsize : i.size = size) (hby : i.bytes = bytes) (hzs : z.cells.size = size) (v : Value) (n : Nat) (xs : List Value) (hs : a.eval s = v) (hown : w.ownsRow base e size v n xs)
  (ad : Addr) (c : Nat) (news : List Value) (hx : a.eval x = .slice (some ad) 1 c) (hl : news.length = size) (hnews : ∀ j u,news[j]? = some u → w.cell? (ad.add j) = some u) (h1 : ∀ u ∈ news,u.oneCell' = true)
  (h63 : n + 1 ≤ maxLen) (hbytes : (n + 1) * bytes ≤ 140737488355328) (hbase : base ≤ w.heap.size)
  (hK : ∀ g cap w',w'.ownsRow base e size (.slice (some ⟨g,0,none⟩) (n + 1) cap) (n + 1) (xs ++ news) → w.grownBy w' v.ownBlock → (v.ownBlock = some g ∨ g = w.heap.size) → K (a.put o.dst (.slice (some ⟨g,0,none⟩) (n + 1) cap)) w') :
  if Region.wanted o (yielded ops a.tmps) = true then Oper.wp P o a w K Q else E := by
 have hw : Region.wanted o (yielded ops a.tmps) = true := by simp [Region.wanted,hg]
 rw [if_pos hw]; obtain ⟨g,cap,w',hrun,h2,h3,h4⟩ := Z34 (P := P) w base t o.type e i z size bytes ht hi hz hsize hby hzs v n xs hown ad c news hl hnews h1 h63 hbytes hbase; unfold Oper.wp; simp [execOp,hop,resolve,invoke,builtin,hs,hx,hrun,Result.andThen]
 exact hK g cap w' h2 h3 h4
theorem Z16 {P : Program} {ops : Array Oper} {rest : List Oper} {o : Oper} {a : Act} {w : World} {Q : Exit → Act → World → Prop} (hgd : o.guard = none) (s x : Operand) (t : TypeId)
  (ho : o.op = .call { callee := .builtin .append,args := #[s,x],argTypes := #[t,t] })
  (base : Nat) (e : TypeId) (i : TypeInfo) (z : Value) (size bytes : Nat) (ht : P.underlying t = some (.slice e)) (hi : P.info? e = some i) (hz : i.zero = some z)
  (hsize : i.size = size) (hby : i.bytes = bytes) (hzs : z.cells.size = size) (v : Value) (n : Nat) (xs : List Value) (hs : a.eval s = v) (hown : w.ownsRow base e size v n xs)
  (ad : Addr) (c : Nat) (news : List Value) (hx : a.eval x = .slice (some ad) 1 c) (hl : news.length = size) (hnews : ∀ j u,news[j]? = some u → w.cell? (ad.add j) = some u) (h1 : ∀ u ∈ news,u.oneCell' = true)
  (h63 : n + 1 ≤ maxLen) (hbytes : (n + 1) * bytes ≤ 140737488355328) (hbase : base ≤ w.heap.size)
  (h : ∀ g cap w',w'.ownsRow base e size (.slice (some ⟨g,0,none⟩) (n + 1) cap) (n + 1) (xs ++ news) → w.grownBy w' v.ownBlock → (v.ownBlock = some g ∨ g = w.heap.size) → wpList P ops Q rest (a.put o.dst (.slice (some ⟨g,0,none⟩) (n + 1) cap)) w') : wpList P ops Q (o :: rest) a w := by
 refine wpList_plain hgd fun _ hK => ?_; obtain ⟨g,cap,w',hr,h2,h3,h4⟩ := Z34 (P := P) w base t o.type e i z size bytes ht hi hz hsize hby hzs v n xs hown ad c news hl hnews h1 h63 hbytes hbase; unfold Oper.wp execOp; simp only [ho,resolve,invoke,builtin,Sem.run_bind,Sem.run_pure,Result.andThen_ok,List.map_toArray,List.map_cons,List.map_nil,hs,hx,hr]
 exact hK _ _ (h g cap w' h2 h3 h4)
end Go.Proofs.YtfkommjlmolniaaGreatDoor
end
section

namespace Go.Proofs.YtfkommjlmolniaaGreatDoor
open Go.RowKit
variable {w w2 wr : World} {base sz n : Nat} {T : TypeId} {v : Value} {xs : List Value}
theorem Z1a {S : Nat → Prop} (h : w.ownsRow base T sz v n xs) (hm : Mod S w w2) (hs : ∀ k,v.ownBlock = some k → ¬ S k) : w2.ownsRow base T sz v n xs := by
 refine ⟨h.1,?_⟩; rcases h.2 with h2 | ⟨g,cap,cur,rfl,hb,hg,r⟩
 ·exact .inl h2
 ·refine .inr ⟨g,cap,cur,rfl,hb,?_,r⟩
  rw [hm.block g (Array.getElem?_eq_some_iff.1 hg).1 (hs g rfl)]; exact hg
theorem Z06 (h : w.ownsRow base T sz v n xs) (hb : Below w.heap.size w w2) : w2.ownsRow base T sz v n xs := Z1a h (Mod.of_below (fun _ => False) hb) (fun _ _ h => h)
theorem Z04 (h : w.ownsRow base T sz v n xs) : ∃ a cap,v = .slice a n cap := by
 rcases h.2 with ⟨rfl,h2⟩ | ⟨g,cap,cur,rfl,_⟩
 ·exact ⟨none,0,by rw [h2]⟩
 ·exact ⟨_,cap,rfl⟩
theorem Z1y {base' : Nat} (h : w.ownsRow base T sz v n xs) (hb : base' ≤ base) : w.ownsRow base' T sz v n xs := by
 refine ⟨h.1,?_⟩; rcases h.2 with h2 | ⟨g,cap,cur,rfl,hb',r⟩
 ·exact .inl h2
 ·exact .inr ⟨g,cap,cur,rfl,by omega,r⟩
theorem Z0x (h : w.ownsRow base T sz v n xs) (h0 : 0 < n) : ∃ g cap,v = .slice (some ⟨g,0,none⟩) n cap ∧ base ≤ g ∧ g < w.heap.size ∧ n ≤ cap ∧ cap ≤ maxLen := by
 rcases h.2 with ⟨_,h2⟩ | ⟨g,cap,cur,hv,hb,hg,hc,hm,_⟩
 ·omega
 ·exact ⟨g,cap,hv,hb,(Array.getElem?_eq_some_iff.1 hg).1,hc,hm⟩
def numsV (t : List Int) : List Value := t.map (Value.int .i64)
theorem Z2r (t : List Int) (x : Int) : numsV (t ++ [x]) = numsV t ++ [.int .i64 x] := by simp [numsV]
theorem Z4g {t : List Int} {g m cap : Nat} (h : w.ownsRow base T 1 (.slice (some ⟨g,0,none⟩) m cap) n (numsV t)) {k : Nat} {x : Int} (hx : t[k]? = some x) : w.cell? ⟨g,k,none⟩ = some (.int .i64 x) := by
 have := World.ownsRow.cells h (g := g) rfl k (.int .i64 x) (by simp [numsV,hx])
 simpa [Addr.add_lit] using this
theorem Z1b (w : World) (x : Value) (T : TypeId) (z : Nat) (hz : w.heap.size = z) : ∀ (j : Nat) (u : Value),[x][j]? = some u → (w.alloc (.cells #[x] T)).cell? ((⟨z,0,none⟩ : Addr).add j) = some u := by
 subst hz; intro j u hj; match j,hj with
 | 0,hj =>
  simp at hj
  subst hj; rw [Addr.add_lit]; simp
theorem Z2y (x : Int) : ∀ u ∈ [Value.int .i64 x],u.oneCell' = true := by
 intro u hu; simp at hu
 subst hu; rfl
theorem Z0a {b N : Nat} {f : Nat → Value} (h : w.rowIs b T N f) (hb : Below w.heap.size w w2) : w2.rowIs b T N f := h.of_block (hb.block b h.lt)
end Go.Proofs.YtfkommjlmolniaaGreatDoor
end
section

namespace Go.Proofs.YtfkommjlmolniaaGreatDoor
open Go.RowKit
def rowF (N : Nat) (f : Nat → Int) : List Value := (List.range N).map (fun i => .int .i64 (f i))
variable {w w2 wr w4 : World} {base N g cap i k : Nat} {f f2 : Nat → Int} {v : Value} {u : Int}
theorem Z2x (N : Nat) (f : Nat → Int) : (rowF N f).length = N := by simp [rowF]
theorem Z3s (f : Nat → Int) (h : i < N) : (rowF N f)[i]? = some (.int .i64 (f i)) := by simp [rowF,h]
theorem Z7l (h : ∀ i,i < N → f i = f2 i) : rowF N f = rowF N f2 := by
 unfold rowF; apply List.map_congr_left
 intro i hi; rw [h i (List.mem_range.1 hi)]
theorem Zdk (h : k < N) : (rowF N f).set k (.int .i64 u) = rowF N (fun t => if t = k then u else f t) := by
 apply List.ext_getElem?
 intro j; rw [List.getElem?_set]; by_cases hj : j < N
 ·rw [Z3s _ hj]
  by_cases e : k = j
  ·subst e
   rw [if_pos rfl,if_pos (by rw [Z2x]; exact h),Z3s _ h]
   simp
  ·simp only [e,if_false]
   rw [Z3s _ hj,if_neg (fun h => e h.symm)]
 ·rw [List.getElem?_eq_none (by rw [Z2x]; omega),if_neg (by omega),List.getElem?_eq_none (by rw [Z2x]; omega)]
def LongRow (w : World) (base : Nat) (v : Value) (N : Nat) (f : Nat → Int) : Prop := w.ownsRow base 2 1 v N (rowF N f)
theorem LongRow.cell (h : LongRow w base (.slice (some ⟨g,0,none⟩) N cap) N f) (hi : i < N) : w.cell? ⟨g,i,none⟩ = some (.int .i64 (f i)) := by
 rw [World.ownsRow.cellAt h i (by omega)]
 exact Z3s _ hi
theorem LongRow.frozen (h : LongRow w base (.slice (some ⟨g,0,none⟩) N cap) N f) (i : Nat) : w.frozen? ⟨g,i,none⟩ = false := World.ownsRow.frozenAt h i
theorem LongRow.set_ (h : LongRow w base (.slice (some ⟨g,0,none⟩) N cap) N f) (hk : k < N) (u : Int) : LongRow (w.setCell ⟨g,k,none⟩ (.int .i64 u)) base (.slice (some ⟨g,0,none⟩) N cap) N (fun t => if t = k then u else f t) := by
 have := (World.ownsRow.stored h k (.int .i64 u)).1; rw [Zdk hk] at this; exact this
theorem LongRow.congr (h : LongRow w base v N f) (e : ∀ i,i < N → f i = f2 i) : LongRow w base v N f2 := by
 unfold LongRow; rw [← Z7l e]; exact h
theorem LongRow.below (h : LongRow w base v N f) (hb : Below w.heap.size w w2) : LongRow w2 base v N f := Z06 h hb
theorem LongRow.kept {S : Nat → Prop} (h : LongRow w base v N f) (hm : Mod S w w2) (hs : ∀ k,v.ownBlock = some k → ¬ S k) : LongRow w2 base v N f := Z1a h hm hs
theorem LongRow.rebase {base' : Nat} (h : LongRow w base v N f) (hb : base' ≤ base) : LongRow w base' v N f := Z1y h hb
theorem LongRow.some_ (h : LongRow w base v N f) (h0 : 0 < N) : ∃ g cap,v = .slice (some ⟨g,0,none⟩) N cap ∧ base ≤ g ∧ g < w.heap.size ∧ N ≤ cap ∧ cap ≤ maxLen := Z0x h h0
theorem LongRow.base_ (h : LongRow w base (.slice (some ⟨g,0,none⟩) N cap) N f) : base ≤ g ∧ g < w.heap.size := World.ownsRow.lt h g rfl
theorem Zl5 : (Tryz.prog.info? 2).map (fun i => (i.zero,i.size,i.bytes)) = some (some (.int .i64 0),1,8) := by kernel_rfl
end Go.Proofs.YtfkommjlmolniaaGreatDoor
end
section

namespace Go.Proofs.YtfkommjlmolniaaGreatDoor
open Go.RowKit
abbrev Pi := Int × Int × Int × Int
def encP (x : Pi) : List Value := [.int .i64 x.1,.int .i64 x.2.1,.int .i64 x.2.2.1,.int .i64 x.2.2.2]
def PiRow (w : World) (b off : Nat) (l : List Pi) : Prop := ∀ (k : Nat) (x : Pi),l[k]? = some x →
 w.cell? ⟨b,off + k * 4,none⟩ = some (.int .i64 x.1) ∧ w.cell? ⟨b,off + k * 4 + 1,none⟩ = some (.int .i64 x.2.1) ∧ w.cell? ⟨b,off + k * 4 + 2,none⟩ = some (.int .i64 x.2.2.1) ∧ w.cell? ⟨b,off + k * 4 + 3,none⟩ = some (.int .i64 x.2.2.2)
def IsPipes (B : Nat) (w : World) (a : Option Addr) (len : Nat) (l : List Pi) : Prop := l.length = len ∧ (len = 0 ∨ ∃ b off,a = some ⟨b,off,none⟩ ∧ b < B ∧ PiRow w b off l)
def IsNums (B : Nat) (w : World) (a : Option Addr) (len : Nat) (ws : List Int) : Prop := ws.length = len ∧ (len = 0 ∨ ∃ b off,a = some ⟨b,off,none⟩ ∧ b < B ∧ ∀ (j : Nat) (x : Int),ws[j]? = some x → w.cell? ⟨b,off + j,none⟩ = some (.int .i64 x))
variable {w wr w2 : World} {a : Option Addr} {len cap B B2 g k : Nat} {l : List Pi} {n : Int} {ws : List Int}
theorem PiRow.of_block {b off : Nat} (h : PiRow w b off l) (e : w2.heap[b]? = w.heap[b]?) : PiRow w2 b off l := fun k x hk => by
 obtain ⟨h1,h2,h3,h4⟩ := h k x hk; exact ⟨(World.cell?_of_block (w := w) (by exact e)).trans h1,(World.cell?_of_block (w := w) (by exact e)).trans h2,(World.cell?_of_block (w := w) (by exact e)).trans h3,(World.cell?_of_block (w := w) (by exact e)).trans h4⟩
theorem IsPipes.later (h : IsPipes B w a len l) (hb : Below B w w2) : IsPipes B w2 a len l := ⟨h.1,by
 rcases h.2 with h | ⟨b,off,e,h1,h2⟩
 ·exact .inl h
 ·exact .inr ⟨b,off,e,h1,h2.of_block (hb.block b h1)⟩⟩
theorem IsPipes.mono (h : IsPipes B w a len l) (hb : B ≤ B2) : IsPipes B2 w a len l := ⟨h.1,by
 rcases h.2 with h | ⟨b,off,e,h1,h2⟩
 ·exact .inl h
 ·exact .inr ⟨b,off,e,by omega,h2⟩⟩
theorem IsPipes.at_ (h : IsPipes B w a len l) (hk : k < len) : ∃ b off x,a = some ⟨b,off,none⟩ ∧ b < B ∧ l[k]? = some x ∧
  w.cell? ⟨b,off + k * 4,none⟩ = some (.int .i64 x.1) ∧ w.cell? ⟨b,off + k * 4 + 1,none⟩ = some (.int .i64 x.2.1) ∧ w.cell? ⟨b,off + k * 4 + 2,none⟩ = some (.int .i64 x.2.2.1) ∧ w.cell? ⟨b,off + k * 4 + 3,none⟩ = some (.int .i64 x.2.2.2) := by
 obtain ⟨h1,h2⟩ := h; subst h1; rcases h2 with h2 | ⟨b,off,e,hb,hr⟩
 ·omega
 ·exact ⟨b,off,_,e,hb,List.getElem?_eq_getElem hk,hr k _ (List.getElem?_eq_getElem hk)⟩
theorem IsNums.later (h : IsNums B w a len ws) (hb : Below B w w2) : IsNums B w2 a len ws := ⟨h.1,by
 rcases h.2 with h | ⟨b,off,e,h1,h2⟩
 ·exact .inl h
 ·exact .inr ⟨b,off,e,h1,fun j x hx => (hb.cell (p := ⟨b,off + j,none⟩) h1).trans (h2 j x hx)⟩⟩
theorem IsNums.mono (h : IsNums B w a len ws) (hb : B ≤ B2) : IsNums B2 w a len ws := ⟨h.1,by
 rcases h.2 with h | ⟨b,off,e,h1,h2⟩
 ·exact .inl h
 ·exact .inr ⟨b,off,e,by omega,h2⟩⟩
theorem IsNums.at_ (h : IsNums B w a len ws) (hk : k < len) : ∃ b off x,a = some ⟨b,off,none⟩ ∧ ws[k]? = some x ∧ w.cell? ⟨b,off + k,none⟩ = some (.int .i64 x) := by
 obtain ⟨h1,h2⟩ := h; subst h1; rcases h2 with h2 | ⟨b,off,e,hb,hr⟩
 ·omega
 ·exact ⟨b,off,_,e,List.getElem?_eq_getElem hk,hr k _ (List.getElem?_eq_getElem hk)⟩
end Go.Proofs.YtfkommjlmolniaaGreatDoor
end
section

namespace Go.Proofs.YtfkommjlmolniaaGreatDoor
open Go.RowKit
structure Ins where
 (en tm tr bm br : Int)
 sats : List (Int × Int)
 cus : List Pi
 cost : List (List Int)
 time : List (List Int)
def Ins.nodes (x : Ins) : Nat := 1 + x.sats.length + x.cus.length
def Ins.count (x : Ins) : Bool := decide (1 ≤ x.tm ∧ x.tm ≤ 60) && decide (1 ≤ x.bm ∧ x.bm ≤ 60) && decide (1 ≤ x.sats.length ∧ x.sats.length ≤ 12) && decide (1 ≤ x.cus.length ∧ x.cus.length ≤ 48)
def allR (n : Nat) (f : Nat → Bool) : Bool := (List.range n).all f
theorem Z0w {n : Nat} {f : Nat → Bool} : allR n f = true ↔ ∀ i,i < n → f i = true := by simp [allR]
def lenB (n : Nat) (r : List Int) : Bool := decide (r.length = n)
def sqB (n : Nat) (l : List (List Int)) : Bool := decide (l.length = n) && allR l.length (fun i => lenB n (l.getD i []))
def inB_ (v low : Int) : Bool := decide (low ≤ v) && decide (v ≤ 1000000000)
def elB (i k : Nat) (v : Int) : Bool := inB_ v 0 && (decide (i ≠ k) || decide (v = 0))
def rowB (i : Nat) (r : List Int) : Bool := allR r.length (fun k => elB i k (r.getD k 0))
def rowsB (l : List (List Int)) : Bool := allR l.length (fun i => rowB i (l.getD i []))
def satB (s : Int × Int) : Bool := inB_ s.1 0 && inB_ s.2 0
def cusB (c : Pi) : Bool := inB_ c.1 1 && inB_ c.2.1 0 && inB_ c.2.2.1 c.2.1 && inB_ c.2.2.2 0
def Ins.size (x : Ins) : Bool := sqB x.nodes x.cost && sqB x.nodes x.time
def Ins.good (x : Ins) : Bool := rowsB x.cost && rowsB x.time && inB_ x.en 0 && inB_ x.tr 0 && inB_ x.br 0 && allR x.sats.length (fun i => satB (x.sats.getD i (0,0))) && allR x.cus.length (fun i => cusB (x.cus.getD i (0,0,0,0)))
def Z0m (x : Ins) : Int := if x.count = true then (if x.size = true then (if x.good = true then 0 else 2) else 4) else 9
def Ins.light (x : Ins) : Bool := decide (x.sats.length ≤ 40) && decide (x.cus.length ≤ 60) && decide (x.cost.length ≤ 70) && decide (x.time.length ≤ 70) && x.cost.all (fun r => decide (r.length ≤ 80)) && x.time.all (fun r => decide (r.length ≤ 80))
variable {w wr w2 : World} {a : Option Addr} {len cap B B2 g k : Nat} {l : List (Int × Int)} {L : List (List Int)} {n : Int}
def PairRow (w : World) (b off : Nat) (l : List (Int × Int)) : Prop := ∀ (k : Nat) (x : Int × Int),l[k]? = some x → w.cell? ⟨b,off + k * 2,none⟩ = some (.int .i64 x.1) ∧ w.cell? ⟨b,off + k * 2 + 1,none⟩ = some (.int .i64 x.2)
def IsPairs (B : Nat) (w : World) (a : Option Addr) (len : Nat) (l : List (Int × Int)) : Prop := l.length = len ∧ (len = 0 ∨ ∃ b off,a = some ⟨b,off,none⟩ ∧ b < B ∧ PairRow w b off l)
theorem PairRow.of_block {b off : Nat} (h : PairRow w b off l) (e : w2.heap[b]? = w.heap[b]?) : PairRow w2 b off l := fun k x hk => by
 obtain ⟨h1,h2⟩ := h k x hk; exact ⟨(World.cell?_of_block (w := w) (by exact e)).trans h1,(World.cell?_of_block (w := w) (by exact e)).trans h2⟩
theorem IsPairs.later (h : IsPairs B w a len l) (hb : Below B w w2) : IsPairs B w2 a len l := ⟨h.1,by
 rcases h.2 with h | ⟨b,off,e,h1,h2⟩
 ·exact .inl h
 ·exact .inr ⟨b,off,e,h1,h2.of_block (hb.block b h1)⟩⟩
theorem IsPairs.mono (h : IsPairs B w a len l) (hb : B ≤ B2) : IsPairs B2 w a len l := ⟨h.1,by
 rcases h.2 with h | ⟨b,off,e,h1,h2⟩
 ·exact .inl h
 ·exact .inr ⟨b,off,e,by omega,h2⟩⟩
theorem IsPairs.at_ (h : IsPairs B w a len l) (hk : k < len) : ∃ b off x,a = some ⟨b,off,none⟩ ∧ b < B ∧ l[k]? = some x ∧ w.cell? ⟨b,off + k * 2,none⟩ = some (.int .i64 x.1) ∧ w.cell? ⟨b,off + k * 2 + 1,none⟩ = some (.int .i64 x.2) := by
 obtain ⟨h1,h2⟩ := h; subst h1; rcases h2 with h2 | ⟨b,off,e,hb,hr⟩
 ·omega
 ·exact ⟨b,off,_,e,hb,List.getElem?_eq_getElem hk,hr k _ (List.getElem?_eq_getElem hk)⟩
def IsRows (B : Nat) (w : World) (a : Option Addr) (len : Nat) (L : List (List Int)) : Prop := L.length = len ∧ (len = 0 ∨ ∃ b off,a = some ⟨b,off,none⟩ ∧ b < B ∧
 ∀ (k : Nat) (r : List Int),L[k]? = some r → r.length ≤ 9223372036854775807 ∧ ∃ ra rc,w.cell? ⟨b,off + k,none⟩ = some (.slice ra r.length rc) ∧ IsNums B w ra r.length r)
theorem IsRows.later (h : IsRows B w a len L) (hb : Below B w w2) : IsRows B w2 a len L := ⟨h.1,by
 rcases h.2 with h | ⟨b,off,e,h1,h2⟩
 ·exact .inl h
 ·refine .inr ⟨b,off,e,h1,fun k r hk => ?_⟩
  obtain ⟨h0,ra,rc,h3,h4⟩ := h2 k r hk; exact ⟨h0,ra,rc,(hb.cell (p := ⟨b,off + k,none⟩) h1).trans h3,h4.later hb⟩⟩
theorem IsRows.mono (h : IsRows B w a len L) (hb : B ≤ B2) : IsRows B2 w a len L := ⟨h.1,by
 rcases h.2 with h | ⟨b,off,e,h1,h2⟩
 ·exact .inl h
 ·refine .inr ⟨b,off,e,by omega,fun k r hk => ?_⟩
  obtain ⟨h0,ra,rc,h3,h4⟩ := h2 k r hk; exact ⟨h0,ra,rc,h3,h4.mono hb⟩⟩
theorem IsRows.at_ (h : IsRows B w a len L) (hk : k < len) : ∃ b off r ra rc,a = some ⟨b,off,none⟩ ∧ b < B ∧ L[k]? = some r ∧ r.length ≤ 9223372036854775807 ∧ w.cell? ⟨b,off + k,none⟩ = some (.slice ra r.length rc) ∧ IsNums B w ra r.length r := by
 obtain ⟨h1,h2⟩ := h; subst h1; rcases h2 with h2 | ⟨b,off,e,hb,hr⟩
 ·omega
 ·obtain ⟨h0,ra,rc,h3,h4⟩ := hr k _ (List.getElem?_eq_getElem hk)
  exact ⟨b,off,_,ra,rc,e,hb,List.getElem?_eq_getElem hk,h0,h3,h4⟩
structure InA where
 (sa : Option Addr) (sc : Nat) (ca : Option Addr) (cc : Nat) (ka : Option Addr) (kc : Nat) (ta : Option Addr) (tc : Nat)
structure IsIns (B : Nat) (w : World) (A : InA) (x : Ins) : Prop where
 sats : IsPairs B w A.sa x.sats.length x.sats
 cus : IsPipes B w A.ca x.cus.length x.cus
 cost : IsRows B w A.ka x.cost.length x.cost
 time : IsRows B w A.ta x.time.length x.time
variable {A : InA} {x : Ins}
theorem IsIns.later (h : IsIns B w A x) (hb : Below B w w2) : IsIns B w2 A x := ⟨h.sats.later hb,h.cus.later hb,h.cost.later hb,h.time.later hb⟩
theorem IsIns.mono (h : IsIns B w A x) (hb : B ≤ B2) : IsIns B2 w A x := ⟨h.sats.mono hb,h.cus.mono hb,h.cost.mono hb,h.time.mono hb⟩
abbrev insC (A : InA) (x : Ins) : Array Value := #[.int .i64 x.en,.int .i64 x.tm,.int .i64 x.tr,.int .i64 x.bm,.int .i64 x.br,.slice A.sa x.sats.length A.sc,.slice A.ca x.cus.length A.cc,.slice A.ka x.cost.length A.kc,.slice A.ta x.time.length A.tc]
structure Ins.Len (x : Ins) : Prop where
 sats : x.sats.length ≤ 9223372036854775807
 cus : x.cus.length ≤ 9223372036854775807
 cost : x.cost.length ≤ 9223372036854775807
 time : x.time.length ≤ 9223372036854775807
structure XBox (w wr : World) (g : Nat) (A : InA) (x : Ins) : Prop where
 below : Below w.heap.size w wr
 ge : w.heap.size ≤ g
 blk : wr.heap[g]? = some (.cells (insC A x) 34 (0,0))
theorem XBox.lt (h : XBox w wr g A x) : g < wr.heap.size := (Array.getElem?_eq_some_iff.1 h.blk).1
theorem XBox.make (h : Below w.heap.size w wr) (A : InA) (x : Ins) : XBox w (wr.alloc (.cells (insC A x) 34)) wr.heap.size A x := ⟨h.alloc h.size _,h.size,heap_alloc_new _ _⟩
theorem XBox.later (h : XBox w wr g A x) (hb : Below wr.heap.size wr w2) : XBox w w2 g A x := ⟨h.below.trans (hb.mono h.below.size),h.ge,(hb.block g h.lt).trans h.blk⟩
theorem XBox.cells (h : XBox w wr g A x) : wr.cell? ⟨g,0,none⟩ = some (.int .i64 x.en) ∧ wr.cell? ⟨g,1,none⟩ = some (.int .i64 x.tm) ∧ wr.cell? ⟨g,2,none⟩ = some (.int .i64 x.tr) ∧ wr.cell? ⟨g,3,none⟩ = some (.int .i64 x.bm) ∧ wr.cell? ⟨g,4,none⟩ = some (.int .i64 x.br) ∧
  wr.cell? ⟨g,5,none⟩ = some (.slice A.sa x.sats.length A.sc) ∧ wr.cell? ⟨g,6,none⟩ = some (.slice A.ca x.cus.length A.cc) ∧ wr.cell? ⟨g,7,none⟩ = some (.slice A.ka x.cost.length A.kc) ∧ wr.cell? ⟨g,8,none⟩ = some (.slice A.ta x.time.length A.tc) := by
 simp [World.cell?,h.blk]
theorem XBox.pipesHere (h : XBox w wr g A x) (hl : IsIns w.heap.size w A x) : IsIns wr.heap.size wr A x := (hl.later h.below).mono h.below.size
end Go.Proofs.YtfkommjlmolniaaGreatDoor
end

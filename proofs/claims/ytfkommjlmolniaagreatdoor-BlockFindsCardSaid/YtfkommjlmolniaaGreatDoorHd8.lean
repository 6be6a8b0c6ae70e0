/- Joined: BfsT, RepF, FSteps. -/
import Derived.Test.YtfkommjlmolniaaGreatDoorHd5
import Derived.Test.YtfkommjlmolniaaGreatDoorHd1
import Derived.Test.YtfkommjlmolniaaGreatDoorShelf
import Derived.Laws.CopyOwn
import Derived.Deep.RegionLaw
import Derived.RegionTactic
import Derived.BigRegion
import Derived.Deep.QuietTactic
import Derived.Deep.LoopGhost
import Derived.LoopTactic
import Derived.Lib.Hide
import Derived.Test.YtfkommjlmolniaaGreatDoorHsWk
set_option linter.unusedVariables false
section

namespace Go.Proofs.YtfkommjlmolniaaGreatDoor
open Go.RowKit
variable {N s u v at_ r k : Nat} {L : Nat → List La} {op : La → Bool} {far : Nat → Int} {P q : List Nat} {a : La}
inductive ByOpen (L : Nat → List La) (op : La → Bool) (s : Nat) : Nat → Prop
 | here : ByOpen L op s s
 | go {u : Nat} {a : La} (h : ByOpen L op s u) (ha : a ∈ L u) (ho : op a = true) : ByOpen L op s a.2.1
theorem Z9t : ∀ (N : Nat) (o : List Nat),o.Nodup → (∀ i ∈ o,i < N) → o.length ≤ N
 | 0,o,_,h => by
  have : o = [] := List.eq_nil_iff_forall_not_mem.2 (fun i hi => by have := h i hi; omega)
  subst this; exact Nat.le_refl _
 | N + 1,o,hn,h => by
  have hn2 : (o.erase N).Nodup := hn.erase N; have h1 := Z9t N (o.erase N) hn2 (fun i hi => by
   have hm := (hn.mem_erase_iff.1 hi); have := h i hm.2; omega)
  by_cases hN : N ∈ o
  ·have hl := List.length_erase_of_mem hN
   have hpos : 0 < o.length := List.length_pos_of_mem hN; omega
  ·rw [List.erase_of_not_mem hN] at h1
   omega
structure Bfs (L : Nat → List La) (op : La → Bool) (N s : Nat) (far : Nat → Int) (P q : List Nat) (r : Nat) : Prop where
 nd : (P ++ q).Nodup
 lt : ∀ i ∈ P ++ q,i < N
 mem : ∀ i,i < N → (far i = -1 ∧ i ∉ P ++ q) ∨ (0 ≤ far i ∧ i ∈ P ++ q)
 start : far s = 0
 here : s ∈ P ++ q
 ord : (P ++ q).Pairwise (fun i j => far i ≤ far j)
 near : ∀ c q2,q = c :: q2 → ∀ i ∈ q,far i ≤ far c + 1
 idx : ∀ (j i : Nat),(P ++ q)[j]? = some i → far i ≤ (j : Int)
 closed : ∀ u ∈ P,∀ a ∈ L u,op a = true → 0 ≤ far a.2.1 ∧ far a.2.1 ≤ far u + 1
 part : ∀ c q2,q = c :: q2 → ∀ a ∈ (L c).take r,op a = true → 0 ≤ far a.2.1 ∧ far a.2.1 ≤ far c + 1
 sound : ∀ i ∈ P ++ q,ByOpen L op s i
theorem Bfs.begin_ (L : Nat → List La) (op : La → Bool) (hs : s < N) : Bfs L op N s (fun i => if i = s then 0 else -1) [] [s] 0 := by
 refine ⟨by simp,by simp; exact hs,fun i _ => ?_,by simp,by simp,by simp,fun c q2 h i hi => ?_,fun j i h => ?_,fun u hu => (nomatch hu),fun c q2 _ a ha => ?_,fun i hi => ?_⟩
 ·by_cases e : i = s
  ·subst e; simp
  ·simp [e]
 ·simp at h hi
  obtain ⟨rfl,_⟩ := h; subst hi; omega
 ·match j,h with
  | 0,h => simp at h; subst h; simp
  | j + 1,h => simp at h
 ·rw [List.take_zero] at ha; exact nomatch ha
 ·simp at hi; subst hi; exact .here
theorem Bfs.skip (h : Bfs L op N s far P q r) {c : Nat} {q2 : List Nat} (hq : q = c :: q2) (ha : (L c)[r]? = some a) (hv : a.2.1 < N) (hb : 0 ≤ far a.2.1 ∨ op a = false) : Bfs L op N s far P q (r + 1) := by
 refine ⟨h.nd,h.lt,h.mem,h.start,h.here,h.ord,h.near,h.idx,h.closed,fun c2 q3 e b hb2 hob => ?_,h.sound⟩; have e2 : c2 = c := by rw [hq] at e; injection e with e1 _; exact e1.symm
 subst e2; rw [List.take_add_one,ha,List.mem_append] at hb2; rcases hb2 with hb2 | hb2
 ·exact h.part c2 q3 e b hb2 hob
 ·simp only [Option.toList_some,List.mem_singleton] at hb2
  subst hb2; rcases hb with hb | hb
  ·refine ⟨hb,?_⟩
   rcases h.mem b.2.1 hv with ⟨m,_⟩ | ⟨_,m⟩
   ·omega
   ·rw [List.mem_append] at m
    rcases m with m | m
    ·have ho := h.ord
     rw [List.pairwise_append] at ho; have := ho.2.2 b.2.1 m c2 (by rw [hq]; simp)
     omega
    ·exact h.near c2 q2 hq b.2.1 m
  ·rw [hb] at hob; cases hob
theorem Bfs.found (h : Bfs L op N s far P q r) {c : Nat} {q2 : List Nat} (hq : q = c :: q2) (ha : (L c)[r]? = some a) (hv : a.2.1 < N) (hn : far a.2.1 < 0) (ho : op a = true) :
  Bfs L op N s (fun i => if i = a.2.1 then far c + 1 else far i) P (q ++ [a.2.1]) (r + 1) := by
 have hcm : c ∈ P ++ q := by rw [hq]; simp
 have hnew : a.2.1 ∉ P ++ q := fun m => by
  rcases h.mem a.2.1 hv with ⟨_,m2⟩ | ⟨m2,_⟩
  ·exact m2 m
  ·omega
 have hc0 : 0 ≤ far c := by
  rcases h.mem c (h.lt c hcm) with ⟨_,m2⟩ | ⟨m2,_⟩
  ·exact absurd hcm m2
  ·exact m2
 have hne : ∀ i ∈ P ++ q,i ≠ a.2.1 := fun i hi e => by subst e; exact hnew hi
 have hold : ∀ i ∈ P ++ q,(if i = a.2.1 then far c + 1 else far i) = far i := fun i hi => by rw [if_neg (hne i hi)]
 have last : ∀ i ∈ P ++ q,far i ≤ far c + 1 := fun i hi => by
  rw [List.mem_append] at hi; rcases hi with hi | hi
  ·have ho := h.ord
   rw [List.pairwise_append] at ho; have := ho.2.2 i hi c (by rw [hq]; simp)
   omega
  ·exact h.near c q2 hq i hi
 have hap : P ++ (q ++ [a.2.1]) = (P ++ q) ++ [a.2.1] := by rw [List.append_assoc]
 have hup : ∀ b : La,(0 ≤ far b.2.1 ∧ far b.2.1 ≤ far c + 1) → 0 ≤ (if b.2.1 = a.2.1 then far c + 1 else far b.2.1) ∧ (if b.2.1 = a.2.1 then far c + 1 else far b.2.1) ≤ far c + 1 := fun b hb => by
  split <;> omega
 have hsn : s ≠ a.2.1 := hne s h.here; refine ⟨?_,fun i hi => ?_,fun i hi => ?_,?_,?_,?_,fun c3 q3 e i hi => ?_,fun j i hj => ?_,fun u hu b hb hob => ?_,fun c3 q3 e b hb2 hob => ?_,fun i hi => ?_⟩
 ·rw [hap,List.nodup_append]
  refine ⟨h.nd,by simp,fun x hx y hy => ?_⟩
  simp at hy
  subst hy; exact hne x hx
 ·rw [hap,List.mem_append] at hi
  rcases hi with hi | hi
  ·exact h.lt i hi
  ·simp at hi; subst hi; exact hv
 ·rw [hap,List.mem_append]
  by_cases e : i = a.2.1
  ·right; subst e; simp; omega
  ·rw [if_neg e]
   rcases h.mem i hi with ⟨m1,m2⟩ | ⟨m1,m2⟩
   ·left; exact ⟨m1,fun m => by
     rcases m with m | m
     ·exact m2 m
     ·simp at m; exact e m⟩
   ·exact .inr ⟨m1,.inl m2⟩
 ·rw [if_neg hsn]; exact h.start
 ·rw [hap]; exact List.mem_append_left _ h.here
 ·rw [hap,List.pairwise_append]
  refine ⟨h.ord.imp_of_mem (fun hx hy hxy => by rw [hold _ hx,hold _ hy]; exact hxy),by simp,fun x hx y hy => ?_⟩
  simp at hy
  subst hy; rw [hold x hx,if_pos rfl]; exact last x hx
 ·have e2 : c3 = c := by rw [hq] at e; injection e with e1 _; exact e1.symm
  subst e2; rw [hold c3 hcm]; rw [List.mem_append] at hi; rcases hi with hi | hi
  ·rw [hold i (by simp [hi])]; exact h.near c3 q2 hq i hi
  ·simp at hi; subst hi; rw [if_pos rfl]; omega
 ·rw [hap,List.getElem?_append] at hj
  split at hj
  ·rw [hold i (List.mem_of_getElem? hj)]; exact h.idx j i hj
  ·rename_i hlen
   have hj0 : j - (P ++ q).length = 0 := by
    have := (List.getElem?_eq_some_iff.1 hj).1; simp only [List.length_singleton] at this
    omega
   rw [hj0] at hj; simp at hj
   subst hj; rw [if_pos rfl]; have hPl : far c ≤ (P.length : Int) := h.idx P.length c (by rw [hq]; simp)
   have : P.length + 1 ≤ (P ++ q).length := by rw [hq]; simp
   omega
 ·have hu2 : u ∈ P ++ q := List.mem_append_left _ hu
  rw [hold u hu2]; obtain ⟨b1,b2⟩ := h.closed u hu b hb hob; by_cases e : b.2.1 = a.2.1
  ·exfalso; rw [e] at b1; omega
  ·rw [if_neg e]; exact ⟨b1,b2⟩
 ·have e2 : c3 = c := by rw [hq] at e; injection e with e1 _; exact e1.symm
  subst e2; rw [hold c3 hcm]; rw [List.take_add_one,ha,List.mem_append] at hb2; rcases hb2 with hb2 | hb2
  ·exact hup b (h.part c3 q2 hq b hb2 hob)
  ·simp only [Option.toList_some,List.mem_singleton] at hb2
   subst hb2; rw [if_pos rfl]; omega
 ·rw [hap,List.mem_append] at hi
  rcases hi with hi | hi
  ·exact h.sound i hi
  ·simp at hi; subst hi
   exact .go (h.sound c hcm) (List.mem_of_getElem? ha) ho
theorem Bfs.next (h : Bfs L op N s far P q r) {c : Nat} {q2 : List Nat} (hq : q = c :: q2) (hr : (L c).length ≤ r) : Bfs L op N s far (P ++ [c]) q2 0 := by
 have hap : (P ++ [c]) ++ q2 = P ++ q := by rw [hq]; simp
 have hcm : c ∈ q := by rw [hq]; simp
 refine ⟨by rw [hap]; exact h.nd,fun i hi => h.lt i (by rw [hap] at hi; exact hi),fun i hi => by rw [hap]; exact h.mem i hi,h.start,by rw [hap]; exact h.here,by rw [hap]; exact h.ord,fun c3 q3 e i hi => ?_,fun j i hj => by rw [hap] at hj; exact h.idx j i hj,fun u hu b hb hob => ?_,fun c3 q3 _ b hb => (by rw [List.take_zero] at hb; exact nomatch hb),fun i hi => h.sound i (by rw [hap] at hi; exact hi)⟩
 ·have h1 := h.near c q2 hq i (by rw [hq]; simp [hi])
  have ho := h.ord; rw [List.pairwise_append,hq,List.pairwise_cons] at ho; have := ho.2.1.1 c3 (by rw [e]; simp)
  omega
 ·rw [List.mem_append] at hu
  rcases hu with hu | hu
  ·exact h.closed u hu b hb hob
  ·simp at hu
   subst hu; exact h.part u q2 hq b (by rw [List.take_of_length_le hr]; exact hb) hob
theorem Bfs.len (h : Bfs L op N s far P q r) : P.length + q.length ≤ N := by
 have := Z9t N (P ++ q) h.nd h.lt; rwa [List.length_append] at this
structure FarOk (L : Nat → List La) (op : La → Bool) (N s : Nat) (far : Nat → Int) : Prop where
 start : far s = 0
 small : ∀ i,i < N → far i = -1 ∨ (0 ≤ far i ∧ far i < (N : Int))
 closed : ∀ u,u < N → 0 ≤ far u → ∀ a ∈ L u,op a = true → 0 ≤ far a.2.1 ∧ far a.2.1 ≤ far u + 1
 sound : ∀ i,i < N → 0 ≤ far i → ByOpen L op s i
theorem Bfs.done (h : Bfs L op N s far P [] r) : FarOk L op N s far := by
 have hl := h.len; simp only [List.length_nil,Nat.add_zero] at hl
 refine ⟨h.start,fun i hi => ?_,fun u hu h0 => ?_,fun i hi h0 => ?_⟩
 ·rcases h.mem i hi with ⟨m,_⟩ | ⟨m,m2⟩
  ·exact .inl m
  ·obtain ⟨j,hj⟩ := List.getElem?_of_mem m2
   have := h.idx j i hj; have h3 := (List.getElem?_eq_some_iff.1 hj).1; rw [List.append_nil] at h3; exact .inr ⟨m,by omega⟩
 ·rcases h.mem u hu with ⟨m,_⟩ | ⟨_,m2⟩
  ·omega
  ·rw [List.append_nil] at m2
   exact h.closed u m2
 ·rcases h.mem i hi with ⟨m,_⟩ | ⟨_,m2⟩
  ·omega
  ·exact h.sound i m2
/-! ### The row that nodes are taken from at its head -/
structure Win (w : World) (base g off n cap : Nat) (q : List Nat) : Prop where
 len : q.length = n
 ge : base ≤ g
 le : n ≤ cap
 cm : cap ≤ maxLen
 blk : ∃ cs : Array Value,w.heap[g]? = some (.cells cs 3 (0,0)) ∧ cs.size = off + cap ∧ ∀ (j i : Nat),q[j]? = some i → cs[off + j]? = some (.int .i64 (i : Int))
variable {w w2 : World} {base g off n cap : Nat}
theorem Win.lt (h : Win w base g off n cap q) : g < w.heap.size := by
 obtain ⟨cs,hb,_⟩ := h.blk; exact (Array.getElem?_eq_some_iff.1 hb).1
theorem Win.cell (h : Win w base g off n cap q) {j i : Nat} (hj : q[j]? = some i) : w.cell? ⟨g,off + j,none⟩ = some (.int .i64 (i : Int)) := by
 obtain ⟨cs,hb,_,hc⟩ := h.blk; simp [World.cell?,hb,hc j i hj]
theorem Win.of_block (h : Win w base g off n cap q) (e : w2.heap[g]? = w.heap[g]?) : Win w2 base g off n cap q := by
 obtain ⟨cs,hb,hr⟩ := h.blk; exact ⟨h.len,h.ge,h.le,h.cm,cs,e.trans hb,hr⟩
theorem Win.below (h : Win w base g off n cap q) (hb : Below w.heap.size w w2) : Win w2 base g off n cap q := h.of_block (hb.block g h.lt)
theorem Win.tail {c : Nat} {q2 : List Nat} (h : Win w base g off (n + 1) (cap + 1) q) (hq : q = c :: q2) : Win w base g (off + 1) n cap q2 := by
 obtain ⟨cs,hb,hs,hc⟩ := h.blk; have h1 := h.len; have h2 := h.le; have h3 := h.cm; subst hq; refine ⟨by simpa using h1,h.ge,by omega,by omega,cs,hb,by omega,fun j i hj => ?_⟩
 have := hc (j + 1) i (by simpa using hj)
 rw [← this]; congr 1
 omega
theorem Zk5 : (Tryz.prog.info? 3).map (fun i => (i.zero,i.size,i.bytes)) = some (some (.int .i64 0),1,8) := by kernel_rfl
theorem Z9u (w : World) (b o : Nat) (v : Value) : w.setCells b o [v] = w.setCell ⟨b,o,none⟩ v := rfl
theorem Z6s (ty : TypeId) (h : Win w base g off n cap q) (hn : n ≤ 1000) (hbs : base ≤ w.heap.size) (ad : Addr) (c : Nat) (i : Nat) (hnew : ∀ (j : Nat) (u : Value),[Value.int .i64 (i : Int)][j]? = some u → w.cell? (ad.add j) = some u) :
  ∃ g2 off2 cap2 w',(Builtin.append_ #[37,37] ty #[.slice (some ⟨g,off,none⟩) n cap,.slice (some ad) 1 c]).run Tryz.prog w = .ok (.slice (some ⟨g2,off2,none⟩) (n + 1) cap2) w' ∧
   Win w' base g2 off2 (n + 1) cap2 (q ++ [i]) ∧ Mod (fun b => b = g) w w' := by
 obtain ⟨i0,hi,hz0,hz1,hz2⟩ := info_parts Zk5; obtain ⟨cs,hb,hs,hc⟩ := h.blk; have hlen := h.len; have h1c : ∀ u ∈ [Value.int .i64 (i : Int)],u.oneCell' = true := Z2y _; by_cases hroom : n + 1 ≤ cap
 ·have hrow : w.rowIs g 3 cs.size (fun j => cs.getD j undef) := ⟨cs,hb,rfl,fun j hj => by simp [Array.getD,hj]⟩
  have hr := run_append_room_cells (P := Tryz.prog) w 37 ty 3 i0 Tryz.underlying37 hi g off n cap ad 1 c [.int .i64 (i : Int)] (by rw [hz1]; rfl) hnew h1c hroom
   (fun j hj => by
    have hj0 : j = 0 := by simpa using hj
    subst hj0; rw [hz1,Nat.mul_one,Nat.add_zero,hrow.cell (by omega)]
    rfl)
   (fun j _ => hrow.frozen _)
  rw [hz1,Nat.mul_one,Z9u] at hr; refine ⟨g,off,cap,_,hr,⟨by simp [hlen],h.ge,hroom,h.cm,cs.setIfInBounds (off + n) (.int .i64 (i : Int)),heap_setCell_same _ _ _ _ _ _ hb,by simpa using hs,fun j u hj => ?_⟩,(Mod.refl (fun b => b = g) w).setCell (p := ⟨g,off + n,none⟩) (.inr rfl) _⟩
  rw [Array.getElem?_setIfInBounds]; rw [List.getElem?_append] at hj; split at hj
  ·rename_i hlt
   rw [if_neg (by omega)]
   exact hc j u hj
  ·rename_i hge
   have hj0 : j - q.length = 0 := by
    have := (List.getElem?_eq_some_iff.1 hj).1; simp only [List.length_singleton] at this
    omega
   have hjn : j = n := by omega
   rw [hj0] at hj; simp at hj
   subst hj hjn; rw [if_pos rfl,if_pos (by omega)]
 ·have hcap : cap = n := by have := h.le; omega
  have hr := run_append_grow (P := Tryz.prog) w 37 ty 3 i0 _ Tryz.underlying37 hi hz0 ⟨g,off,none⟩ n cap (q.map (fun i : Nat => Value.int .i64 (i : Int))) (by rw [hz1]; simp [hlen]) (fun j u hj => by
    rw [List.getElem?_map] at hj; cases hq : q[j]? with
    | none => rw [hq] at hj; cases hj
    | some x =>
     rw [hq] at hj; simp at hj
     subst hj; rw [Addr.add_lit]; exact h.cell hq) ad 1 c [.int .i64 (i : Int)] (by rw [hz1]; rfl) hnew (by omega) (by omega) (growslice_fits (by omega) (by rw [hz2]; omega))
  refine ⟨w.heap.size,0,_,_,hr,⟨by simp [hlen],hbs,grownCap_ge w (n + 1) cap _,grownCap_le_maxLen w (n + 1) cap _ (by unfold maxLen; omega),_,_root_.Go.heap_alloc_new w.drew _,?_,fun j u hj => ?_⟩,((Mod.refl (fun b => b = g) w).drew).alloc _⟩
  ·have hge := grownCap_ge w (n + 1) cap 3
   simp only [Array.size_append,List.size_toArray,size_zeroCells,List.length_map,hlen,List.length_singleton,Value.cells]
   simp
   omega
  ·rw [Nat.zero_add,Array.getElem?_append_left (by
    have := (List.getElem?_eq_some_iff.1 hj).1; simp only [List.length_append,List.length_singleton] at this
    simp [hlen]; omega)]
   have e : ((q.map (fun i : Nat => Value.int .i64 (i : Int))).toArray ++ [Value.int .i64 (i : Int)].toArray)[j]? = ((q ++ [i]).map (fun i : Nat => Value.int .i64 (i : Int)))[j]? := by simp
   rw [e,List.getElem?_map,hj]; rfl
theorem Z4p {ops : Array Oper} {rest : List Oper} {o : Oper} {a : Act} {Q : Exit → Act → World → Prop} (hgd : o.guard = none) (s x : Operand)
  (ho : o.op = .call { callee := .builtin .append,args := #[s,x],argTypes := #[37,37] }) (h : Win w base g off n cap q) (hn : n ≤ 1000) (hbs : base ≤ w.heap.size)
  (hs : a.eval s = .slice (some ⟨g,off,none⟩) n cap) (ad : Addr) (c : Nat) (i : Nat) (hx : a.eval x = .slice (some ad) 1 c) (hnew : ∀ (j : Nat) (u : Value),[Value.int .i64 (i : Int)][j]? = some u → w.cell? (ad.add j) = some u)
  (hk : ∀ g2 off2 cap2 w',Win w' base g2 off2 (n + 1) cap2 (q ++ [i]) → Mod (fun b => b = g) w w' → wpList Tryz.prog ops Q rest (a.put o.dst (.slice (some ⟨g2,off2,none⟩) (n + 1) cap2)) w') : wpList Tryz.prog ops Q (o :: rest) a w := by
 refine wpList_plain hgd fun _ hK => ?_; obtain ⟨g2,off2,cap2,w',hr,h2,h3⟩ := Z6s o.type h hn hbs ad c i hnew; unfold Oper.wp execOp; simp only [ho,resolve,invoke,builtin,Sem.run_bind,Sem.run_pure,Result.andThen_ok,List.map_toArray,List.map_cons,List.map_nil,hs,hx,hr]
 exact hK _ _ (hk g2 off2 cap2 w' h2 h3)
end Go.Proofs.YtfkommjlmolniaaGreatDoor
end
section

namespace Go.Proofs.YtfkommjlmolniaaGreatDoor
set_option maxHeartbeats 16000000
set_option maxRecDepth 100000
open Go.Lib (hid)
open Go.RowKit
theorem Zj6 : (Tryz.prog.info? 3).map (fun i => (i.zero,i.size,i.bytes)) = some (some (.int .i64 0),1,8) := by kernel_rfl
def fillV (z : Value) (N m : Nat) (x : Value) : List Value := List.replicate m x ++ List.replicate (N - m) z
variable {z x : Value}
theorem Zb1 {N m : Nat} (h : m ≤ N) : (fillV z N m x).length = N := by simp [fillV]; omega
theorem Zb2 {N m j : Nat} (h : j < m) : (fillV z N m x)[j]? = some x := by
 rw [fillV,List.getElem?_append_left (by simpa using h)]
 simp [h]
theorem Z56 {N m k : Nat} (h : m + k ≤ N) : splice (fillV z N m x) m (List.replicate k x) = fillV z N (m + k) x := by
 rw [splice,fillV,List.take_append_of_le_length (by simp),List.take_of_length_le (by simp),List.drop_append,List.drop_of_length_le (by simp),fillV]
 simp only [List.nil_append,List.length_replicate,List.drop_replicate]
 rw [← List.append_assoc,List.replicate_append_replicate]; congr 2
 omega
theorem Zg6 (N : Nat) (z x : Value) : madeCells #[z] N = (fillV z N 0 x).toArray := by
 apply Array.toList_inj.1
 rw [toList_madeCells_one]; simp [fillV]
theorem Zb3 {x : Value} (hx : x.oneCell' = true) (k : Nat) : ∀ v ∈ List.replicate k x,v.oneCell' = true := by
 intro v hv; rw [(List.mem_replicate.1 hv).2]; exact hx
theorem Zcg {w : World} {g N : Nat} {T : TypeId} (h : w.heap[g]? = some (.cells (fillV z N N x).toArray T (0,0))) : w.rowIs g T N (fun _ => x) :=
 ⟨_,h,by simp [fillV],fun i hi => by simpa using Zb2 (z := z) (N := N) (x := x) hi⟩
theorem Znm {w : World} {b : Nat} {v : Value} (h : w.cell? ⟨b,0,none⟩ = some v) : ∀ (j : Nat) (u : Value),[v][j]? = some u → w.cell? ((⟨b,0,none⟩ : Addr).add j) = some u := fun j u hj => by
 match j,hj with
 | 0,hj =>
  simp at hj
  subst hj; rw [Addr.add_lit]; exact h
theorem Zch {w : World} {dT sT ty elem : TypeId} {g N b : Nat} (h1 : 1 ≤ N) (hx : x.oneCell' = true) (hu : (Tryz.prog).underlying dT = some (.slice elem)) (hs : (Tryz.prog.info? elem).map (·.size) = some 1)
  (hg : w.heap[g]? = some (.cells (fillV z N 0 x).toArray elem (0,0))) (hc : w.cell? ⟨b,0,none⟩ = some x) :
  ∃ w4,(Builtin.copy_ #[dT,sT] ty #[.slice (some ⟨g,0,none⟩) N N,.slice (some ⟨b,0,none⟩) 1 1]).run Tryz.prog w = .ok (.int .i64 1) w4 ∧ w4.heap[g]? = some (.cells (fillV z N 1 x).toArray elem (0,0)) ∧ Below g w w4 := by
 have hr := run_copy_row (P := Tryz.prog) w dT sT ty elem g 0 N N ⟨b,0,none⟩ 1 1 _ elem [x] hu hs hg (Nat.min_eq_left h1).symm (Znm hc) (by simp [fillV]; omega) (Zb3 hx 1)
 refine ⟨_,hr,?_,below_setRow (Below.refl _ _) (Nat.le_refl _) _⟩; have := Z56 (z := z) (N := N) (m := 0) (k := 1) (x := x) (by omega)
 rw [setRow_heap _ _ _ _ _ _ hg,← this]; simp [splice]
theorem Zls {w : World} {dT sT ty elem : TypeId} {g N m k : Nat} (hk : k = Nat.min m (N - m)) (hm : m ≤ N) (hx : x.oneCell' = true) (hu : (Tryz.prog).underlying dT = some (.slice elem)) (hs : (Tryz.prog.info? elem).map (·.size) = some 1)
  (hg : w.heap[g]? = some (.cells (fillV z N m x).toArray elem (0,0))) :
  ∃ w4,(Builtin.copy_ #[dT,sT] ty #[.slice (some ⟨g,m,none⟩) (N - m) (N - m),.slice (some ⟨g,0,none⟩) m N]).run Tryz.prog w = .ok (.int .i64 (k : Int)) w4 ∧ w4.heap[g]? = some (.cells (fillV z N (m + k) x).toArray elem (0,0)) ∧ Below g w w4 := by
 have hkm : k ≤ m := by rw [hk]; exact Nat.min_le_left _ _
 have hkn : k ≤ N - m := by rw [hk]; exact Nat.min_le_right _ _
 have hr := run_copy_row (P := Tryz.prog) w dT sT ty elem g m (N - m) (N - m) ⟨g,0,none⟩ m N _ elem (List.replicate k x) hu hs hg (by rw [List.length_replicate]; exact hk) (fun j v hj => by
  have hjk : j < k := by have := (List.getElem?_eq_some_iff.1 hj).1; simpa using this
  simp [hjk] at hj
  subst hj; rw [Addr.add_lit,Nat.zero_add]; have e : (fillV z N m x)[j]? = some x := Zb2 (by omega)
  simp [World.cell?,hg,e]) (by rw [List.size_toArray,Zb1 hm,List.length_replicate]; omega) (Zb3 hx k)
 rw [List.length_replicate] at hr; refine ⟨_,hr,?_,below_setRow (Below.refl _ _) (Nat.le_refl _) _⟩; have := Z56 (z := z) (N := N) (m := m) (k := k) (x := x) (by omega)
 rw [setRow_heap _ _ _ _ _ _ hg,← this]; simp [splice]
theorem Zb4 : (Tryz.prog.info? 3).map (·.size) = some 1 := by kernel_rfl
theorem Zlt (x : Int) (N b : Nat) (w : World) (h1 : 1 ≤ N) (hN : N ≤ 1000) (hx : w.cell? ⟨b,0,none⟩ = some (.int .i64 x)) :
  Calls Tryz.prog 113 #[.slice (some ⟨b,0,none⟩) 1 1,.int .i64 (N : Int)] w fun e w' => ∃ g,e = .returned (.slice (some ⟨g,0,none⟩) N N) ∧ w'.rowIs g 3 N (fun _ => .int .i64 x) ∧ w.heap.size ≤ g ∧ Below w.heap.size w w' := by
 have hmk := run_make_row' (P := Tryz.prog) 37 3 (.int .i64 0) 8 Tryz.underlying37 Zj6 rfl .i64 .i64 N (by omega) (by omega)
 have hm := fun (w : World) => Tryz.bits_Mul 1 N (by omega) (by omega) w
 have e1 : 1 * N / 18446744073709551616 = 0 := by omega
 have e2 : 1 * N % 18446744073709551616 = N := by omega
 rw [e1,e2] at hm; have HM := hid hm; clear hm e1 e2; have hbw : b < w.heap.size := World.block_lt_of_cell? w _ hx; have HG0 : Hid ((w.alloc (.cells (madeCells #[.int .i64 0] N) 3)).heap[w.heap.size]? = some (.cells (fillV (.int .i64 0) N 0 (.int .i64 x)).toArray 3 (0,0))) := hid (by rw [← Zg6]; exact heap_alloc_new _ _)
 have HC0 : Hid ((w.alloc (.cells (madeCells #[.int .i64 0] N) 3)).cell? ⟨b,0,none⟩ = some (.int .i64 x)) := hid ((World.cell?_alloc_past _ _ _ hbw).trans hx); clear hx; have hd0 : decide ((N : Int) < 0) = false := by simp
 have hd1 : decide ((9223372036854775807 : Int) < (N : Int)) = false := by simp; omega
 have HB0 : Hid (Below w.heap.size w (w.alloc (.cells (madeCells #[.int .i64 0] N) 3))) := hid ((Below.refl _ _).alloc (Nat.le_refl _) _); obtain ⟨g,hg⟩ : ∃ g,g = w.heap.size := ⟨_,rfl⟩; have HGG := hid hg; clear hg; obtain ⟨w4,hcp,hg4,hb4⟩ := Zch (dT := 37) (sT := 37) (ty := 3) h1 rfl Tryz.underlying37 Zb4 HG0.out HC0.out; have HG4 : Hid (w4.heap[g]? = some (.cells (fillV (.int .i64 0) N 1 (.int .i64 x)).toArray 3 (0,0)) ∧ Below g w w4) := hid ⟨by rw [HGG.out]; exact hg4,by rw [HGG.out]; exact HB0.out.trans hb4⟩
 clear hg4 hb4 HG0 HC0 HB0; go_enter Tryz.func113,Tryz.ntmps113
 go_wp2_with (go_at_call 134; refine (HM.out _).mono ?_; rintro e w' ⟨rfl,rfl⟩)
 rw [← HGG.out]; go_loopw [8] (fun i wr => ∃ m : Nat,i = .int .i64 m ∧ 1 ≤ m ∧ m ≤ N ∧ Hid (wr.heap[g]? = some (.cells (fillV (.int .i64 0) N m (.int .i64 x)).toArray 3 (0,0)) ∧ Below g w' wr)) (fun i _ => N - (intOf i).toNat)
 case atStart => exact ⟨1,rfl,Nat.le_refl _,h1,HG4⟩
 case round =>
  obtain ⟨m,rfl,hm1,hm2,HX⟩ := hrel; clear HG4 hcp; by_cases hlt : m < N
  ·obtain ⟨k,hk⟩ : ∃ k,k = Nat.min m (N - m) := ⟨_,rfl⟩
   have hkm : k ≤ m := by rw [hk]; exact Nat.min_le_left _ _
   have hkn : k ≤ N - m := by rw [hk]; exact Nat.min_le_right _ _
   have hk1 : 1 ≤ k := by rw [hk]; exact Nat.le_min.2 ⟨hm1,by omega⟩
   obtain ⟨w5,hcp,hg5,hb5⟩ := Zls (w := wr.drew) (dT := 37) (sT := 37) (ty := 3) hk hm2 rfl Tryz.underlying37 Zb4 HX.out.1; have HG5 : Hid (w5.heap[g]? = some (.cells (fillV (.int .i64 0) N (m + k) (.int .i64 x)).toArray 3 (0,0)) ∧ Below g w' w5) := hid ⟨hg5,HX.out.2.drew.trans hb5⟩; clear hg5 hb5 hk HX; have hsum : IntKind.i64.wrap ((m : Int) + (k : Int)) = (m : Int) + (k : Int) := by rw [IntKind.wrap_i64]; omega
   have hne : ¬ N = m := by omega
   go_wp2_with fail
   go_region
   go_wp2_with fail
   go_roundw
   case rel => exact ⟨m + k,by go_num,by omega,by omega,HG5⟩
   case measure => simp [intOf]; omega
  ·obtain rfl : m = N := by omega
   go_wp2_with fail
   go_ret
   exact ⟨g,rfl,Zcg HX.out.1,by rw [HGG.out]; exact Nat.le_refl _,by rw [← HGG.out]; exact HX.out.2⟩
end Go.Proofs.YtfkommjlmolniaaGreatDoor
end
section

namespace Go.Proofs.YtfkommjlmolniaaGreatDoor
set_option maxHeartbeats 16000000
set_option maxRecDepth 100000
open Go.Lib (hid)
open Go.RowKit
variable {w w0 wr w2 w4 : World} {N s lb G : Nat} {V : Nat → Value} {L : Nat → List La} {op : La → Bool} {far far2 : Nat → Int}
structure StW (w0 wr : World) (G N : Nat) (far : Nat → Int) : Prop where
 below : Below w0.heap.size w0 wr
 row : wr.rowIs G 3 N (fun i => .int .i64 (far i))
 ge : w0.heap.size ≤ G
theorem StW.later (h : StW w0 wr G N far) (hb : Below wr.heap.size wr w2) : StW w0 w2 G N far := ⟨h.below.trans (hb.mono h.below.size),Z0a h.row hb,h.ge⟩
theorem StW.set_ (h : StW w0 wr G N far) (i : Nat) (z : Int) : StW w0 (wr.setCell ⟨G,i,none⟩ (.int .i64 z)) G N (fun j => if j = i then z else far j) :=
 ⟨h.below.setCell h.ge _,(h.row.set i _).congr (fun j _ => by split <;> rfl),h.ge⟩
theorem StW.mod {g : Nat} (h : StW w0 wr G N far) (hm : Mod (fun b => b = g) wr w2) (hg : G < g) : StW w0 w2 G N far :=
 ⟨((Mod.of_below (fun b => b = g) h.below).trans hm).below (Nat.le_refl _) (fun k hk => by have := h.ge; omega),h.row.of_block (hm.block G h.row.lt (by omega)),h.ge⟩
theorem Zhk (w2 : World) (G s : Nat) : ((w2.setCell ⟨G,s,none⟩ (.int .i64 0)).alloc (.cells #[.int .i64 (s : Int)] 3)).heap[w2.heap.size]? = some (.cells #[.int .i64 (s : Int)] 3 (0,0)) := by
 have h := heap_alloc_new (w2.setCell ⟨G,s,none⟩ (.int .i64 0)) (.cells #[.int .i64 (s : Int)] 3); have e : (w2.setCell ⟨G,s,none⟩ (.int .i64 0)).heap.size = w2.heap.size := by simp [World.setCell]
 rw [e] at h; exact h
def Fnd (w : World) (base : Nat) (fa : Option Addr) (n cap : Nat) (q : List Nat) : Prop := (n = 0 ∧ q = []) ∨ ∃ g off,fa = some ⟨g,off,none⟩ ∧ Win w base g off n cap q
theorem Fnd.below {base n cap : Nat} {fa : Option Addr} {q : List Nat} (h : Fnd w base fa n cap q) (hb : Below w.heap.size w w2) : Fnd w2 base fa n cap q := by
 rcases h with h | ⟨g,off,e,h⟩
 ·exact .inl h
 ·exact .inr ⟨g,off,e,h.below hb⟩
theorem Fnd.len {base n cap : Nat} {fa : Option Addr} {q : List Nat} (h : Fnd w base fa n cap q) : q.length = n := by
 rcases h with ⟨h1,h2⟩ | ⟨g,off,e,h⟩
 ·subst h1 h2; rfl
 ·exact h.len
theorem Za3 (N s : Nat) (hN1 : 1 ≤ N) (hN : N ≤ 1000) (hs : s < N) (w : World) (hL : Lanes w.heap.size w lb N V L) (hLn : ∀ i,(L i).length ≤ 40000) (hLt : ∀ u,u < N → ∀ a ∈ L u,a.2.1 < N) (op : La → Bool) (F : Nat) (cs : Array Value)
  (HF : ∀ (args : Array Value) (W : World),(callFunc F args).run Tryz.prog W = .ok (.enter F args) W)
  (HO : ∀ W,Below w.heap.size w W → ∀ u,u < N → ∀ k v b,(k,v,b) ∈ L u → Calls Tryz.prog F (#[.agg #[.int .i64 (k : Int),.int .i64 (v : Int),.bool b]] ++ cs) W fun e w' => e = .returned (.bool (op (k,v,b))) ∧ Below W.heap.size W w') :
  Calls Tryz.prog 81 #[.slice (some ⟨lb,0,none⟩) N N,.int .i64 (s : Int),.func (.func F) #[] cs] w fun e w' => ∃ G far,e = .returned (.slice (some ⟨G,0,none⟩) N N) ∧ w'.rowIs G 3 N (fun i => .int .i64 (far i)) ∧ w.heap.size ≤ G ∧ Below w.heap.size w w' ∧ FarOk L op N s far := by
 have HLA := hid hL; have HLN := hid hLn; have HLT := hid hLt; have HOO := hid HO; have HBE := hid (Bfs.begin_ L op hs); clear hL hLn hLt HO; go_enter Tryz.func81,Tryz.ntmps81
 go_wp2_with (go_at_call 113; refine (Zlt (-1) N w.heap.size _ hN1 hN (by simp)).mono ?_; rintro e w2 ⟨G,rfl,hrow,hge,hb2⟩; have HS0 : Hid (StW w w2 G N (fun _ => -1)) := hid ⟨((Below.refl _ w).alloc (Nat.le_refl _) _).trans (hb2.mono (by simp)),hrow,by simp at hge; omega⟩; have c0 := hrow.cell hs; have f0 := hrow.frozen s; clear hrow hge hb2)
 have HSz : Hid (G < w2.heap.size) := hid HS0.out.row.lt; have HS1 : Hid (StW w ((w2.setCell ⟨G,s,none⟩ (.int .i64 0)).alloc (.cells #[.int .i64 (s : Int)] 3)) G N (fun i => if i = s then 0 else -1)) := hid ((HS0.out.set_ s 0).later ((Below.refl _ _).alloc (Nat.le_refl _) _))
 have HF1 : Hid (Fnd ((w2.setCell ⟨G,s,none⟩ (.int .i64 0)).alloc (.cells #[.int .i64 (s : Int)] 3)) (G + 1) (some ⟨w2.heap.size,0,none⟩) 1 1 [s]) := hid (.inr ⟨w2.heap.size,0,rfl,rfl,by have := HSz.out; omega,Nat.le_refl _,by unfold maxLen; omega,_,(Zhk w2 G s),rfl,fun j i hj => by
  match j,hj with
  | 0,hj => simp at hj; subst hj; simp
  | j + 1,hj => simp at hj⟩)
 obtain ⟨W1,hW1⟩ : ∃ W1,(w2.setCell ⟨G,s,none⟩ (.int .i64 0)).alloc (.cells #[.int .i64 (s : Int)] 3) = W1 := ⟨_,rfl⟩; obtain ⟨g1,hg1⟩ : ∃ g1,w2.heap.size = g1 := ⟨_,rfl⟩; rw [hW1] at HS1 HF1; rw [hg1] at HF1; rw [hW1,hg1]; clear hW1 hg1 c0 f0 HS0 HSz; go_loopg [8] N (fun gn fv wr => ∃ (far : Nat → Int) (P q : List Nat) (fa : Option Addr) (n cap : Nat),fv = .slice fa n cap ∧ P.length + gn = N ∧ Hid (StW w wr G N far) ∧ Hid (Fnd wr (G + 1) fa n cap q) ∧ Hid (Bfs L op N s far P q 0))
 case atStart => exact ⟨_,[],[s],_,1,1,rfl,by simp,HS1,HF1,HBE⟩
 case round =>
  obtain ⟨far,P,q,fa,n,cap,rfl,hPg,HS,HFd,HB⟩ := hrel; clear HS1 HF1 HBE; match q,HFd,HB with
  | [],HFd,HB =>
   have hn0 : 0 = n := HFd.out.len; subst hn0; go_wp2_with fail
   go_ret
   exact ⟨G,far,rfl,HS.out.row,HS.out.ge,HS.out.below,HB.out.done⟩
  | c :: q2,HFd,HB =>
   have hlen := HB.out.len; simp only [List.length_cons] at hlen
   obtain ⟨g,off,hfa,hwin⟩ : ∃ g off,fa = some ⟨g,off,none⟩ ∧ Win wr (G + 1) g off n cap (c :: q2) := by
    rcases HFd.out with ⟨_,h⟩ | h
    ·cases h
    ·exact h
   subst hfa; obtain ⟨m,rfl⟩ : ∃ m,n = m + 1 := ⟨q2.length,by have := hwin.len; simp at this; omega⟩
   have hcN : c < N := HB.out.lt c (by simp)
   have hnm : m + 1 ≤ 1000 := by have h1 := hwin.len; simp at h1; omega
   have c0 : wr.cell? ⟨g,off,none⟩ = some (.int .i64 (c : Int)) := hwin.cell (j := 0) rfl; have HLW := hid (HLA.out.later HS.out.below); obtain ⟨va,vc,hv,hil⟩ := HLA.out.row c hcN; obtain ⟨M,hM⟩ : ∃ M,(L c).length = M := ⟨_,rfl⟩; have hMb : M ≤ 40000 := by have := HLN.out c; omega
   rw [hM] at hv hil; have HMM := hid hM; have r0 := HLW.out.out.cell hcN; rw [hv] at r0; have HIL := hid hil; have HWI := hid hwin; have hcp := hwin.le; have hcm := hwin.cm; unfold maxLen at hcm; clear hM hv hil hwin HFd; go_wp2_with fail
   clear c0 r0; go_loopw [8,34] (fun fv i w3 => ∃ (r : Nat) (far : Nat → Int) (q3 : List Nat) (g off n cap : Nat),fv = .slice (some ⟨g,off,none⟩) n cap ∧ i = .int .i64 r ∧ r ≤ M ∧ Hid (StW w w3 G N far) ∧ Hid (Win w3 (G + 1) g off n cap (c :: q3)) ∧ Hid (Bfs L op N s far P (c :: q3) r)) (fun _ i _ => M - (intOf i).toNat)
   case atStart => exact ⟨0,far,q2,g,off,m + 1,cap,rfl,rfl,Nat.zero_le _,HS,HWI,HB⟩
   case round =>
    clear HS HWI HB hlen hnm hcp hcm; obtain ⟨r,far,q3,g,off,n,cap,rfl,rfl,hr,HS,HW,HB⟩ := hrel; by_cases hlt : r < M
    ·obtain ⟨lb2,loff,⟨k,v,b⟩,rfl,hlbC,hj,e0,e1,e2⟩ := (HIL.out.later HS.out.below).at_ hlt
     simp only at e0 e1 e2
     have hmem := List.mem_of_getElem? hj; have hvN : v < N := HLT.out c hcN _ hmem; have HJ := hid hj; have HS1 := hid (HS.out.later ((Below.refl wr.heap.size wr).alloc (Nat.le_refl _) (.cells #[.int .i64 (k : Int),.int .i64 (v : Int),.bool b] 140))); have HW1 := hid (HW.out.below ((Below.refl wr.heap.size wr).alloc (Nat.le_refl _) (.cells #[.int .i64 (k : Int),.int .i64 (v : Int),.bool b] 140))); have HOP := hid (HOO.out _ HS1.out.below c hcN k v b hmem); have HBX : Hid ((wr.alloc (.cells #[.int .i64 (k : Int),.int .i64 (v : Int),.bool b] 140)).cell? ⟨wr.heap.size,1,none⟩ = some (.int .i64 (v : Int))) := hid (by simp)
     have HGL : Hid (wr.heap.size < (wr.alloc (.cells #[.int .i64 (k : Int),.int .i64 (v : Int),.bool b] 140)).heap.size) := hid (by simp)
     have HGG : Hid (G < wr.heap.size) := hid HS.out.row.lt; have r1 := HS1.out.row.cell hvN; obtain ⟨fv,hfv⟩ : ∃ z,far v = z := ⟨_,rfl⟩; have HFV := hid hfv; rw [hfv] at r1; have hlen := HB.out.len; simp only [List.length_cons] at hlen
     have hnl := HW.out.len; simp only [List.length_cons] at hnl
     have hn1000 : n ≤ 1000 := by omega
     clear hj hmem hlbC hfv; by_cases hneg : fv < 0
     ·cases hop : op (k,v,b) with
      | false =>
       have HN := hid (HB.out.skip rfl HJ.out hvN (.inr hop)); rw [hop] at HOP; clear hop; go_wp2_with (refine HOP.out.mono ?_; rintro e w5 ⟨rfl,hb5⟩; have HS5 := hid (HS1.out.later hb5); have HW5 := hid (HW1.out.below hb5); clear hb5)
       go_roundw
       case rel => exact ⟨r + 1,far,q3,g,off,n,cap,rfl,by go_num,by omega,HS5,HW5,HN⟩
       case measure => simp [intOf]; omega
      | true =>
       have HN := hid (HB.out.found rfl HJ.out hvN (by rw [HFV.out]; exact hneg) hop)
       rw [hop] at HOP; clear hop; go_wp2_with (refine HOP.out.mono ?_; rintro e w5 ⟨rfl,hb5⟩; have HS5 := hid (HS1.out.later hb5); have HW5 := hid (HW1.out.below hb5); have x1 : w5.cell? ⟨wr.heap.size,1,none⟩ = some (.int .i64 (v : Int)) := (hb5.cell (p := ⟨wr.heap.size,1,none⟩) HGL.out).trans HBX.out; have rc := HS5.out.row.cell hcN; have rv := HS5.out.row.cell hvN; have rf := HS5.out.row.frozen v; clear hb5)
       obtain ⟨fc,hfc⟩ : ∃ z,far c = z := ⟨_,rfl⟩; have HFC := hid hfc; have hfb : -1 ≤ fc ∧ fc ≤ 1000 := by
        have h1 := HB.out.idx P.length c (by simp)
        rcases HB.out.mem c hcN with ⟨_,m⟩ | ⟨m,_⟩
        ·exact absurd (by simp) m
        ·omega
       rw [hfc] at rc HN; have ew : IntKind.i64.wrap (fc + 1) = fc + 1 := by rw [IntKind.wrap_i64]; omega
       have HS6 := hid ((HS5.out.set_ v (fc + 1)).later (Below.refl _ _).drew); have HW6 : Hid (Win ((w5.setCell ⟨G,v,none⟩ (.int .i64 (fc + 1))).drew) (G + 1) g off n cap (c :: q3)) := hid (HW5.out.of_block (heap_setCell_other _ _ _ _ (fun e => by have h1 : g = G := e; have := HW5.out.ge; omega)))
       have HX6 : Hid (((w5.setCell ⟨G,v,none⟩ (.int .i64 (fc + 1))).drew).cell? ⟨wr.heap.size,1,none⟩ = some (.int .i64 (v : Int))) := hid ((World.cell?_of_block (heap_setCell_other _ _ _ _ (fun e => by have h1 : wr.heap.size = G := e; have := HGG.out; omega))).trans x1)
       clear hfc hfb; go_region
       obtain ⟨w6,hw6⟩ : ∃ w6,(w5.setCell ⟨G,v,none⟩ (.int .i64 (fc + 1))).drew = w6 := ⟨_,rfl⟩; rw [hw6] at HS6 HW6 HX6 ⊢; clear hw6 x1 rc rv rf r1 e0 e1 e2; have x6 := HX6.out; have HWA := hid (HW6.out.below ((Below.refl w6.heap.size w6).alloc (Nat.le_refl _) (.cells #[.int .i64 (v : Int)] 3))); have HGS : Hid (G + 1 ≤ (w6.alloc (.cells #[.int .i64 (v : Int)] 3)).heap.size) := hid (by have := HS6.out.row.lt; simp; omega)
       have HS7a := hid (HS6.out.later ((Below.refl w6.heap.size w6).alloc (Nat.le_refl _) (.cells #[.int .i64 (v : Int)] 3))); have HGL2 : Hid (G < g) := hid (by have := HW6.out.ge; omega)
       clear hlen hnl; go_wp2_with (at_builtin; refine Z4p rfl (.tmp 58) (.tmp 61) rfl HWA.out hn1000 HGS.out rfl ⟨w6.heap.size,0,none⟩ 1 v rfl (Z1b _ _ _ _ rfl) ?_; intro g2 off2 cap2 w7 hw7 hm7; have HS7 := hid (HS7a.out.mod hm7 HGL2.out); have HW7 := hid hw7; clear hw7 hm7)
       go_roundw
       case rel => exact ⟨r + 1,_,q3 ++ [v],g2,off2,n + 1,cap2,rfl,by go_num,by omega,HS7,HW7,HN⟩
       case measure => simp [intOf]; omega
     ·have HN := hid (HB.out.skip rfl HJ.out hvN (.inl (by rw [HFV.out]; show (0:Int) ≤ fv; omega)))
      go_wp2_with fail
      go_roundw
      case rel => exact ⟨r + 1,far,q3,g,off,n,cap,rfl,by go_num,by omega,HS1,HW1,HN⟩
      case measure => simp [intOf]; omega
    ·have HN := hid (HB.out.next rfl (by have := HMM.out; omega))
     have hlen := HB.out.len; simp only [List.length_cons] at hlen
     obtain ⟨n,rfl⟩ : ∃ m,n = m + 1 := ⟨q3.length,by have := HW.out.len; simp at this; omega⟩
     obtain ⟨cap,rfl⟩ : ∃ m,cap = m + 1 := ⟨cap - 1,by have := HW.out.le; omega⟩
     have hcm := HW.out.cm; unfold maxLen at hcm; have hcn : n ≤ cap := by have := HW.out.le; omega
     have h1 : ¬ (n : Int) + 1 < 1 := by omega
     by_cases hc0 : cap = 0
     ·subst hc0
      obtain rfl : n = 0 := by omega
      have hq3 : q3 = [] := List.eq_nil_of_length_eq_zero (by have := HW.out.len; simpa using this)
      subst hq3; go_wp2_with fail
      go_roundg (gk - 1)
      case measure => omega
      case rel => exact ⟨far,P ++ [c],[],_,0,_,rfl,by simp; omega,HS,hid (.inl ⟨rfl,rfl⟩),HN⟩
     ·have hc1 : ¬ cap + 1 = 1 := by omega
      have HWT := hid (HW.out.tail rfl); go_wp2_with fail
      go_roundg (gk - 1)
      case measure => omega
      case rel => exact ⟨far,P ++ [c],q3,some ⟨g,off + 1,none⟩,n,cap,by simp,by simp; omega,HS,hid (.inr ⟨g,off + 1,rfl,HWT.out⟩),HN⟩
end Go.Proofs.YtfkommjlmolniaaGreatDoor
end

/- Going on by lanes that are open, the nearest first. (Plain mathematics.) -/
import Derived.Test.YtifhapmblofmkaaPushT
import Derived.Test.YtifhapmblofmkaaOwn
namespace Go.Proofs.Ytifhapmblofmkaa
open Go.RowKit

variable {N s u v at_ r k : Nat} {L : Nat → List La} {op : La → Bool} {far : Nat → Int} {P q : List Nat} {a : La}
/-- Where one comes by open lanes. -/
inductive ByOpen (L : Nat → List La) (op : La → Bool) (s : Nat) : Nat → Prop
  | here : ByOpen L op s s
  | go {u : Nat} {a : La} (h : ByOpen L op s u) (ha : a ∈ L u) (ho : op a = true) : ByOpen L op s a.2.1
theorem nodup_leB : ∀ (N : Nat) (o : List Nat), o.Nodup → (∀ i ∈ o, i < N) → o.length ≤ N
  | 0, o, _, h => by
    have : o = [] := List.eq_nil_iff_forall_not_mem.2 (fun i hi => by have := h i hi; omega)
    subst this
    exact Nat.le_refl _
  | N + 1, o, hn, h => by
    have hn2 : (o.erase N).Nodup := hn.erase N
    have h1 := nodup_leB N (o.erase N) hn2 (fun i hi => by
      have hm := (hn.mem_erase_iff.1 hi)
      have := h i hm.2
      omega)
    by_cases hN : N ∈ o
    · have hl := List.length_erase_of_mem hN
      have hpos : 0 < o.length := List.length_pos_of_mem hN
      omega
    · rw [List.erase_of_not_mem hN] at h1
      omega
/-- P is done, q is to be done, the first r lanes of its head are done. -/
structure Bfs (L : Nat → List La) (op : La → Bool) (N s : Nat) (far : Nat → Int) (P q : List Nat) (r : Nat) : Prop where
  nd : (P ++ q).Nodup
  lt : ∀ i ∈ P ++ q, i < N
  mem : ∀ i, i < N → (far i = -1 ∧ i ∉ P ++ q) ∨ (0 ≤ far i ∧ i ∈ P ++ q)
  start : far s = 0
  here : s ∈ P ++ q
  ord : (P ++ q).Pairwise (fun i j => far i ≤ far j)
  near : ∀ c q2, q = c :: q2 → ∀ i ∈ q, far i ≤ far c + 1
  idx : ∀ (j i : Nat), (P ++ q)[j]? = some i → far i ≤ (j : Int)
  closed : ∀ u ∈ P, ∀ a ∈ L u, op a = true → 0 ≤ far a.2.1 ∧ far a.2.1 ≤ far u + 1
  part : ∀ c q2, q = c :: q2 → ∀ a ∈ (L c).take r, op a = true → 0 ≤ far a.2.1 ∧ far a.2.1 ≤ far c + 1
  sound : ∀ i ∈ P ++ q, ByOpen L op s i
theorem Bfs.begin_ (L : Nat → List La) (op : La → Bool) (hs : s < N) : Bfs L op N s (fun i => if i = s then 0 else -1) [] [s] 0 := by
  refine ⟨by simp, by simp; exact hs, fun i _ => ?_, by simp, by simp, by simp, fun c q2 h i hi => ?_, fun j i h => ?_, fun u hu => (nomatch hu), fun c q2 _ a ha => ?_, fun i hi => ?_⟩
  · by_cases e : i = s
    · subst e; simp
    · simp [e]
  · simp at h hi
    obtain ⟨rfl, _⟩ := h
    subst hi
    omega
  · match j, h with
    | 0, h => simp at h; subst h; simp
    | j + 1, h => simp at h
  · rw [List.take_zero] at ha; exact nomatch ha
  · simp at hi; subst hi; exact .here
theorem Bfs.skip (h : Bfs L op N s far P q r) {c : Nat} {q2 : List Nat} (hq : q = c :: q2) (ha : (L c)[r]? = some a) (hv : a.2.1 < N) (hb : 0 ≤ far a.2.1 ∨ op a = false) : Bfs L op N s far P q (r + 1) := by
  refine ⟨h.nd, h.lt, h.mem, h.start, h.here, h.ord, h.near, h.idx, h.closed, fun c2 q3 e b hb2 hob => ?_, h.sound⟩
  have e2 : c2 = c := by rw [hq] at e; injection e with e1 _; exact e1.symm
  subst e2
  rw [List.take_add_one, ha, List.mem_append] at hb2
  rcases hb2 with hb2 | hb2
  · exact h.part c2 q3 e b hb2 hob
  · simp only [Option.toList_some, List.mem_singleton] at hb2
    subst hb2
    rcases hb with hb | hb
    · refine ⟨hb, ?_⟩
      rcases h.mem b.2.1 hv with ⟨m, _⟩ | ⟨_, m⟩
      · omega
      · rw [List.mem_append] at m
        rcases m with m | m
        · have ho := h.ord
          rw [List.pairwise_append] at ho
          have := ho.2.2 b.2.1 m c2 (by rw [hq]; simp)
          omega
        · exact h.near c2 q2 hq b.2.1 m
    · rw [hb] at hob; cases hob
theorem Bfs.found (h : Bfs L op N s far P q r) {c : Nat} {q2 : List Nat} (hq : q = c :: q2) (ha : (L c)[r]? = some a) (hv : a.2.1 < N) (hn : far a.2.1 < 0) (ho : op a = true) :
    Bfs L op N s (fun i => if i = a.2.1 then far c + 1 else far i) P (q ++ [a.2.1]) (r + 1) := by
  have hcm : c ∈ P ++ q := by rw [hq]; simp
  have hnew : a.2.1 ∉ P ++ q := fun m => by
    rcases h.mem a.2.1 hv with ⟨_, m2⟩ | ⟨m2, _⟩
    · exact m2 m
    · omega
  have hc0 : 0 ≤ far c := by
    rcases h.mem c (h.lt c hcm) with ⟨_, m2⟩ | ⟨m2, _⟩
    · exact absurd hcm m2
    · exact m2
  have hne : ∀ i ∈ P ++ q, i ≠ a.2.1 := fun i hi e => by subst e; exact hnew hi
  have hold : ∀ i ∈ P ++ q, (if i = a.2.1 then far c + 1 else far i) = far i := fun i hi => by rw [if_neg (hne i hi)]
  have last : ∀ i ∈ P ++ q, far i ≤ far c + 1 := fun i hi => by
    rw [List.mem_append] at hi
    rcases hi with hi | hi
    · have ho := h.ord
      rw [List.pairwise_append] at ho
      have := ho.2.2 i hi c (by rw [hq]; simp)
      omega
    · exact h.near c q2 hq i hi
  have hap : P ++ (q ++ [a.2.1]) = (P ++ q) ++ [a.2.1] := by rw [List.append_assoc]
  have hup : ∀ b : La, (0 ≤ far b.2.1 ∧ far b.2.1 ≤ far c + 1) → 0 ≤ (if b.2.1 = a.2.1 then far c + 1 else far b.2.1) ∧ (if b.2.1 = a.2.1 then far c + 1 else far b.2.1) ≤ far c + 1 := fun b hb => by
    split <;> omega
  have hsn : s ≠ a.2.1 := hne s h.here
  refine ⟨?_, fun i hi => ?_, fun i hi => ?_, ?_, ?_, ?_, fun c3 q3 e i hi => ?_, fun j i hj => ?_, fun u hu b hb hob => ?_, fun c3 q3 e b hb2 hob => ?_, fun i hi => ?_⟩
  · rw [hap, List.nodup_append]
    refine ⟨h.nd, by simp, fun x hx y hy => ?_⟩
    simp at hy
    subst hy
    exact hne x hx
  · rw [hap, List.mem_append] at hi
    rcases hi with hi | hi
    · exact h.lt i hi
    · simp at hi; subst hi; exact hv
  · rw [hap, List.mem_append]
    by_cases e : i = a.2.1
    · right; subst e; simp; omega
    · rw [if_neg e]
      rcases h.mem i hi with ⟨m1, m2⟩ | ⟨m1, m2⟩
      · left; exact ⟨m1, fun m => by
          rcases m with m | m
          · exact m2 m
          · simp at m; exact e m⟩
      · exact .inr ⟨m1, .inl m2⟩
  · rw [if_neg hsn]; exact h.start
  · rw [hap]; exact List.mem_append_left _ h.here
  · rw [hap, List.pairwise_append]
    refine ⟨h.ord.imp_of_mem (fun hx hy hxy => by rw [hold _ hx, hold _ hy]; exact hxy), by simp, fun x hx y hy => ?_⟩
    simp at hy
    subst hy
    rw [hold x hx, if_pos rfl]
    exact last x hx
  · have e2 : c3 = c := by rw [hq] at e; injection e with e1 _; exact e1.symm
    subst e2
    rw [hold c3 hcm]
    rw [List.mem_append] at hi
    rcases hi with hi | hi
    · rw [hold i (by simp [hi])]; exact h.near c3 q2 hq i hi
    · simp at hi; subst hi; rw [if_pos rfl]; omega
  · rw [hap, List.getElem?_append] at hj
    split at hj
    · rw [hold i (List.mem_of_getElem? hj)]; exact h.idx j i hj
    · rename_i hlen
      have hj0 : j - (P ++ q).length = 0 := by
        have := (List.getElem?_eq_some_iff.1 hj).1
        simp only [List.length_singleton] at this
        omega
      rw [hj0] at hj
      simp at hj
      subst hj
      rw [if_pos rfl]
      have hPl : far c ≤ (P.length : Int) := h.idx P.length c (by rw [hq]; simp)
      have : P.length + 1 ≤ (P ++ q).length := by rw [hq]; simp
      omega
  · have hu2 : u ∈ P ++ q := List.mem_append_left _ hu
    rw [hold u hu2]
    obtain ⟨b1, b2⟩ := h.closed u hu b hb hob
    by_cases e : b.2.1 = a.2.1
    · exfalso; rw [e] at b1; omega
    · rw [if_neg e]; exact ⟨b1, b2⟩
  · have e2 : c3 = c := by rw [hq] at e; injection e with e1 _; exact e1.symm
    subst e2
    rw [hold c3 hcm]
    rw [List.take_add_one, ha, List.mem_append] at hb2
    rcases hb2 with hb2 | hb2
    · exact hup b (h.part c3 q2 hq b hb2 hob)
    · simp only [Option.toList_some, List.mem_singleton] at hb2
      subst hb2
      rw [if_pos rfl]
      omega
  · rw [hap, List.mem_append] at hi
    rcases hi with hi | hi
    · exact h.sound i hi
    · simp at hi; subst hi
      exact .go (h.sound c hcm) (List.mem_of_getElem? ha) ho
/-- The head is done. -/
theorem Bfs.next (h : Bfs L op N s far P q r) {c : Nat} {q2 : List Nat} (hq : q = c :: q2) (hr : (L c).length ≤ r) : Bfs L op N s far (P ++ [c]) q2 0 := by
  have hap : (P ++ [c]) ++ q2 = P ++ q := by rw [hq]; simp
  have hcm : c ∈ q := by rw [hq]; simp
  refine ⟨by rw [hap]; exact h.nd, fun i hi => h.lt i (by rw [hap] at hi; exact hi), fun i hi => by rw [hap]; exact h.mem i hi, h.start, by rw [hap]; exact h.here, by rw [hap]; exact h.ord, fun c3 q3 e i hi => ?_, fun j i hj => by rw [hap] at hj; exact h.idx j i hj, fun u hu b hb hob => ?_, fun c3 q3 _ b hb => (by rw [List.take_zero] at hb; exact nomatch hb), fun i hi => h.sound i (by rw [hap] at hi; exact hi)⟩
  · have h1 := h.near c q2 hq i (by rw [hq]; simp [hi])
    have ho := h.ord
    rw [List.pairwise_append, hq, List.pairwise_cons] at ho
    have := ho.2.1.1 c3 (by rw [e]; simp)
    omega
  · rw [List.mem_append] at hu
    rcases hu with hu | hu
    · exact h.closed u hu b hb hob
    · simp at hu
      subst hu
      exact h.part u q2 hq b (by rw [List.take_of_length_le hr]; exact hb) hob
theorem Bfs.len (h : Bfs L op N s far P q r) : P.length + q.length ≤ N := by
  have := nodup_leB N (P ++ q) h.nd h.lt
  rwa [List.length_append] at this
/-- How far nodes are. -/
structure FarOk (L : Nat → List La) (op : La → Bool) (N s : Nat) (far : Nat → Int) : Prop where
  start : far s = 0
  small : ∀ i, i < N → far i = -1 ∨ (0 ≤ far i ∧ far i < (N : Int))
  closed : ∀ u, u < N → 0 ≤ far u → ∀ a ∈ L u, op a = true → 0 ≤ far a.2.1 ∧ far a.2.1 ≤ far u + 1
  sound : ∀ i, i < N → 0 ≤ far i → ByOpen L op s i
theorem Bfs.done (h : Bfs L op N s far P [] r) : FarOk L op N s far := by
  have hl := h.len
  simp only [List.length_nil, Nat.add_zero] at hl
  refine ⟨h.start, fun i hi => ?_, fun u hu h0 => ?_, fun i hi h0 => ?_⟩
  · rcases h.mem i hi with ⟨m, _⟩ | ⟨m, m2⟩
    · exact .inl m
    · obtain ⟨j, hj⟩ := List.getElem?_of_mem m2
      have := h.idx j i hj
      have h3 := (List.getElem?_eq_some_iff.1 hj).1
      rw [List.append_nil] at h3
      exact .inr ⟨m, by omega⟩
  · rcases h.mem u hu with ⟨m, _⟩ | ⟨_, m2⟩
    · omega
    · rw [List.append_nil] at m2
      exact h.closed u m2
  · rcases h.mem i hi with ⟨m, _⟩ | ⟨_, m2⟩
    · omega
    · exact h.sound i m2

/-! ### The row that nodes are taken from at its head -/
/-- The slice from offset off of block g on holds these nodes; there is room for cap. -/
structure Win (w : World) (base g off n cap : Nat) (q : List Nat) : Prop where
  len : q.length = n
  ge : base ≤ g
  le : n ≤ cap
  cm : cap ≤ maxLen
  blk : ∃ cs : Array Value, w.heap[g]? = some (.cells cs 3 (0, 0)) ∧ cs.size = off + cap ∧ ∀ (j i : Nat), q[j]? = some i → cs[off + j]? = some (.int .i64 (i : Int))
variable {w w2 : World} {base g off n cap : Nat}
theorem Win.lt (h : Win w base g off n cap q) : g < w.heap.size := by
  obtain ⟨cs, hb, _⟩ := h.blk
  exact (Array.getElem?_eq_some_iff.1 hb).1
theorem Win.cell (h : Win w base g off n cap q) {j i : Nat} (hj : q[j]? = some i) : w.cell? ⟨g, off + j, none⟩ = some (.int .i64 (i : Int)) := by
  obtain ⟨cs, hb, _, hc⟩ := h.blk
  simp [World.cell?, hb, hc j i hj]
theorem Win.of_block (h : Win w base g off n cap q) (e : w2.heap[g]? = w.heap[g]?) : Win w2 base g off n cap q := by
  obtain ⟨cs, hb, hr⟩ := h.blk
  exact ⟨h.len, h.ge, h.le, h.cm, cs, e.trans hb, hr⟩
theorem Win.below (h : Win w base g off n cap q) (hb : Below w.heap.size w w2) : Win w2 base g off n cap q := h.of_block (hb.block g h.lt)
theorem Win.tail {c : Nat} {q2 : List Nat} (h : Win w base g off (n + 1) (cap + 1) q) (hq : q = c :: q2) : Win w base g (off + 1) n cap q2 := by
  obtain ⟨cs, hb, hs, hc⟩ := h.blk
  have h1 := h.len
  have h2 := h.le
  have h3 := h.cm
  subst hq
  refine ⟨by simpa using h1, h.ge, by omega, by omega, cs, hb, by omega, fun j i hj => ?_⟩
  have := hc (j + 1) i (by simpa using hj)
  rw [← this]
  congr 1
  omega
theorem infoIntW : (Try.prog.info? 3).map (fun i => (i.zero, i.size, i.bytes)) = some (some (.int .i64 0), 1, 8) := by kernel_rfl
theorem setCells_one (w : World) (b o : Nat) (v : Value) : w.setCells b o [v] = w.setCell ⟨b, o, none⟩ v := rfl
/-- One node more behind it. -/
theorem run_append_win (ty : TypeId) (h : Win w base g off n cap q) (hn : n ≤ 1000) (hbs : base ≤ w.heap.size) (ad : Addr) (c : Nat) (i : Nat) (hnew : ∀ (j : Nat) (u : Value), [Value.int .i64 (i : Int)][j]? = some u → w.cell? (ad.add j) = some u) :
    ∃ g2 off2 cap2 w', (Builtin.append_ #[57, 57] ty #[.slice (some ⟨g, off, none⟩) n cap, .slice (some ad) 1 c]).run Try.prog w = .ok (.slice (some ⟨g2, off2, none⟩) (n + 1) cap2) w' ∧
      Win w' base g2 off2 (n + 1) cap2 (q ++ [i]) ∧ Mod (fun b => b = g) w w' := by
  obtain ⟨i0, hi, hz0, hz1, hz2⟩ := info_parts infoIntW
  obtain ⟨cs, hb, hs, hc⟩ := h.blk
  have hlen := h.len
  have h1c : ∀ u ∈ [Value.int .i64 (i : Int)], u.oneCell' = true := one_int _
  by_cases hroom : n + 1 ≤ cap
  · have hrow : w.rowIs g 3 cs.size (fun j => cs.getD j undef) := ⟨cs, hb, rfl, fun j hj => by simp [Array.getD, hj]⟩
    have hr := run_append_room_cells (P := Try.prog) w 57 ty 3 i0 Try.underlying57 hi g off n cap ad 1 c [.int .i64 (i : Int)] (by rw [hz1]; rfl) hnew h1c hroom
      (fun j hj => by
        have hj0 : j = 0 := by simpa using hj
        subst hj0
        rw [hz1, Nat.mul_one, Nat.add_zero, hrow.cell (by omega)]
        rfl)
      (fun j _ => hrow.frozen _)
    rw [hz1, Nat.mul_one, setCells_one] at hr
    refine ⟨g, off, cap, _, hr, ⟨by simp [hlen], h.ge, hroom, h.cm, cs.setIfInBounds (off + n) (.int .i64 (i : Int)), heap_setCell_same _ _ _ _ _ _ hb, by simpa using hs, fun j u hj => ?_⟩, (Mod.refl (fun b => b = g) w).setCell (p := ⟨g, off + n, none⟩) (.inr rfl) _⟩
    rw [Array.getElem?_setIfInBounds]
    rw [List.getElem?_append] at hj
    split at hj
    · rename_i hlt
      rw [if_neg (by omega)]
      exact hc j u hj
    · rename_i hge
      have hj0 : j - q.length = 0 := by
        have := (List.getElem?_eq_some_iff.1 hj).1
        simp only [List.length_singleton] at this
        omega
      have hjn : j = n := by omega
      rw [hj0] at hj
      simp at hj
      subst hj hjn
      rw [if_pos rfl, if_pos (by omega)]
  · have hcap : cap = n := by have := h.le; omega
    have hr := run_append_grow (P := Try.prog) w 57 ty 3 i0 _ Try.underlying57 hi hz0 ⟨g, off, none⟩ n cap (q.map (fun i : Nat => Value.int .i64 (i : Int))) (by rw [hz1]; simp [hlen]) (fun j u hj => by
        rw [List.getElem?_map] at hj
        cases hq : q[j]? with
        | none => rw [hq] at hj; cases hj
        | some x =>
          rw [hq] at hj
          simp at hj
          subst hj
          rw [Addr.add_lit]
          exact h.cell hq) ad 1 c [.int .i64 (i : Int)] (by rw [hz1]; rfl) hnew (by omega) (by omega) (growslice_fits (by omega) (by rw [hz2]; omega))
    refine ⟨w.heap.size, 0, _, _, hr, ⟨by simp [hlen], hbs, grownCap_ge w (n + 1) cap _, grownCap_le_maxLen w (n + 1) cap _ (by unfold maxLen; omega), _, _root_.Go.heap_alloc_new w.drew _, ?_, fun j u hj => ?_⟩, ((Mod.refl (fun b => b = g) w).drew).alloc _⟩
    · have hge := grownCap_ge w (n + 1) cap 3
      simp only [Array.size_append, List.size_toArray, size_zeroCells, List.length_map, hlen, List.length_singleton, Value.cells]
      simp
      omega
    · rw [Nat.zero_add, Array.getElem?_append_left (by
        have := (List.getElem?_eq_some_iff.1 hj).1
        simp only [List.length_append, List.length_singleton] at this
        simp [hlen]; omega)]
      have e : ((q.map (fun i : Nat => Value.int .i64 (i : Int))).toArray ++ [Value.int .i64 (i : Int)].toArray)[j]? = ((q ++ [i]).map (fun i : Nat => Value.int .i64 (i : Int)))[j]? := by simp
      rw [e, List.getElem?_map, hj]
      rfl
theorem wpList_append_win {ops : Array Oper} {rest : List Oper} {o : Oper} {a : Act} {Q : Exit → Act → World → Prop} (hgd : o.guard = none) (s x : Operand)
    (ho : o.op = .call { callee := .builtin .append, args := #[s, x], argTypes := #[57, 57] }) (h : Win w base g off n cap q) (hn : n ≤ 1000) (hbs : base ≤ w.heap.size)
    (hs : a.eval s = .slice (some ⟨g, off, none⟩) n cap) (ad : Addr) (c : Nat) (i : Nat) (hx : a.eval x = .slice (some ad) 1 c) (hnew : ∀ (j : Nat) (u : Value), [Value.int .i64 (i : Int)][j]? = some u → w.cell? (ad.add j) = some u)
    (hk : ∀ g2 off2 cap2 w', Win w' base g2 off2 (n + 1) cap2 (q ++ [i]) → Mod (fun b => b = g) w w' → wpList Try.prog ops Q rest (a.put o.dst (.slice (some ⟨g2, off2, none⟩) (n + 1) cap2)) w') : wpList Try.prog ops Q (o :: rest) a w := by
  refine wpList_plain hgd fun _ hK => ?_
  obtain ⟨g2, off2, cap2, w', hr, h2, h3⟩ := run_append_win o.type h hn hbs ad c i hnew
  unfold Oper.wp execOp
  simp only [ho, resolve, invoke, builtin, Sem.run_bind, Sem.run_pure, Result.andThen_ok, List.map_toArray, List.map_cons, List.map_nil, hs, hx, hr]
  exact hK _ _ (hk g2 off2 cap2 w' h2 h3)
end Go.Proofs.Ytifhapmblofmkaa

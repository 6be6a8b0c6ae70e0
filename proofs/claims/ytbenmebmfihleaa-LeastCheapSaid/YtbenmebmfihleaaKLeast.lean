/- Package least: Least. -/
import Derived.Test.YtbenmebmfihleaaKCheck
import Derived.Test.YtbenmebmfihleaaKRefine
import Derived.Test.YtbenmebmfihleaaMSettle
import Derived.Test.YtbenmebmfihleaaMSend
import Derived.Test.YtbenmebmfihleaaKBegun
import Derived.BigRegion
namespace Go.Proofs.Ytbenmebmfihleaa
open Go.RowKit

variable {w wr w2 : World} {a : Option Addr} {len cap N s t co r : Nat} {l : List Pi} {want : Int} {E : EnvK} {fl h st f2 h2 st2 : Nat → Int} {T : TypeId}
/-- A result's cells, where all three are stored. -/
theorem res_stored {u v x : Value} (h : w.heap[r]? = some (.cells #[u, v, x] T (0, 0))) (y0 y1 y2 : Value) :
    (((w.setCell ⟨r, 0, none⟩ y0).setCell ⟨r, 1, none⟩ y1).setCell ⟨r, 2, none⟩ y2).heap[r]? = some (.cells #[y0, y1, y2] T (0, 0)) := by
  have h1 := heap_setCell_same w r 0 _ _ y0 h
  have h2 := heap_setCell_same _ r 1 _ _ y1 h1
  exact heap_setCell_same _ r 2 _ _ y2 h2
theorem res_cells {u v x : Value} (h : w.heap[r]? = some (.cells #[u, v, x] T (0, 0))) : w.cell? ⟨r, 0, none⟩ = some u ∧ w.cell? ⟨r, 1, none⟩ = some v ∧ w.cell? ⟨r, 2, none⟩ = some x ∧ (∀ k, w.frozen? ⟨r, k, none⟩ = false) ∧ r < w.heap.size :=
  ⟨by simp [World.cell?, h], by simp [World.cell?, h], by simp [World.cell?, h], fun k => by simp [World.frozen?, h], (Array.getElem?_eq_some_iff.1 h).1⟩
theorem infoResK : (Try.prog.info? 36).map (fun i => i.size) = some 3 := by kernel_rfl
set_option maxHeartbeats 1000000 in
theorem leastK_bad (n s t want : Int) (len cap : Nat) (l : List Pi) (a : Option Addr) (w : World) (he : leastErr n l s t want ≠ 0) (hl : IsPipes w.heap.size w a len l) :
    Calls Try.prog 12 #[.agg #[.int .i64 n, .slice a len cap], .int .i64 s, .int .i64 t, .int .i64 want] w fun e w' => Below w.heap.size w w' ∧
      ∃ a1 c1 a2 c2, e = .returned (.tuple #[.agg #[.slice a1 0 c1, .int .i64 0, .slice a2 0 c2], .int .i64 (leastErr n l s t want)]) := by
  have HG0 := Lib.hid (NBox.make (Below.refl _ w) n a len cap)
  have HG := Lib.hid (HG0.out.alloc (.cells #[.slice none 0 0, .int .i64 0, .slice none 0 0] 36))
  have HR := Lib.hid (heap_alloc_new (w.alloc (.cells #[.int .i64 n, .slice a len cap] 27)) (.cells #[.slice none 0 0, .int .i64 0, .slice none 0 0] 36))
  have hsz : (w.alloc (.cells #[.int .i64 n, .slice a len cap] 27)).heap.size = w.heap.size + 1 := by simp
  rw [hsz] at HR
  have HCA := Lib.hid (checkK_any n s t want len cap l a _ (HG.out.pipesHere hl))
  have heb : (leastErr n l s t want != 0) = true := by simpa using he
  generalize leastErr n l s t want = v at *
  clear hl he hsz HG0
  go_enter Try.func12, Try.ntmps12
  go_wp2_with (go_at_call 22; refine HCA.out.mono ?_; rintro e w2 ⟨rfl, hb2⟩; have HG2 := Lib.hid (HG.out.later hb2); have HR2 := Lib.hid ((hb2.block (w.heap.size + 1) (by simp)).trans HR.out); obtain ⟨r0, r1, r2, r3, r4⟩ := res_cells HR2.out; clear hb2)
  have h3 := res_stored HR2.out (.slice none 0 0) (.int .i64 0) (.slice none 0 0)
  obtain ⟨q0, q1, q2, _, _⟩ := res_cells h3
  refine bodyPost_ret (v := .tuple #[.agg #[.slice none 0 0, .int .i64 0, .slice none 0 0], .int .i64 v]) ?_ rfl ⟨((HG2.out.below.setCell (p := ⟨w.heap.size + 1, 0, none⟩) (by simp) _).setCell (p := ⟨w.heap.size + 1, 1, none⟩) (by simp) _).setCell (p := ⟨w.heap.size + 1, 2, none⟩) (by simp) _, _, _, _, _, rfl⟩
  simp [results, Try.results12, go_sem, q0, q1, q2]
/-! ### Where so much can flow -/
/-- Between two refinements: nothing stays, and nodes lie within what so many bits of costs can lift them to. -/
structure Rd (E : EnvK) (s t : Nat) (want : Int) (co : Nat) (fl h st : Nat → Int) : Prop where
  sT : ST E.l E.N s t want co fl h st
  zero : ∀ i, i < E.N → st i = 0
  high : ∀ i, i < E.N → 0 ≤ h i ∧ h i ≤ 1000 * (((2 ^ (33 - co) : Nat) : Int) - 1)
  none_ : want = 0 → (fl = fun _ => 0) ∧ ∀ i, i < E.N → h i = 0
theorem pow_step {co : Nat} (h : co + 1 ≤ 33) : ∃ P : Nat, 2 ^ (33 - (co + 1)) = P ∧ 2 ^ (33 - co) = 2 * P ∧ 1 ≤ P ∧ P ≤ 4294967296 := by
  refine ⟨2 ^ (33 - (co + 1)), rfl, ?_, Nat.one_le_two_pow, ?_⟩
  · have e : 33 - co = (33 - (co + 1)) + 1 := by omega
    rw [e, Nat.pow_succ, Nat.mul_comm]
  · have e : (4294967296 : Nat) = 2 ^ 32 := by decide
    rw [e]
    exact Nat.pow_le_pow_right (by omega) (by omega)
theorem Rd.near (H : Rd E s t want co fl h st) (hco : co ≤ 33) : ∀ i, i < E.N → 0 ≤ h i ∧ h i ≤ 8589934591000 := fun i hi => by
  have h1 := H.high i hi
  have h2 : 2 ^ (33 - co) ≤ 2 ^ 33 := Nat.pow_le_pow_right (by omega) (by omega)
  have e : (2 : Nat) ^ 33 = 8589934592 := by decide
  rw [e] at h2
  generalize 2 ^ (33 - co) = P at h1 h2
  omega
/-- Ahead of a refinement. -/
theorem Rd.refinable (H : Rd E s t want (co + 1) fl h st) (hco : co + 1 ≤ 33) : ∀ i, i < E.N → 0 ≤ h i ∧ h i ≤ 4294967296000 := fun i hi => by
  have h1 := H.high i hi
  obtain ⟨P, e1, _, _, e4⟩ := pow_step hco
  rw [e1] at h1
  omega
theorem twice_of (i : Nat) (hi : i < E.N) : twice h E.N i = 2 * h i := by unfold twice; rw [if_pos hi, Int.mul_comm]
theorem cutF_none (l : List Pi) (co : Nat) (h : Nat → Int) (c : Nat) : cutF l co h (fun _ => 0) c = fun _ => 0 := by
  funext k
  unfold cutF
  split
  · split
    · split <;> rfl
    · rfl
  · rfl
/-- Behind a refinement, and behind the settling of it. -/
theorem Rd.step (H : Rd E s t want (co + 1) fl h st) (hn : NetK E.l E.N s t want E.L) (hco : co + 1 ≤ 33) (hb : Bal E.l E.N s t want (cutF E.l co (twice h E.N) fl E.l.length) st2) :
    ST E.l E.N s t want co (cutF E.l co (twice h E.N) fl E.l.length) (twice h E.N) st2 ∧ Ref E.l E.N s t want co fl (twice h E.N) ∧ (∀ i, i < E.N → 0 ≤ twice h E.N i ∧ twice h E.N i + (E.N : Int) ≤ 8589934592000) ∧
      ∀ f3 h3 st3, SetG E s t want co (cutF E.l co (twice h E.N) fl E.l.length) (twice h E.N) st2 f3 h3 st3 → Rd E s t want co f3 h3 st3 := by
  obtain ⟨P, e1, e2, e3, e4⟩ := pow_step hco
  have hN := hn.nm
  have hh := H.high
  rw [e1] at hh
  refine ⟨H.sT.refine hn (fun i hi => twice_of i hi) hb, H.sT.ref hn H.zero (fun i hi => twice_of i hi), fun i hi => ?_, fun f3 h3 st3 g => ⟨g.sT, g.zero, fun i hi => ?_, fun hw => ?_⟩⟩
  · have := hh i hi
    rw [twice_of i hi]
    omega
  · have a1 := g.high i hi
    have a2 := hh i hi
    rw [twice_of i hi] at a1
    rw [e2]
    omega
  · obtain ⟨f0, h0⟩ := H.none_ hw
    subst f0
    have hz : ∀ i, i < E.N → st2 i = 0 := fun i hi => by
      have := hb i hi
      rw [cutF_none, netTo_zero] at this
      rw [this]
      unfold duty
      split
      · omega
      · split <;> omega
    obtain ⟨a1, a2, _⟩ := g.same hz
    refine ⟨by rw [a1, cutF_none], fun i hi => ?_⟩
    rw [a2 i hi, twice_of i hi, h0 i hi]
    rfl
/-- At last. -/
theorem Rd.done (H : Rd E s t want 0 fl h st) (hn : NetK E.l E.N s t want E.L) : IsLeast E.l E.N fl (laid h s t) s t want (costP E.l fl E.l.length) ∧ laid h s t s = 0 ∧ ∀ i, i < E.N → laid h s t i ≤ laid h s t t :=
  H.sT.final hn H.zero (fun i hi => by have := H.near (by omega) i hi; omega) (fun hw => (H.none_ hw).2)
theorem Rd.dues (H : Rd E s t want 0 fl h st) (hn : NetK E.l E.N s t want E.L) : Dues E.l fl := fun k x hx => by
  have b := hn.cost x (List.mem_of_getElem? hx)
  have h1 := (H.sT.cap k x hx).1
  have e1 := Int.mul_nonneg h1 b.1
  refine ⟨e1, ?_⟩
  by_cases h0 : 0 < x.2.2.2
  · have a := (H.done hn).1.thin hn.ok hn.sN hn.tN hn.stn (fun y hy => (hn.cost y hy).1) hx h0
    have c1 := hn.w1
    have e2 : fl k * x.2.2.2 ≤ 10000 * 4294967296 := Int.le_trans (Int.mul_le_mul_of_nonneg_right (show fl k ≤ 10000 by omega) b.1) (Int.mul_le_mul_of_nonneg_left b.2 (by omega))
    omega
  · have : x.2.2.2 = 0 := by omega
    rw [this, Int.mul_zero]
    omega
/-- What must go on from whom at first. -/
theorem Bal.start {L : Nat → List La} (hn : NetK l N s t want L) : Bal l N s t want (fun _ => 0) (fun j => if j = t then -want else if j = s then want else 0) := fun i _ => by
  rw [netTo_zero]
  unfold duty
  have := hn.stn
  simp only
  split <;> split <;> omega
/-- The call's own blocks: the net's copy, the result. -/
structure Rs (w wr : World) (n : Int) (a : Option Addr) (len cap : Nat) : Prop where
  box : NBox w wr w.heap.size n a len cap
  res : wr.heap[w.heap.size + 1]? = some (.cells #[.slice none 0 0, .int .i64 0, .slice none 0 0] 36 (0, 0))
theorem Rs.later {n : Int} (h : Rs w wr n a len cap) (hb : Below wr.heap.size wr w2) : Rs w w2 n a len cap := ⟨h.box.later hb, (hb.block _ (Array.getElem?_eq_some_iff.1 h.res).1).trans h.res⟩
theorem Rs.kept {n : Int} {S : Nat → Prop} (h : Rs w wr n a len cap) (hm : Mod S wr w2) (hS : ∀ k, S k → w.heap.size + 2 ≤ k) : Rs w w2 n a len cap :=
  ⟨h.box.kept hm (fun k hk => by have := hS k hk; omega) (fun hk => by have := hS _ hk; omega), (hm.block _ (Array.getElem?_eq_some_iff.1 h.res).1 (fun hk => by have := hS _ hk; omega)).trans h.res⟩
theorem BegunK.net {w0 w1 : World} (hb : BegunK w0 w1 E co N len l) (hN : N ≤ 1000) (hlen : l.length ≤ 20000) (hok : ∀ x ∈ l, okP (N : Int) x = true) (hr : RangeL l want) (hs : s < N) (ht : t < N) (hst : s ≠ t) : NetK E.l E.N s t want E.L := by
  obtain ⟨rfl, rfl, _, _, _, _, _, h1, h2, _⟩ := hb
  exact ⟨hok, hr.2, hlen, hN, hs, ht, hst, hr.1.1, hr.1.2, h1, h2⟩
/-- All is flat, nothing flows, and what is wanted stays. -/
theorem Kw.wanted {sp : Nat → Int} {nx : Nat → Nat} {cost : Int} {co : Int} (H : Kw E fl (fun _ => 0) h sp nx co cost wr) (s t : Nat) (want : Int) : Kw E fl (fun j => if j = t then -want else if j = s then want else 0) h sp nx co cost ((wr.setCell ⟨E.sb, s, none⟩ (.int .i64 want)).setCell ⟨E.sb, t, none⟩ (.int .i64 (-want))) :=
  (H.setStays s want).setStays t (-want)
theorem ST.start {L : Nat → List La} (hn : NetK l N s t want L) (hlow : ∀ x ∈ l, x.2.2.2 / 2 ^ co = 0) : ST l N s t want co (fun _ => 0) (fun _ => 0) (fun j => if j = t then -want else if j = s then want else 0) :=
  ⟨fun k x hx => ⟨Int.le_refl _, (okP_true.1 (hn.ok x (List.mem_of_getElem? hx))).2.2.1.1⟩, fun k x hx => by
    have e : stp co (fun _ => 0) x = 0 := by unfold stp; rw [hlow x (List.mem_of_getElem? hx)]; rfl
    rw [e]; omega, Bal.start hn⟩
theorem longs_row {base g len : Nat} {f : Nat → Int} (h : w.rowIs g 2 len (fun i => .int .i64 (f i))) (hb : base ≤ g) (hN : len ≤ maxLen) : LongRow w base (.slice (some ⟨g, 0, none⟩) len len) len f := by
  obtain ⟨cs, hg, hs, hc⟩ := h
  refine ⟨by simp [rowF], .inr ⟨g, len, cs, rfl, hb, hg, Nat.le_refl _, hN, by omega, ?_⟩⟩
  rw [Nat.mul_one, List.take_of_length_le (by simp [hs])]
  apply List.ext_getElem?
  intro j
  by_cases hj : j < len
  · rw [Array.getElem?_toList, hc j hj, rowF_get f hj]
  · rw [List.getElem?_eq_none (by simp; omega), List.getElem?_eq_none (by rw [rowF_length]; omega)]
/-- The world where all three of a result are stored. -/
def resW (w : World) (r : Nat) (y0 y1 y2 : Value) : World := ((w.setCell ⟨r, 0, none⟩ y0).setCell ⟨r, 1, none⟩ y1).setCell ⟨r, 2, none⟩ y2
theorem resW_block {b : Nat} {y0 y1 y2 : Value} (h : b ≠ r) : (resW w r y0 y1 y2).heap[b]? = w.heap[b]? :=
  (heap_setCell_other _ _ _ _ h).trans ((heap_setCell_other _ _ _ _ h).trans (heap_setCell_other _ _ _ _ h))
theorem resW_below {C : Nat} {y0 y1 y2 : Value} (h : Below C w wr) (hr : C ≤ r) : Below C w (resW wr r y0 y1 y2) :=
  ((h.setCell (p := ⟨r, 0, none⟩) hr _).setCell (p := ⟨r, 1, none⟩) hr _).setCell (p := ⟨r, 2, none⟩) hr _
theorem laidTo_all {i : Nat} (hi : i < N) : laid h s t i = laidTo h s t N i := by unfold laidTo; rw [if_pos hi]
/-- What Least gives. -/
theorem Rd.gives {sp : Nat → Int} {nx : Nat → Nat} {cz : Int} {y0 y1 y2 : Value} (H : Rd E s t want 0 fl h st) (hn : NetK E.l E.N s t want E.L) (K : Kw E fl st (laidTo h s t E.N) sp nx ((0 : Nat) : Int) cz wr) (hcz : costP E.l fl E.len = cz) (hm : ∀ b, E.mine b → r + 1 ≤ b) (hr : w.heap.size ≤ r) :
    LongRow (resW wr r y0 y1 y2) w.heap.size (.slice (some ⟨E.fb, 0, none⟩) E.len E.len) E.len fl ∧ LongRow (resW wr r y0 y1 y2) w.heap.size (.slice (some ⟨E.hb, 0, none⟩) E.N E.N) E.N (laidTo h s t E.N) ∧ IsLeast E.l E.N fl (laidTo h s t E.N) s t want cz ∧ laidTo h s t E.N s = 0 ∧ ∀ i, i < E.N → laidTo h s t E.N i ≤ laidTo h s t E.N t := by
  have hp := K.pipes.1
  have hlm := hn.lm
  have hnm := hn.nm
  have h1 := hm _ K.ord.cf
  have h2 := hm _ K.ord.ch
  obtain ⟨d1, d2, d3⟩ := H.done hn
  refine ⟨longs_row (K.flow.of_block (resW_block (by omega))) (by omega) (by unfold maxLen; omega), longs_row (K.high.of_block (resW_block (by omega))) (by omega) (by unfold maxLen; omega), ?_, by rw [← laidTo_all hn.sN]; exact d2, fun i hi => by rw [← laidTo_all hi, ← laidTo_all hn.tN]; exact d3 i hi⟩
  rw [← hcz, ← hp]
  exact d1.congr hn.ok (fun _ _ => rfl) (fun i hi => laidTo_all hi)
set_option maxHeartbeats 4000000 in
set_option maxRecDepth 100000 in
theorem leastK_any (N s t len cap : Nat) (want : Int) (l : List Pi) (a : Option Addr) (w : World) (he : endsP (N : Int) l (s : Int) (t : Int) = 0) (hr : RangeL l want) (hl : IsPipes w.heap.size w a len l) :
    Calls Try.prog 12 #[.agg #[.int .i64 (N : Int), .slice a len cap], .int .i64 (s : Int), .int .i64 (t : Int), .int .i64 want] w fun e w' => Below w.heap.size w w' ∧
      ((∃ a1 c1 a2 c2, e = .returned (.tuple #[.agg #[.slice a1 0 c1, .int .i64 0, .slice a2 0 c2], .int .i64 8]) ∧ Short l s t want) ∨
       ∃ v u f h c, e = .returned (.tuple #[.agg #[v, .int .i64 c, u], .int .i64 0]) ∧ LongRow w' w.heap.size v len f ∧ LongRow w' w.heap.size u N h ∧ IsLeast l N f h s t want c ∧ h s = 0 ∧ ∀ i, i < N → h i ≤ h t) := by
  have HG0 := NBox.make (Below.refl _ w) (N : Int) a len cap
  have hsz : (w.alloc (.cells #[.int .i64 (N : Int), .slice a len cap] 27)).heap.size = w.heap.size + 1 := by simp
  have HR := Lib.hid (show Rs w ((w.alloc (.cells #[.int .i64 (N : Int), .slice a len cap] 27)).alloc (.cells #[.slice none 0 0, .int .i64 0, .slice none 0 0] 36)) (N : Int) a len cap from ⟨HG0.alloc _, by rw [← hsz]; exact heap_alloc_new _ _⟩)
  obtain ⟨hck, hs, ht, hst⟩ := endsP_zero.1 he
  obtain ⟨hns, hok⟩ := checkP_zero.1 hck
  have hN : N ≤ 1000 := by omega
  have hlen : len ≤ 20000 := by have := hl.1; omega
  have HCA := Lib.hid (checkK_any (N : Int) (s : Int) (t : Int) want len cap l a _ (HR.out.box.pipesHere hl))
  rw [kErr_ok he hr] at HCA
  have HL := Lib.hid hl
  have HOK := Lib.hid hok
  have HRG := Lib.hid hr
  have hs2 : s < N := by omega
  have ht2 : t < N := by omega
  have hst2 : s ≠ t := by omega
  have HNE := Lib.hid hst2
  clear hl hok hr he hsz hck hns HG0 hs ht hst hst2
  go_enter Try.func12, Try.ntmps12
  go_wp2_with (first
    | (go_at_call 22; refine HCA.out.mono ?_; rintro e w2 ⟨rfl, hb2⟩; have HR2 := Lib.hid (HR.out.later hb2); have x0 := HR2.out.box.c0; have x1 := HR2.out.box.c1; clear hb2)
    | (go_at_call 23; refine (begunK_any hN hlen HOK.out HRG.out.2 (HR2.out.box.pipesHere HL.out)).mono ?_; rintro e w3 ⟨E, co, rfl, hbg⟩; have HNT : Hid (NetK E.l E.N s t want E.L) := Lib.hid (hbg.net hN (by have := HL.out.1; omega) HOK.out HRG.out hs2 ht2 HNE.out); have HR3 := Lib.hid (HR2.out.later hbg.below); have HMN : Hid (∀ b, E.mine b → w.heap.size + 2 ≤ b) := Lib.hid (fun b hb => by have h1 := hbg.mine b hb; have h2 := (Array.getElem?_eq_some_iff.1 HR2.out.res).1; omega); have HLW : Hid (∀ x ∈ E.l, x.2.2.2 / 2 ^ co = 0) := Lib.hid (by rw [hbg.el]; exact hbg.low); have hco := hbg.co33; have HK3 := Lib.hid hbg.kw; obtain ⟨hEN, hEl, hElen, _⟩ := hbg))
  have HEQ : Hid (E.N = N ∧ E.l = l ∧ E.len = len) := Lib.hid ⟨hEN, hEl, hElen⟩
  have hs3 : s < E.N := by omega
  have ht3 : t < E.N := by omega
  obtain ⟨_, _, _, _, _, _, _, a7, _⟩ := HK3.out.cellW
  have r0 := HK3.out.stays.cell hs3
  have r1 := HK3.out.stays.cell ht3
  have f0 := HK3.out.stays.frozen s
  have HK4 := HK3.out.setStays s want
  obtain ⟨z, r2⟩ : ∃ z : Int, (w3.setCell ⟨E.sb, s, none⟩ (.int .i64 want)).cell? ⟨E.sb, t, none⟩ = some (.int .i64 z) := ⟨_, HK4.stays.cell ht3⟩
  have f2 := HK4.stays.frozen t
  have hwneg : IntKind.i64.wrap (-want) = -want := by have := HRG.out.1; rw [IntKind.wrap_i64]; omega
  have HK5 := Lib.hid (HK3.out.wanted s t want)
  clear hEN hEl hElen HK3 HK4 HL
  have HM5 : Hid (Mod (SK E) w3 ((w3.setCell ⟨E.sb, s, none⟩ (.int .i64 want)).setCell ⟨E.sb, t, none⟩ (.int .i64 (-want)))) := Lib.hid (SK.set HK5.out.ord.cs HK5.out.ord.ds (SK.set HK5.out.ord.cs HK5.out.ord.ds (Mod.refl (SK E) w3) s _) t _)
  go_region
  clear a7 r0 r1 r2 f0 f2
  have HK6 := Lib.hid HK5.out.drew
  have HM6 := Lib.hid HM5.out.drew
  clear HK5 HM5
  obtain ⟨w5, hw5⟩ : ∃ w5, World.drew ((w3.setCell ⟨E.sb, s, none⟩ (.int .i64 want)).setCell ⟨E.sb, t, none⟩ (.int .i64 (-want))) = w5 := ⟨_, rfl⟩
  rw [hw5] at HK6 HM6 ⊢
  clear hw5
  go_wp2_with fail
  go_at_call 24
  refine (settleK_flat HNT.out (by omega) (ST.start HNT.out HLW.out) ⟨HLW.out, fun _ _ => rfl⟩ HK6.out).mono ?_
  rintro e w6 (⟨fl2, st2, sp2, nx2, rfl, hm, hk, hg⟩ | ⟨rfl, hm, hsh⟩)
  · have HK7 := Lib.hid hk
    have HR7 := Lib.hid (HR3.out.kept (HM6.out.trans hm) (fun k hk => HMN.out k hk.1))
    have HRD : Hid (Rd E s t want co fl2 (fun _ => 0) st2) := Lib.hid ⟨hg.sT, hg.zero, fun i hi => ⟨Int.le_refl _, by have : 1 ≤ 2 ^ (33 - co) := Nat.one_le_two_pow; generalize 2 ^ (33 - co) = P at *; omega⟩, fun hw => ⟨(hg.same (fun i _ => by subst hw; simp)).1, fun _ _ => rfl⟩⟩
    have HM7 := Lib.hid (HM6.out.trans hm)
    clear hm hk hg HK6 HM6 HR7
    go_wp2_with fail
    go_loopg [] co (fun gn wr => ∃ fl h st sp nx, gn ≤ 33 ∧ Hid (Mod (SK E) w3 wr) ∧ Hid (Kw E fl st h sp nx (gn : Int) 0 wr) ∧ Hid (Rd E s t want gn fl h st))
    case atStart => exact ⟨fl2, _, st2, sp2, nx2, hco, HM7, HK7, HRD⟩
    case round =>
      obtain ⟨fl, h, st, sp, nx, hgn, HM, HK, HRd⟩ := hrel
      clear HM7 HK7 HRD
      obtain ⟨_, _, _, _, _, a5, _⟩ := HK.out.cellW
      by_cases h0 : gk = 0
      · subst h0
        have hN3 := HNT.out.nm
        go_wp2_with fail
        clear a5
        go_at_call 26
        refine (layK_any (s := s) (t := t) (co := 0) hs3 ht3 hN3 (fun i hi => by have := HRd.out.near (by omega) i hi; omega) HK.out).mono ?_
        rintro e wa ⟨rfl, hm, hk⟩
        have HKa := Lib.hid hk
        have HMa := Lib.hid (HM.out.trans hm)
        have hpl := HNT.out.lm
        clear hm hk HM HK
        go_wp2_with fail
        go_at_call 27
        refine (sumK_any HKa.out.view (HRd.out.dues HNT.out) hpl (fun k hk => by
          have h1 := HKa.out.pipes.1
          obtain ⟨x, hx⟩ : ∃ x, E.l[k]? = some x := ⟨E.l[k], by simp⟩
          have h2 := HRd.out.sT.cap k x hx
          have h3 := (okP_true.1 (HNT.out.ok x (List.mem_of_getElem? hx))).2.2.1.2
          omega) HNT.out.cost).mono ?_
        rintro e wb ⟨rfl, hb⟩
        have HKb := Lib.hid (HKa.out.later hb)
        have HMb := Lib.hid (HMa.out.trans (Mod.of_below (SK E) hb))
        clear hb HKa HMa
        obtain ⟨cz, hcz⟩ : ∃ z, costP E.l fl E.len = z := ⟨_, rfl⟩
        have HCZ := Lib.hid hcz
        rw [hcz]
        clear hcz
        obtain ⟨_, _, _, c3, _, _, _, _, _, _, _, f3⟩ := HKb.out.cellW
        have HKc := Lib.hid (HKb.out.setCost cz)
        have HRc := Lib.hid (HR3.out.kept (HMb.out.trans (SK.set HKb.out.ord.cp HKb.out.ord.dp (Mod.refl (SK E) wb) 3 (.int .i64 cz))) (fun k hk => HMN.out k hk.1))
        obtain ⟨_, _, g2, g3, g4, _⟩ := HKc.out.cellW
        obtain ⟨r0, r1, r2, r3, r4⟩ := res_cells HRc.out.res
        go_wp2_with fail
        have h3 := res_stored HRc.out.res (.slice (some ⟨E.fb, 0, none⟩) E.len E.len) (.int .i64 cz) (.slice (some ⟨E.hb, 0, none⟩) E.N E.N)
        obtain ⟨q0, q1, q2, _, _⟩ := res_cells h3
        obtain ⟨d1, d2, d3, d4, d5⟩ := HRd.out.gives (w := w) (r := w.heap.size + 1) (y0 := .slice (some ⟨E.fb, 0, none⟩) E.len E.len) (y1 := .int .i64 cz) (y2 := .slice (some ⟨E.hb, 0, none⟩) E.N E.N) HNT.out HKc.out HCZ.out HMN.out (by omega)
        obtain ⟨e1, e2, e3⟩ := HEQ.out
        rw [← e1, ← e2, ← e3]
        refine bodyPost_ret (v := .tuple #[.agg #[.slice (some ⟨E.fb, 0, none⟩) E.len E.len, .int .i64 cz, .slice (some ⟨E.hb, 0, none⟩) E.N E.N], .int .i64 0]) ?_ rfl ⟨resW_below HRc.out.box.below (by omega), .inr ⟨_, _, fl, _, cz, rfl, d1, d2, d3, d4, d5⟩⟩
        simp [results, Try.results12, go_sem, q0, q1, q2]
      · obtain ⟨c, rfl⟩ : ∃ c, gk = c + 1 := ⟨gk - 1, by omega⟩
        have hcp : (0 : Int) < ((c + 1 : Nat) : Int) := by omega
        go_wp2_with fail
        clear a5
        go_at_call 25
        refine (refineK_any HNT.out (by omega) HRd.out.sT (HRd.out.refinable hgn) HK.out).mono ?_
        rintro e wa ⟨st2, rfl, hm, hk, hb⟩
        obtain ⟨hsT, href, hbd, hnx⟩ := HRd.out.step HNT.out hgn hb
        have HKa := Lib.hid hk
        have HMa := Lib.hid (HM.out.trans hm)
        have HST := Lib.hid hsT
        have HRF := Lib.hid href
        have HBD := Lib.hid hbd
        have HNX := Lib.hid hnx
        clear hsT href hbd hnx hb hk hm HM HK HRd
        go_wp2_with fail
        go_at_call 24
        refine (settleK_ref HNT.out (by omega) HST.out HRF.out HBD.out HKa.out).mono ?_
        rintro e wb ⟨fl3, st3, h3, sp3, nx3, rfl, hm, hk, hg⟩
        have HKb := Lib.hid hk
        have HMb := Lib.hid (HMa.out.trans hm)
        have HRb := Lib.hid (HNX.out _ _ _ hg)
        clear hk hm hg HNX HBD HRF HST HMa HKa
        go_wp2_with fail
        go_roundg c
        case measure => omega
        case rel => exact ⟨fl3, h3, st3, sp3, nx3, by omega, HMb, HKb, HRb⟩
  · have HR7 := Lib.hid (HR3.out.kept (HM6.out.trans hm) (fun k hk => HMN.out k hk.1))
    have HSH := Lib.hid hsh
    clear hm hsh HK6 HM6
    obtain ⟨r0, r1, r2, r3, r4⟩ := res_cells HR7.out.res
    go_wp2_with fail
    have h3 := res_stored HR7.out.res (.slice none 0 0) (.int .i64 0) (.slice none 0 0)
    obtain ⟨q0, q1, q2, _, _⟩ := res_cells h3
    refine bodyPost_ret (v := .tuple #[.agg #[.slice none 0 0, .int .i64 0, .slice none 0 0], .int .i64 8]) ?_ rfl ⟨resW_below HR7.out.box.below (by omega), .inl ⟨_, _, _, _, rfl, by rw [← HEQ.out.2.1]; exact HSH.out⟩⟩
    simp [results, Try.results12, go_sem, q0, q1, q2]
end Go.Proofs.Ytbenmebmfihleaa

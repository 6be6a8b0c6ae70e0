/- Joined: KFarW, KFar, KLift. -/
import Derived.Test.YtbenmebmfihleaaMSend
import Derived.Test.YtbenmebmfihleaaMSetT
import Derived.Test.YtbenmebmfihleaaMRep
import Derived.Test.YtbenmebmfihleaaMPile
import Derived.Deep.CutRange
section
/- Package least: what far works on. -/
namespace Go.Proofs.Ytbenmebmfihleaa
open Go.RowKit

variable {w w0 wr w1 w2 w4 : World} {E : EnvK} {fl st h sp : Nat → Int} {nx : Nat → Nat} {co cost : Int} {d : Nat → Int} {G b bx : Nat} {v v' : Value} {Q Q' p : List It} {x : It}
structure FW (E : EnvK) (fl st h sp : Nat → Int) (nx : Nat → Nat) (co cost : Int) (w0 wr : World) (G b : Nat) (v : Value) (d : Nat → Int) (Q : List It) : Prop where
  kw : Kw E fl st h sp nx co cost wr
  row : wr.rowIs G 2 E.N (fun i => .int .i64 (d i))
  pile : Have w0 b v Q wr
  ge : w0.heap.size ≤ G
  gb : G ≠ b
  gv : v.ownBlock ≠ some G
  dz : E.D ≤ w0.heap.size
theorem FW.later (H : FW E fl st h sp nx co cost w0 wr G b v d Q) (hb : Below wr.heap.size wr w2) : FW E fl st h sp nx co cost w0 w2 G b v d Q :=
  ⟨H.kw.later hb, rowIs_below H.row hb, H.pile.later hb, H.ge, H.gb, H.gv, H.dz⟩
theorem FW.set_ (H : FW E fl st h sp nx co cost w0 wr G b v d Q) (i : Nat) (z : Int) : FW E fl st h sp nx co cost w0 (wr.setCell ⟨G, i, none⟩ (.int .i64 z)) G b v (fun j => if j = i then z else d j) Q := by
  have hm : Mod (fun k => k = G) wr (wr.setCell ⟨G, i, none⟩ (.int .i64 z)) := (Mod.refl (fun k => k = G) wr).setCell (p := ⟨G, i, none⟩) (.inr rfl) _
  refine ⟨H.kw.aside hm (fun k hk => by have := H.ge; have := H.dz; omega), (H.row.set i _).congr (fun j _ => by split <;> rfl), H.pile.kept hm (fun e => H.gb e.symm) (fun k hk e => H.gv (by rw [hk, e])) (fun k hk => by have := H.ge; omega), H.ge, H.gb, H.gv, H.dz⟩
theorem FW.piled (H : FW E fl st h sp nx co cost w0 wr G b v d Q) (hP : Have w0 b v' Q' w2) (ht : Turned b v v' wr w2) : FW E fl st h sp nx co cost w0 w2 G b v' d Q' := by
  have hlt : ∀ k, v.ownBlock = some k → w0.heap.size ≤ k := fun k hk => (H.pile.own k hk).1
  have hbb := H.pile.from_
  refine ⟨H.kw.aside ht.mod (fun k hk => ?_), H.row.of_block (ht.mod.block G H.row.lt (fun hs => ?_)), hP, H.ge, H.gb, ?_, H.dz⟩
  · have := H.dz
    rcases hk with hk | hk
    · omega
    · have := hlt k hk; omega
  · rcases hs with hs | hs
    · exact H.gb hs
    · exact H.gv hs
  · rcases ht.fresh with hf | ⟨g, hf, hg⟩
    · rw [hf]; exact H.gv
    · rw [hf]; intro e; injection e with e; have := H.row.lt; omega
/-- The thing that was taken, in a block of its own. -/
structure XB (w0 wr : World) (G b : Nat) (v : Value) (bx : Nat) (x : It) : Prop where
  blk : wr.heap[bx]? = some (.cells #[.int .i64 x.1, .int .i64 x.2] 109 (0, 0))
  ge : w0.heap.size ≤ bx
  xg : bx ≠ G
  xb : bx ≠ b
  xv : v.ownBlock ≠ some bx
theorem XB.lt (H : XB w0 wr G b v bx x) : bx < wr.heap.size := (Array.getElem?_eq_some_iff.1 H.blk).1
theorem XB.cells (H : XB w0 wr G b v bx x) : wr.cell? ⟨bx, 0, none⟩ = some (.int .i64 x.1) ∧ wr.cell? ⟨bx, 1, none⟩ = some (.int .i64 x.2) := by
  have := H.blk
  simp [World.cell?, this]
theorem XB.frozen (H : XB w0 wr G b v bx x) (i : Nat) : wr.frozen? ⟨bx, i, none⟩ = false := by
  have := H.blk
  simp [World.frozen?, this]
theorem XB.later (H : XB w0 wr G b v bx x) (hb : Below wr.heap.size wr w2) : XB w0 w2 G b v bx x := ⟨(hb.block bx H.lt).trans H.blk, H.ge, H.xg, H.xb, H.xv⟩
theorem XB.set_ (H : XB w0 wr G b v bx x) (i : Nat) (z : Value) : XB w0 (wr.setCell ⟨G, i, none⟩ z) G b v bx x := ⟨(heap_setCell_other _ _ _ _ H.xg).trans H.blk, H.ge, H.xg, H.xb, H.xv⟩
theorem XB.piled (H : XB w0 wr G b v bx x) (ht : Turned b v v' wr w2) : XB w0 w2 G b v' bx x := by
  refine ⟨(ht.mod.block bx H.lt (fun hs => ?_)).trans H.blk, H.ge, H.xg, H.xb, ?_⟩
  · rcases hs with hs | hs
    · exact H.xb hs
    · exact H.xv hs
  · rcases ht.fresh with hf | ⟨g, hf, hg⟩
    · rw [hf]; exact H.xv
    · rw [hf]; intro e; injection e with e; have := H.lt; omega
/-- A new block for a thing. -/
theorem XB.new (H : FW E fl st h sp nx co cost w0 wr G b v d Q) (x : It) : XB w0 (wr.alloc (.cells #[.int .i64 x.1, .int .i64 x.2] 109)) G b v wr.heap.size x :=
  ⟨heap_alloc_new _ _, H.pile.below.size, by have := H.row.lt; omega, by have := H.pile.lt; omega, fun e => by have := (H.pile.own _ e).2; omega⟩
theorem XB.put_ (H : XB w0 wr G b v bx x) (y : It) : XB w0 ((wr.setCell ⟨bx, 0, none⟩ (.int .i64 y.1)).setCell ⟨bx, 1, none⟩ (.int .i64 y.2)) G b v bx y := by
  refine ⟨?_, H.ge, H.xg, H.xb, H.xv⟩
  rw [heap_setCell_same _ bx 1 _ _ _ (heap_setCell_same wr bx 0 _ _ _ H.blk)]
  rfl
theorem FW.stored (H : FW E fl st h sp nx co cost w0 wr G b v d Q) (hx : XB w0 wr G b v bx x) (y : It) : FW E fl st h sp nx co cost w0 ((wr.setCell ⟨bx, 0, none⟩ (.int .i64 y.1)).setCell ⟨bx, 1, none⟩ (.int .i64 y.2)) G b v d Q := by
  have hm : Mod (fun k => k = bx) wr ((wr.setCell ⟨bx, 0, none⟩ (.int .i64 y.1)).setCell ⟨bx, 1, none⟩ (.int .i64 y.2)) := ((Mod.refl (fun k => k = bx) wr).setCell (p := ⟨bx, 0, none⟩) (.inr rfl) _).setCell (p := ⟨bx, 1, none⟩) (.inr rfl) _
  exact ⟨H.kw.aside hm (fun k hk => by have := hx.ge; have := H.dz; omega), H.row.of_block (hm.block G H.row.lt (fun e => hx.xg e.symm)), H.pile.kept hm (fun e => hx.xb e.symm) (fun k hk e => hx.xv (by rw [hk, e])) (fun k hk => by have := hx.ge; omega), H.ge, H.gb, H.gv, H.dz⟩
/-- What Take gives. -/
def TookK (Q : List It) (ok : Bool) (x : It) (p : List It) : Prop := (ok = true ∧ Q.Perm (x :: p) ∧ ∀ y ∈ Q, Le x y) ∨ (ok = false ∧ Q = [] ∧ p = [])
theorem takeK_any {W : World} {l : List It} (H : Have w0 b v l W) (hl : l.length ≤ 50000) :
    Calls Try.prog 63 #[.pointer (some ⟨b, 0, none⟩)] W fun e W' => ∃ (ok : Bool) (x : It) (p : List It) (v' : Value), e = .returned (.tuple #[.agg #[.int .i64 x.1, .int .i64 x.2], .bool ok]) ∧ TookK l ok x p ∧ Have w0 b v' p W' ∧ Turned b v v' W W' := by
  by_cases h0 : 0 < l.length
  · refine (take_have H h0 hl).mono ?_
    rintro e W' ⟨x, l', rfl, h1, h2, v', h3, h4⟩
    exact ⟨true, x, l', v', rfl, .inl ⟨rfl, h1, h2⟩, h3, h4⟩
  · obtain rfl : l = [] := List.eq_nil_of_length_eq_zero (by omega)
    refine (take_empty H).mono ?_
    rintro e W' ⟨rfl, hb⟩
    exact ⟨false, (0, 0), [], v, rfl, .inr ⟨rfl, rfl, rfl⟩, H.later hb, ⟨Mod.of_below _ hb, .inl rfl⟩⟩
theorem TookK.dij {l : List Pi} {N : Nat} {L : Nat → List La} {c2 : Nat} {R F M ne : Int} {Z dn : Nat → Bool} {ok : Bool} (ht : TookK Q ok x p) (H : Dij l N L c2 h fl st R F M Z d ne dn Q) :
    (ok = true ∧ Q.length = p.length + 1 ∧ Dij l N L c2 h fl st R F M Z d ne dn (x :: p) ∧ ∀ y ∈ x :: p, x.1 ≤ y.1) ∨ (ok = false ∧ p = [] ∧ Dij l N L c2 h fl st R F M Z d ne dn []) := by
  rcases ht with ⟨rfl, h1, h2⟩ | ⟨rfl, rfl, rfl⟩
  · refine .inl ⟨rfl, by simpa using h1.length_eq, H.perm h1, fun y hy => ?_⟩
    have := h2 y (h1.mem_iff.2 hy)
    unfold Le at this
    omega
  · exact .inr ⟨rfl, rfl, H⟩
end Go.Proofs.Ytbenmebmfihleaa
end
section
/- Package least: far. -/
namespace Go.Proofs.Ytbenmebmfihleaa
open Go.RowKit

variable {w wr w1 w2 w4 : World} {E : EnvK} {fl st h sp : Nat → Int} {nx : Nat → Nat} {cost : Int} {s t co : Nat} {want R M : Int} {Z : Nat → Bool}
/-- api.Far. -/
def FAR : Int := 1152921504606846976
/-- How much is to be done at most. -/
theorem phi_small (hn : NetK E.l E.N s t want E.L) (dn : Nat → Bool) : phi E.N E.L dn ≤ 41000 := by
  have h1 : phi E.N E.L dn ≤ sumN E.N (fun i => ((E.L i).length : Int) + 1) := sumN_le (fun i _ => by split <;> omega)
  have h2 : ∀ n, sumN n (fun i => ((E.L i).length : Int) + 1) = sumN n (fun i => ((E.L i).length : Int)) + n := fun n => by
    induction n with
    | zero => rfl
    | succ n ih => rw [sumN, ih, sumN]; simp only [Int.natCast_add]; omega
  have h3 := h2 E.N
  have h4 := hn.degs
  have h5 := hn.lm
  have h6 := hn.nm
  omega
/-- The state at the head of the search: a thing was taken, or none was left. -/
def HeadK (l : List Pi) (N : Nat) (L : Nat → List La) (co : Nat) (h fl st : Nat → Int) (R F M : Int) (Z : Nat → Bool) (d : Nat → Int) (ne : Int) (dn : Nat → Bool) (x : It) (p : List It) (ok : Bool) (gn : Nat) : Prop :=
  (ok = true ∧ (p.length : Int) + 1 + phi N L dn < gn ∧ gn ≤ 42001 ∧ Dij l N L co h fl st R F M Z d ne dn (x :: p) ∧ ∀ y ∈ x :: p, x.1 ≤ y.1) ∨ (ok = false ∧ Dij l N L co h fl st R F M Z d ne dn [])
theorem headK_of {l : List Pi} {N : Nat} {L : Nat → List La} {F ne : Int} {d : Nat → Int} {dn : Nat → Bool} {Q p : List It} {x : It} {ok : Bool} {gn : Nat} (ht : TookK Q ok x p) (H : Dij l N L co h fl st R F M Z d ne dn Q) (h1 : (Q.length : Int) + phi N L dn < gn) (h2 : gn ≤ 42001) :
    HeadK l N L co h fl st R F M Z d ne dn x p ok gn := by
  rcases ht.dij H with ⟨e1, e2, e3, e4⟩ | ⟨e1, _, e3⟩
  · exact .inl ⟨e1, by omega, h2, e3, e4⟩
  · exact .inr ⟨e1, e3⟩
def RiseAt (W : World) (bx gl : Nat) (κ : Int) (k n2 : Nat) (b2 : Bool) : Prop := W.cell? ⟨bx, 0, none⟩ = some (.int .i64 κ) ∧ W.cell? ⟨gl, 0, none⟩ = some (.int .i64 (k : Int)) ∧ W.cell? ⟨gl, 1, none⟩ = some (.int .i64 (n2 : Int)) ∧ W.cell? ⟨gl, 2, none⟩ = some (.bool b2)
theorem riseAt_of {w0 W : World} {G b bx gl k n2 : Nat} {v : Value} {κ z : Int} {b2 : Bool} (hx : XB w0 W G b v bx (κ, z)) (hl : LB W gl k n2 b2) : RiseAt W bx gl κ k n2 b2 := by
  obtain ⟨c0, _⟩ := hx.cells
  obtain ⟨l0, l1, l2⟩ := hl.cells
  exact ⟨c0, l0, l1, l2⟩
def FarP (E : EnvK) (R : Int) (co : Nat) (fl st h : Nat → Int) (w0 : World) (e : Ending) (w' : World) : Prop := ∃ (d : Nat → Int) (ne : Int) (G : Nat), e = .returned (.tuple #[.slice (some ⟨G, 0, none⟩) E.N E.N, .int .i64 ne]) ∧ Below w0.heap.size w0 w' ∧
  w'.rowIs G 2 E.N (fun i => .int .i64 (d i)) ∧ w0.heap.size ≤ G ∧ FarK E.l E.N E.L co h fl st R FAR (phi E.N E.L (fun _ => false)) d ne
set_option maxHeartbeats 4000000 in
set_option maxRecDepth 100000 in
theorem farK_any {w0 : World} (hn : NetK E.l E.N s t want E.L) (hnear : Near E.N h) (hco : co ≤ 64) (hcap : Capd E.l fl) (hR : R ≤ 8594229559296) (hE : DijE E.l E.N E.L co h fl st R FAR M Z) (H : Kw E fl st h sp nx (co : Int) cost w0) :
    Calls Try.prog 55 #[.pointer (some ⟨E.p, 0, none⟩)] w0 (FarP E R co fl st h w0) := by
  have HN := Lib.hid hn
  have HNE := Lib.hid hnear
  have HCP := Lib.hid hcap
  have HE := Lib.hid hE
  have HRR := Lib.hid hR
  have hNm := hn.nm
  have hN1 : 1 ≤ E.N := by have := hn.sN; omega
  have HDZ := Lib.hid H.size
  have HK := Lib.hid H
  obtain ⟨a0, _⟩ := (H.alloc (.cells #[.int .i64 1152921504606846976] 2)).cellW
  have HDB := Lib.hid (Dij.begin_ hE)
  clear hn hnear hcap hE hR H
  go_enter Try.func55, Try.ntmps55
  go_wp2_with (first
    | (go_at_call 60; refine (repLongsK 1152921504606846976 E.N w0.heap.size _ hN1 hNm (by simp)).mono ?_; rintro e w1 ⟨G, rfl, hrow, hge, hb1⟩; have HR1 := Lib.hid hrow; have HB1 : Hid (Below w0.heap.size w0 w1) := Lib.hid (((Below.refl _ w0).alloc (Nat.le_refl _) _).trans (hb1.mono (by simp))); have HGE : Hid (w0.heap.size ≤ G) := Lib.hid (by simp at hge; omega); clear hrow hge hb1)
    | (go_at_call 61; refine (new_any _).mono ?_; rintro e w2 ⟨rfl, rfl⟩; have HW2 : Hid (FW E fl st h sp nx (co : Int) cost w0 (w1.alloc (.cells #[.slice none 0 0] 118)) G w1.heap.size (.slice none 0 0) (firstD st FAR 0) (firstI st 0)) := Lib.hid ⟨(HK.out.later HB1.out).alloc _, (rowIs_below HR1.out ((Below.refl _ _).alloc (Nat.le_refl _) _)).congr (fun i _ => by rw [firstD_zero]; rfl), Have.new HB1.out, HGE.out, by have := HR1.out.lt; omega, by simp [Value.ownBlock], HDZ.out⟩; have a7 := HW2.out.kw.cellW.2.2.2.2.2.2.2.1))
  obtain ⟨b, hb⟩ : ∃ b, w1.heap.size = b := ⟨_, rfl⟩
  obtain ⟨w3, hw3⟩ : ∃ w3, (w1.alloc (.cells #[.slice none 0 0] 118)) = w3 := ⟨_, rfl⟩
  rw [hb, hw3] at HW2
  rw [hb, hw3]
  clear hb hw3 a0 a7 HR1 HB1 HGE HK
  go_loopw [27] (fun i wr => ∃ (c : Nat) (v : Value), i = .int .i64 (c : Int) ∧ c ≤ E.N ∧ Hid (FW E fl st h sp nx (co : Int) cost w0 wr G b v (firstD st FAR c) (firstI st c))) (fun i _ => E.N - (intOf i).toNat)
  case atStart => exact ⟨0, _, rfl, Nat.zero_le _, HW2⟩
  case round =>
    obtain ⟨c, v, rfl, hc, HW⟩ := hrel
    clear HW2
    by_cases hlt : c < E.N
    · have r0 := HW.out.kw.stays.cell hlt
      obtain ⟨z, hz⟩ : ∃ z, st c = z := ⟨_, rfl⟩
      have HZ := Lib.hid hz
      rw [hz] at r0
      clear hz
      by_cases hpos : 0 < z
      · have f1 := HW.out.row.frozen c
        have r1 := HW.out.row.cell hlt
        have HWS := Lib.hid (HW.out.set_ c 0)
        have HDE := Lib.hid (firstD_yes (st := st) (F := FAR) (c := c) (by rw [HZ.out]; exact hpos))
        have HIE := Lib.hid (firstI_yes (st := st) (c := c) (by rw [HZ.out]; exact hpos))
        have HPU := Lib.hid (put_have (0, (c : Int)) HWS.out.pile (by have := firstI_len (st := st) c; omega))
        go_wp2_with (go_at_call 62; refine HPU.out.mono ?_; rintro e w5 ⟨rfl, v', hP, hT⟩; have HW5 := Lib.hid (HWS.out.piled hP hT); clear hP hT)
        go_roundw
        case rel => exact ⟨c + 1, v', by go_num, by omega, Lib.hid (by rw [HDE.out, HIE.out]; exact HW5.out)⟩
        case measure => simp [intOf]; omega
      · have HDE := Lib.hid (firstD_no (st := st) (F := FAR) (c := c) (by rw [HZ.out]; exact hpos))
        have HIE := Lib.hid (firstI_no (st := st) (c := c) (by rw [HZ.out]; exact hpos))
        have hpb : decide (0 < z) = false := by simp; omega
        go_wp2_with fail
        go_roundw
        case rel => exact ⟨c + 1, v, by go_num, by omega, Lib.hid (by rw [HDE.out, HIE.out]; exact HW.out)⟩
        case measure => simp [intOf]; omega
    · have hcN : c = E.N := by omega
      subst hcN
      have HLE : Hid ((firstI st E.N).length ≤ 50000) := Lib.hid (by have := firstI_len (st := st) E.N; omega)
      have HSZ0 : Hid (((firstI st E.N).length : Int) + phi E.N E.L (fun _ => false) ≤ 42000) := Lib.hid (by have h1 := firstI_len (st := st) E.N; have h2 := phi_small HN.out (fun _ => false); omega)
      go_wp2_with (go_at_call 63; refine (takeK_any HW.out.pile HLE.out).mono ?_; rintro e w5 ⟨ok, x, p, v', rfl, ht, hP, hT⟩; have HT := Lib.hid ht; have HWT := Lib.hid (HW.out.piled hP hT); have HTU := Lib.hid hT; clear ht hP hT)
      have HX6 := Lib.hid (XB.new HWT.out x)
      have HW6 := Lib.hid (HWT.out.later ((Below.refl _ _).alloc (Nat.le_refl _) (.cells #[.int .i64 x.1, .int .i64 x.2] 109)))
      have HH6 := Lib.hid (headK_of (gn := 42001) HT.out HDB.out (by have := HSZ0.out; omega) (Nat.le_refl _))
      go_loopg [5, 9, 10] 42001 (fun gn nv xp okv wr => ∃ (d : Nat → Int) (ne : Int) (dn : Nat → Bool) (x : It) (p : List It) (v : Value) (bx : Nat) (ok : Bool), nv = .int .i64 ne ∧ xp = .pointer (some ⟨bx, 0, none⟩) ∧ okv = .bool ok ∧ Hid (FW E fl st h sp nx (co : Int) cost w0 wr G b v d p) ∧ Hid (XB w0 wr G b v bx x) ∧ Hid (HeadK E.l E.N E.L co h fl st R FAR M Z d ne dn x p ok gn))
      case atStart => exact ⟨_, FAR, _, x, p, v', _, ok, rfl, rfl, rfl, HW6, HX6, HH6⟩
      case round =>
        clear HW HT HWT HTU HX6 HW6 HH6 HDB HSZ0 HLE
        obtain ⟨d, ne, dn, x, p, v, bx, ok, rfl, rfl, rfl, HW, HX, HH⟩ := hrel
        cases ok with
        | false =>
          have HD : Hid (Dij E.l E.N E.L co h fl st R FAR M Z d ne dn []) := Lib.hid (by
            rcases HH.out with ⟨e, _⟩ | ⟨_, e⟩
            · cases e
            · exact e)
          clear HH
          go_wp2_with fail
          go_ret2
          exact ⟨d, ne, G, rfl, HW.out.pile.below, HW.out.row, HW.out.ge, by have := HE.out.m0; subst this; exact HD.out.done HE.out (fun y hy => by cases hy)⟩
        | true =>
          obtain ⟨hsz, hgn, hD, hmin⟩ : ((p.length : Int) + 1 + phi E.N E.L dn < gk) ∧ gk ≤ 42001 ∧ Dij E.l E.N E.L co h fl st R FAR M Z d ne dn (x :: p) ∧ ∀ y ∈ x :: p, x.1 ≤ y.1 := by
            rcases HH.out with ⟨_, e⟩ | ⟨e, _⟩
            · exact e
            · cases e
          have hph := phi_nonneg E.N E.L dn
          obtain ⟨u, hu2, huN, hk1, hk2, hk3, _⟩ := hD.base.items x (by simp)
          obtain ⟨κ, xi⟩ := x
          simp only at hu2 hk1 hk2 hk3 hmin
          subst hu2
          have HD := Lib.hid hD
          have HMIN := Lib.hid hmin
          have HK3 := Lib.hid hk3
          obtain ⟨c0, c1⟩ := HX.out.cells
          simp only at c0 c1
          clear HH hD hmin hk3
          by_cases hlt : κ < ne
          · have r0 := HW.out.row.cell huN
            obtain ⟨du, hdu⟩ : ∃ z, d u = z := ⟨_, rfl⟩
            have HDU := Lib.hid hdu
            rw [hdu] at r0 hk1
            clear hdu
            by_cases hsk : du < κ
            · have HDS := Lib.hid (HD.out.skip (by show d (u : Int).toNat < κ; simp only [Int.toNat_natCast]; rw [HDU.out]; exact hsk))
              go_wp2_with fail
              go_quiet (fail)
              obtain ⟨wz, hwz⟩ : ∃ wz, wr.drewN nq = wz := ⟨_, rfl⟩
              have HW2 : Hid (FW E fl st h sp nx (co : Int) cost w0 wz G b v d p) := Lib.hid (hwz ▸ HW.out.later (below_drewN (Below.refl _ _) nq))
              have HX2 : Hid (XB w0 wz G b v bx (κ, (u : Int))) := Lib.hid (hwz ▸ HX.out.later (below_drewN (Below.refl _ _) nq))
              rw [hwz]
              clear hwz HW HX c0 c1 r0
              have HXN := Lib.hid (XB.new HW2.out (κ, (u : Int)))
              have HFN := Lib.hid (HW2.out.later ((Below.refl _ _).alloc (Nat.le_refl _) (.cells #[.int .i64 κ, .int .i64 (u : Int)] 109)))
              obtain ⟨z0, z1⟩ := HX2.out.cells
              simp only at z0 z1
              have HSQ := Lib.hid (show p.length ≤ 50000 from by omega)
              go_wp2_with (go_at_call 63; refine (takeK_any HFN.out.pile HSQ.out).mono ?_; rintro e w8 ⟨ok, y, q, v8, rfl, ht, hP, hT⟩; have HT := Lib.hid ht; have HF8 := Lib.hid (HFN.out.piled hP hT); have HX8 := Lib.hid (HXN.out.piled hT); obtain ⟨y0, y1⟩ := HX8.out.cells; simp only at y0 y1; have y2 := HX8.out.frozen 0; have y3 := HX8.out.frozen 1; clear ht hP hT)
              go_roundg (gk - 1)
              case measure => omega
              case rel => exact ⟨_, _, _, y, q, v8, _, ok, rfl, rfl, rfl, Lib.hid (HF8.out.stored HX8.out y), Lib.hid (HX8.out.put_ y), Lib.hid (headK_of HT.out (HDS.out) (by omega) (by omega))⟩
            · have hdk : κ = du := by omega
              subst hdk
              obtain ⟨hj1, hj2, hdu2, hdn, hsc⟩ := HD.out.scan HE.out HMIN.out (by show κ ≤ d (u : Int).toNat; simp only [Int.toNat_natCast]; rw [HDU.out]; exact Int.le_refl _)
              clear hj1 hj2
              simp only [Int.toNat_natCast] at hdu2 hdn hsc
              have HSC := Lib.hid hsc
              have HKU := Lib.hid hdu2
              have hpm := phi_mark (L := E.L) huN hdn
              obtain ⟨Mu, hMu⟩ : ∃ Mu, (E.L u).length = Mu := ⟨_, rfl⟩
              have HMU := Lib.hid hMu
              rw [hMu] at hpm
              have hMb : Mu ≤ 40000 := by rw [← hMu]; exact HN.out.many huN
              obtain ⟨va, vc, hv⟩ := HW.out.kw.rowV huN
              rw [hMu] at hv
              have HV := Lib.hid hv
              obtain ⟨ph2, hph2⟩ : ∃ z, phi E.N E.L (mark dn u) = z := ⟨_, rfl⟩
              have HPH2 := Lib.hid hph2
              have hph3 := phi_nonneg E.N E.L (mark dn u)
              rw [hph2] at hpm hph3
              obtain ⟨pl, hpl⟩ : ∃ pl, p.length = pl := ⟨_, rfl⟩
              rw [hpl] at hsz
              have HPL := Lib.hid hpl
              have HPM := Lib.hid hpm
              have hplm : pl + Mu ≤ 42001 := by omega
              clear hdu2 hdn hsc hMu hv hph2 hpl hpm hk1 hsk
              go_wp2_with fail
              go_quiet (fail)
              obtain ⟨wz, hwz⟩ : ∃ wz, wr.drewN nq = wz := ⟨_, rfl⟩
              have HW2 : Hid (FW E fl st h sp nx (co : Int) cost w0 wz G b v d p) := Lib.hid (hwz ▸ HW.out.later (below_drewN (Below.refl _ _) nq))
              have HX2 : Hid (XB w0 wz G b v bx (κ, (u : Int))) := Lib.hid (hwz ▸ HX.out.later (below_drewN (Below.refl _ _) nq))
              rw [hwz]
              clear hwz HW HX c0 c1 r0
              obtain ⟨c0, c1⟩ := HX2.out.cells
              simp only at c0 c1
              have a6 := HW2.out.kw.cellW.2.2.2.2.2.2.1
              have r2 := HW2.out.kw.lanes.out.cell huN
              rw [HV.out] at r2
              go_wp2_with fail
              go_quiet (fail)
              go_wp2_with fail
              have HW3 := Lib.hid (HW2.out.later (below_drewN (Below.refl _ _) nq))
              have HX3 := Lib.hid (HX2.out.later (below_drewN (Below.refl _ _) nq))
              clear c0 c1 a6 r2 HW2 HX2
              go_loopw [5, 76] (fun nv i wr => ∃ (r : Nat) (d : Nat → Int) (ne : Int) (v : Value) (Q : List It), nv = .int .i64 ne ∧ i = .int .i64 (r : Int) ∧ r ≤ Mu ∧ Q.length ≤ pl + r ∧ Hid (FW E fl st h sp nx (co : Int) cost w0 wr G b v d Q) ∧ Hid (XB w0 wr G b v bx (κ, (u : Int))) ∧ Hid (Scn E.l E.N E.L co h fl st R FAR M Z d ne (mark dn u) Q u r ∧ d u = κ)) (fun _ i _ => Mu - (intOf i).toNat)
              case atStart => exact ⟨0, d, ne, v, p, rfl, rfl, Nat.zero_le _, by have := HPL.out; omega, HW3, HX3, Lib.hid ⟨HSC.out, HKU.out⟩⟩
              case round =>
                clear HW3 HX3 HSC HKU HDU HD HMIN hlt
                obtain ⟨r, d, ne, v, Q, rfl, rfl, hr, hQl, HW, HX, HS⟩ := hrel
                by_cases hlt : r < Mu
                · obtain ⟨lb2, loff, lcap, k, n2, b2, hv2, hj, e0, e1, e2⟩ := HW.out.kw.lane (q := r) huN (by rw [HMU.out]; exact hlt)
                  rw [HV.out] at hv2
                  injection hv2 with i1 i2 i3
                  clear i2
                  subst i1 i3
                  have HJ := Lib.hid hj
                  have HJM := Lib.hid (List.mem_of_getElem? hj)
                  obtain ⟨x2, hx, hkl, hvN⟩ := HN.out.lanes.lane huN (List.mem_of_getElem? hj)
                  simp only at hx hkl hvN
                  have hmem := List.mem_of_getElem? hx
                  have HXP := Lib.hid hx
                  have HXO := Lib.hid (HN.out.ok x2 hmem)
                  have HXC := Lib.hid (HN.out.cost x2 hmem)
                  clear hj hx hmem
                  obtain ⟨gl, hgl⟩ : ∃ gl, wr.heap.size = gl := ⟨_, rfl⟩
                  obtain ⟨w4, hw4⟩ : ∃ w4, wr.alloc (.cells #[.int .i64 (k : Int), .int .i64 (n2 : Int), .bool b2] 90) = w4 := ⟨_, rfl⟩
                  have HB4 : Hid (Below wr.heap.size wr w4) := Lib.hid (hw4 ▸ (Below.refl _ _).alloc (Nat.le_refl _) _)
                  have HW4 := Lib.hid (HW.out.later HB4.out)
                  have HX4 := Lib.hid (HX.out.later HB4.out)
                  have HL4 : Hid (LB w4 gl k n2 b2) := Lib.hid (hw4 ▸ hgl ▸ LB.new wr k n2 b2)
                  have HGG : Hid (G < gl) := Lib.hid (by have := HW.out.row.lt; omega)
                  obtain ⟨l0, l1, l2⟩ := HL4.out.cells
                  obtain ⟨lf, hlf⟩ : ∃ z, lft E.l fl (k, n2, b2) = z := ⟨_, rfl⟩
                  have HLF := Lib.hid hlf
                  have HLC := Lib.hid (leftK_any (HW4.out.kw.view) n2 b2 HXP.out HXO.out (HCP.out k x2 HXP.out))
                  rw [hlf] at HLC
                  clear hlf HW HX
                  by_cases hl0 : 0 < lf
                  · have hlb : (lf == 0) = false := by simp; omega
                    obtain ⟨ρ, hρ⟩ : ∃ z, rise E.l co h (k, n2, b2) = z := ⟨_, rfl⟩
                    obtain ⟨hr1, hr2⟩ := HE.out.rise u huN _ HJM.out (by rw [HLF.out]; exact hl0)
                    rw [hρ] at hr1 hr2
                    have HRO := Lib.hid hρ
                    have HRC : Hid (∀ W, Below w4.heap.size w4 W → _) := Lib.hid (fun W hb => riseK_any ((HW4.out.later hb).kw.drew.view) n2 b2 HXP.out HXO.out HXC.out HNE.out hco)
                    simp only [hρ] at HRC
                    have hwk : IntKind.i64.wrap (κ + ρ) = κ + ρ := by have h1 := HK3.out; have h2 := HRR.out; unfold FAR at h1; rw [IntKind.wrap_i64]; omega
                    obtain ⟨dv, hdv⟩ : ∃ z, d n2 = z := ⟨_, rfl⟩
                    have HDV := Lib.hid hdv
                    obtain ⟨mn, hmn⟩ : ∃ z, min dv ne = z := ⟨_, rfl⟩
                    have hmi : (if ne < dv then ne else dv) = mn := by split <;> omega
                    have HMN : Hid (κ + ρ < mn ↔ κ + ρ < dv ∧ κ + ρ < ne) := Lib.hid (by omega)
                    clear hρ hmn hdv
                    go_wp2_with (go_at_call 58; refine HLC.out.mono ?_; rintro e w5 ⟨rfl, hb5⟩; have HB5 := Lib.hid hb5; have HW5 := Lib.hid (HW4.out.later hb5); have HX5 := Lib.hid (HX4.out.later hb5); have HL5 := Lib.hid (HL4.out.later hb5); clear hb5)
                    have HXd := Lib.hid (HX5.out.later (Below.refl _ _).drew)
                    have HLd := Lib.hid (HL5.out.later (Below.refl _ _).drew)
                    have HSd : Hid (RiseAt w5.drew bx gl κ k n2 b2) := Lib.hid (riseAt_of HXd.out HLd.out)
                    go_region_held3 (fun W => W.cell? ⟨bx, 0, none⟩ = some (.int .i64 κ) ∧ W.cell? ⟨gl, 0, none⟩ = some (.int .i64 (k : Int)) ∧ W.cell? ⟨gl, 1, none⟩ = some (.int .i64 (n2 : Int)) ∧ W.cell? ⟨gl, 2, none⟩ = some (.bool b2))
                      (first | assumption | exact HSd.out | exact HS6.out)
                      (first | (go_at_call 64; refine (HRC.out _ HB5.out).mono ?_; rintro e w6 ⟨rfl, hb6⟩; have HW6 := Lib.hid ((HW5.out.later (Below.refl _ _).drew).later hb6); have HX6 := Lib.hid (HXd.out.later hb6); have HL6 := Lib.hid (HLd.out.later hb6); have HS6 : Hid (RiseAt w6 bx gl κ k n2 b2) := Lib.hid (riseAt_of HX6.out HL6.out); clear hb6))
                    have rv := HW6.out.row.cell hvN
                    rw [HDV.out] at rv
                    obtain ⟨x0, x1, x2⟩ := HL6.out.cells
                    by_cases hh : κ + ρ < mn
                    · obtain ⟨hh1, hh2⟩ := HMN.out.1 hh
                      have hda : d (k, n2, b2).2.1 = dv := HDV.out
                      obtain ⟨_, hT⟩ := HS.out.1.take HE.out huN HJ.out (by rw [HLF.out]; exact hl0) (by rw [hda, HS.out.2, HRO.out]; exact hh1) (by rw [HS.out.2, HRO.out]; exact hh2)
                      rw [HS.out.2, HRO.out] at hT
                      simp only at hT
                      have hun : u ≠ n2 := fun e => by have h1 := HDV.out; rw [← e, HS.out.2] at h1; omega
                      have HTK := Lib.hid hT
                      have HUN : Hid ((fun i => if i = n2 then κ + ρ else d i) u = κ) := Lib.hid (by simp only [hun, if_false]; exact HS.out.2)
                      have fv := HW6.out.row.frozen n2
                      have HW7 := Lib.hid (HW6.out.set_ n2 (κ + ρ))
                      have HX7 := Lib.hid (HX6.out.set_ n2 (.int .i64 (κ + ρ)))
                      have HL7 : Hid (LB (w6.setCell ⟨G, n2, none⟩ (.int .i64 (κ + ρ))) gl k n2 b2) := Lib.hid ((heap_setCell_other _ _ _ _ (fun e => by have h1 : gl = G := e; have := HGG.out; omega)).trans HL6.out)
                      obtain ⟨w7, hw7⟩ : ∃ w7, w6.setCell ⟨G, n2, none⟩ (.int .i64 (κ + ρ)) = w7 := ⟨_, rfl⟩
                      rw [hw7] at HW7 HX7 HL7
                      have a7 := HW7.out.kw.cellW.2.2.2.2.2.2.2.1
                      obtain ⟨y0, y1, y2⟩ := HL7.out.cells
                      have rs := HW7.out.kw.stays.cell hvN
                      obtain ⟨z, hz⟩ : ∃ z, st n2 = z := ⟨_, rfl⟩
                      rw [hz] at rs HTK
                      clear hz hT hun hda
                      by_cases hzn : z < 0
                      · rw [if_pos hzn] at HTK
                        go_wp2_with fail
                        go_quiet (fail)
                        obtain ⟨wz, hwz⟩ : ∃ wz, w7.drewN nq = wz := ⟨_, rfl⟩
                        have HW8 : Hid (FW E fl st h sp nx (co : Int) cost w0 wz G b v (fun i => if i = n2 then κ + ρ else d i) Q) := Lib.hid (hwz ▸ HW7.out.later (below_drewN (Below.refl _ _) nq))
                        have HX8 : Hid (XB w0 wz G b v bx (κ, (u : Int))) := Lib.hid (hwz ▸ HX7.out.later (below_drewN (Below.refl _ _) nq))
                        have HL8 : Hid (LB wz gl k n2 b2) := Lib.hid (hwz ▸ HL7.out.later (below_drewN (Below.refl _ _) nq))
                        rw [hwz]
                        clear hwz hw7 a7 y0 y1 y2 rs HW7 HX7 HL7 x0 x1 x2 rv fv
                        obtain ⟨y0, y1, y2⟩ := HL8.out.cells
                        have HPU := Lib.hid (put_have (κ + ρ, (n2 : Int)) HW8.out.pile (by omega))
                        go_wp2_with (go_at_call 62; refine HPU.out.mono ?_; rintro e w9 ⟨rfl, v9, hP, hT⟩; have HW9 := Lib.hid (HW8.out.piled hP hT); have HX9 := Lib.hid (HX8.out.piled hT); clear hP hT)
                        go_roundw
                        case rel => exact ⟨r + 1, _, _, v9, _, rfl, by go_num, by omega, by simp only [List.length_cons]; omega, HW9, HX9, Lib.hid ⟨HTK.out, HUN.out⟩⟩
                        case measure => simp [intOf]; omega
                      · rw [if_neg hzn] at HTK
                        have hznb : decide (z < 0) = false := by simp; omega
                        go_wp2_with fail
                        go_quiet (fail)
                        obtain ⟨wz, hwz⟩ : ∃ wz, w7.drewN nq = wz := ⟨_, rfl⟩
                        have HW8 : Hid (FW E fl st h sp nx (co : Int) cost w0 wz G b v (fun i => if i = n2 then κ + ρ else d i) Q) := Lib.hid (hwz ▸ HW7.out.later (below_drewN (Below.refl _ _) nq))
                        have HX8 : Hid (XB w0 wz G b v bx (κ, (u : Int))) := Lib.hid (hwz ▸ HX7.out.later (below_drewN (Below.refl _ _) nq))
                        have HL8 : Hid (LB wz gl k n2 b2) := Lib.hid (hwz ▸ HL7.out.later (below_drewN (Below.refl _ _) nq))
                        rw [hwz]
                        clear hwz hw7 a7 y0 y1 y2 rs HW7 HX7 HL7 x0 x1 x2 rv fv
                        obtain ⟨y0, y1, y2⟩ := HL8.out.cells
                        have HPU := Lib.hid (put_have (κ + ρ, (n2 : Int)) HW8.out.pile (by omega))
                        go_wp2_with (go_at_call 62; refine HPU.out.mono ?_; rintro e w9 ⟨rfl, v9, hP, hT⟩; have HW9 := Lib.hid (HW8.out.piled hP hT); have HX9 := Lib.hid (HX8.out.piled hT); clear hP hT)
                        go_roundw
                        case rel => exact ⟨r + 1, _, _, v9, _, rfl, by go_num, by omega, by simp only [List.length_cons]; omega, HW9, HX9, Lib.hid ⟨HTK.out, HUN.out⟩⟩
                        case measure => simp [intOf]; omega
                    · have hhb : decide (κ + ρ < mn) = false := by simp; omega
                      have HNX := Lib.hid (show _ ∧ _ from ⟨HS.out.1.skip HJ.out (fun _ => by
                        show d n2 ≤ d u + rise E.l co h (k, n2, b2) ∨ ne ≤ d u + rise E.l co h (k, n2, b2)
                        rw [HDV.out, HS.out.2, HRO.out]
                        have := HMN.out
                        omega), HS.out.2⟩)
                      go_wp2_with fail
                      go_roundw
                      case rel => exact ⟨r + 1, d, ne, v, Q, rfl, by go_num, by omega, by omega, HW6, HX6, HNX⟩
                      case measure => simp [intOf]; omega
                  · have hlz : lf = 0 := by
                      have h1 := HCP.out k x2 HXP.out
                      have h2 := HLF.out
                      unfold lft at h2
                      rw [room_of (k := k) HXP.out] at h2
                      simp only at h2
                      split at h2 <;> omega
                    have HNX := Lib.hid (show _ ∧ _ from ⟨HS.out.1.skip HJ.out (fun hp => by rw [HLF.out] at hp; exact absurd hp hl0), HS.out.2⟩)
                    subst hlz
                    clear hl0
                    go_wp2_with (go_at_call 58; refine HLC.out.mono ?_; rintro e w5 ⟨rfl, hb5⟩; have HW5 := Lib.hid (HW4.out.later hb5); have HX5 := Lib.hid (HX4.out.later hb5); clear hb5)
                    go_roundw
                    case rel => exact ⟨r + 1, d, ne, v, Q, rfl, by go_num, by omega, by omega, HW5, HX5, HNX⟩
                    case measure => simp [intOf]; omega
                · have hrM : r = Mu := by omega
                  subst hrM
                  have HEN := Lib.hid (HS.out.1.end_ (by have := HMU.out; omega))
                  have HW3 := HW
                  have HX3 := HX
                  clear HW HX
                  have HXN := Lib.hid (XB.new HW3.out (κ, (u : Int)))
                  have HFN := Lib.hid (HW3.out.later ((Below.refl _ _).alloc (Nat.le_refl _) (.cells #[.int .i64 κ, .int .i64 (u : Int)] 109)))
                  obtain ⟨z0, z1⟩ := HX3.out.cells
                  simp only at z0 z1
                  have HSQ := Lib.hid (show Q.length ≤ 50000 from by omega)
                  go_wp2_with (go_at_call 63; refine (takeK_any HFN.out.pile HSQ.out).mono ?_; rintro e w8 ⟨ok, y, q, v8, rfl, ht, hP, hT⟩; have HT := Lib.hid ht; have HF8 := Lib.hid (HFN.out.piled hP hT); have HX8 := Lib.hid (HXN.out.piled hT); obtain ⟨y0, y1⟩ := HX8.out.cells; simp only at y0 y1; have y2 := HX8.out.frozen 0; have y3 := HX8.out.frozen 1; clear ht hP hT)
                  go_roundg (gk - 1)
                  case measure => omega
                  case rel => exact ⟨_, _, _, y, q, v8, _, ok, rfl, rfl, rfl, Lib.hid (HF8.out.stored HX8.out y), Lib.hid (HX8.out.put_ y), Lib.hid (headK_of HT.out (HEN.out) (by have h1 := HPH2.out; have h2 := HPM.out; omega) (by omega))⟩
          · have hlb : decide (κ < ne) = false := by simp; omega
            go_wp2_with fail
            go_ret2
            exact ⟨d, ne, G, rfl, HW.out.pile.below, HW.out.row, HW.out.ge, by have := HE.out.m0; subst this; exact HD.out.done HE.out (fun y hy => by have := HMIN.out y hy; omega)⟩
end Go.Proofs.Ytbenmebmfihleaa
end
section
/- Package least: lift. -/
namespace Go.Proofs.Ytbenmebmfihleaa
open Go.RowKit

variable {w wr w1 w2 w4 : World} {E : EnvK} {fl st h sp d : Nat → Int} {nx : Nat → Nat} {cost : Int} {s t co c : Nat} {want R M ne : Int} {Z : Nat → Bool}
theorem Kw.congrHigh {h2 : Nat → Int} {co : Int} (H : Kw E fl st h sp nx co cost wr) (e : ∀ j, j < E.N → h j = h2 j) : Kw E fl st h2 sp nx co cost wr :=
  ⟨H.pipes, H.lanes, H.work, H.flow, H.stays, H.high.congr (fun g hg => by rw [e g hg]), H.steps, H.next, H.ord, H.size⟩
/-- The first c nodes are lifted. -/
def upTo (h d : Nat → Int) (ne : Int) (c : Nat) : Nat → Int := fun i => if i < c then h i + min (d i) ne else h i
theorem upTo_zero : upTo h d ne 0 = h := by funext i; simp [upTo]
theorem upTo_at : upTo h d ne c c = h c := by simp [upTo]
theorem upTo_step (c : Nat) : upTo h d ne (c + 1) = fun i => if i = c then h c + min (d c) ne else upTo h d ne c i := by
  funext i
  unfold upTo
  by_cases e : i = c
  · subst e; rw [if_pos (by omega), if_pos rfl]
  · rw [if_neg e]
    by_cases e2 : i < c
    · rw [if_pos e2, if_pos (by omega)]
    · rw [if_neg e2, if_neg (by omega)]
def LiftP (E : EnvK) (R : Int) (co : Nat) (fl st h sp : Nat → Int) (nx : Nat → Nat) (cost : Int) (w0 : World) (e : Ending) (w' : World) : Prop := ∃ (d : Nat → Int) (ne : Int), FarK E.l E.N E.L co h fl st R FAR (phi E.N E.L (fun _ => false)) d ne ∧ Mod (SK E) w0 w' ∧
  ((ne = FAR ∧ e = .returned (.bool false) ∧ Kw E fl st h sp nx (co : Int) cost w') ∨ (ne ≠ FAR ∧ e = .returned (.bool true) ∧ Kw E fl st (upTo h d ne E.N) sp nx (co : Int) cost w'))
set_option maxHeartbeats 4000000 in
set_option maxRecDepth 100000 in
theorem liftK_any {w0 : World} (hn : NetK E.l E.N s t want E.L) (hnear : Near E.N h) (hco : co ≤ 64) (hcap : Capd E.l fl) (hR : R ≤ 8594229559296) (hE : DijE E.l E.N E.L co h fl st R FAR M Z) (H : Kw E fl st h sp nx (co : Int) cost w0) :
    Calls Try.prog 43 #[.pointer (some ⟨E.p, 0, none⟩)] w0 (LiftP E R co fl st h sp nx cost w0) := by
  have HFC := Lib.hid (farK_any hn hnear hco hcap hR hE H)
  have HNE := Lib.hid hnear
  have hNm := hn.nm
  have HOR := Lib.hid H.ord
  have HSZ := Lib.hid H.size
  have HK0 := Lib.hid H
  clear hn hnear hcap hR hE H
  go_enter Try.func43, Try.ntmps43
  go_wp2_with fail
  go_at_call 55
  refine HFC.out.mono ?_
  rintro e w1 ⟨d, ne, G, rfl, hb1, hrow, hge, hfk⟩
  have HK1 := Lib.hid (HK0.out.later hb1)
  have HM1 : Hid (Mod (SK E) w0 w1) := Lib.hid (Mod.of_below _ hb1)
  have HR1 := Lib.hid hrow
  have HFK := Lib.hid hfk
  have HGE : Hid (E.D ≤ G) := Lib.hid (by have := HSZ.out; omega)
  clear hb1 hrow hge hfk HK0 HFC
  by_cases hF : ne = FAR
  · have hFb : (ne == 1152921504606846976) = true := by rw [hF]; rfl
    have HF := Lib.hid hF
    clear hF
    go_wp2_with fail
    go_ret
    exact ⟨d, ne, HFK.out, HM1.out, .inl ⟨HF.out, rfl, HK1.out⟩⟩
  · have hFb : (ne == 1152921504606846976) = false := by
      have : ¬ ne = 1152921504606846976 := hF
      simp [this]
    have HF := Lib.hid hF
    have hne0 := HFK.out.pos
    have hne1 : ne ≤ 1152921504606846976 := HFK.out.le
    have a4 := HK1.out.cellW.2.2.2.2.1
    clear hF
    go_wp2_with fail
    clear a4 hFb
    have HKU : Hid (Kw E fl st (upTo h d ne 0) sp nx (co : Int) cost w1) := Lib.hid (by rw [upTo_zero]; exact HK1.out)
    go_loopw [19] (fun i wr => ∃ c : Nat, i = .int .i64 (c : Int) ∧ c ≤ E.N ∧ Hid (Mod (SK E) w0 wr) ∧ Hid (Kw E fl st (upTo h d ne c) sp nx (co : Int) cost wr) ∧ Hid (wr.rowIs G 2 E.N (fun i => .int .i64 (d i)))) (fun i _ => E.N - (intOf i).toNat)
    case atStart => exact ⟨0, rfl, Nat.zero_le _, HM1, HKU, HR1⟩
    case round =>
      obtain ⟨c, rfl, hc, HM, HK, HR⟩ := hrel
      clear HM1 HKU HR1
      by_cases hlt : c < E.N
      · have a4 := HK.out.cellW.2.2.2.2.1
        have r0 := HK.out.high.cell hlt
        rw [upTo_at] at r0
        have f0 := HK.out.high.frozen c
        have r1 := HR.out.cell hlt
        have hnr := HNE.out c hlt
        have hnn := HFK.out.nn c hlt
        have HST := Lib.hid (upTo_step (h := h) (d := d) (ne := ne) c)
        obtain ⟨dc, hdc⟩ : ∃ z, d c = z := ⟨_, rfl⟩
        obtain ⟨hc2, hhc⟩ : ∃ z, h c = z := ⟨_, rfl⟩
        rw [hdc] at r1 hnn HST
        rw [hhc] at r0 hnr HST
        obtain ⟨mn, hmn⟩ : ∃ z, min dc ne = z := ⟨_, rfl⟩
        rw [hmn] at HST
        have hmi : (if ne < dc then ne else dc) = mn := by split <;> omega
        have hmb : 0 ≤ mn ∧ mn ≤ ne := by omega
        have hw : IntKind.i64.wrap (hc2 + mn) = hc2 + mn := by rw [IntKind.wrap_i64]; omega
        have HK2 := Lib.hid (HK.out.setHigh c (hc2 + mn)).drew
        have HS2 := Lib.hid (SK.set HOR.out.ch HOR.out.dh (Mod.refl (SK E) wr) c (.int .i64 (hc2 + mn))).drew
        have HM2 := Lib.hid (HM.out.trans HS2.out)
        have HR2 := Lib.hid (HR.out.of_block (HS2.out.block G HR.out.lt (fun hh => by have := hh.2; have := HGE.out; omega)))
        clear hdc hhc
        go_wp2_with fail
        go_region
        go_wp2_with fail
        go_roundw
        case rel => exact ⟨c + 1, by go_num, by omega, HM2, Lib.hid (by rw [HST.out]; exact HK2.out), HR2⟩
        case measure => simp [intOf]; omega
      · obtain rfl : c = E.N := by omega
        go_wp2_with fail
        go_ret
        exact ⟨d, ne, HFK.out, HM.out, .inr ⟨HF.out, rfl, HK.out⟩⟩
end Go.Proofs.Ytbenmebmfihleaa
end

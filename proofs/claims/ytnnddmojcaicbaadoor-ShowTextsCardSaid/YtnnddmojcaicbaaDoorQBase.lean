/- Joined: QCalls, QRow, QRs, QBox. -/
import Derived.Test.YtnnddmojcaicbaaDoorRdB
import Derived.Test.YtnnddmojcaicbaaDoorQProg
import Derived.Test.YtnnddmojcaicbaaDoorOwn
import Derived.Deep.LoopGhost
import Derived.LoopTactic
import Derived.Test.YtnnddmojcaicbaaDoorIMakeT
import Derived.Test.YtnnddmojcaicbaaDoorIMakeW
section
/- Package parse: number, fleet, satellite, customer. -/
namespace Go.Proofs.YtnnddmojcaicbaaDoor
open Go.RowKit

variable {base R n k : Nat} {v : Value} {ws : List W} {w w' : World} {F : Rr} {lo hi : Int}
/-- A reader that can't go on. -/
def Off (base R : Nat) (v : Value) (ws : List W) (n : Nat) (F : Rr) (e : Ending) (w' : World) : Prop :=
  e = halted R ∧ ∃ k c, F = .no k c ∧ (c != 0) = true ∧ Rd base R v ws n k (placeN ws n k) c w'
/-- How a call ends that reads one word. -/
theorem mustQ (h : Rd base R v ws n k 0 0 w) (y : ByteArray) (t : List UInt8) (hy : (⟨t.toArray⟩ : ByteArray) = y) {p : Rp} (hF : runR ws (.must t p) k = F) :
    Calls Tryd.prog 29 #[ptrR R, .string y] w fun e w' => Mod (· = R) w w' ∧ ((e = .returned (.tuple #[]) ∧ Rd base R v ws n (k + 1) 0 0 w' ∧ runR ws p (k + 1) = F) ∨ Off base R v ws n F e w') := by
  subst hy
  cases hx : ws[k]? with
  | none =>
    have e : mustK ws k t = false := by simp [mustK, hx]
    rw [runR, e] at hF
    exact (must_no h _ fun u a hu => by rw [hx] at hu; cases hu).mono fun e w' ⟨h1, h2, h3⟩ => ⟨h3, .inr ⟨h1, k, 5, hF.symm, rfl, h2⟩⟩
  | some x =>
    obtain ⟨u, a⟩ := x
    by_cases hu : u = t
    · subst hu
      have e : mustK ws k u = true := by simp [mustK, hx]
      rw [runR, e] at hF
      exact (must_yes h hx).mono fun e w' ⟨h1, h2, h3⟩ => ⟨h3, .inl ⟨h1, h2, hF⟩⟩
    · have e : mustK ws k t = false := by simp [mustK, hx, hu]
      rw [runR, e] at hF
      exact (must_no h _ fun u' a' hu' => by
        rw [hx] at hu'
        cases hu'
        intro e
        exact hu (by
          have := congrArg (fun z : ByteArray => z.data.toList) e
          simpa using this)).mono fun e w' ⟨h1, h2, h3⟩ => ⟨h3, .inr ⟨h1, k, 5, hF.symm, rfl, h2⟩⟩
/-- A number, as it is asked for. -/
theorem numQ (h : Rd base R v ws n k 0 0 w) (htx : ∀ x ∈ ws, x.1.length ≤ 1000000) {f : Int → Rp} (hF : runR ws (.num lo hi f) k = F) :
    Calls Tryd.prog 32 #[ptrR R, .int .i64 lo, .int .i64 hi] w fun e w' => Mod (· = R) w w' ∧ ((∃ q, e = .returned (.int .i64 q) ∧ (lo ≤ q ∧ q ≤ hi ∧ 0 ≤ q) ∧ Rd base R v ws n (k + 1) 0 0 w' ∧ runR ws (f q) (k + 1) = F) ∨ Off base R v ws n F e w') := by
  rw [runR] at hF
  cases hx : ws[k]? with
  | none =>
    have e : numK ws k lo hi = .inr 3 := by simp [numK, hx]
    rw [e] at hF
    exact (number_end h (by simpa using hx) lo hi).mono fun e w' ⟨h1, h2, h3⟩ => ⟨h3, .inr ⟨h1, k, 3, hF.symm, rfl, h2⟩⟩
  | some x =>
    obtain ⟨u, a⟩ := x
    have hu := htx _ (List.mem_of_getElem? hx)
    simp only at hu
    cases hp : parseO u with
    | none =>
      have e : numK ws k lo hi = .inr 3 := by simp [numK, hx, hp]
      rw [e] at hF
      exact (number_bad h hx hu hp lo hi).mono fun e w' ⟨h1, h2, h3⟩ => ⟨h3, .inr ⟨h1, k, 3, hF.symm, rfl, h2⟩⟩
    | some q =>
      by_cases h1 : (q : Int) < lo
      · have e : numK ws k lo hi = .inr 2 := by simp [numK, hx, hp, h1]
        rw [e] at hF
        exact (number_low h hx hu hp lo hi h1).mono fun e w' ⟨h1, h2, h3⟩ => ⟨h3, .inr ⟨h1, k, 2, hF.symm, rfl, h2⟩⟩
      · by_cases h2 : hi < (q : Int)
        · have e : numK ws k lo hi = .inr 2 := by simp [numK, hx, hp, h2]
          rw [e] at hF
          exact (number_high h hx hu hp lo hi h1 h2).mono fun e w' ⟨h1, h2, h3⟩ => ⟨h3, .inr ⟨h1, k, 2, hF.symm, rfl, h2⟩⟩
        · have e : numK ws k lo hi = .inl (q : Int) := by simp [numK, hx, hp, h1, h2]
          rw [e] at hF
          exact (number_yes h hx hu hp lo hi h1 h2).mono fun e w' ⟨h3, h4, h5⟩ => ⟨h5, .inl ⟨q, h3, ⟨by omega, by omega, by omega⟩, h4, hF⟩⟩
theorem numberQ (h : Rd base R v ws n k 0 0 w) (htx : ∀ x ∈ ws, x.1.length ≤ 1000000) {f : Int → Rp} (hF : runR ws (.num 0 1000000000 f) k = F) :
    Calls Tryd.prog 30 #[ptrR R] w fun e w' => Mod (· = R) w w' ∧ ((∃ q, e = .returned (.int .i64 q) ∧ (0 ≤ q ∧ q ≤ 1000000000) ∧ Rd base R v ws n (k + 1) 0 0 w' ∧ runR ws (f q) (k + 1) = F) ∨ Off base R v ws n F e w') := by
  have HN := Lib.hid (numQ h htx hF)
  clear h htx hF
  go_enter Tryd.func30, Tryd.ntmps30
  go_wp2_with fail
  refine HN.out.mono ?_
  rintro e w1 ⟨hm, ⟨q, rfl, hq, hr, hF⟩ | ⟨rfl, hoff⟩⟩
  · have HR := Lib.hid hr
    have HF := Lib.hid hF
    have HM := Lib.hid hm
    clear HN hr hF hm
    go_wp2_with fail
    go_ret
    exact ⟨HM.out, .inl ⟨q, rfl, ⟨hq.1, hq.2.1⟩, HR.out, HF.out⟩⟩
  · exact ⟨rfl, hm, .inr ⟨rfl, hoff⟩⟩

/-- Below and new: as only R was written. -/
theorem Rd.box {o : Obj} (h : Rd base R v ws n k 0 0 w) : Rd base R v ws n k 0 0 (w.alloc o) := h.below ((Below.refl _ _).alloc (Nat.le_refl _) _)
theorem Rd.side {p : Addr} {u : Value} {w0 : World} (h : Rd base R v ws n k 0 0 w) (hR : R < w0.heap.size) (hv : ∀ b, v.ownBlock = some b → b < w0.heap.size) (hp : w0.heap.size ≤ p.block) : Rd base R v ws n k 0 0 (w.setCell p u) :=
  h.kept (S := fun b => b = p.block) ((Mod.refl (fun b => b = p.block) w).setCell (p := p) (.inr rfl) u) (fun e => by omega) (fun b hb e => by have := hv b hb; omega)
theorem Rd.vlt (h : Rd base R v ws n k 0 0 w) : ∀ b, v.ownBlock = some b → b < w.heap.size := fun b hb => (World.ownsRow.lt h.row b hb).2
theorem cell0_of {W : World} {b : Nat} {x y z u : Value} {T : TypeId} {f : Nat × Nat} (h : W.heap[b]? = some (.cells (((#[x, y] : Array Value).setIfInBounds 0 z).setIfInBounds 1 u) T f)) : W.cell? ⟨b, 0, none⟩ = some z := by simp [World.cell?, h]
theorem cell1_of {W : World} {b : Nat} {x y z u : Value} {T : TypeId} {f : Nat × Nat} (h : W.heap[b]? = some (.cells (((#[x, y] : Array Value).setIfInBounds 0 z).setIfInBounds 1 u) T f)) : W.cell? ⟨b, 1, none⟩ = some u := by simp [World.cell?, h]
theorem cells4_of {W : World} {b : Nat} {x0 x1 x2 x3 y0 y1 y2 y3 : Value} {T : TypeId} {f : Nat × Nat} (h : W.heap[b]? = some (.cells (((((#[x0, x1, x2, x3] : Array Value).setIfInBounds 0 y0).setIfInBounds 1 y1).setIfInBounds 2 y2).setIfInBounds 3 y3) T f)) :
    W.cell? ⟨b, 0, none⟩ = some y0 ∧ W.cell? ⟨b, 1, none⟩ = some y1 ∧ W.cell? ⟨b, 2, none⟩ = some y2 ∧ W.cell? ⟨b, 3, none⟩ = some y3 := by simp [World.cell?, h]
set_option maxHeartbeats 1000000 in
theorem fleetQ (h : Rd base R v ws n k 0 0 w) (htx : ∀ x ∈ ws, x.1.length ≤ 1000000) {f : Int → Int → Rp} (hF : runR ws (.num 1 60 fun a => .num 0 1000000000 fun b => f a b) k = F) :
    Calls Tryd.prog 31 #[ptrR R] w fun e w' => Mod (· = R) w w' ∧ ((∃ a b, e = .returned (.agg #[.int .i64 a, .int .i64 b]) ∧ Rd base R v ws n (k + 1 + 1) 0 0 w' ∧ runR ws (f a b) (k + 1 + 1) = F) ∨ Off base R v ws n F e w') := by
  have HM0 : Hid (Mod (· = R) w (w.alloc (.cells #[.int .i64 0, .int .i64 0] 33))) := Lib.hid ((Mod.refl _ w).alloc _)
  have HN := Lib.hid (numQ (h.box (o := .cells #[.int .i64 0, .int .i64 0] 33)) htx hF)
  have HTX := Lib.hid htx
  have hRl := h.lt
  have HV := Lib.hid h.vlt
  have hb0 : (w.alloc (.cells #[.int .i64 0, .int .i64 0] 33)).heap[w.heap.size]? = some (.cells #[.int .i64 0, .int .i64 0] 33 (0, 0)) := heap_alloc_new _ _
  have HB0 := Lib.hid hb0
  have hsz : (w.alloc (.cells #[.int .i64 0, .int .i64 0] 33)).heap.size = w.heap.size + 1 := by simp
  clear h htx hF hb0
  go_enter Tryd.func31, Tryd.ntmps31
  go_wp2_with fail
  refine HN.out.mono ?_
  rintro e w1 ⟨hm, ⟨a, rfl, ha, hr, hF⟩ | ⟨rfl, hoff⟩⟩
  · have HM := Lib.hid (HM0.out.trans hm)
    have HB1 : Hid (w1.heap[w.heap.size]? = some (.cells #[.int .i64 0, .int .i64 0] 33 (0, 0))) := Lib.hid ((hm.block _ (by omega) (by show ¬ w.heap.size = R; omega)).trans HB0.out)
    have HN2 := Lib.hid (numberQ hr HTX.out hF)
    have hs1 := hm.size
    clear HN hr hF hm HM0 HB0
    go_wp2_with fail
    refine HN2.out.mono ?_
    rintro e w2 ⟨hm2, ⟨b, rfl, hb, hr2, hF2⟩ | ⟨rfl, hoff⟩⟩
    · have HB2 : w2.heap[w.heap.size]? = some (.cells #[.int .i64 0, .int .i64 0] 33 (0, 0)) := (hm2.block _ (by omega) (by show ¬ w.heap.size = R; omega)).trans HB1.out
      have c0 : w2.cell? ⟨w.heap.size, 0, none⟩ = some (.int .i64 0) := by simp [World.cell?, HB2]
      have c1 : w2.cell? ⟨w.heap.size, 1, none⟩ = some (.int .i64 0) := by simp [World.cell?, HB2]
      have f0 : ∀ o, w2.frozen? ⟨w.heap.size, o, none⟩ = false := fun o => by simp [World.frozen?, HB2]
      have f00 := f0 0
      have f01 := f0 1
      have hz := set_block (o := 1) (set_block (o := 0) HB2 (.int .i64 a)) (.int .i64 b)
      have HZ := Lib.hid hz
      clear hz
      have HR2 := Lib.hid hr2
      have HF2 := Lib.hid hF2
      have HM2 := Lib.hid (HM.out.trans hm2)
      clear HN2 hr2 hF2 hm2 HM HB2 HB1 f0
      go_wp2_with fail
      have z0 := cell0_of HZ.out
      have z1 := cell1_of HZ.out
      refine bodyPost_ret (v := .agg #[.int .i64 a, .int .i64 b]) ?_ rfl ⟨(HM2.out.setCell (p := ⟨w.heap.size, 0, none⟩) (.inl (Nat.le_refl _)) _).setCell (p := ⟨w.heap.size, 1, none⟩) (.inl (Nat.le_refl _)) _, .inl ⟨a, b, rfl, ?_, HF2.out⟩⟩
      rotate_left
      · exact (HR2.out.side hRl HV.out (p := ⟨w.heap.size, 0, none⟩) (Nat.le_refl _)).side hRl HV.out (p := ⟨w.heap.size, 1, none⟩) (Nat.le_refl _)
      · clear z0 z1 c0 c1 f00 f01
        have z0 := cell0_of HZ.out
        have z1 := cell1_of HZ.out
        simp only [results, Tryd.results31]
        simp [go_sem, z0, z1]
    · exact ⟨rfl, HM.out.trans hm2, .inr ⟨rfl, hoff⟩⟩
  · exact ⟨rfl, HM0.out.trans hm, .inr ⟨rfl, hoff⟩⟩
set_option maxHeartbeats 1000000 in
theorem satelliteQ (h : Rd base R v ws n k 0 0 w) (htx : ∀ x ∈ ws, x.1.length ≤ 1000000) {f : Int → Int → Rp} (hF : runR ws (.num 0 1000000000 fun a => .num 0 1000000000 fun b => f a b) k = F) :
    Calls Tryd.prog 33 #[ptrR R] w fun e w' => Mod (· = R) w w' ∧ ((∃ a b, e = .returned (.agg #[.int .i64 a, .int .i64 b]) ∧ Rd base R v ws n (k + 1 + 1) 0 0 w' ∧ runR ws (f a b) (k + 1 + 1) = F) ∨ Off base R v ws n F e w') := by
  have HM0 : Hid (Mod (· = R) w (w.alloc (.cells #[.int .i64 0, .int .i64 0] 46))) := Lib.hid ((Mod.refl _ w).alloc _)
  have HN := Lib.hid (numberQ (h.box (o := .cells #[.int .i64 0, .int .i64 0] 46)) htx hF)
  have HTX := Lib.hid htx
  have hRl := h.lt
  have HV := Lib.hid h.vlt
  have hb0 : (w.alloc (.cells #[.int .i64 0, .int .i64 0] 46)).heap[w.heap.size]? = some (.cells #[.int .i64 0, .int .i64 0] 46 (0, 0)) := heap_alloc_new _ _
  have HB0 := Lib.hid hb0
  have hsz : (w.alloc (.cells #[.int .i64 0, .int .i64 0] 46)).heap.size = w.heap.size + 1 := by simp
  clear h htx hF hb0
  go_enter Tryd.func33, Tryd.ntmps33
  go_wp2_with fail
  refine HN.out.mono ?_
  rintro e w1 ⟨hm, ⟨a, rfl, ha, hr, hF⟩ | ⟨rfl, hoff⟩⟩
  · have HM := Lib.hid (HM0.out.trans hm)
    have HB1 : Hid (w1.heap[w.heap.size]? = some (.cells #[.int .i64 0, .int .i64 0] 46 (0, 0))) := Lib.hid ((hm.block _ (by omega) (by show ¬ w.heap.size = R; omega)).trans HB0.out)
    have HN2 := Lib.hid (numberQ hr HTX.out hF)
    have hs1 := hm.size
    clear HN hr hF hm HM0 HB0
    go_wp2_with fail
    refine HN2.out.mono ?_
    rintro e w2 ⟨hm2, ⟨b, rfl, hb, hr2, hF2⟩ | ⟨rfl, hoff⟩⟩
    · have HB2 : w2.heap[w.heap.size]? = some (.cells #[.int .i64 0, .int .i64 0] 46 (0, 0)) := (hm2.block _ (by omega) (by show ¬ w.heap.size = R; omega)).trans HB1.out
      have c0 : w2.cell? ⟨w.heap.size, 0, none⟩ = some (.int .i64 0) := by simp [World.cell?, HB2]
      have c1 : w2.cell? ⟨w.heap.size, 1, none⟩ = some (.int .i64 0) := by simp [World.cell?, HB2]
      have f0 : ∀ o, w2.frozen? ⟨w.heap.size, o, none⟩ = false := fun o => by simp [World.frozen?, HB2]
      have f00 := f0 0
      have f01 := f0 1
      have hz := set_block (o := 1) (set_block (o := 0) HB2 (.int .i64 a)) (.int .i64 b)
      have HZ := Lib.hid hz
      clear hz
      have HR2 := Lib.hid hr2
      have HF2 := Lib.hid hF2
      have HM2 := Lib.hid (HM.out.trans hm2)
      clear HN2 hr2 hF2 hm2 HM HB2 HB1 f0
      go_wp2_with fail
      have z0 := cell0_of HZ.out
      have z1 := cell1_of HZ.out
      refine bodyPost_ret (v := .agg #[.int .i64 a, .int .i64 b]) ?_ rfl ⟨(HM2.out.setCell (p := ⟨w.heap.size, 0, none⟩) (.inl (Nat.le_refl _)) _).setCell (p := ⟨w.heap.size, 1, none⟩) (.inl (Nat.le_refl _)) _, .inl ⟨a, b, rfl, ?_, HF2.out⟩⟩
      rotate_left
      · exact (HR2.out.side hRl HV.out (p := ⟨w.heap.size, 0, none⟩) (Nat.le_refl _)).side hRl HV.out (p := ⟨w.heap.size, 1, none⟩) (Nat.le_refl _)
      · clear z0 z1 c0 c1 f00 f01
        have z0 := cell0_of HZ.out
        have z1 := cell1_of HZ.out
        simp only [results, Tryd.results33]
        simp [go_sem, z0, z1]
    · exact ⟨rfl, HM.out.trans hm2, .inr ⟨rfl, hoff⟩⟩
  · exact ⟨rfl, HM0.out.trans hm, .inr ⟨rfl, hoff⟩⟩
set_option maxHeartbeats 2000000 in
theorem customerQ (h : Rd base R v ws n k 0 0 w) (htx : ∀ x ∈ ws, x.1.length ≤ 1000000) {f : Int → Int → Int → Int → Rp} (hF : runR ws (.num 1 1000000000 fun a => .num 0 1000000000 fun b => .num b 1000000000 fun c => .num 0 1000000000 fun d => f a b c d) k = F) :
    Calls Tryd.prog 34 #[ptrR R] w fun e w' => Mod (· = R) w w' ∧ ((∃ a b c d, e = .returned (.agg #[.int .i64 a, .int .i64 b, .int .i64 c, .int .i64 d]) ∧ Rd base R v ws n (k + 1 + 1 + 1 + 1) 0 0 w' ∧ runR ws (f a b c d) (k + 1 + 1 + 1 + 1) = F) ∨ Off base R v ws n F e w') := by
  have HM0 : Hid (Mod (· = R) w (w.alloc (.cells #[.int .i64 0, .int .i64 0, .int .i64 0, .int .i64 0] 55))) := Lib.hid ((Mod.refl _ w).alloc _)
  have HN := Lib.hid (numQ (h.box (o := .cells #[.int .i64 0, .int .i64 0, .int .i64 0, .int .i64 0] 55)) htx hF)
  have HTX := Lib.hid htx
  have hRl := h.lt
  have HV := Lib.hid h.vlt
  have hb0 : (w.alloc (.cells #[.int .i64 0, .int .i64 0, .int .i64 0, .int .i64 0] 55)).heap[w.heap.size]? = some (.cells #[.int .i64 0, .int .i64 0, .int .i64 0, .int .i64 0] 55 (0, 0)) := heap_alloc_new _ _
  have HB0 := Lib.hid hb0
  have hsz : (w.alloc (.cells #[.int .i64 0, .int .i64 0, .int .i64 0, .int .i64 0] 55)).heap.size = w.heap.size + 1 := by simp
  clear h htx hF hb0
  go_enter Tryd.func34, Tryd.ntmps34
  go_wp2_with fail
  refine HN.out.mono ?_
  rintro e w1 ⟨hm, ⟨a, rfl, ha, hr, hF⟩ | ⟨rfl, hoff⟩⟩
  · have HM1 := Lib.hid (HM0.out.trans hm)
    have HB1 : Hid (w1.heap[w.heap.size]? = some (.cells #[.int .i64 0, .int .i64 0, .int .i64 0, .int .i64 0] 55 (0, 0))) := Lib.hid ((hm.block _ (by omega) (by show ¬ w.heap.size = R; omega)).trans HB0.out)
    have hs1 := hm.size
    have HN2 := Lib.hid (numberQ hr HTX.out hF)
    clear HN hr hF hm HM0 HB0
    go_wp2_with fail
    refine HN2.out.mono ?_
    rintro e w2 ⟨hm, ⟨b, rfl, hb, hr, hF⟩ | ⟨rfl, hoff⟩⟩
    · have HM2 := Lib.hid (HM1.out.trans hm)
      have HB2 : Hid (w2.heap[w.heap.size]? = some (.cells #[.int .i64 0, .int .i64 0, .int .i64 0, .int .i64 0] 55 (0, 0))) := Lib.hid ((hm.block _ (by omega) (by show ¬ w.heap.size = R; omega)).trans HB1.out)
      have hs2 := hm.size
      have HN3 := Lib.hid (numQ hr HTX.out hF)
      clear HN2 hr hF hm HM1 HB1
      go_wp2_with fail
      refine HN3.out.mono ?_
      rintro e w3 ⟨hm, ⟨c, rfl, hc, hr, hF⟩ | ⟨rfl, hoff⟩⟩
      · have HM3 := Lib.hid (HM2.out.trans hm)
        have HB3 : Hid (w3.heap[w.heap.size]? = some (.cells #[.int .i64 0, .int .i64 0, .int .i64 0, .int .i64 0] 55 (0, 0))) := Lib.hid ((hm.block _ (by omega) (by show ¬ w.heap.size = R; omega)).trans HB2.out)
        have hs3 := hm.size
        have HN4 := Lib.hid (numberQ hr HTX.out hF)
        clear HN3 hr hF hm HM2 HB2
        go_wp2_with fail
        refine HN4.out.mono ?_
        rintro e w4 ⟨hm, ⟨d, rfl, hd, hr, hF⟩ | ⟨rfl, hoff⟩⟩
        · have HM4 := Lib.hid (HM3.out.trans hm)
          have HB4 : Hid (w4.heap[w.heap.size]? = some (.cells #[.int .i64 0, .int .i64 0, .int .i64 0, .int .i64 0] 55 (0, 0))) := Lib.hid ((hm.block _ (by omega) (by show ¬ w.heap.size = R; omega)).trans HB3.out)
          have hs4 := hm.size
          have HR := Lib.hid hr
          have HF := Lib.hid hF
          have hz := set_block (o := 3) (set_block (o := 2) (set_block (o := 1) (set_block (o := 0) HB4.out (.int .i64 a)) (.int .i64 b)) (.int .i64 c)) (.int .i64 d)
          have HZ := Lib.hid hz
          clear hz
          have c0 : w4.cell? ⟨w.heap.size, 0, none⟩ = some (.int .i64 0) := by simp [World.cell?, HB4.out]
          have c1 : w4.cell? ⟨w.heap.size, 1, none⟩ = some (.int .i64 0) := by simp [World.cell?, HB4.out]
          have c2 : w4.cell? ⟨w.heap.size, 2, none⟩ = some (.int .i64 0) := by simp [World.cell?, HB4.out]
          have c3 : w4.cell? ⟨w.heap.size, 3, none⟩ = some (.int .i64 0) := by simp [World.cell?, HB4.out]
          have f0 : w4.frozen? ⟨w.heap.size, 0, none⟩ = false := by simp [World.frozen?, HB4.out]
          have f1 : w4.frozen? ⟨w.heap.size, 1, none⟩ = false := by simp [World.frozen?, HB4.out]
          have f2 : w4.frozen? ⟨w.heap.size, 2, none⟩ = false := by simp [World.frozen?, HB4.out]
          have f3 : w4.frozen? ⟨w.heap.size, 3, none⟩ = false := by simp [World.frozen?, HB4.out]
          clear HN4 hr hF hm HM3 HB3 HB4
          go_wp2_with fail
          refine bodyPost_ret (v := .agg #[.int .i64 a, .int .i64 b, .int .i64 c, .int .i64 d]) ?_ rfl ⟨?_, .inl ⟨a, b, c, d, rfl, ?_, HF.out⟩⟩
          rotate_left
          · exact (((HM4.out.setCell (p := ⟨w.heap.size, 0, none⟩) (.inl (Nat.le_refl _)) _).setCell (p := ⟨w.heap.size, 1, none⟩) (.inl (Nat.le_refl _)) _).setCell (p := ⟨w.heap.size, 2, none⟩) (.inl (Nat.le_refl _)) _).setCell (p := ⟨w.heap.size, 3, none⟩) (.inl (Nat.le_refl _)) _
          · exact (((HR.out.side hRl HV.out (p := ⟨w.heap.size, 0, none⟩) (Nat.le_refl _)).side hRl HV.out (p := ⟨w.heap.size, 1, none⟩) (Nat.le_refl _)).side hRl HV.out (p := ⟨w.heap.size, 2, none⟩) (Nat.le_refl _)).side hRl HV.out (p := ⟨w.heap.size, 3, none⟩) (Nat.le_refl _)
          · clear c0 c1 c2 c3 f0 f1 f2 f3
            obtain ⟨z0, z1, z2, z3⟩ := cells4_of HZ.out
            simp only [results, Tryd.results34]
            simp [go_sem, z0, z1, z2, z3]
        · exact ⟨rfl, HM3.out.trans hm, .inr ⟨rfl, hoff⟩⟩
      · exact ⟨rfl, HM2.out.trans hm, .inr ⟨rfl, hoff⟩⟩
    · exact ⟨rfl, HM1.out.trans hm, .inr ⟨rfl, hoff⟩⟩
  · exact ⟨rfl, HM0.out.trans hm, .inr ⟨rfl, hoff⟩⟩
end Go.Proofs.YtnnddmojcaicbaaDoor
end
section
/- Package parse: row. -/
namespace Go.Proofs.YtnnddmojcaicbaaDoor
open Go.RowKit

variable {base R n k N g j : Nat} {v : Value} {ws : List W} {w wr w2 : World} {F : Rr} {acc : List Int} {K : List Int → Rp}
theorem infoLongQ : (Tryd.prog.info? 2).map (fun i => (i.zero, i.size, i.bytes)) = some (some (.int .i64 0), 1, 8) := by kernel_rfl
/-- A row on its way. -/
structure RowS (base R : Nat) (v : Value) (ws : List W) (n k : Nat) (w : World) (g N : Nat) (acc : List Int) (wr : World) : Prop where
  rd : Rd base R v ws n k 0 0 wr
  mod : Mod (· = R) w wr
  row : wr.rowIs g 2 N (fun c => .int .i64 (acc.getD c 0))
  ge : g = w.heap.size
  Rlt : R < w.heap.size
  vlt : ∀ b, v.ownBlock = some b → b < w.heap.size
theorem RowS.start (h : Rd base R v ws n k 0 0 w) (N : Nat) : RowS base R v ws n k w w.heap.size N [] (w.alloc (.cells (madeCells #[.int .i64 0] N) 2)) :=
  ⟨h.below ((Below.refl _ _).alloc (Nat.le_refl _) _), (Mod.refl _ w).alloc _, by simpa using World.rowIs_made _ _ _ _, rfl, h.lt, h.vlt⟩
theorem RowS.read {k2 : Nat} (h : RowS base R v ws n k w g N acc wr) (hm : Mod (· = R) wr w2) (hr : Rd base R v ws n k2 0 0 w2) : RowS base R v ws n k2 w g N acc w2 :=
  ⟨hr, h.mod.trans hm, h.row.of_block (hm.block g h.row.lt (by have := h.ge; have := h.Rlt; omega)), h.ge, h.Rlt, h.vlt⟩
theorem RowS.put {x : Int} (h : RowS base R v ws n k w g N acc wr) (hl : acc.length = j) : RowS base R v ws n k w g N (acc ++ [x]) (wr.setCell ⟨g, j, none⟩ (.int .i64 x)) := by
  refine ⟨h.rd.side h.Rlt h.vlt (p := ⟨g, j, none⟩) (by have := h.ge; simp; omega), h.mod.setCell (p := ⟨g, j, none⟩) (.inl (by have := h.ge; simp; omega)) _, (h.row.set j (.int .i64 x)).congr (fun c _ => ?_), h.ge, h.Rlt, h.vlt⟩
  subst hl
  by_cases e : c = acc.length
  · subst e
    simp [List.getD]
  · by_cases e2 : c < acc.length
    · simp [e, List.getD, List.getElem?_append_left e2]
    · have e3 : acc.length + 1 ≤ c := by omega
      simp [e, List.getD, List.getElem?_eq_none (show acc.length ≤ c by omega), List.getElem?_eq_none (show (acc ++ [x]).length ≤ c by simp; omega)]
set_option maxHeartbeats 2000000 in
theorem rowQ (h : Rd base R v ws n k 0 0 w) (htx : ∀ x ∈ ws, x.1.length ≤ 1000000) (i : Nat) (hN : N ≤ 100) (hF : runR ws (rowP i N [] K) k = F) :
    Calls Tryd.prog 36 #[ptrR R, .int .i64 (i : Int), .int .i64 (N : Int)] w fun e w' => Mod (· = R) w w' ∧ ((∃ g r k2, e = .returned (.slice (some ⟨g, 0, none⟩) N N) ∧ r.length = N ∧ RowS base R v ws n k2 w g N r w' ∧ runR ws (K r) k2 = F) ∨ Off base R v ws n F e w') := by
  have hmk := run_make_row' (P := Tryd.prog) 22 2 (.int .i64 0) 8 Tryd.underlying22 infoLongQ rfl .i64 .i64 N (by omega) (by omega)
  have HS0 := Lib.hid (RowS.start h N)
  have HF0 : Hid (runR ws (rowP i (N - 0) [] K) k = F) := Lib.hid hF
  have HTX := Lib.hid htx
  clear h hF htx
  go_enter Tryd.func36, Tryd.ntmps36
  go_wp2_with fail
  obtain ⟨g, hg⟩ : ∃ g, w.heap.size = g := ⟨_, rfl⟩
  have HG := Lib.hid hg
  rw [hg] at HS0 ⊢
  clear hg
  go_loopw [13] (fun iv wr => ∃ (j k2 : Nat) (acc : List Int), iv = .int .i64 (j : Int) ∧ j ≤ N ∧ Hid (acc.length = j) ∧ Hid (RowS base R v ws n k2 w g N acc wr) ∧ Hid (runR ws (rowP i (N - j) acc K) k2 = F)) (fun iv _ => N - (intOf iv).toNat)
  case atStart => exact ⟨0, k, [], rfl, Nat.zero_le _, Lib.hid rfl, HS0, HF0⟩
  case round =>
    obtain ⟨j, k2, acc, rfl, hj, HL, HS, HF⟩ := hrel
    clear HS0 HF0
    by_cases hlt : j < N
    · have hF2 := HF.out
      rw [show N - j = (N - (j + 1)) + 1 by omega, rowP] at hF2
      have q2 := HS.out.row.frozen j
      by_cases hij : j = i
      · have hd : ((j : Int) == (i : Int)) = true := by simp; omega
        rw [HL.out, if_pos hij] at hF2
        have HN := Lib.hid (numQ HS.out.rd HTX.out hF2)
        clear hF2 hij HF
        go_wp2_with fail
        refine HN.out.mono ?_
        rintro e w3 ⟨hm, ⟨q, rfl, hq, hr, hF⟩ | ⟨rfl, hoff⟩⟩
        · have HS2 := Lib.hid (HS.out.read hm hr)
          have HF3 := Lib.hid hF
          have q1 := HS2.out.row.cell hlt
          have q2 := HS2.out.row.frozen j
          clear hm hr hF HN HS
          have HS3 := Lib.hid (HS2.out.put (x := q) HL.out)
          go_wp2_with fail
          go_roundw
          case rel => exact ⟨j + 1, k2 + 1, acc ++ [q], by go_num, by omega, Lib.hid (by simp [HL.out]), HS3, HF3⟩
          case measure => simp [intOf]; omega
        · exact ⟨rfl, HS.out.mod.trans hm, .inr ⟨rfl, hoff⟩⟩
      · have hd : ((j : Int) == (i : Int)) = false := by simp; omega
        rw [HL.out, if_neg hij] at hF2
        have HN := Lib.hid (numQ HS.out.rd HTX.out hF2)
        clear hF2 hij HF
        go_wp2_with fail
        refine HN.out.mono ?_
        rintro e w3 ⟨hm, ⟨q, rfl, hq, hr, hF⟩ | ⟨rfl, hoff⟩⟩
        · have HS2 := Lib.hid (HS.out.read hm hr)
          have HF3 := Lib.hid hF
          have q1 := HS2.out.row.cell hlt
          have q2 := HS2.out.row.frozen j
          clear hm hr hF HN HS
          have HS3 := Lib.hid (HS2.out.put (x := q) HL.out)
          go_wp2_with fail
          go_roundw
          case rel => exact ⟨j + 1, k2 + 1, acc ++ [q], by go_num, by omega, Lib.hid (by simp [HL.out]), HS3, HF3⟩
          case measure => simp [intOf]; omega
        · exact ⟨rfl, HS.out.mod.trans hm, .inr ⟨rfl, hoff⟩⟩
    · obtain rfl : j = N := by omega
      have hF2 := HF.out
      rw [Nat.sub_self, rowP] at hF2
      have HF3 := Lib.hid hF2
      clear hF2
      go_wp2_with fail
      go_ret
      exact ⟨HS.out.mod, .inl ⟨g, acc, k2, rfl, HL.out, HS.out, HF3.out⟩⟩
end Go.Proofs.YtnnddmojcaicbaaDoor
end
section
/- Rows in rows, of the call's own, told by a list of lists. -/
namespace Go.Proofs.YtnnddmojcaicbaaDoor
open Go.RowKit

variable {w w2 w4 : World} {B g : Nat} {v rv : Value} {vs : List Value} {L : List (List Int)} {r : List Int}
/-- The value is a slice of just these numbers, in a block of its own. -/
def RowV (B : Nat) (w : World) (rv : Value) (r : List Int) : Prop := ∃ g c cs, rv = .slice (some ⟨g, 0, none⟩) r.length c ∧ B ≤ g ∧ w.heap[g]? = some (.cells cs 2 (0, 0)) ∧ ∀ (j : Nat) (x : Int), r[j]? = some x → cs[j]? = some (.int .i64 x)
theorem RowV.lt (h : RowV B w rv r) : ∀ b, rv.ownBlock = some b → B ≤ b ∧ b < w.heap.size := by
  obtain ⟨g, c, cs, rfl, hB, hg, _⟩ := h
  intro b hb
  injection hb with e
  simp only at e
  subst e
  exact ⟨hB, (Array.getElem?_eq_some_iff.1 hg).1⟩
theorem RowV.kept (h : RowV B w rv r) (he : ∀ b, rv.ownBlock = some b → w2.heap[b]? = w.heap[b]?) : RowV B w2 rv r := by
  obtain ⟨g, c, cs, rfl, hB, hg, hc⟩ := h
  exact ⟨g, c, cs, rfl, hB, (he g rfl).trans hg, hc⟩
/-- A row that was made, and filled. -/
theorem RowV.made {N : Nat} (hr : w.rowIs g 2 N (fun c => .int .i64 (r.getD c 0))) (hl : r.length = N) (hB : B ≤ g) : RowV B w (.slice (some ⟨g, 0, none⟩) N N) r := by
  obtain ⟨c, hc, hs, hi⟩ := hr
  subst hl
  refine ⟨g, r.length, c, rfl, hB, hc, fun j x hx => ?_⟩
  have hj : j < r.length := (List.getElem?_eq_some_iff.1 hx).1
  rw [hi j hj]
  simp [List.getD, hx]
/-- A row that grew. -/
theorem RowV.grew (h : w.ownsRow B 2 1 rv r.length (numsV r)) (h0 : 0 < r.length) : RowV B w rv r := by
  rcases h.2 with ⟨_, e⟩ | ⟨g, cap, cur, hv, hb, hg, h1, h2, h3, h4⟩
  · omega
  · refine ⟨g, cap, cur, hv, hb, hg, fun j x hx => ?_⟩
    have hj : j < r.length := (List.getElem?_eq_some_iff.1 hx).1
    have h5 : (numsV r)[j]? = some (.int .i64 x) := by simp [numsV, hx]
    rw [← h4, List.getElem?_take, if_pos (by omega)] at h5
    simpa using h5
/-- Rows, the outer one grows. -/
structure OwnRs (B : Nat) (w : World) (v : Value) (vs : List Value) (L : List (List Int)) : Prop where
  outer : w.ownsRow B 22 1 v vs.length vs
  len : vs.length = L.length
  row : ∀ (k : Nat) (r : List Int), L[k]? = some r → ∃ rv, vs[k]? = some rv ∧ RowV B w rv r
theorem OwnRs.nil (B : Nat) (w : World) : OwnRs B w (.slice none 0 0) [] [] := ⟨⟨rfl, .inl ⟨rfl, rfl⟩⟩, rfl, fun k r h => by simp at h⟩
theorem OwnRs.kept {S : Nat → Prop} (h : OwnRs B w v vs L) (hm : Mod S w w2) (hS : ∀ b, B ≤ b → b < w.heap.size → ¬ S b) : OwnRs B w2 v vs L := by
  refine ⟨owns_kept h.outer hm (fun k hk => hS k (World.ownsRow.lt h.outer k hk).1 (World.ownsRow.lt h.outer k hk).2), h.len, fun k r hk => ?_⟩
  obtain ⟨rv, h1, h2⟩ := h.row k r hk
  exact ⟨rv, h1, h2.kept fun b hb => hm.block b (h2.lt b hb).2 (hS b (h2.lt b hb).1 (h2.lt b hb).2)⟩
theorem OwnRs.later (h : OwnRs B w v vs L) (hb : Below w.heap.size w w2) : OwnRs B w2 v vs L := h.kept (Mod.of_below (fun _ => False) hb) (fun _ _ _ h => h)
/-- Rows lie in blocks of another type than the outer one. -/
theorem OwnRs.apart (h : OwnRs B w v vs L) {k : Nat} (hr : L[k]? = some r) (hv : vs[k]? = some rv) : ∀ b, rv.ownBlock = some b → ¬ v.ownBlock = some b := by
  intro b hb hvb
  obtain ⟨rv', h1, g, c, cs, e, hB, hg, _⟩ := h.row k r hr
  rw [hv] at h1
  injection h1 with h1
  subst h1
  subst e
  injection hb with hb
  simp only at hb
  subst hb
  rcases h.outer.2 with ⟨e, _⟩ | ⟨g2, cap, cur, e, _, hg2, _⟩
  · rw [e] at hvb; cases hvb
  · subst e
    injection hvb with hvb
    simp only at hvb
    subst hvb
    rw [hg] at hg2
    injection hg2 with hg2
    injection hg2 with _ hT
    exact absurd hT (by decide)
/-- One row more. -/
theorem OwnRs.push (h : OwnRs B w v vs L) (hr : RowV B w rv r) (hro : ∀ b, rv.ownBlock = some b → ¬ v.ownBlock = some b) {g4 cap n : Nat} (hn : vs.length = n)
    (hown : w4.ownsRow B 22 1 (.slice (some ⟨g4, 0, none⟩) (n + 1) cap) (n + 1) (vs ++ [rv])) (hgrow : w.grownBy w4 v.ownBlock) :
    OwnRs B w4 (.slice (some ⟨g4, 0, none⟩) (n + 1) cap) (vs ++ [rv]) (L ++ [r]) := by
  subst hn
  refine ⟨by simpa using hown, by simp [h.len], fun k r' hk => ?_⟩
  by_cases hl : k < L.length
  · rw [List.getElem?_append_left hl] at hk
    obtain ⟨rv', h1, h2⟩ := h.row k r' hk
    refine ⟨rv', by rw [List.getElem?_append_left (by rw [h.len]; exact hl)]; exact h1, h2.kept fun b hb => hgrow.block b (h2.lt b hb).2 (fun e => h.apart hk h1 b hb e.symm)⟩
  · rw [List.getElem?_append_right (by omega)] at hk
    by_cases h0 : k - L.length = 0
    · simp [h0] at hk
      subst hk
      refine ⟨rv, ?_, hr.kept fun b hb => hgrow.block b (hr.lt b hb).2 (fun e => hro b hb e.symm)⟩
      rw [List.getElem?_append_right (by rw [h.len]; omega), h.len, h0]
      rfl
    · have : (k - L.length) = (k - L.length - 1) + 1 := by omega
      rw [this] at hk
      simp at hk
/-- As rows that came in. -/
theorem OwnRs.rows (h : OwnRs B w v vs L) (hL : ∀ r ∈ L, r.length ≤ 1000) : ∃ a c, v = .slice a L.length c ∧ IsRows w.heap.size w a L.length L := by
  obtain ⟨a, c, rfl⟩ := owns_shape h.outer
  refine ⟨a, c, by rw [h.len], rfl, ?_⟩
  by_cases h0 : L.length = 0
  · exact .inl h0
  · have hl := h.len
    obtain ⟨g, cap, e, h1, h2, _⟩ := owns_some h.outer (by omega)
    injection e with e1 _ e3
    subst e1
    refine .inr ⟨g, 0, rfl, h2, fun k r hk => ?_⟩
    obtain ⟨rv, hv, gr, c, cs, rfl, hB, hg, hc⟩ := h.row k r hk
    have hkn : k < L.length := (List.getElem?_eq_some_iff.1 hk).1
    refine ⟨by have := hL r (List.mem_of_getElem? hk); omega, some ⟨gr, 0, none⟩, c, ?_, rfl, .inr ⟨gr, 0, rfl, (Array.getElem?_eq_some_iff.1 hg).1, fun j x hx => ?_⟩⟩
    · rw [Nat.zero_add, World.ownsRow.cellAt h.outer k (by omega)]
      exact hv
    · rw [Nat.zero_add]
      simp [World.cell?, hg, hc j x hx]
end Go.Proofs.YtnnddmojcaicbaaDoor
end
section
/- Package parse: what Parse's own function keeps: the reader, the instance's box. -/
namespace Go.Proofs.YtnnddmojcaicbaaDoor
open Go.RowKit

variable {base R n k k2 bx g : Nat} {v : Value} {ws : List W} {W0 w w2 w4 : World} {en tm tr bm br : Int} {sv cv kv tv : Value} {F : Rr}
structure BoxS (base R : Nat) (v : Value) (ws : List W) (n k bx : Nat) (W0 w : World) (en tm tr bm br : Int) (sv cv kv tv : Value) : Prop where
  rd : Rd base R v ws n k 0 0 w
  box : w.heap[bx]? = some (.cells #[.int .i64 en, .int .i64 tm, .int .i64 tr, .int .i64 bm, .int .i64 br, sv, cv, kv, tv] 38 (0, 0))
  mod : Mod (fun b => b = R ∨ b = bx) W0 w
  bxlt : bx < base
  Rge : base ≤ R
  Rlt : R < W0.heap.size
  vlt : ∀ b, v.ownBlock = some b → base ≤ b ∧ b < W0.heap.size
theorem Rd.vge (h : Rd base R v ws n k 0 0 w) : ∀ b, v.ownBlock = some b → base ≤ b ∧ b < w.heap.size := fun b hb => World.ownsRow.lt h.row b hb
theorem BoxS.start (h : Rd base R v ws n k 0 0 w) (hb : w.heap[bx]? = some (.cells #[.int .i64 en, .int .i64 tm, .int .i64 tr, .int .i64 bm, .int .i64 br, sv, cv, kv, tv] 38 (0, 0))) (h1 : bx < base) (h2 : base ≤ R) :
    BoxS base R v ws n k bx w w en tm tr bm br sv cv kv tv := ⟨h, hb, Mod.refl _ _, h1, h2, h.lt, h.vge⟩
theorem BoxS.restart (h : BoxS base R v ws n k bx W0 w en tm tr bm br sv cv kv tv) : BoxS base R v ws n k bx w w en tm tr bm br sv cv kv tv := BoxS.start h.rd h.box h.bxlt h.Rge
theorem BoxS.read (h : BoxS base R v ws n k bx W0 w en tm tr bm br sv cv kv tv) (hm : Mod (· = R) w w2) (hr : Rd base R v ws n k2 0 0 w2) : BoxS base R v ws n k2 bx W0 w2 en tm tr bm br sv cv kv tv :=
  ⟨hr, (hm.block bx (lt_of_block h.box) (by have := h.bxlt; have := h.Rge; omega)).trans h.box, h.mod.trans (hm.mono fun _ _ e => .inl e), h.bxlt, h.Rge, h.Rlt, h.vlt⟩
theorem BoxS.later (h : BoxS base R v ws n k bx W0 w en tm tr bm br sv cv kv tv) (hb : Below w.heap.size w w2) : BoxS base R v ws n k bx W0 w2 en tm tr bm br sv cv kv tv :=
  h.read (Mod.of_below _ hb) (h.rd.below hb)
theorem BoxS.grown {row : Option Nat} (h : BoxS base R v ws n k bx W0 w en tm tr bm br sv cv kv tv) (hg : w.grownBy w4 row) (hr : ∀ k, row = some k → W0.heap.size ≤ k) : BoxS base R v ws n k bx W0 w4 en tm tr bm br sv cv kv tv := by
  have hm : Mod (fun b => row = some b) w w4 := (Mod.refl (fun b => row = some b) w).grown hg (fun _ hk => .inr hk)
  have hs := h.mod.size
  have hR := h.Rlt
  refine ⟨h.rd.kept hm (fun e => by have := hr _ e; omega) (fun b hb e => by have := hr _ e; have := (h.vlt b hb).2; omega), (hm.block bx (lt_of_block h.box) (fun e => by have := hr _ e; have := h.bxlt; have := h.Rge; omega)).trans h.box, ?_, h.bxlt, h.Rge, h.Rlt, h.vlt⟩
  exact h.mod.then_ hm (fun i hi e => absurd (hr i e) (by omega))
theorem BoxS.set_ {o : Nat} {u : Value} {en' tm' tr' bm' br' : Int} {sv' cv' kv' tv' : Value} (h : BoxS base R v ws n k bx W0 w en tm tr bm br sv cv kv tv)
    (e : (#[.int .i64 en, .int .i64 tm, .int .i64 tr, .int .i64 bm, .int .i64 br, sv, cv, kv, tv] : Array Value).setIfInBounds o u = #[.int .i64 en', .int .i64 tm', .int .i64 tr', .int .i64 bm', .int .i64 br', sv', cv', kv', tv']) :
    BoxS base R v ws n k bx W0 (w.setCell ⟨bx, o, none⟩ u) en' tm' tr' bm' br' sv' cv' kv' tv' := by
  refine ⟨h.rd.kept (S := fun b => b = bx) ((Mod.refl (fun b => b = bx) w).setCell (p := ⟨bx, o, none⟩) (.inr rfl) u) (fun e => by have := h.bxlt; have := h.Rge; omega) (fun b hb e => by have := (h.vlt b hb).1; have := h.bxlt; omega), ?_, h.mod.setCell (p := ⟨bx, o, none⟩) (.inr (.inr rfl)) u, h.bxlt, h.Rge, h.Rlt, h.vlt⟩
  rw [← e]
  exact set_block h.box u
theorem BoxS.cells (h : BoxS base R v ws n k bx W0 w en tm tr bm br sv cv kv tv) : w.cell? ⟨bx, 0, none⟩ = some (.int .i64 en) ∧ w.cell? ⟨bx, 1, none⟩ = some (.int .i64 tm) ∧ w.cell? ⟨bx, 2, none⟩ = some (.int .i64 tr) ∧ w.cell? ⟨bx, 3, none⟩ = some (.int .i64 bm) ∧ w.cell? ⟨bx, 4, none⟩ = some (.int .i64 br) ∧
    w.cell? ⟨bx, 5, none⟩ = some sv ∧ w.cell? ⟨bx, 6, none⟩ = some cv ∧ w.cell? ⟨bx, 7, none⟩ = some kv ∧ w.cell? ⟨bx, 8, none⟩ = some tv ∧ ∀ o, w.frozen? ⟨bx, o, none⟩ = false := by simp [World.cell?, World.frozen?, h.box]
theorem BoxS.drew (h : BoxS base R v ws n k bx W0 w en tm tr bm br sv cv kv tv) : BoxS base R v ws n k bx W0 w.drew en tm tr bm br sv cv kv tv := ⟨h.rd.drew, h.box, h.mod.drew, h.bxlt, h.Rge, h.Rlt, h.vlt⟩
/-- What is of the call's own, and new since W0, stays. -/
theorem BoxS.owns {T : TypeId} {sz m : Nat} {u : Value} {xs : List Value} {B : Nat} (h : BoxS base R v ws n k bx W0 w en tm tr bm br sv cv kv tv) (hB : R < B) (ho : W0.ownsRow B T sz u m xs) : w.ownsRow B T sz u m xs :=
  owns_kept ho h.mod (fun b hb e => by
    have h1 := (World.ownsRow.lt ho b hb).1
    have := h.bxlt
    have := h.Rge
    rcases e with e | e <;> omega)
/-- How Parse's own function ends. -/
def DoQ (base R : Nat) (v : Value) (ws : List W) (n bx : Nat) (W0 : World) (F : Rr) (e : Ending) (w' : World) : Prop :=
  Mod (fun b => b = R ∨ b = bx) W0 w' ∧ ((∃ x k A, F = .ok x k ∧ e = .returned (.tuple #[]) ∧ Rd base R v ws n k 0 0 w' ∧ w'.heap[bx]? = some (.cells (insC A x) 38 (0, 0)) ∧ ∀ w2, Mod (fun b => b < base) w' w2 → IsIns w2.heap.size w2 A x) ∨ Off base R v ws n F e w')
theorem DoQ.off {W1 : World} {e : Ending} (hW : Mod (fun b => b = R ∨ b = bx) W0 W1) (h : BoxS base R v ws n k bx W1 w en tm tr bm br sv cv kv tv) (hm : Mod (· = R) w w2) (ho : Off base R v ws n F e w2) : DoQ base R v ws n bx W0 F e w2 :=
  ⟨hW.trans (h.mod.trans (hm.mono fun _ _ e => .inl e)), .inr ho⟩
theorem nodesE (v0 v1 v2 v3 v4 : Int) (sa : Option Addr) (ns sc : Nat) (ca : Option Addr) (nc cc : Nat) (v7 v8 : Option Addr) (n7 c7 n8 c8 N : Nat) (w : World) (h : ns + nc ≤ 1000) (hN : 1 + ns + nc = N) :
    Calls Tryd.prog 35 #[.agg #[.int .i64 v0, .int .i64 v1, .int .i64 v2, .int .i64 v3, .int .i64 v4, .slice sa ns sc, .slice ca nc cc, .slice v7 n7 c7, .slice v8 n8 c8]] w fun e w' => e = .returned (.int .i64 (N : Int)) ∧ Below w.heap.size w w' := by
  have HB := Lib.hid ((Below.refl w.heap.size w).alloc (Nat.le_refl _) (.cells #[.int .i64 v0, .int .i64 v1, .int .i64 v2, .int .i64 v3, .int .i64 v4, .slice sa ns sc, .slice ca nc cc, .slice v7 n7 c7, .slice v8 n8 c8] 38))
  subst hN
  go_enter Tryd.func35, Tryd.ntmps35
  go_wp2_with fail
  go_ret
  refine ⟨?_, HB.out⟩
  have e : (1 + (ns : Int) + (nc : Int)) = ((1 + ns + nc : Nat) : Int) := by omega
  rw [← e]
  rfl
end Go.Proofs.YtnnddmojcaicbaaDoor
end

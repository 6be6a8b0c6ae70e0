/- Joined: WLeft, KSteep, KLane, KSum, KCheap, KFunc. -/
import Derived.Test.YtbenmebmfihleaaMWk
import Derived.BigQuiet
import Derived.Deep.QuietTactic
import Derived.Deep.RegionWith
import Derived.Deep.LoopGhost
import Derived.LoopTactic
section
/- What is left of a lane. -/
namespace Go.Proofs.Ytbenmebmfihleaa
open Go.RowKit

variable {w wr w2 w4 : World} {E : Env} {fl st : Nat → Int} {hi nx : Nat → Nat} {mn : Nat → Int} {fv : Nat → Value} {Q : Nat → List Nat} {top : Int}
/-- A lane, as a value. -/
def laneV (a : La) : Array Value := #[.int .i64 (a.1 : Int), .int .i64 (a.2.1 : Int), .bool a.2.2]
theorem heap_new (w : World) (o : Obj) : (w.alloc o).heap[w.heap.size]? = some o := heap_alloc_new _ _
set_option maxHeartbeats 2000000 in
set_option maxRecDepth 100000 in
theorem left_any (H : Wk E fl st hi nx mn fv Q top wr) (k v : Nat) (b : Bool) (hk : k < E.len) (hcap : ∀ (k : Nat) (x : Pi), E.l[k]? = some x → 0 ≤ fl k ∧ fl k ≤ x.2.2.1 ∧ x.2.2.1 ≤ 1099511627776) :
    Calls Try.prog 36 #[.pointer (some ⟨E.p, 0, none⟩), .agg #[.int .i64 (k : Int), .int .i64 (v : Int), .bool b]] wr fun e w' => e = .returned (.int .i64 (lft E.l fl (k, v, b))) ∧ Below wr.heap.size wr w' := by
  have HB := Lib.hid ((Below.refl wr.heap.size wr).alloc (Nat.le_refl _) (.cells #[.int .i64 (k : Int), .int .i64 (v : Int), .bool b] 81))
  have H1 := H.later HB.out
  obtain ⟨_, c1, _, _, _, c5, _⟩ := H1.cellW
  have r := H1.flow.cell hk
  obtain ⟨pb, off, x, ha, _, hx, e0, e1, e2, e3⟩ := H1.pipes.at_ hk
  have hc := hcap k x hx
  rw [ha] at c1
  have hs : IntKind.i64.wrap (x.2.2.1 - fl k) = x.2.2.1 - fl k := by rw [IntKind.wrap_i64]; omega
  have hlf : lft E.l fl (k, v, b) = if b = true then fl k else x.2.2.1 - fl k := by simp [lft, room_of hx]
  rw [hlf]
  clear hlf hcap H1 H hx ha
  cases b with
  | true =>
    go_enter Try.func36, Try.ntmps36
    go_wp2_with fail
    go_quiet (fail)
    go_wp2_with fail
    go_ret
    exact ⟨rfl, below_drewN HB.out _⟩
  | false =>
    go_enter Try.func36, Try.ntmps36
    go_wp2_with fail
    go_quiet (fail)
    go_wp2_with fail
    go_ret
    exact ⟨rfl, below_drewN HB.out _⟩
end Go.Proofs.Ytbenmebmfihleaa
end
section
/- Package least: steep. -/
namespace Go.Proofs.Ytbenmebmfihleaa
open Go.RowKit

variable {w wr w2 w4 : World} {C p N len co k : Nat} {l : List Pi} {fl h : Nat → Int} {x : Pi}
/-- Nodes that lie near enough. -/
def Near (N : Nat) (h : Nat → Int) : Prop := ∀ i, i < N → -1125899906842624 ≤ h i ∧ h i ≤ 1125899906842624
theorem shift_le (c : Int) (co : Nat) (h0 : 0 ≤ c) (h1 : c ≤ 4294967296) : 0 ≤ c / 2 ^ co ∧ c / 2 ^ co ≤ 4294967296 :=
  ⟨Int.ediv_nonneg h0 (Int.le_of_lt (Int.pow_pos (by omega))), Int.le_trans (Int.ediv_le_self _ h0) h1⟩
set_option maxHeartbeats 2000000 in
set_option maxRecDepth 100000 in
theorem steep_any (H : Vw wr C p N len l fl h co) (hx : l[k]? = some x) (hok : okP (N : Int) x = true) (hc : 0 ≤ x.2.2.2 ∧ x.2.2.2 ≤ 4294967296) (hn : Near N h) (hco : co ≤ 64) :
    Calls Try.prog 44 #[.pointer (some ⟨p, 0, none⟩), .int .i64 (k : Int)] wr fun e w' => e = .returned (.int .i64 (stp co h x)) ∧ Below wr.heap.size wr w' := by
  have HB := Lib.hid ((Below.refl wr.heap.size wr).alloc (Nat.le_refl _) (.cells #[.int .i64 x.1, .int .i64 x.2.1, .int .i64 x.2.2.1, .int .i64 x.2.2.2] 47))
  have hxo := okP_true.1 hok
  obtain ⟨a1, c1, e1, r1⟩ := H.pipes
  have hk : k < len := by have := (List.getElem?_eq_some_iff.1 hx).1; rw [r1.1] at this; exact this
  obtain ⟨pb, off, x', ha, hpb, hx', p0, p1, p2, p3⟩ := r1.at_ hk
  rw [hx] at hx'
  cases hx'
  subst ha
  have H1 := H.later (HB.out.mono H.size)
  obtain ⟨a3, c3, e3, r3⟩ := H1.high
  have e5 := H1.co
  obtain ⟨f, hf⟩ : ∃ f : Nat, x.1 = (f : Int) := ⟨x.1.toNat, by omega⟩
  obtain ⟨g, hg⟩ : ∃ g : Nat, x.2.1 = (g : Int) := ⟨x.2.1.toNat, by omega⟩
  have hfN : f < N := by omega
  have hgN : g < N := by omega
  obtain ⟨hb, ho, rfl, hbC, q1⟩ := r3 f hfN
  obtain ⟨hb2, ho2, hab, _, q2⟩ := r3 g hgN
  injection hab with hab
  injection hab with i1 i2
  subst i1 i2
  have n1 := hn f hfN
  have n2 := hn g hgN
  obtain ⟨s1, s2⟩ := shift_le x.2.2.2 co hc.1 hc.2
  have hst : stp co h x = x.2.2.2 / 2 ^ co + h f - h g := by unfold stp; rw [hf, hg]; rfl
  rw [hst]
  clear hst H1 H r1 r3 hn hok hx
  obtain ⟨x1, x2, x3, x4⟩ := x
  simp only at *
  subst hf hg
  generalize h f = u at *
  generalize h g = v at *
  go_enter Try.func44, Try.ntmps44
  go_wp2_with fail
  go_quiet (fail)
  go_wp2_with fail
  go_ret
  exact ⟨rfl, below_drewN HB.out _⟩
end Go.Proofs.Ytbenmebmfihleaa
end
section
/- Package least: left, flat, rise. -/
namespace Go.Proofs.Ytbenmebmfihleaa
open Go.RowKit

variable {w wr w2 w4 : World} {C p N len co k v : Nat} {l : List Pi} {fl h : Nat → Int} {x : Pi} {b : Bool}
set_option maxHeartbeats 2000000 in
set_option maxRecDepth 100000 in
theorem leftK_any (H : Vw wr C p N len l fl h co) (v : Nat) (b : Bool) (hx : l[k]? = some x) (hok : okP (N : Int) x = true) (hc : 0 ≤ fl k ∧ fl k ≤ x.2.2.1) :
    Calls Try.prog 58 #[.pointer (some ⟨p, 0, none⟩), .int .i64 (k : Int), .bool b] wr fun e w' => e = .returned (.int .i64 (lft l fl (k, v, b))) ∧ Below wr.heap.size wr w' := by
  have hxo := okP_true.1 hok
  obtain ⟨a1, c1, e1, r1⟩ := H.pipes
  have hk : k < len := by have := (List.getElem?_eq_some_iff.1 hx).1; rw [r1.1] at this; exact this
  obtain ⟨pb, off, x', ha, hpb, hx', p0, p1, p2, p3⟩ := r1.at_ hk
  rw [hx] at hx'
  cases hx'
  subst ha
  obtain ⟨a2, c2, e2, r2⟩ := H.flow
  obtain ⟨fb, fo, rfl, hfC, q1⟩ := r2 k hk
  have hlf : lft l fl (k, v, b) = if b = true then fl k else x.2.2.1 - fl k := by simp [lft, room_of hx]
  rw [hlf]
  have hs : IntKind.i64.wrap (x.2.2.1 - fl k) = x.2.2.1 - fl k := by rw [IntKind.wrap_i64]; omega
  have HZ := Lib.hid (Below.refl wr.heap.size wr)
  clear hlf H r1 r2 hok hx
  generalize fl k = u at *
  cases b with
  | true =>
    go_enter Try.func58, Try.ntmps58
    go_wp2_with fail
    go_ret
    exact ⟨rfl, HZ.out⟩
  | false =>
    go_enter Try.func58, Try.ntmps58
    go_wp2_with fail
    go_quiet (fail)
    go_wp2_with fail
    go_ret
    exact ⟨rfl, below_drewN HZ.out _⟩
theorem rise_pipe {v : Nat} {b : Bool} (hx : l[k]? = some x) : rise l co h (k, v, b) = if b = true then - stp co h x else stp co h x := by rw [rise_of (a := (k, v, b)) hx]; rfl
theorem stp_small (hok : okP (N : Int) x = true) (hc : 0 ≤ x.2.2.2 ∧ x.2.2.2 ≤ 4294967296) (hn : Near N h) (co : Nat) : -2251804108652544 - 4294967296 ≤ stp co h x ∧ stp co h x ≤ 2251804108652544 + 4294967296 := by
  have hxo := okP_true.1 hok
  have n1 := hn x.1.toNat (by omega)
  have n2 := hn x.2.1.toNat (by omega)
  obtain ⟨s1, s2⟩ := shift_le x.2.2.2 co hc.1 hc.2
  unfold stp
  omega
set_option maxHeartbeats 2000000 in
set_option maxRecDepth 100000 in
theorem flatK_any (H : Vw wr C p N len l fl h co) (v : Nat) (b : Bool) (hx : l[k]? = some x) (hok : okP (N : Int) x = true) (hc : 0 ≤ x.2.2.2 ∧ x.2.2.2 ≤ 4294967296) (hn : Near N h) (hco : co ≤ 64) (hcap : 0 ≤ fl k ∧ fl k ≤ x.2.2.1) :
    Calls Try.prog 57 #[.pointer (some ⟨p, 0, none⟩), .int .i64 (k : Int), .bool b] wr fun e w' => e = .returned (.bool (opn l co h fl (k, v, b))) ∧ Below wr.heap.size wr w' := by
  have HS := Lib.hid (steep_any H hx hok hc hn hco)
  have HL : Hid (∀ w2, Below wr.heap.size wr w2 → _) := Lib.hid (fun w2 hb => leftK_any (H.later (w2 := w2) (hb.mono H.size)) v b hx hok hcap)
  obtain ⟨z, hz⟩ : ∃ z, stp co h x = z := ⟨_, rfl⟩
  obtain ⟨d, hd⟩ : ∃ d, lft l fl (k, v, b) = d := ⟨_, rfl⟩
  have ho : opn l co h fl (k, v, b) = (decide (z = 0) && decide (0 < d)) := by
    unfold opn
    rw [rise_pipe hx, hz, hd]
    congr 1
    cases b <;> simp <;> omega
  rw [ho]
  rw [hz] at HS
  simp only [hd] at HL
  clear ho hz hd H hx hok hc hn hco hcap
  by_cases h0 : z = 0
  · have e1 : (z == 0) = true := by simp [h0]
    have e2 : decide (z = 0) = true := by simp [h0]
    rw [e2]
    clear h0 e2
    by_cases h1 : 0 < d
    · have e3 : decide (0 < d) = true := by simp [h1]
      rw [e3]
      clear e3
      go_enter Try.func57, Try.ntmps57
      go_wp2_with (first
        | (go_at_call 44; refine HS.out.mono ?_; rintro e w2 ⟨rfl, hb2⟩; have HB2 := Lib.hid hb2; clear hb2)
        | (go_at_call 58; refine (HL.out _ HB2.out).mono ?_; rintro e w3 ⟨rfl, hb3⟩; have HB3 := Lib.hid (HB2.out.trans (hb3.mono HB2.out.size)); clear hb3))
      go_ret
      exact ⟨rfl, HB3.out⟩
    · have e3 : decide (0 < d) = false := by simp [h1]
      rw [e3]
      go_enter Try.func57, Try.ntmps57
      go_wp2_with (first
        | (go_at_call 44; refine HS.out.mono ?_; rintro e w2 ⟨rfl, hb2⟩; have HB2 := Lib.hid hb2; clear hb2)
        | (go_at_call 58; refine (HL.out _ HB2.out).mono ?_; rintro e w3 ⟨rfl, hb3⟩; have HB3 := Lib.hid (HB2.out.trans (hb3.mono HB2.out.size)); clear hb3))
      go_ret
      exact ⟨rfl, HB3.out⟩
  · have e1 : (z == 0) = false := by simp [h0]
    have e2 : decide (z = 0) = false := by simp [h0]
    rw [e2]
    clear h0 e2
    go_enter Try.func57, Try.ntmps57
    go_wp2_with (go_at_call 44; refine HS.out.mono ?_; rintro e w2 ⟨rfl, hb2⟩; have HB2 := Lib.hid hb2; clear hb2)
    go_ret
    exact ⟨rfl, HB2.out⟩
set_option maxHeartbeats 2000000 in
set_option maxRecDepth 100000 in
theorem riseK_any (H : Vw wr C p N len l fl h co) (v : Nat) (b : Bool) (hx : l[k]? = some x) (hok : okP (N : Int) x = true) (hc : 0 ≤ x.2.2.2 ∧ x.2.2.2 ≤ 4294967296) (hn : Near N h) (hco : co ≤ 64) :
    Calls Try.prog 64 #[.pointer (some ⟨p, 0, none⟩), .agg #[.int .i64 (k : Int), .int .i64 (v : Int), .bool b]] wr fun e w' => e = .returned (.int .i64 (rise l co h (k, v, b))) ∧ Below wr.heap.size wr w' := by
  have HB := Lib.hid ((Below.refl wr.heap.size wr).alloc (Nat.le_refl _) (.cells #[.int .i64 (k : Int), .int .i64 (v : Int), .bool b] 90))
  have HS := Lib.hid (steep_any (H.later (HB.out.mono H.size)) hx hok hc hn hco)
  obtain ⟨s1, s2⟩ := stp_small hok hc hn co
  rw [rise_pipe hx]
  clear H hx hok hc hn hco
  generalize stp co h x = z at *
  cases b with
  | true =>
    go_enter Try.func64, Try.ntmps64
    go_wp2_with (go_at_call 44; refine HS.out.mono ?_; rintro e w2 ⟨rfl, hb2⟩; have HB2 := Lib.hid (HB.out.trans (hb2.mono HB.out.size)); clear hb2)
    go_ret
    exact ⟨rfl, HB2.out⟩
  | false =>
    go_enter Try.func64, Try.ntmps64
    go_wp2_with (go_at_call 44; refine HS.out.mono ?_; rintro e w2 ⟨rfl, hb2⟩; have HB2 := Lib.hid (HB.out.trans (hb2.mono HB.out.size)); clear hb2)
    go_ret
    exact ⟨rfl, HB2.out⟩
end Go.Proofs.Ytbenmebmfihleaa
end
section
/- Package least: sum, cheapest. -/
namespace Go.Proofs.Ytbenmebmfihleaa
open Go.RowKit

variable {w wr w2 w4 : World} {C p N len co k v : Nat} {l : List Pi} {fl h : Nat → Int} {x : Pi} {b : Bool}
/-- What flows costs so little that the sum stays within 64 bits. -/
def Dues (l : List Pi) (fl : Nat → Int) : Prop := ∀ (k : Nat) (x : Pi), l[k]? = some x → 0 ≤ fl k * x.2.2.2 ∧ fl k * x.2.2.2 ≤ 42949672960000
theorem dues_sum (hd : Dues l fl) (hl : l.length ≤ 20000) (hk : k ≤ l.length) : 0 ≤ costP l fl k ∧ costP l fl k ≤ 858993459200000000 := by
  have h1 := sumP_nonneg (l := l) (g := dueP fl) (fun k x hx => (hd k x hx).1) k
  have h2 := (sumP_bound (l := l) (g := dueP fl) (B := 42949672960000) (by omega) (fun k x hx => by have := hd k x hx; unfold dueP; omega) k).2
  unfold costP
  refine ⟨h1, Int.le_trans h2 ?_⟩
  have : (k : Int) ≤ 20000 := by omega
  omega
theorem costP_step (hx : l[k]? = some x) : costP l fl (k + 1) = costP l fl k + fl k * x.2.2.2 := sumP_step hx
set_option maxHeartbeats 2000000 in
set_option maxRecDepth 100000 in
theorem sumK_any (H : Vw w C p N len l fl h co) (hd : Dues l fl) (hl : l.length ≤ 20000) (hfl : ∀ k, k < len → 0 ≤ fl k ∧ fl k ≤ 1099511627776) (hcs : ∀ x ∈ l, 0 ≤ x.2.2.2 ∧ x.2.2.2 ≤ 4294967296) :
    Calls Try.prog 27 #[.pointer (some ⟨p, 0, none⟩)] w fun e w' => e = .returned (.int .i64 (costP l fl len)) ∧ Below w.heap.size w w' := by
  obtain ⟨a1, c1, e1, r1⟩ := H.pipes
  have hll := r1.1
  have HLL := Lib.hid hll
  have HLB := Lib.hid hl
  have HD := Lib.hid hd
  have HF := Lib.hid hfl
  have HC := Lib.hid hcs
  have HV := Lib.hid H
  have HP := Lib.hid r1
  have hl2 : len ≤ 20000 := by omega
  clear r1 hl hd hfl hcs hll
  go_enter Try.func27, Try.ntmps27
  go_wp2_with fail
  have H0 := Lib.hid (Below.refl w.heap.size w)
  clear H e1
  go_loopw [3, 12] (fun s i wr => ∃ c : Nat, i = .int .i64 (c : Int) ∧ s = .int .i64 (costP l fl c) ∧ c ≤ len ∧ Hid (Below w.heap.size w wr)) (fun _ i _ => len - (intOf i).toNat)
  case atStart => exact ⟨0, rfl, rfl, Nat.zero_le _, H0⟩
  case round =>
    obtain ⟨c, rfl, rfl, hc, HB⟩ := hrel
    clear H0
    by_cases hlt : c < len
    · obtain ⟨pb, off, x, ha, hpb, hx, p0, p1, p2, p3⟩ := (HP.out.laterC (HB.out.mono HV.out.size)).at_ hlt
      subst ha
      have HX := Lib.hid hx
      have HB1 := Lib.hid ((Below.refl wr.heap.size wr).alloc (Nat.le_refl _) (.cells #[.int .i64 x.1, .int .i64 x.2.1, .int .i64 x.2.2.1, .int .i64 x.2.2.2] 47))
      have HB2 := Lib.hid (HB.out.trans (HB1.out.mono HB.out.size))
      obtain ⟨a2, c2, e2, r2⟩ := (HV.out.later (HB2.out.mono HV.out.size)).flow
      obtain ⟨fb, fo, rfl, hfC, q1⟩ := r2 c hlt
      have hf := HF.out c hlt
      have hcc := HC.out x (List.mem_of_getElem? hx)
      obtain ⟨d1, d2⟩ := HD.out c x hx
      obtain ⟨s1, s2⟩ := dues_sum HD.out HLB.out (k := c) (by have := HLL.out; omega)
      have hst := costP_step (fl := fl) hx
      obtain ⟨y, hy⟩ : ∃ y, costP l fl c = y := ⟨_, rfl⟩
      obtain ⟨m, hm⟩ : ∃ m, fl c * x.2.2.2 = m := ⟨_, rfl⟩
      have HST := Lib.hid hst
      rw [hy, hm] at HST
      have HM := Lib.hid hm
      rw [hm] at d1 d2
      rw [hy] at s1 s2 ⊢
      obtain ⟨u, hu⟩ : ∃ u, fl c = u := ⟨_, rfl⟩
      rw [hu] at q1 hf HM
      obtain ⟨x1, x2, x3, x4⟩ := x
      simp only at *
      have hw : IntKind.i64.wrap (u * x4) = m := by rw [HM.out, IntKind.wrap_i64]; omega
      have hw2 : IntKind.i64.wrap (y + m) = y + m := by rw [IntKind.wrap_i64]; omega
      clear hx hst hy hm hu r2
      go_wp2_with fail
      go_quiet (fail)
      go_wp2_with fail
      go_roundw
      case rel => exact ⟨c + 1, by go_num, by rw [HST.out], by omega, Lib.hid (below_drewN HB2.out _)⟩
      case measure => simp [intOf]; omega
    · obtain rfl : c = len := by omega
      go_wp2_with fail
      go_ret
      exact ⟨rfl, HB.out⟩
end Go.Proofs.Ytbenmebmfihleaa
end
section
/- Package least: cheapest. -/
namespace Go.Proofs.Ytbenmebmfihleaa
open Go.RowKit

variable {w wr w2 w4 : World} {C p N len co k v : Nat} {l : List Pi} {fl h : Nat → Int} {x : Pi} {b : Bool}
def Tells (P : Prop) (e : Ending) : Prop := ∃ b : Bool, e = .returned (.bool b) ∧ (b = true ↔ P)
theorem tells_no {P : Prop} (h : ¬ P) : Tells P (.returned (.bool false)) := ⟨false, rfl, by simp [h]⟩
theorem tells_yes {P : Prop} (h : P) : Tells P (.returned (.bool true)) := ⟨true, rfl, by simp [h]⟩
/-- The heights tell so of the first c pipes. -/
def CheapTo (l : List Pi) (co : Nat) (fl h : Nat → Int) (c : Nat) : Prop := ∀ (k : Nat) (x : Pi), k < c → l[k]? = some x → (fl k < x.2.2.1 → 0 ≤ stp co h x) ∧ (0 < fl k → stp co h x ≤ 0)
theorem CheapTo.more {c : Nat} (h1 : CheapTo l co fl h c) (hx : l[c]? = some x) (h2 : (fl c < x.2.2.1 → 0 ≤ stp co h x) ∧ (0 < fl c → stp co h x ≤ 0)) : CheapTo l co fl h (c + 1) := fun k y hk hy => by
  by_cases e : k = c
  · subst e; rw [hx] at hy; cases hy; exact h2
  · exact h1 k y (by omega) hy
set_option maxHeartbeats 4000000 in
set_option maxRecDepth 100000 in
theorem cheapestK_any (H : Vw w C p N len l fl h co) (hok : ∀ x ∈ l, okP (N : Int) x = true) (hfl : ∀ k, k < len → 0 ≤ fl k ∧ fl k ≤ 1099511627776) (hcs : ∀ x ∈ l, 0 ≤ x.2.2.2 ∧ x.2.2.2 ≤ 4294967296) (hn : Near N h) (hco : co ≤ 64) (hl : l.length ≤ 20000) :
    Calls Try.prog 31 #[.pointer (some ⟨p, 0, none⟩)] w fun e w' => Tells (Cheap l co fl h) e ∧ Below w.heap.size w w' := by
  obtain ⟨a1, c1, e1, r1⟩ := H.pipes
  have hll := r1.1
  have hl2 : len ≤ 20000 := by omega
  have HLL := Lib.hid hll
  have HOK := Lib.hid hok
  have HF := Lib.hid hfl
  have HC := Lib.hid hcs
  have HN := Lib.hid hn
  have HV := Lib.hid H
  have HP := Lib.hid r1
  clear r1 hok hfl hcs hll hn hl
  go_enter Try.func31, Try.ntmps31
  go_wp2_with fail
  have H0 := Lib.hid (Below.refl w.heap.size w)
  clear H e1
  go_loopw [12] (fun i wr => ∃ c : Nat, i = .int .i64 (c : Int) ∧ c ≤ len ∧ Hid (CheapTo l co fl h c) ∧ Hid (Below w.heap.size w wr)) (fun i _ => len - (intOf i).toNat)
  case atStart => exact ⟨0, rfl, Nat.zero_le _, Lib.hid (fun k x hk => by omega), H0⟩
  case round =>
    obtain ⟨c, rfl, hc, HCT, HB⟩ := hrel
    clear H0
    by_cases hlt : c < len
    · obtain ⟨pb, off, x, ha, hpb, hx, p0, p1, p2, p3⟩ := (HP.out.laterC (HB.out.mono HV.out.size)).at_ hlt
      subst ha
      have HX := Lib.hid hx
      have HB1 := Lib.hid ((Below.refl wr.heap.size wr).alloc (Nat.le_refl _) (.cells #[.int .i64 x.1, .int .i64 x.2.1, .int .i64 x.2.2.1, .int .i64 x.2.2.2] 47))
      have HB2 := Lib.hid (HB.out.trans (HB1.out.mono HB.out.size))
      have hf := HF.out c hlt
      have hmem := List.mem_of_getElem? hx
      have hxo := okP_true.1 (HOK.out x hmem)
      have HS := Lib.hid (steep_any (HV.out.later (HB2.out.mono HV.out.size)) hx (HOK.out x hmem) (HC.out x hmem) HN.out hco)
      have HMO := Lib.hid (fun hh => HCT.out.more hx hh)
      have HNO : Hid (¬ ((fl c < x.2.2.1 → 0 ≤ stp co h x) ∧ (0 < fl c → stp co h x ≤ 0)) → ¬ Cheap l co fl h) := Lib.hid (fun hh hch => hh (hch c x hx))
      obtain ⟨z, hz⟩ : ∃ z, stp co h x = z := ⟨_, rfl⟩
      rw [hz] at HS HMO HNO
      obtain ⟨x1, x2, x3, x4⟩ := x
      simp only at *
      have HBX : Hid ((wr.alloc (.cells #[.int .i64 x1, .int .i64 x2, .int .i64 x3, .int .i64 x4] 47)).cell? ⟨wr.heap.size, 2, none⟩ = some (.int .i64 x3)) := Lib.hid (by simp)
      have HGL : Hid (wr.heap.size < (wr.alloc (.cells #[.int .i64 x1, .int .i64 x2, .int .i64 x3, .int .i64 x4] 47)).heap.size) := Lib.hid (by simp)
      have HFL : Hid (∀ w5, Below w.heap.size w w5 → _) := Lib.hid (fun w5 hb5 => (HV.out.later (w2 := w5) (hb5.mono HV.out.size)).flow)
      obtain ⟨u, hu⟩ : ∃ u, fl c = u := ⟨_, rfl⟩
      have HU := Lib.hid hu
      rw [hu] at hf HMO HNO
      clear hx hz hmem hu
      go_wp2_with (go_at_call 44; refine HS.out.mono ?_; rintro e w5 ⟨rfl, hb5⟩; have HB5 := Lib.hid (HB2.out.trans (hb5.mono HB2.out.size)); have hx2 : w5.cell? ⟨wr.heap.size, 2, none⟩ = some (.int .i64 x3) := (hb5.cell (p := ⟨wr.heap.size, 2, none⟩) HGL.out).trans HBX.out; obtain ⟨a2, c2, e2, r2⟩ := HFL.out _ HB5.out; obtain ⟨fb, fo, ea, hfC, q1⟩ := r2 c hlt; subst ea; rw [HU.out] at q1; clear hb5 r2)
      clear p0 p1 p2 p3
      by_cases h1 : u < x3 <;> by_cases h2 : z < 0 <;> by_cases h3 : 0 < u <;> by_cases h4 : 0 < z
      all_goals first
        | (exfalso; omega)
        | (go_quiet (fail)
           go_wp2_with fail
           first
             | (go_roundw
                case rel => exact ⟨c + 1, by go_num, by omega, Lib.hid (HMO.out ⟨fun _ => by omega, fun _ => by omega⟩), Lib.hid (below_drewN HB5.out _)⟩
                case measure => simp [intOf]; omega)
             | (go_ret; exact ⟨tells_no (HNO.out (fun hh => by have h5 := hh.1; have h6 := hh.2; omega)), below_drewN HB5.out _⟩))
    · obtain rfl : c = len := by omega
      go_wp2_with fail
      go_ret
      exact ⟨tells_yes (fun k x hx => HCT.out k x (by have := (List.getElem?_eq_some_iff.1 hx).1; have := HLL.out; omega) hx), HB.out⟩
end Go.Proofs.Ytbenmebmfihleaa
end
section
/- slices.ContainsFunc at numbers, and at pipes. -/
namespace Go.Proofs.Ytbenmebmfihleaa
open Go.RowKit

variable {w wr w2 : World} {a : Option Addr} {m c k len cap : Nat} {f : Nat → Int} {pred : Int → Bool} {l : List Pi}
/-- The slice's numbers, by the index. -/
def CellsF (w : World) (a : Option Addr) (m : Nat) (f : Nat → Int) : Prop := ∀ k, k < m → ∃ b o, a = some ⟨b, o, none⟩ ∧ w.cell? ⟨b, o + k, none⟩ = some (.int .i64 (f k))
def FoundAt (P : Prop) (e : Ending) : Prop := ∃ i : Int, e = .returned (.int .i64 i) ∧ (0 ≤ i ↔ P)
set_option maxHeartbeats 2000000 in
theorem index64_any (F : Nat) (HF : ∀ (args : Array Value) (W : World), (callFunc F args).run Try.prog W = .ok (.enter F args) W)
    (HP : ∀ z W, Calls Try.prog F #[.int .i64 z] W fun e w' => e = .returned (.bool (pred z)) ∧ W = w') (hm : m ≤ 9223372036854775807) (hc : CellsF w a m f) :
    Calls Try.prog 45 #[.slice a m c, .func (.func F) #[] #[]] w fun e w' => FoundAt (∃ k, k < m ∧ pred (f k) = true) e ∧ w = w' := by
  have HI := Lib.hid hc
  have HPP := Lib.hid HP
  have HB0 : Hid (∀ j, j < 0 → pred (f j) = false) := Lib.hid (fun j hj => by omega)
  clear hc HP
  go_enter Try.func45, Try.ntmps45
  go_wp2_with fail
  go_loop [8] (fun iv => ∃ k : Nat, iv = .int .i64 k ∧ k ≤ m ∧ Hid (∀ j, j < k → pred (f j) = false)) (fun iv => m - (intOf iv).toNat)
  case atStart => exact ⟨0, rfl, Nat.zero_le _, HB0⟩
  case round =>
    obtain ⟨k, rfl, hk, HB⟩ := hrel
    clear HB0
    by_cases hlt : k < m
    · obtain ⟨b, o, rfl, e0⟩ := HI.out k hlt
      have HC := Lib.hid (HPP.out (f k) w)
      cases hb : pred (f k) with
      | true =>
        have HR : Hid (∃ k, k < m ∧ pred (f k) = true) := Lib.hid ⟨k, hlt, hb⟩
        rw [hb] at HC
        clear hb
        generalize f k = z at *
        go_wp2_with (refine HC.out.mono ?_; rintro e w' ⟨rfl, rfl⟩)
        go_ret
        exact ⟨⟨(k : Int), rfl, by simp only [HR.out, iff_true]; omega⟩, rfl⟩
      | false =>
        have HN : Hid (∀ j, j < k + 1 → pred (f j) = false) := Lib.hid (fun j hj => by
          by_cases e : j = k
          · subst e; exact hb
          · exact HB.out j (by omega))
        rw [hb] at HC
        clear hb
        generalize f k = z at HC e0
        go_wp2_with (refine HC.out.mono ?_; rintro e w' ⟨rfl, rfl⟩)
        go_round
        case rel => exact ⟨k + 1, by go_num, by omega, HN⟩
        case measure => simp [intOf]; omega
    · obtain rfl : k = m := by omega
      go_wp2_with fail
      go_ret
      exact ⟨⟨-1, rfl, by
        constructor
        · intro h; omega
        · rintro ⟨j, hj, hp⟩; rw [HB.out j hj] at hp; cases hp⟩, rfl⟩
theorem contains64_any (F : Nat) (HF : ∀ (args : Array Value) (W : World), (callFunc F args).run Try.prog W = .ok (.enter F args) W)
    (HP : ∀ z W, Calls Try.prog F #[.int .i64 z] W fun e w' => e = .returned (.bool (pred z)) ∧ W = w') (hm : m ≤ 9223372036854775807) (hc : CellsF w a m f) :
    Calls Try.prog 29 #[.slice a m c, .func (.func F) #[] #[]] w fun e w' => Tells (∃ k, k < m ∧ pred (f k) = true) e ∧ w = w' := by
  have HC := Lib.hid (index64_any (c := c) F HF HP hm hc)
  clear hc HP HF
  go_enter Try.func29, Try.ntmps29
  go_wp2_with (go_at_call 45; refine HC.out.mono ?_; rintro e w' ⟨⟨i, rfl, hi⟩, rfl⟩; have HI := Lib.hid hi; clear hi)
  go_ret
  by_cases h : 0 ≤ i
  · refine ⟨⟨true, by simp [h], by simp [HI.out.1 h]⟩, rfl⟩
  · refine ⟨⟨false, by simp; omega, ?_⟩, rfl⟩
    simp only [Bool.false_eq_true, false_iff]
    exact fun hh => h (HI.out.2 hh)
/-! ### At pipes: may one cost so much? -/
def dearB (x : Pi) : Bool := decide (x.2.2.2 < 0) || decide (4294967296 < x.2.2.2)
theorem dearB_false {x : Pi} : dearB x = false ↔ 0 ≤ x.2.2.2 ∧ x.2.2.2 ≤ 4294967296 := by simp [dearB]
theorem dear_any (x : Pi) (w : World) : Calls Try.prog 40 #[.agg #[.int .i64 x.1, .int .i64 x.2.1, .int .i64 x.2.2.1, .int .i64 x.2.2.2]] w fun e w' => e = .returned (.bool (dearB x)) ∧ Below w.heap.size w w' := by
  obtain ⟨x1, x2, x3, x4⟩ := x
  have HB := Lib.hid ((Below.refl w.heap.size w).alloc (Nat.le_refl _) (.cells #[.int .i64 x1, .int .i64 x2, .int .i64 x3, .int .i64 x4] 47))
  by_cases h1 : x4 < 0
  · have HE : Hid (dearB (x1, x2, x3, x4) = true) := Lib.hid (by simp [dearB, h1])
    go_enter Try.func40, Try.ntmps40
    go_wp2_with fail
    go_ret
    exact ⟨by rw [HE.out]; rfl, HB.out⟩
  · have h1b : decide (x4 < 0) = false := by simp; omega
    by_cases h2 : 4294967296 < x4
    · have HE : Hid (dearB (x1, x2, x3, x4) = true) := Lib.hid (by simp [dearB, h2])
      go_enter Try.func40, Try.ntmps40
      go_wp2_with fail
      go_ret
      exact ⟨by rw [HE.out]; rfl, HB.out⟩
    · have HE : Hid (dearB (x1, x2, x3, x4) = false) := Lib.hid (dearB_false.2 (by simp only; omega))
      have h2b : decide (4294967296 < x4) = false := by simp; omega
      go_enter Try.func40, Try.ntmps40
      go_wp2_with fail
      go_ret
      exact ⟨by rw [HE.out]; rfl, HB.out⟩
set_option maxHeartbeats 2000000 in
theorem indexP_any (hl2 : len ≤ 20000) (hl : IsPipes w.heap.size w a len l) :
    Calls Try.prog 51 #[.slice a len cap, .func (.func 40) #[] #[]] w fun e w' => FoundAt (∃ x ∈ l, dearB x = true) e ∧ Below w.heap.size w w' := by
  have HL := Lib.hid hl
  have HB0 : Hid (Below w.heap.size w w ∧ ∀ x ∈ l.take 0, dearB x = false) := Lib.hid ⟨Below.refl _ _, by simp⟩
  clear hl
  go_enter Try.func51, Try.ntmps51
  go_wp2_with fail
  go_loopw [8] (fun iv wr => ∃ k : Nat, iv = .int .i64 k ∧ k ≤ len ∧ Hid (Below w.heap.size w wr ∧ ∀ x ∈ l.take k, dearB x = false)) (fun iv _ => len - (intOf iv).toNat)
  case atStart => exact ⟨0, rfl, Nat.zero_le _, HB0⟩
  case round =>
    obtain ⟨k, rfl, hk, HB⟩ := hrel
    clear HB0
    by_cases hlt : k < len
    · obtain ⟨pb, off, x, rfl, hpb, hx, p0, p1, p2, p3⟩ := (HL.out.later HB.out.1).at_ hlt
      have HC := Lib.hid (dear_any x wr)
      cases hb : dearB x with
      | true =>
        have HR : Hid (∃ x ∈ l, dearB x = true) := Lib.hid ⟨x, List.mem_of_getElem? hx, hb⟩
        rw [hb] at HC
        clear hb hx
        go_wp2_with (go_at_call 40; refine HC.out.mono ?_; rintro e w3 ⟨rfl, hb3⟩; have HB3 := Lib.hid (HB.out.1.trans (hb3.mono HB.out.1.size)); clear hb3)
        go_ret
        exact ⟨⟨(k : Int), rfl, by simp only [HR.out, iff_true]; omega⟩, HB3.out⟩
      | false =>
        have HN : Hid (∀ x ∈ l.take (k + 1), dearB x = false) := Lib.hid (fun y hy => by
          rw [List.take_add_one, hx] at hy
          simp only [Option.toList_some, List.mem_append, List.mem_singleton] at hy
          rcases hy with hy | rfl
          · exact HB.out.2 y hy
          · exact hb)
        rw [hb] at HC
        clear hb hx
        go_wp2_with (go_at_call 40; refine HC.out.mono ?_; rintro e w3 ⟨rfl, hb3⟩; have HB3 := Lib.hid (HB.out.1.trans (hb3.mono HB.out.1.size)); clear hb3)
        go_roundw
        case rel => exact ⟨k + 1, by go_num, by omega, Lib.hid ⟨HB3.out, HN.out⟩⟩
        case measure => simp [intOf]; omega
    · have hk2 : l.take k = l := List.take_of_length_le (by have := HL.out.1; omega)
      rw [hk2] at HB
      clear hk2
      go_wp2_with fail
      go_ret
      exact ⟨⟨-1, rfl, by
        constructor
        · intro h; omega
        · rintro ⟨x, hx, hp⟩; rw [HB.out.2 x hx] at hp; cases hp⟩, HB.out.1⟩
theorem containsP_any (hl2 : len ≤ 20000) (hl : IsPipes w.heap.size w a len l) :
    Calls Try.prog 39 #[.slice a len cap, .func (.func 40) #[] #[]] w fun e w' => Tells (∃ x ∈ l, dearB x = true) e ∧ Below w.heap.size w w' := by
  have HC := Lib.hid (indexP_any (cap := cap) hl2 hl)
  clear hl
  go_enter Try.func39, Try.ntmps39
  go_wp2_with (go_at_call 51; refine HC.out.mono ?_; rintro e w3 ⟨⟨i, rfl, hi⟩, hb3⟩; have HI := Lib.hid hi; have HB3 := Lib.hid hb3; clear hi hb3)
  go_ret
  by_cases h : 0 ≤ i
  · refine ⟨⟨true, by simp [h], by simp only [HI.out.1 h]⟩, HB3.out⟩
  · refine ⟨⟨false, by simp; omega, ?_⟩, HB3.out⟩
    simp only [Bool.false_eq_true, false_iff]
    exact fun hh => h (HI.out.2 hh)
end Go.Proofs.Ytbenmebmfihleaa
end

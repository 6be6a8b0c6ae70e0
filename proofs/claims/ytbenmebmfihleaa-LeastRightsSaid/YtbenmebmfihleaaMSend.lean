/- Joined: KSend, KLB, KLay. -/
import Derived.Test.YtbenmebmfihleaaMLane
import Derived.BigRegion
import Derived.RegionTactic
import Derived.Deep.RegionHeld3
import Derived.Deep.LoopGhost
import Derived.LoopTactic
import Derived.StillTailTactics
section
/- Package least: send. -/
namespace Go.Proofs.Ytbenmebmfihleaa
open Go.RowKit

variable {w wr w2 w4 : World} {E : EnvK} {fl st h sp : Nat → Int} {nx : Nat → Nat} {co cost : Int} {k v : Nat} {b : Bool} {m : Int}
theorem Kw.congrFlow {fl2 : Nat → Int} (H : Kw E fl st h sp nx co cost wr) (e : ∀ j, j < E.len → fl j = fl2 j) : Kw E fl2 st h sp nx co cost wr :=
  ⟨H.pipes, H.lanes, H.work, H.flow.congr (fun g hg => by rw [e g hg]), H.stays, H.high, H.steps, H.next, H.ord, H.size⟩
set_option maxHeartbeats 2000000 in
set_option maxRecDepth 100000 in
theorem sendK_any (H : Kw E fl st h sp nx co cost wr) (k v : Nat) (b : Bool) (hk : k < E.len) (hm : 0 ≤ m) (hm2 : m ≤ 1099511627776) (hf : 0 ≤ fl k ∧ fl k ≤ 1099511627776) :
    Calls Try.prog 59 #[.pointer (some ⟨E.p, 0, none⟩), .agg #[.int .i64 (k : Int), .int .i64 (v : Int), .bool b], .int .i64 m] wr fun e w' => e = .returned (.tuple #[]) ∧ Mod (SK E) wr w' ∧ Kw E (push fl (k, v, b) m) st h sp nx co cost w' := by
  have hz := H.size
  have o := H.ord
  have H1 := H.alloc (.cells #[.int .i64 (k : Int), .int .i64 (v : Int), .bool b] 90)
  obtain ⟨_, _, a2, _⟩ := H1.cellW
  have r0 := H1.flow.cell hk
  have f0 := H1.flow.frozen k
  obtain ⟨u, hu⟩ : ∃ u, fl k = u := ⟨_, rfl⟩
  rw [hu] at r0 hf
  have HM := Lib.hid ((Mod.refl (SK E) wr).alloc (.cells #[.int .i64 (k : Int), .int .i64 (v : Int), .bool b] 90))
  have HO := Lib.hid o
  obtain ⟨z, hz⟩ : ∃ z, z = if b = true then -m else m := ⟨_, rfl⟩
  have hp : push fl (k, v, b) m = fun j => if j = k then u + z else fl j := by
    funext j
    unfold push
    by_cases e : j = k
    · subst e; rw [if_pos rfl, if_pos rfl, hu, hz]
    · rw [if_neg e, if_neg e]
  rw [hp]
  have HD := Lib.hid (H1.setFlow k (u + z)).drew
  have hw : IntKind.i64.wrap (u + z) = u + z := by rw [IntKind.wrap_i64]; rw [hz]; split <;> omega
  clear hp H H1 hu o
  cases b with
  | true =>
    simp only [if_true] at hz
    subst hz
    go_enter Try.func59, Try.ntmps59
    go_wp2_with fail
    go_region
    go_wp2_with fail
    go_end0
    exact ⟨rfl, (SK.set HO.out.cf HO.out.df HM.out _ _).drew, HD.out⟩
  | false =>
    simp only [Bool.false_eq_true, if_false] at hz
    subst hz
    go_enter Try.func59, Try.ntmps59
    go_wp2_with fail
    go_region
    go_wp2_with fail
    go_end0
    exact ⟨rfl, (SK.set HO.out.cf HO.out.df HM.out _ _).drew, HD.out⟩
end Go.Proofs.Ytbenmebmfihleaa
end
section
/- A lane's copy, in a block of its own. -/
namespace Go.Proofs.Ytbenmebmfihleaa
open Go.RowKit

variable {w w2 : World} {k v : Nat} {b : Bool}
/-- A lane's copy. -/
def LB (w : World) (g : Nat) (k v : Nat) (b : Bool) : Prop := w.heap[g]? = some (.cells #[.int .i64 (k : Int), .int .i64 (v : Int), .bool b] 90 (0, 0))
theorem LB.cells {g : Nat} (h : LB w g k v b) : w.cell? ⟨g, 0, none⟩ = some (.int .i64 (k : Int)) ∧ w.cell? ⟨g, 1, none⟩ = some (.int .i64 (v : Int)) ∧ w.cell? ⟨g, 2, none⟩ = some (.bool b) := by
  unfold LB at h
  simp [World.cell?, h]
theorem LB.new (w : World) (k v : Nat) (b : Bool) : LB (w.alloc (.cells #[.int .i64 (k : Int), .int .i64 (v : Int), .bool b] 90)) w.heap.size k v b := heap_alloc_new _ _
theorem LB.lt {g : Nat} (h : LB w g k v b) : g < w.heap.size := (Array.getElem?_eq_some_iff.1 h).1
theorem LB.kept {g : Nat} {S : Nat → Prop} (h : LB w g k v b) (hm : Mod S w w2) (hg : ¬ S g) : LB w2 g k v b := (hm.block g h.lt hg).trans h
theorem LB.later {g : Nat} (h : LB w g k v b) (hb : Below w.heap.size w w2) : LB w2 g k v b := (hb.block g h.lt).trans h
end Go.Proofs.Ytbenmebmfihleaa
end
section
/- Package least: lay, refine. -/
namespace Go.Proofs.Ytbenmebmfihleaa
open Go.RowKit

variable {w wr w1 w2 w4 : World} {E : EnvK} {fl st h sp d : Nat → Int} {nx : Nat → Nat} {cost : Int} {s t co c : Nat} {want : Int}
/-- The first c nodes are laid. -/
def laidTo (h : Nat → Int) (s t c : Nat) : Nat → Int := fun i => if i < c then laid h s t i else h i
theorem laidTo_zero : laidTo h s t 0 = h := by funext i; simp [laidTo]
theorem laidTo_at : laidTo h s t c c = h c := by simp [laidTo]
theorem laidTo_step (c : Nat) : laidTo h s t (c + 1) = fun i => if i = c then min (h c) (h t) - h s else laidTo h s t c i := by
  funext i
  unfold laidTo
  by_cases e : i = c
  · subst e; rw [if_pos (by omega), if_pos rfl]; rfl
  · rw [if_neg e]
    by_cases e2 : i < c
    · rw [if_pos e2, if_pos (by omega)]
    · rw [if_neg e2, if_neg (by omega)]
set_option maxHeartbeats 4000000 in
set_option maxRecDepth 100000 in
theorem layK_any {w0 : World} (hs : s < E.N) (ht : t < E.N) (hN : E.N ≤ 1000) (hnear : Near E.N h) (H : Kw E fl st h sp nx (co : Int) cost w0) :
    Calls Try.prog 26 #[.pointer (some ⟨E.p, 0, none⟩), .int .i64 (s : Int), .int .i64 (t : Int)] w0 fun e w' => e = .returned (.tuple #[]) ∧ Mod (SK E) w0 w' ∧ Kw E fl st (laidTo h s t E.N) sp nx (co : Int) cost w' := by
  have HNE := Lib.hid hnear
  have HOR := Lib.hid H.ord
  have n1 := hnear s hs
  have n2 := hnear t ht
  have a4 := H.cellW.2.2.2.2.1
  have r0 := H.high.cell hs
  have r1 := H.high.cell ht
  have HK0 := Lib.hid H
  obtain ⟨base, hb⟩ : ∃ z, h s = z := ⟨_, rfl⟩
  obtain ⟨top, htp⟩ : ∃ z, h t = z := ⟨_, rfl⟩
  have HBS := Lib.hid hb
  have HTP := Lib.hid htp
  rw [hb] at r0 n1
  rw [htp] at r1 n2
  clear hnear H hb htp
  go_enter Try.func26, Try.ntmps26
  go_wp2_with fail
  go_quiet (fail)
  have HK1 := Lib.hid (HK0.out.drewN nq)
  have HM1 : Hid (Mod (SK E) w0 (w0.drewN nq)) := Lib.hid ((Mod.refl _ _).drewN nq)
  obtain ⟨w1, hw1⟩ : ∃ w1, w0.drewN nq = w1 := ⟨_, rfl⟩
  rw [hw1] at HK1 HM1 ⊢
  clear hw1 a4 r0 r1 HK0
  have a4 := HK1.out.cellW.2.2.2.2.1
  go_wp2_with fail
  clear a4
  have HKU : Hid (Kw E fl st (laidTo h s t 0) sp nx (co : Int) cost w1) := Lib.hid (by rw [laidTo_zero]; exact HK1.out)
  go_loopw [32] (fun i wr => ∃ c : Nat, i = .int .i64 (c : Int) ∧ c ≤ E.N ∧ Hid (Mod (SK E) w0 wr) ∧ Hid (Kw E fl st (laidTo h s t c) sp nx (co : Int) cost wr)) (fun i _ => E.N - (intOf i).toNat)
  case atStart => exact ⟨0, rfl, Nat.zero_le _, HM1, HKU⟩
  case round =>
    obtain ⟨c, rfl, hc, HM, HK⟩ := hrel
    clear HM1 HKU HK1
    by_cases hlt : c < E.N
    · have a4 := HK.out.cellW.2.2.2.2.1
      have r0 := HK.out.high.cell hlt
      rw [laidTo_at] at r0
      have f0 := HK.out.high.frozen c
      have hnr := HNE.out c hlt
      have HST := Lib.hid (laidTo_step (h := h) (s := s) (t := t) c)
      obtain ⟨hc2, hhc⟩ : ∃ z, h c = z := ⟨_, rfl⟩
      rw [hhc] at r0 hnr HST
      rw [HBS.out, HTP.out] at HST
      obtain ⟨mn, hmn⟩ : ∃ z, min hc2 top = z := ⟨_, rfl⟩
      rw [hmn] at HST
      have hmi : (if top < hc2 then top else hc2) = mn := by split <;> omega
      have hmb : -1125899906842624 ≤ mn ∧ mn ≤ 1125899906842624 := by omega
      have hw : IntKind.i64.wrap (mn - base) = mn - base := by rw [IntKind.wrap_i64]; omega
      have HK2 := Lib.hid (HK.out.setHigh c (mn - base))
      have HM2 := Lib.hid (HM.out.trans (SK.set HOR.out.ch HOR.out.dh (Mod.refl (SK E) wr) c (.int .i64 (mn - base))))
      clear hhc hmn
      go_wp2_with fail
      go_roundw
      case rel => exact ⟨c + 1, by go_num, by omega, HM2, Lib.hid (by rw [HST.out]; exact HK2.out)⟩
      case measure => simp [intOf]; omega
    · obtain rfl : c = E.N := by omega
      go_wp2_with fail
      go_end0
      exact ⟨rfl, HM.out, HK.out⟩
end Go.Proofs.Ytbenmebmfihleaa
end

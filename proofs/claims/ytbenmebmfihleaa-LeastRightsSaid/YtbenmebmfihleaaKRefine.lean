/- Package least: refine. -/
import Derived.Test.YtbenmebmfihleaaMFar
namespace Go.Proofs.Ytbenmebmfihleaa
open Go.RowKit

variable {w wr w1 w2 w4 : World} {E : EnvK} {fl st h sp d h2 : Nat → Int} {nx : Nat → Nat} {cost : Int} {s t co c : Nat} {want : Int}
/-- The first c heights are doubled. -/
def twice (h : Nat → Int) (c : Nat) : Nat → Int := fun i => if i < c then 2 * h i else h i
theorem twice_zero : twice h 0 = h := by funext i; simp [twice]
theorem twice_at : twice h c c = h c := by simp [twice]
theorem twice_step (c : Nat) : twice h (c + 1) = fun i => if i = c then h c * 2 else twice h c i := by
  funext i
  unfold twice
  by_cases e : i = c
  · subst e; rw [if_pos (by omega), if_pos rfl]; omega
  · rw [if_neg e]
    by_cases e2 : i < c
    · rw [if_pos e2, if_pos (by omega)]
    · rw [if_neg e2, if_neg (by omega)]
theorem Kw.congrStaysR {st2 : Nat → Int} {co : Int} (H : Kw E fl st h sp nx co cost wr) (e : ∀ j, j < E.N → st j = st2 j) : Kw E fl st2 h sp nx co cost wr :=
  ⟨H.pipes, H.lanes, H.work, H.flow, H.stays.congr (fun g hg => by rw [e g hg]), H.high, H.steps, H.next, H.ord, H.size⟩
theorem cutF_cap (hc : Capd E.l fl) (c : Nat) : Capd E.l (cutF E.l co h fl c) := fun k x hx => by
  have h1 := hc k x hx
  unfold cutF
  split
  · rw [hx]
    simp only
    split <;> omega
  · exact h1
/-- A pipe's copy. -/
def PB (w : World) (g : Nat) (x : Pi) : Prop := w.heap[g]? = some (.cells #[.int .i64 x.1, .int .i64 x.2.1, .int .i64 x.2.2.1, .int .i64 x.2.2.2] 47 (0, 0))
theorem PB.cells {g : Nat} {x : Pi} (h : PB w g x) : w.cell? ⟨g, 0, none⟩ = some (.int .i64 x.1) ∧ w.cell? ⟨g, 1, none⟩ = some (.int .i64 x.2.1) := by
  unfold PB at h
  simp [World.cell?, h]
theorem PB.kept {g : Nat} {x : Pi} {S : Nat → Prop} (h : PB w g x) (hm : Mod S w w2) (hg : ¬ S g) : PB w2 g x := (hm.block g (Array.getElem?_eq_some_iff.1 h).1 hg).trans h
theorem bal_small {l : List Pi} {N : Nat} {L : Nat → List La} (hn : NetK l N s t want L) (hc : Capd l fl) (hb : Bal l N s t want fl st) : ∀ u, u < N → -36028797018963968 ≤ st u ∧ st u ≤ 36028797018963968 := fun u hu => by
  have h1 := netTo_cap hn hc (u : Int)
  have h2 := hb u hu
  have h3 := hn.w0
  have h4 := hn.w1
  unfold duty at h2
  split at h2
  · omega
  · split at h2 <;> omega
def RefineP (E : EnvK) (s t : Nat) (want : Int) (co : Nat) (fl h sp : Nat → Int) (nx : Nat → Nat) (cost : Int) (w0 : World) (e : Ending) (w' : World) : Prop := ∃ st2 : Nat → Int, e = .returned (.tuple #[]) ∧ Mod (SK E) w0 w' ∧ Kw E (cutF E.l co (twice h E.N) fl E.l.length) st2 (twice h E.N) sp nx (co : Int) cost w' ∧ Bal E.l E.N s t want (cutF E.l co (twice h E.N) fl E.l.length) st2
set_option maxHeartbeats 4000000 in
set_option maxRecDepth 100000 in
theorem refineK_any {w0 : World} (hn : NetK E.l E.N s t want E.L) (hco : co ≤ 63) (hs : ST E.l E.N s t want (co + 1) fl h st) (hw : ∀ i, i < E.N → 0 ≤ h i ∧ h i ≤ 4294967296000) (H : Kw E fl st h sp nx ((co + 1 : Nat) : Int) cost w0) :
    Calls Try.prog 25 #[.pointer (some ⟨E.p, 0, none⟩)] w0 (RefineP E s t want co fl h sp nx cost w0) := by
  have HN := Lib.hid hn
  have HW := Lib.hid hw
  have HS := Lib.hid hs
  have hNm := hn.nm
  have hlm := hn.lm
  have hlen := H.pipes.1
  have HLL := Lib.hid hlen
  have HOR := Lib.hid H.ord
  have HNE : Hid (Near E.N (twice h E.N)) := Lib.hid (fun i hi => by have := hw i hi; unfold twice; rw [if_pos hi]; omega)
  obtain ⟨_, a1, _, _, a4, a5, _, _, _, _, f5, _⟩ := H.cellW
  have hcw : IntKind.i64.wrap (((co + 1 : Nat) : Int) - 1) = (co : Int) := by rw [IntKind.wrap_i64]; omega
  have hcw2 : ((co + 1 : Nat) : Int) - 1 = (co : Int) := by omega
  have HK1 : Hid (Kw E fl st (twice h 0) sp nx (co : Int) cost (w0.setCell ⟨E.p, 5, none⟩ (.int .i64 (co : Int)))) := Lib.hid (by rw [twice_zero]; exact H.setCo (co : Int))
  have HM1 : Hid (Mod (SK E) w0 (w0.setCell ⟨E.p, 5, none⟩ (.int .i64 (co : Int)))) := Lib.hid (SK.set H.ord.cp H.ord.dp (Mod.refl _ _) 5 _)
  have b4 := HK1.out.cellW.2.2.2.2.1
  have hlen2 : E.len ≤ 20000 := by omega
  clear hn hw hs H hlm hlen
  go_enter Try.func25, Try.ntmps25
  go_wp2_with fail
  clear a1 a4 a5 f5 hcw hcw2 b4
  go_loopw [18] (fun i wr => ∃ c : Nat, i = .int .i64 (c : Int) ∧ c ≤ E.N ∧ Hid (Mod (SK E) w0 wr) ∧ Hid (Kw E fl st (twice h c) sp nx (co : Int) cost wr)) (fun i _ => E.N - (intOf i).toNat)
  case atStart => exact ⟨0, rfl, Nat.zero_le _, HM1, HK1⟩
  case round =>
    obtain ⟨c, rfl, hc, HM, HK⟩ := hrel
    clear HM1 HK1
    by_cases hlt : c < E.N
    · have a4 := HK.out.cellW.2.2.2.2.1
      have r0 := HK.out.high.cell hlt
      rw [twice_at] at r0
      have f0 := HK.out.high.frozen c
      have hnr := HW.out c hlt
      have HST := Lib.hid (twice_step (h := h) c)
      obtain ⟨hc2, hhc⟩ : ∃ z, h c = z := ⟨_, rfl⟩
      rw [hhc] at r0 hnr HST
      have hwm : IntKind.i64.wrap (hc2 * 2) = hc2 * 2 := by rw [IntKind.wrap_i64]; omega
      have HK2 := Lib.hid (HK.out.setHigh c (hc2 * 2))
      have HM2 := Lib.hid (HM.out.trans (SK.set HOR.out.ch HOR.out.dh (Mod.refl (SK E) wr) c (.int .i64 (hc2 * 2))))
      clear hhc
      go_wp2_with fail
      go_roundw
      case rel => exact ⟨c + 1, by go_num, by omega, HM2, Lib.hid (by rw [HST.out]; exact HK2.out)⟩
      case measure => simp [intOf]; omega
    · obtain rfl : c = E.N := by omega
      obtain ⟨h2, hh2⟩ : ∃ z, twice h E.N = z := ⟨_, rfl⟩
      have HH2 := Lib.hid hh2
      rw [hh2] at HK HNE
      have a1 := HK.out.cellW.2.1
      obtain ⟨aa, haa⟩ : ∃ aa, E.a = aa := ⟨_, rfl⟩
      rw [haa] at a1
      have HAA := Lib.hid haa
      clear haa
      have HK3 : Hid (Kw E (cutF E.l co h2 fl 0) st h2 sp nx (co : Int) cost wr) := Lib.hid (by rw [cutF_zero]; exact HK.out)
      have HB3 : Hid (Bal E.l E.N s t want (cutF E.l co h2 fl 0) st) := Lib.hid (by rw [cutF_zero]; exact HS.out.bal)
      clear hh2 HK
      go_wp2_with fail
      clear a1
      go_loopw [38] (fun i wr => ∃ (c : Nat) (st1 : Nat → Int), i = .int .i64 (c : Int) ∧ c ≤ E.len ∧ Hid (Mod (SK E) w0 wr) ∧ Hid (Kw E (cutF E.l co h2 fl c) st1 h2 sp nx (co : Int) cost wr) ∧ Hid (Bal E.l E.N s t want (cutF E.l co h2 fl c) st1)) (fun i _ => E.len - (intOf i).toNat)
      case atStart => exact ⟨0, st, rfl, Nat.zero_le _, HM, HK3, HB3⟩
      case round =>
        clear HM HK3 HB3
        obtain ⟨c, st1, rfl, hc, HM, HK, HB⟩ := hrel
        by_cases hlt : c < E.len
        · obtain ⟨pb, off, x, ha, hpb, hx, p0, p1, p2, p3⟩ := HK.out.pipes.at_ hlt
          have HX := Lib.hid hx
          have hmem := List.mem_of_getElem? hx
          obtain ⟨f, q, hf, hq, hfN, hqN⟩ := HN.out.ends hx
          have HXO := Lib.hid (HN.out.ok x hmem)
          have HXC := Lib.hid (HN.out.cost x hmem)
          have hcap := cutF_cap (co := co) (h := h2) HS.out.cap c c x hx
          rw [cutF_at] at hcap
          have hxo := okP_true.1 HXO.out
          have ha2 := HAA.out.symm.trans ha
          clear ha
          subst ha2
          obtain ⟨g, hg⟩ : ∃ g, wr.heap.size = g := ⟨_, rfl⟩
          obtain ⟨w4, hw4⟩ : ∃ w4, wr.alloc (.cells #[.int .i64 x.1, .int .i64 x.2.1, .int .i64 x.2.2.1, .int .i64 x.2.2.2] 47) = w4 := ⟨_, rfl⟩
          have HK4 : Hid (Kw E (cutF E.l co h2 fl c) st1 h2 sp nx (co : Int) cost w4) := Lib.hid (hw4 ▸ HK.out.alloc _)
          have HM4 : Hid (Mod (SK E) w0 w4) := Lib.hid (hw4 ▸ HM.out.alloc _)
          have HP4 : Hid (PB w4 g x) := Lib.hid (hw4 ▸ hg ▸ heap_alloc_new wr _)
          have HGD : Hid (E.D ≤ g) := Lib.hid (by have := HK.out.size; omega)
          have a2 := HK4.out.cellW.2.2.1
          have r0 := HK4.out.flow.cell hlt
          rw [cutF_at] at r0
          have HSC := Lib.hid (steep_any (HK4.out.view) HX.out HXO.out HXC.out HNE.out (by omega))
          obtain ⟨φ, hφ⟩ : ∃ z, fl c = z := ⟨_, rfl⟩
          obtain ⟨z, hz⟩ : ∃ z, stp co h2 x = z := ⟨_, rfl⟩
          have HPH := Lib.hid hφ
          have HZ := Lib.hid hz
          rw [hz] at HSC
          rw [hφ] at r0 hcap
          have HCS : Hid (tooB co h2 fl c x = false → cutF E.l co h2 fl (c + 1) = cutF E.l co h2 fl c) := Lib.hid (fun hb => cutF_skip HX.out hb)
          obtain ⟨x1, x2, x3, x4⟩ := x
          simp only at hf hq
          subst hf hq
          simp only at p0 p1 p2 p3
          clear hx hmem hφ hz HM HK
          by_cases hp0 : 0 < φ
          · by_cases hz0 : 0 < z
            · have HTB : Hid (tooB co h2 fl c ((f : Int), (q : Int), x3, x4) = true) := Lib.hid (by unfold tooB; rw [HPH.out, HZ.out]; simp [hp0, hz0])
              have HCT := Lib.hid (cutF_take (l := E.l) HX.out HTB.out)
              go_wp2_with (go_at_call 44; refine HSC.out.mono ?_; rintro e w5 ⟨rfl, hb5⟩; have HK5 := Lib.hid (HK4.out.later hb5); have HM5 := Lib.hid (HM4.out.trans (Mod.of_below (SK E) hb5)); have HP5 := Lib.hid (HP4.out.kept (Mod.of_below (fun _ => False) hb5) (fun h => h)); clear hb5)
              have ho := HOR.out
              obtain ⟨b0, b1⟩ := HP5.out.cells
              simp only at b0 b1
              have a7 := HK5.out.cellW.2.2.2.2.2.2.2.1
              have a2b := HK5.out.cellW.2.2.1
              have rf := HK5.out.stays.cell hfN
              have ff := HK5.out.stays.frozen f
              have rφ := HK5.out.flow.cell hlt
              rw [cutF_at, HPH.out] at rφ
              have hsm := bal_small HN.out (cutF_cap (co := co) (h := h2) HS.out.cap c) HB.out
              have hsf := hsm f hfN
              obtain ⟨sf, hsfe⟩ : ∃ z, st1 f = z := ⟨_, rfl⟩
              have HSF := Lib.hid hsfe
              rw [hsfe] at rf hsf
              have hw1 : IntKind.i64.wrap (sf + φ) = sf + φ := by rw [IntKind.wrap_i64]; omega
              have HK6 := Lib.hid (HK5.out.setStays f (sf + φ)).drew
              have HS6 := Lib.hid (SK.set ho.cs ho.ds (Mod.refl (SK E) w5) f (.int .i64 (sf + φ))).drew
              have HM6 := Lib.hid (HM5.out.trans HS6.out)
              have HP6 := Lib.hid (HP5.out.kept HS6.out (fun hh => by have := HGD.out; have := hh.2; omega))
              obtain ⟨w6, hw6⟩ : ∃ w6, (w5.setCell ⟨E.sb, f, none⟩ (.int .i64 (sf + φ))).drew = w6 := ⟨_, rfl⟩
              rw [hw6] at HK6 HM6 HP6
              obtain ⟨d0, d1⟩ := HP6.out.cells
              simp only at d0 d1
              have c7 := HK6.out.cellW.2.2.2.2.2.2.2.1
              have c2b := HK6.out.cellW.2.2.1
              have rq := HK6.out.stays.cell hqN
              have fq := HK6.out.stays.frozen q
              have rφ6 := HK6.out.flow.cell hlt
              rw [cutF_at, HPH.out] at rφ6
              have hsq := hsm q hqN
              obtain ⟨sq, hsqe⟩ : ∃ z, (if q = f then sf + φ else st1 q) = z := ⟨_, rfl⟩
              have HSQ := Lib.hid hsqe
              rw [hsqe] at rq
              have hsqb : -36028797018963968 ≤ sq ∧ sq ≤ 36030000000000000 := by split at hsqe <;> omega
              have hw2 : IntKind.i64.wrap (sq - φ) = sq - φ := by rw [IntKind.wrap_i64]; omega
              have HK7 := Lib.hid (HK6.out.setStays q (sq - φ)).drew
              have HM7 := Lib.hid (SK.set ho.cs ho.ds HM6.out q (.int .i64 (sq - φ))).drew
              have e2b := HK7.out.cellW.2.2.1
              have f7 := HK7.out.flow.frozen c
              have rφ7 := HK7.out.flow.cell hlt
              have HK8 := Lib.hid (HK7.out.setFlow c 0)
              have HM8 := Lib.hid (SK.set ho.cf ho.df HM7.out c (.int .i64 0))
              have HBN : Hid (Bal E.l E.N s t want (cutF E.l co h2 fl (c + 1)) (moved st1 f q φ)) := Lib.hid (by
                have := HB.out.take HX.out (f := f) (g := q) rfl rfl
                rw [cutF_at, HPH.out] at this
                rw [HCT.out]
                exact this)
              clear hsm hsfe hsqe ho
              go_region
              clear hw6
              go_wp2_with fail
              go_region
              go_wp2_with fail
              go_roundw
              case rel => exact ⟨c + 1, moved st1 f q φ, by go_num, by omega, HM8, Lib.hid (by
                rw [HCT.out]
                refine HK8.out.congrStaysR (fun i hi => ?_)
                have h1 := HSQ.out
                have h2 := HSF.out
                unfold moved
                by_cases e1 : i = q
                · subst e1
                  by_cases e2 : i = f
                  · subst e2; simp at h1 ⊢; omega
                  · simp only [e2, if_false] at h1; simp only [e2, if_true, if_false]; omega
                · by_cases e2 : i = f
                  · subst e2; simp only [e1, if_true, if_false]; omega
                  · simp only [e1, e2, if_false]; omega), HBN⟩
              case measure => simp [intOf]; omega
            · have HTB : Hid (tooB co h2 fl c ((f : Int), (q : Int), x3, x4) = false) := Lib.hid (by unfold tooB; rw [HPH.out, HZ.out]; simp [hz0])
              have hzb : decide (0 < z) = false := by simp; omega
              go_wp2_with (go_at_call 44; refine HSC.out.mono ?_; rintro e w5 ⟨rfl, hb5⟩; have HK5 := Lib.hid (HK4.out.later hb5); have HM5 := Lib.hid (HM4.out.trans (Mod.of_below (SK E) hb5)); clear hb5)
              go_roundw
              case rel => exact ⟨c + 1, st1, by go_num, by omega, HM5, Lib.hid (by rw [HCS.out HTB.out]; exact HK5.out), Lib.hid (by rw [HCS.out HTB.out]; exact HB.out)⟩
              case measure => simp [intOf]; omega
          · have HTB : Hid (tooB co h2 fl c ((f : Int), (q : Int), x3, x4) = false) := Lib.hid (by unfold tooB; rw [HPH.out]; simp [hp0])
            have hpb2 : decide (0 < φ) = false := by simp; omega
            go_wp2_with fail
            go_roundw
            case rel => exact ⟨c + 1, st1, by go_num, by omega, HM4, Lib.hid (by rw [HCS.out HTB.out]; exact HK4.out), Lib.hid (by rw [HCS.out HTB.out]; exact HB.out)⟩
            case measure => simp [intOf]; omega
        · obtain rfl : c = E.len := by omega
          go_wp2_with fail
          go_end0
          refine ⟨st1, rfl, HM.out, ?_, ?_⟩
          · rw [HH2.out, HLL.out]; exact HK.out
          · rw [HH2.out, HLL.out]; exact HB.out
end Go.Proofs.Ytbenmebmfihleaa

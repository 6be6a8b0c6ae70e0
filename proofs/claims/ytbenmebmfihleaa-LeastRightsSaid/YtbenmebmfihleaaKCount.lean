/- Package least: count. -/
import Derived.Test.YtbenmebmfihleaaMSend
import Derived.Test.YtbenmebmfihleaaFSteps
import Derived.Deep.CutRange
namespace Go.Proofs.Ytbenmebmfihleaa
open Go.RowKit

variable {w wr w1 w2 w4 : World} {E : EnvK} {fl st h sp fl2 st2 : Nat → Int} {nx nx2 : Nat → Nat} {cost : Int} {k v s t co c : Nat} {b : Bool} {m want much : Int}
theorem Kw.congrSteps {sp2 : Nat → Int} {co : Int} (H : Kw E fl st h sp nx co cost wr) (e : ∀ j, j < E.N → sp j = sp2 j) : Kw E fl st h sp2 nx co cost wr :=
  ⟨H.pipes, H.lanes, H.work, H.flow, H.stays, H.high, H.steps.congr (fun g hg => by rw [e g hg]), H.next, H.ord, H.size⟩
/-- Of one of those that are done something must go on. -/
def SomeB (st : Nat → Int) (P : List Nat) : Bool := P.any (fun i => decide (0 < st i))
theorem SomeB_snoc (st : Nat → Int) (P : List Nat) (c : Nat) : SomeB st (P ++ [c]) = (SomeB st P || decide (0 < st c)) := by simp [SomeB]
theorem SomeB_true {P : List Nat} : SomeB st P = true ↔ ∃ i ∈ P, 0 < st i := by simp [SomeB]
/-- The nodes to be done lie behind D. -/
theorem Fnd.mod {S : Nat → Prop} {base n cap : Nat} {fa : Option Addr} {q : List Nat} (H : Fnd w base fa n cap q) (hm : Mod S w w2) (hS : ∀ k, S k → k < base) : Fnd w2 base fa n cap q := by
  rcases H with H | ⟨g, off, e, H⟩
  · exact .inl H
  · exact .inr ⟨g, off, e, H.of_block (hm.block g H.lt (fun hs => by have := hS g hs; have := H.ge; omega))⟩
theorem Win.mod {S : Nat → Prop} {base g off n cap : Nat} {q : List Nat} (H : Win w base g off n cap q) (hm : Mod S w w2) (hS : ∀ k, S k → k < base) : Win w2 base g off n cap q :=
  H.of_block (hm.block g H.lt (fun hs => by have := hS g hs; have := H.ge; omega))
theorem Fnd.of_owns {base n cap : Nat} {fa : Option Addr} {q : List Nat} (H : w.ownsRow base 3 1 (.slice fa n cap) n (nodeV q)) (hq : q.length = n) : Fnd w base fa n cap q := by
  rcases H.2 with ⟨e, h0⟩ | ⟨g, cap2, cur, e, hb, hg, h1, h2, h3, h4⟩
  · subst h0
    exact .inl ⟨rfl, List.eq_nil_of_length_eq_zero hq⟩
  · injection e with e1 _ e3
    subst e1 e3
    refine .inr ⟨g, 0, rfl, hq, hb, h1, h2, cur, hg, by omega, fun j i hj => ?_⟩
    have hjn : j < n := by rw [← hq]; exact (List.getElem?_eq_some_iff.1 hj).1
    have h5 : (nodeV q)[j]? = some (.int .i64 (i : Int)) := by simp [nodeV, hj]
    rw [← h4, List.getElem?_take_of_lt (by omega)] at h5
    rw [Nat.zero_add]
    simpa using h5
theorem nodeV_snoc (q : List Nat) (i : Nat) : nodeV (q ++ [i]) = nodeV q ++ [.int .i64 (i : Int)] := by simp [nodeV]
theorem owns_sk {base n sz : Nat} {T : TypeId} {v : Value} {xs : List Value} (H : w.ownsRow base T sz v n xs) (hD : E.D ≤ base) (hm : Mod (SK E) w w2) : w2.ownsRow base T sz v n xs :=
  owns_kept H hm (fun k hk hs => by have h1 := (World.ownsRow.lt H k hk).1; have := hs.2; omega)
theorem Kw.grown {row : Option Nat} {co : Int} (H : Kw E fl st h sp nx co cost w) (hg : w.grownBy w2 row) (hr : ∀ k, row = some k → E.D ≤ k) : Kw E fl st h sp nx co cost w2 :=
  H.aside (S := fun k => row = some k) ((Mod.refl _ w).grown hg (fun _k hk => .inr hk)) hr
theorem Cnt.some_ {l : List Pi} {N : Nat} {L : Nat → List La} {P : List Nat} {r : Nat} {sb : Bool} (H : Cnt l N L co h fl st sp P [] r) (hsb : SomeB st P = sb) : sb = true ↔ ∃ i, i < N ∧ 0 < st i ∧ 0 ≤ sp i := by
  rw [← hsb, SomeB_true]
  constructor
  · rintro ⟨i, hi, hp⟩
    have hm : i ∈ P ++ [] := by simpa using hi
    have hN := H.lt i hm
    rcases H.mem i hN with ⟨_, m⟩ | ⟨m, _⟩
    · exact absurd hm m
    · exact ⟨i, hN, hp, m⟩
  · rintro ⟨i, hi, hp, hs⟩
    rcases H.mem i hi with ⟨m, _⟩ | ⟨_, m⟩
    · omega
    · exact ⟨i, by simpa using m, hp⟩
/-- What the region asks of the steps. -/
def StepAt (E : EnvK) (v g k : Nat) (b : Bool) (y : Int) (W : World) : Prop := W.cell? ⟨E.p, 8, none⟩ = some (.slice (some ⟨E.tb, 0, none⟩) E.N E.N) ∧ W.cell? ⟨E.tb, v, none⟩ = some (.int .i64 y) ∧ W.cell? ⟨g, 0, none⟩ = some (.int .i64 (k : Int)) ∧ W.cell? ⟨g, 1, none⟩ = some (.int .i64 (v : Int)) ∧ W.cell? ⟨g, 2, none⟩ = some (.bool b)
theorem stepAt_of {g : Nat} {y : Int} {co : Int} (hK : Kw E fl st h sp nx co cost w) (hL : LB w g k v b) (hv : v < E.N) (hy : sp v = y) : StepAt E v g k b y w := by
  obtain ⟨l0, l1, l2⟩ := hL.cells
  obtain ⟨_, _, _, _, _, _, _, _, a8, _⟩ := hK.cellW
  have r3 := hK.steps.cell hv
  rw [hy] at r3
  exact ⟨a8, r3, l0, l1, l2⟩
def CountP (E : EnvK) (l : List Pi) (co : Nat) (fl st h : Nat → Int) (nx : Nat → Nat) (cost : Int) (w0 : World) (e : Ending) (w' : World) : Prop := ∃ (sp2 : Nat → Int) (b : Bool), e = .returned (.bool b) ∧ Mod (SK E) w0 w' ∧ Kw E fl st h sp2 nx (co : Int) cost w' ∧ Stp l E.N E.L co h fl st sp2 ∧ (b = true ↔ ∃ i, i < E.N ∧ 0 < st i ∧ 0 ≤ sp2 i)
set_option maxHeartbeats 4000000 in
set_option maxRecDepth 100000 in
theorem countK_any {w0 : World} (hn : NetK E.l E.N s t want E.L) (hnear : Near E.N h) (hco : co ≤ 64) (hcap : Capd E.l fl) (H : Kw E fl st h sp nx (co : Int) cost w0) :
    Calls Try.prog 52 #[.pointer (some ⟨E.p, 0, none⟩)] w0 (CountP E E.l co fl st h nx cost w0) := by
  have HN := Lib.hid hn
  have HNE := Lib.hid hnear
  have HCP := Lib.hid hcap
  have hNm := hn.nm
  have HK0 : Hid (Kw E fl st h (firstS st sp 0) nx (co : Int) cost w0) := Lib.hid (by rw [firstS_zero]; exact H)
  have HM0 := Lib.hid (Mod.refl (SK E) w0)
  have HBS := Lib.hid H.size
  have HO0 : Hid (w0.ownsRow w0.heap.size 3 1 (.slice none 0 0) 0 (nodeV (firstQ st 0))) := Lib.hid ⟨by simp [nodeV, firstQ], .inl ⟨rfl, rfl⟩⟩
  obtain ⟨i0, hi, hz0, hz1, hz2⟩ := info_parts infoIntW
  have HI := Lib.hid hi
  have HZ0 := Lib.hid hz0
  have HZ1 := Lib.hid hz1
  have HZ2 := Lib.hid hz2
  have HOR := Lib.hid H.ord
  obtain ⟨_, _, _, _, _, _, _, a7, _⟩ := H.cellW
  clear hn hnear hcap H hi hz0 hz1 hz2
  go_enter Try.func52, Try.ntmps52
  go_wp2_with fail
  clear a7
  go_loopw [3, 15] (fun fv i wr => ∃ (c n vc : Nat) (va : Option Addr), fv = .slice va n vc ∧ i = .int .i64 (c : Int) ∧ c ≤ E.N ∧ n ≤ c ∧ Hid ((firstQ st c).length = n) ∧ Hid (Mod (SK E) w0 wr) ∧ Hid (Kw E fl st h (firstS st sp c) nx (co : Int) cost wr) ∧ Hid (wr.ownsRow w0.heap.size 3 1 (.slice va n vc) n (nodeV (firstQ st c)))) (fun _ i _ => E.N - (intOf i).toNat)
  case atStart => exact ⟨0, 0, 0, none, rfl, rfl, Nat.zero_le _, Nat.le_refl _, Lib.hid rfl, HM0, HK0, HO0⟩
  case round =>
    obtain ⟨c, n, vc, va, rfl, rfl, hc, hnc, HQ, HM, HK, HO⟩ := hrel
    clear HM0 HK0 HO0
    by_cases hlt : c < E.N
    · have r0 := HK.out.stays.cell hlt
      obtain ⟨z, hz⟩ : ∃ z, st c = z := ⟨_, rfl⟩
      have HZ := Lib.hid hz
      rw [hz] at r0
      clear hz
      obtain ⟨_, _, _, _, _, _, _, _, a8, _⟩ := HK.out.cellW
      have r1 := HK.out.steps.cell hlt
      have f1 := HK.out.steps.frozen c
      have HK1 := Lib.hid (HK.out.setSteps c (-1))
      have HM1 := Lib.hid (SK.set HOR.out.ct HOR.out.dt HM.out c (.int .i64 (-1)))
      by_cases hneg : z < 0
      · obtain ⟨_, _, _, _, _, _, _, _, b8, _⟩ := HK1.out.cellW
        have r2 := HK1.out.steps.cell hlt
        have f2 := HK1.out.steps.frozen c
        have HK2 := Lib.hid (HK1.out.setSteps c 0)
        have HM2 := Lib.hid (SK.set HOR.out.ct HOR.out.dt HM1.out c (.int .i64 0))
        have HQY := Lib.hid (firstQ_yes (st := st) (c := c) (by rw [HZ.out]; exact hneg))
        have HO3 := Lib.hid (owns_sk HO.out HBS.out (SK.set HOR.out.ct HOR.out.dt (SK.set HOR.out.ct HOR.out.dt (Mod.refl (SK E) wr) c (.int .i64 (-1))) c (.int .i64 0)))
        rw [← HQ.out] at hnc
        obtain ⟨W3, hW3⟩ : ∃ W3, ((wr.setCell ⟨E.tb, c, none⟩ (.int .i64 (-1))).setCell ⟨E.tb, c, none⟩ (.int .i64 0)) = W3 := ⟨_, rfl⟩
        rw [hW3] at HK2 HM2 HO3
        have HWB : Hid (w0.heap.size ≤ W3.heap.size) := Lib.hid HM2.out.size
        have hi := HI.out
        have hn1 : n ≤ 1000 := by rw [HQ.out] at hnc; omega
        go_wp2_with (at_builtin; refine wpList_append_fresh rfl (.tmp 34) (.tmp 36) 61 rfl w0.heap.size 3 i0 _ 1 8 Try.underlying61 HI.out HZ0.out HZ1.out HZ2.out (by decide) (.slice va n vc) n (nodeV (firstQ st c)) rfl (owns_below HO3.out ((Below.refl _ _).alloc (Nat.le_refl _) _)) ⟨W3.heap.size, 0, none⟩ 1 [.int .i64 (c : Int)] rfl rfl (news_at _ _ _ _ (by simp)) (one_int _) (by unfold maxLen; omega) (by omega) (by have := HWB.out; simp; omega) ?_; intro g' cap' w5 hown hgrow hfr; have HO5 := Lib.hid hown; have HG5 := Lib.hid hgrow; clear hown hgrow hfr)
        go_roundw
        case rel => exact ⟨c + 1, n + 1, cap', some ⟨g', 0, none⟩, rfl, by go_num, by omega, by rw [HQ.out] at hnc; omega, Lib.hid (by rw [HQY.out, List.length_append, HQ.out]; rfl), Lib.hid ((HM2.out.alloc _).grown HG5.out (fun k hk => .inl (World.ownsRow.lt HO3.out k hk).1)), Lib.hid (((HK2.out.alloc _).grown HG5.out (fun k hk => Nat.le_trans HBS.out (World.ownsRow.lt HO3.out k hk).1)).congrSteps (fun j _ => by rw [firstS_step, HZ.out, if_pos hneg]; by_cases e : j = c <;> simp [e])), Lib.hid (by rw [HQY.out, nodeV_snoc]; exact HO5.out)⟩
        case measure => simp [intOf]; omega
      · have HQN := Lib.hid (firstQ_no (st := st) (c := c) (by rw [HZ.out]; exact hneg))
        have HST : Hid (firstS st sp (c + 1) = fun j => if j = c then -1 else firstS st sp c j) := Lib.hid (by rw [firstS_step, HZ.out, if_neg hneg])
        go_wp2_with fail
        go_roundw
        case rel => exact ⟨c + 1, n, vc, va, rfl, by go_num, by omega, by omega, Lib.hid (by rw [HQN.out]; exact HQ.out), HM1, Lib.hid (by rw [HST.out]; exact HK1.out), Lib.hid (by rw [HQN.out]; exact owns_sk HO.out HBS.out (SK.set HOR.out.ct HOR.out.dt (Mod.refl (SK E) wr) c _))⟩
        case measure => simp [intOf]; omega
    · have hcN : c = E.N := by omega
      subst hcN
      have HF := Lib.hid (Fnd.of_owns HO.out HQ.out)
      have HBE := Lib.hid (Cnt.begin_ E.l E.L co h fl st sp (N := E.N))
      go_wp2_with fail
      clear HO HQ
      go_loopg [3, 6] E.N (fun gn fv sv wr => ∃ (sp1 : Nat → Int) (P q : List Nat) (fa : Option Addr) (n cap : Nat) (sb : Bool), fv = .slice fa n cap ∧ sv = .bool sb ∧ P.length + gn = E.N ∧ Hid (SomeB st P = sb) ∧ Hid (Mod (SK E) w0 wr) ∧ Hid (Kw E fl st h sp1 nx (co : Int) cost wr) ∧ Hid (Fnd wr w0.heap.size fa n cap q) ∧ Hid (Cnt E.l E.N E.L co h fl st sp1 P q 0))
      case atStart => exact ⟨_, [], _, va, n, vc, false, rfl, rfl, by simp, Lib.hid rfl, HM, HK, HF, HBE⟩
      case round =>
        clear HM HK HF HBE hnc
        obtain ⟨sp1, P, q, fa, n, cap, sb, rfl, rfl, hPg, HSB, HM, HK, HFd, HB⟩ := hrel
        match q, HFd, HB with
        | [], HFd, HB =>
          have hn0 : 0 = n := HFd.out.len
          subst hn0
          go_wp2_with fail
          go_ret
          exact ⟨sp1, sb, rfl, HM.out, HK.out, HB.out.done HN.out.lanes, HB.out.some_ HSB.out⟩
        | c :: q2, HFd, HB =>
          have hlen := HB.out.len
          simp only [List.length_cons] at hlen
          obtain ⟨g, off, hfa, hwin⟩ : ∃ g off, fa = some ⟨g, off, none⟩ ∧ Win wr w0.heap.size g off n cap (c :: q2) := by
            rcases HFd.out with ⟨_, h⟩ | h
            · cases h
            · exact h
          subst hfa
          obtain ⟨m, rfl⟩ : ∃ m, n = m + 1 := ⟨q2.length, by have := hwin.len; simp at this; omega⟩
          have hcN : c < E.N := HB.out.lt c (by simp)
          have hnm : m + 1 ≤ 1000 := by have h1 := hwin.len; simp at h1; omega
          have c0 : wr.cell? ⟨g, off, none⟩ = some (.int .i64 (c : Int)) := hwin.cell (j := 0) rfl
          obtain ⟨va, vc, hv⟩ := HK.out.rowV hcN
          obtain ⟨M, hM⟩ : ∃ M, (E.L c).length = M := ⟨_, rfl⟩
          have hMb : M ≤ 40000 := by rw [← hM]; exact HN.out.many hcN
          rw [hM] at hv
          have HMM := Lib.hid hM
          have HV := Lib.hid hv
          have r0 := HK.out.stays.cell hcN
          obtain ⟨z, hz⟩ : ∃ z, st c = z := ⟨_, rfl⟩
          have HZ := Lib.hid hz
          rw [hz] at r0
          obtain ⟨_, _, _, _, _, _, a6, a7, _⟩ := HK.out.cellW
          have r1 := HK.out.lanes.out.cell hcN
          rw [hv] at r1
          obtain ⟨sb2, hsb2⟩ : ∃ sb2, SomeB st (P ++ [c]) = sb2 := ⟨_, rfl⟩
          have HSB2 := Lib.hid hsb2
          have HSE : Hid (sb2 = (sb || decide (0 < z))) := Lib.hid (by rw [← hsb2, SomeB_snoc, HSB.out, HZ.out])
          have HWI := Lib.hid hwin
          have hcp := hwin.le
          have hcm := hwin.cm
          unfold maxLen at hcm
          clear hM hv hwin HFd hz hsb2
          go_upto_region 14 with (fail)
          go_cut [6] from 48 to 57 (fun s wx => s = .bool sb2 ∧ wx = wr)
          case first =>
            cases sb with
            | true =>
              have he : sb2 = true := by rw [HSE.out]; rfl
              subst he
              go_wp2_with fail
              go_meet
              case rel => exact ⟨rfl, rfl⟩
            | false =>
              by_cases hz0 : 0 < z
              · have he : sb2 = true := by rw [HSE.out]; simp [hz0]
                subst he
                go_wp2_with fail
                go_meet
                case rel => exact ⟨rfl, rfl⟩
              · have he : sb2 = false := by rw [HSE.out]; simp [hz0]
                subst he
                go_wp2_with fail
                go_meet
                case rel => exact ⟨rfl, rfl⟩
          case rest =>
            obtain ⟨rfl, rfl⟩ := hcut
            go_wp2_with fail
            clear a6 a7 r0 r1 c0
            go_loopw [3, 66] (fun fv i w3 => ∃ (r : Nat) (sp2 : Nat → Int) (q3 : List Nat) (g off n cap : Nat), fv = .slice (some ⟨g, off, none⟩) n cap ∧ i = .int .i64 (r : Int) ∧ r ≤ M ∧ Hid (Mod (SK E) w0 w3) ∧ Hid (Kw E fl st h sp2 nx (co : Int) cost w3) ∧ Hid (Win w3 w0.heap.size g off n cap (c :: q3)) ∧ Hid (Cnt E.l E.N E.L co h fl st sp2 P (c :: q3) r)) (fun _ i _ => M - (intOf i).toNat)
            case atStart => exact ⟨0, sp1, q2, g, off, m + 1, cap, rfl, rfl, Nat.zero_le _, HM, HK, HWI, HB⟩
            case round =>
              clear HM HK HWI HB hlen hnm hcp hcm
              obtain ⟨r, sp2, q3, g, off, n, cap, rfl, rfl, hr, HM, HK, HW, HB⟩ := hrel
              by_cases hlt : r < M
              · obtain ⟨lb2, loff, lcap, k, v, b, hv2, hj, e0, e1, e2⟩ := HK.out.lane (q := r) hcN (by rw [HMM.out]; exact hlt)
                rw [HV.out] at hv2
                injection hv2 with i1 i2 i3
                clear i2
                subst i1 i3
                have HJ := Lib.hid hj
                obtain ⟨x, hx, hkl, hvN⟩ := HN.out.lanes.lane hcN (List.mem_of_getElem? hj)
                simp only at hx hkl hvN
                have hmem := List.mem_of_getElem? hx
                have HX := Lib.hid hx
                have HXO := Lib.hid (HN.out.ok x hmem)
                have HXC := Lib.hid (HN.out.cost x hmem)
                clear hj hx hmem
                obtain ⟨gl, hgl⟩ : ∃ gl, wr.heap.size = gl := ⟨_, rfl⟩
                obtain ⟨w4, hw4⟩ : ∃ w4, wr.alloc (.cells #[.int .i64 (k : Int), .int .i64 (v : Int), .bool b] 90) = w4 := ⟨_, rfl⟩
                have HK4 : Hid (Kw E fl st h sp2 nx (co : Int) cost w4) := Lib.hid (hw4 ▸ HK.out.alloc _)
                have HM4 : Hid (Mod (SK E) w0 w4) := Lib.hid (hw4 ▸ HM.out.alloc _)
                have HL4 : Hid (LB w4 gl k v b) := Lib.hid (hw4 ▸ hgl ▸ LB.new wr k v b)
                have HW4 : Hid (Win w4 w0.heap.size g off n cap (c :: q3)) := Lib.hid (hw4 ▸ HW.out.below ((Below.refl _ _).alloc (Nat.le_refl _) _))
                have HGD : Hid (E.D ≤ gl) := Lib.hid (by have := HK.out.size; omega)
                obtain ⟨y, hy⟩ : ∃ y, sp2 v = y := ⟨_, rfl⟩
                have HY := Lib.hid hy
                have hyb := HB.out.small hvN
                rw [hy] at hyb
                have hlen := HB.out.len
                simp only [List.length_cons] at hlen
                have hnl := HW.out.len
                simp only [List.length_cons] at hnl
                have hn1000 : n ≤ 1000 := by omega
                obtain ⟨_, _, _, _, _, _, _, _, a8, _⟩ := HK4.out.cellW
                have r3 := HK4.out.steps.cell hvN
                rw [hy] at r3
                obtain ⟨l0, l1, l2⟩ := HL4.out.cells
                clear hy
                by_cases hneg : y < 0
                · have HF := Lib.hid (flatK_any (HK4.out.drew.view) c (!b) HX.out HXO.out HXC.out HNE.out hco (HCP.out k x HX.out))
                  have HS4 : Hid (StepAt E v gl k b y w4.drew) := Lib.hid (stepAt_of HK4.out.drew (HL4.out.later (Below.refl _ _).drew) hvN HY.out)
                  cases hop : opn E.l co h fl (k, c, !b) with
                  | false =>
                    have HNX := Lib.hid (HB.out.skip rfl HJ.out (.inr hop))
                    rw [hop] at HF
                    clear hop
                    go_wp2_with fail
                    go_region_held3 (fun W => W.cell? ⟨E.p, 8, none⟩ = some (.slice (some ⟨E.tb, 0, none⟩) E.N E.N) ∧ W.cell? ⟨E.tb, v, none⟩ = some (.int .i64 y) ∧ W.cell? ⟨gl, 0, none⟩ = some (.int .i64 (k : Int)) ∧ W.cell? ⟨gl, 1, none⟩ = some (.int .i64 (v : Int)) ∧ W.cell? ⟨gl, 2, none⟩ = some (.bool b))
                      (first | assumption | exact HS4.out | exact HS5.out)
                      (first | (go_at_call 57; refine HF.out.mono ?_; rintro e w5 ⟨rfl, hb5⟩; have HK5 := Lib.hid (HK4.out.drew.later hb5); have HL5 : Hid (LB w5 gl k v b) := Lib.hid ((HL4.out.later (Below.refl _ _).drew).later hb5); have HM5 := Lib.hid (HM4.out.drew.trans (Mod.of_below (SK E) hb5)); have HW5 : Hid (Win w5 w0.heap.size g off n cap (c :: q3)) := Lib.hid ((HW4.out.below (Below.refl _ _).drew).below hb5); have HS5 : Hid (StepAt E v gl k b y w5) := Lib.hid (stepAt_of HK5.out HL5.out hvN HY.out); clear hb5))
                    go_wp2_with fail
                    go_roundw
                    case rel => exact ⟨r + 1, sp2, q3, g, off, n, cap, rfl, by go_num, by omega, HM5, HK5, HW5, HNX⟩
                    case measure => simp [intOf]; omega
                  | true =>
                    have HNX := Lib.hid (HB.out.found HN.out.lanes rfl HJ.out (by show sp2 v < 0; rw [HY.out]; exact hneg) hop)
                    rw [hop] at HF
                    clear hop
                    go_wp2_with fail
                    go_region_held3 (fun W => W.cell? ⟨E.p, 8, none⟩ = some (.slice (some ⟨E.tb, 0, none⟩) E.N E.N) ∧ W.cell? ⟨E.tb, v, none⟩ = some (.int .i64 y) ∧ W.cell? ⟨gl, 0, none⟩ = some (.int .i64 (k : Int)) ∧ W.cell? ⟨gl, 1, none⟩ = some (.int .i64 (v : Int)) ∧ W.cell? ⟨gl, 2, none⟩ = some (.bool b))
                      (first | assumption | exact HS4.out | exact HS5.out)
                      (first | (go_at_call 57; refine HF.out.mono ?_; rintro e w5 ⟨rfl, hb5⟩; have HK5 := Lib.hid (HK4.out.drew.later hb5); have HL5 : Hid (LB w5 gl k v b) := Lib.hid ((HL4.out.later (Below.refl _ _).drew).later hb5); have HM5 := Lib.hid (HM4.out.drew.trans (Mod.of_below (SK E) hb5)); have HW5 : Hid (Win w5 w0.heap.size g off n cap (c :: q3)) := Lib.hid ((HW4.out.below (Below.refl _ _).drew).below hb5); have HS5 : Hid (StepAt E v gl k b y w5) := Lib.hid (stepAt_of HK5.out HL5.out hvN HY.out); clear hb5))
                    obtain ⟨yc, hyc⟩ : ∃ z, sp2 c = z := ⟨_, rfl⟩
                    have HYC := Lib.hid hyc
                    have hyb2 := HB.out.small hcN
                    rw [hyc] at hyb2
                    have rc := HK5.out.steps.cell hcN
                    rw [hyc] at rc HNX
                    have rv := HK5.out.steps.cell hvN
                    have rf := HK5.out.steps.frozen v
                    have b8 := HK5.out.cellW.2.2.2.2.2.2.2.2.1
                    obtain ⟨x0, x1, x2⟩ := HL5.out.cells
                    have ew : IntKind.i64.wrap (yc + 1) = yc + 1 := by rw [IntKind.wrap_i64]; omega
                    have HK6 := Lib.hid (HK5.out.setSteps v (yc + 1)).drew
                    have HM6 := Lib.hid (SK.set HOR.out.ct HOR.out.dt HM5.out v (.int .i64 (yc + 1))).drew
                    have HLS := Lib.hid (SK.set HOR.out.ct HOR.out.dt (Mod.refl (SK E) w5) v (.int .i64 (yc + 1))).drew
                    have HL6 := Lib.hid (HL5.out.kept HLS.out (fun hh => by have := HGD.out; have := hh.2; omega))
                    have HW6 := Lib.hid (HW5.out.mod HLS.out (fun k hk => by have := hk.2; have := HBS.out; omega))
                    clear hyc hyb2 a8 r3 l0 l1 l2
                    go_wp2_with fail
                    go_region
                    obtain ⟨w6, hw6⟩ : ∃ w6, (w5.setCell ⟨E.tb, v, none⟩ (.int .i64 (yc + 1))).drew = w6 := ⟨_, rfl⟩
                    rw [hw6] at HK6 HM6 HL6 HW6 ⊢
                    clear hw6 HLS x0 x1 x2 rc rv rf b8 e0 e1 e2
                    have x6 := HL6.out.cells.2.1
                    have HWA := Lib.hid (HW6.out.below ((Below.refl w6.heap.size w6).alloc (Nat.le_refl _) (.cells #[.int .i64 (v : Int)] 3)))
                    have HGS : Hid (w0.heap.size ≤ (w6.alloc (.cells #[.int .i64 (v : Int)] 3)).heap.size) := Lib.hid (by have := HM6.out.size; simp; omega)
                    have HGE : Hid (w0.heap.size ≤ g) := Lib.hid HW6.out.ge
                    clear hlen hnl
                    go_wp2_with (at_builtin; refine wpList_append_win rfl (.tmp 103) (.tmp 106) rfl HWA.out hn1000 HGS.out rfl ⟨w6.heap.size, 0, none⟩ 1 v rfl (news_at _ _ _ _ rfl) ?_; intro g2 off2 cap2 w7 hw7 hm7; have HK7 := Lib.hid ((HK6.out.alloc (.cells #[.int .i64 (v : Int)] 3)).aside hm7 (fun k hk => by have := HGE.out; have := HBS.out; omega)); have HM7 := Lib.hid ((HM6.out.alloc (.cells #[.int .i64 (v : Int)] 3)).then_ hm7 (fun i hi hk => by have := HGE.out; omega)); have HW7 := Lib.hid hw7; clear hw7 hm7)
                    go_roundw
                    case rel => exact ⟨r + 1, _, q3 ++ [v], g2, off2, n + 1, cap2, rfl, by go_num, by omega, HM7, HK7, HW7, HNX⟩
                    case measure => simp [intOf]; omega
                · have HNX := Lib.hid (HB.out.skip rfl HJ.out (.inl (by show 0 ≤ sp2 v; rw [HY.out]; omega)))
                  have hnb : decide (y < 0) = false := by simp; omega
                  go_wp2_with fail
                  go_quiet (fail)
                  go_wp2_with fail
                  go_roundw
                  case rel => exact ⟨r + 1, sp2, q3, g, off, n, cap, rfl, by go_num, by omega, Lib.hid (HM4.out.drewN _), Lib.hid (HK4.out.drewN _), Lib.hid (HW4.out.below (below_drewN (Below.refl _ _) _)), HNX⟩
                  case measure => simp [intOf]; omega
              · have HNX := Lib.hid (HB.out.next rfl (by have := HMM.out; omega))
                have hlen := HB.out.len
                simp only [List.length_cons] at hlen
                obtain ⟨n, rfl⟩ : ∃ m, n = m + 1 := ⟨q3.length, by have := HW.out.len; simp at this; omega⟩
                obtain ⟨cap, rfl⟩ : ∃ m, cap = m + 1 := ⟨cap - 1, by have := HW.out.le; omega⟩
                have hcm := HW.out.cm
                unfold maxLen at hcm
                have hcn : n ≤ cap := by have := HW.out.le; omega
                have h1 : ¬ (n : Int) + 1 < 1 := by omega
                by_cases hc0 : cap = 0
                · subst hc0
                  obtain rfl : n = 0 := by omega
                  have hq3 : q3 = [] := List.eq_nil_of_length_eq_zero (by have := HW.out.len; simpa using this)
                  subst hq3
                  go_wp2_with fail
                  go_roundg (gk - 1)
                  case measure => omega
                  case rel => exact ⟨sp2, P ++ [c], [], _, 0, _, sb2, rfl, rfl, by simp; omega, HSB2, HM, HK, Lib.hid (.inl ⟨rfl, rfl⟩), HNX⟩
                · have hc1 : ¬ cap + 1 = 1 := by omega
                  have HWT := Lib.hid (HW.out.tail rfl)
                  go_wp2_with fail
                  go_roundg (gk - 1)
                  case measure => omega
                  case rel => exact ⟨sp2, P ++ [c], q3, some ⟨g, off + 1, none⟩, n, cap, sb2, by simp, rfl, by simp; omega, HSB2, HM, HK, Lib.hid (.inr ⟨g, off + 1, rfl, HWT.out⟩), HNX⟩
end Go.Proofs.Ytbenmebmfihleaa

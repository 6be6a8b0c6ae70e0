/- Joined: KLevel, KSettle. -/
import Derived.Test.YtbenmebmfihleaaKPour
import Derived.Test.YtbenmebmfihleaaKCount
import Derived.Test.YtbenmebmfihleaaMLane
import Derived.Lib.SliceRun
import Derived.Test.YtbenmebmfihleaaMFar
section
/- Package least: level. -/
namespace Go.Proofs.Ytbenmebmfihleaa
open Go.RowKit

variable {w wr w1 w2 w4 : World} {E : EnvK} {fl st h sp fl2 st2 : Nat → Int} {nx nx2 : Nat → Nat} {cost : Int} {k v s t co c : Nat} {b : Bool} {m want much : Int}
theorem Kw.congrNext {nx2 : Nat → Nat} {co : Int} (H : Kw E fl st h sp nx co cost wr) (e : ∀ j, j < E.N → nx j = nx2 j) : Kw E fl st h sp nx2 co cost wr :=
  ⟨H.pipes, H.lanes, H.work, H.flow, H.stays, H.high, H.steps, H.next.congr (fun g hg => by rw [e g hg]), H.ord, H.size⟩
theorem Kw.congrStays {st2 : Nat → Int} {co : Int} (H : Kw E fl st h sp nx co cost wr) (e : ∀ j, j < E.N → st j = st2 j) : Kw E fl st2 h sp nx co cost wr :=
  ⟨H.pipes, H.lanes, H.work, H.flow, H.stays.congr (fun g hg => by rw [e g hg]), H.high, H.steps, H.next, H.ord, H.size⟩
/-- All of next is made 0. -/
theorem Kw.clearNext {co : Int} {w0 : World} : ∀ (n o : Nat) (nx : Nat → Nat) (wr : World), Kw E fl st h sp nx co cost wr → Mod (SK E) w0 wr → o + n = E.N → (∀ i, i < o → nx i = 0) →
    Kw E fl st h sp (fun _ => 0) co cost (wr.setCells E.nb o (List.replicate n (.int .i64 0))) ∧ Mod (SK E) w0 (wr.setCells E.nb o (List.replicate n (.int .i64 0)))
  | 0, o, nx, wr, H, hm, ho, hz => ⟨H.congrNext (fun i hi => hz i (by omega)), hm⟩
  | n + 1, o, nx, wr, H, hm, ho, hz => by
    rw [List.replicate_succ]
    refine Kw.clearNext n (o + 1) (lifted nx o 0) _ (H.setNext o (z := 0) (m := 0) rfl) (SK.set H.ord.cn H.ord.dn hm o _) (by omega) (fun i hi => ?_)
    unfold lifted
    split
    · rfl
    · exact hz i (by omega)
def posB (z : Int) : Bool := decide (0 < z)
theorem pos_any (z : Int) (W : World) : Calls Try.prog 54 #[.int .i64 z] W fun e w' => e = .returned (.bool (posB z)) ∧ W = w' := by
  by_cases h0 : 0 < z
  · have HE : Hid (posB z = true) := Lib.hid (by simp [posB, h0])
    go_enter Try.func54, Try.ntmps54
    go_wp2_with fail
    go_ret
    exact ⟨by rw [HE.out]; simp, rfl⟩
  · have HE : Hid (posB z = false) := Lib.hid (by simp [posB, h0])
    go_enter Try.func54, Try.ntmps54
    go_wp2_with fail
    go_ret
    exact ⟨by rw [HE.out]; simp, rfl⟩
/-- A set that flat lanes don't lead out of. -/
def Flat0 (E : EnvK) (co : Nat) (h fl st : Nat → Int) : Prop := ∃ Z : Nat → Bool, (∀ u, u < E.N → Z u = true → ∀ a ∈ E.L u, opn E.l co h fl a = true → Z a.2.1 = true) ∧ (∀ i, i < E.N → 0 < st i → Z i = true) ∧ ∀ i, i < E.N → st i < 0 → Z i = false
structure Lev (E : EnvK) (s t : Nat) (want : Int) (co : Nat) (h fl st fl2 st2 : Nat → Int) : Prop where
  sT : ST E.l E.N s t want co fl2 h st2
  shr : Shr E.N st st2
  same : (∀ i, i < E.N → st i = 0) → fl2 = fl
def LevelP (E : EnvK) (s t : Nat) (want : Int) (co : Nat) (fl st h : Nat → Int) (cost : Int) (w0 : World) (e : Ending) (w' : World) : Prop := ∃ (fl2 st2 sp2 : Nat → Int) (nx2 : Nat → Nat), Tells (¬ ∃ k, k < E.N ∧ posB (st2 k) = true) e ∧ Mod (SK E) w0 w' ∧ Kw E fl2 st2 h sp2 nx2 (co : Int) cost w' ∧
  Lev E s t want co h fl st fl2 st2 ∧ Flat0 E co h fl2 st2
theorem tells_not {P : Prop} {b : Bool} (h : b = true ↔ P) : Tells (¬ P) (.returned (.bool (!b))) := ⟨!b, rfl, by cases b <;> simp_all⟩
set_option maxHeartbeats 4000000 in
set_option maxRecDepth 100000 in
theorem levelK_any {w0 : World} (hn : NetK E.l E.N s t want E.L) (hnear : Near E.N h) (hco : co ≤ 64) (hs : ST E.l E.N s t want co fl h st) (H : Kw E fl st h sp nx (co : Int) cost w0) :
    Calls Try.prog 42 #[.pointer (some ⟨E.p, 0, none⟩)] w0 (LevelP E s t want co fl st h cost w0) := by
  have HN := Lib.hid hn
  have HNE := Lib.hid hnear
  have hNm := hn.nm
  have hN0 : 0 < E.N := by have := hn.sN; omega
  have HM0 := Lib.hid (Mod.refl (SK E) w0)
  have HOR := Lib.hid H.ord
  have HBS := Lib.hid H.size
  have HK0 := Lib.hid H
  have HS0 := Lib.hid hs
  have HL0 : Hid (Lev E s t want co h fl st fl st) := Lib.hid ⟨hs, Shr.refl _ _, fun _ => rfl⟩
  have hmu := much_nonneg E.N st
  obtain ⟨G, hG⟩ : ∃ G : Nat, G = (much_ E.N st).toNat + 1 := ⟨_, rfl⟩
  have HG0 : Hid (much_ E.N st < (G : Int)) := Lib.hid (by omega)
  clear hn hnear hs H hmu hG
  have hcf : ∀ (args : Array Value) (W : World), (callFunc 54 args).run Try.prog W = .ok (.enter 54 args) W := fun _ _ => by kernel_rfl
  have HCF := Lib.hid hcf
  clear hcf
  go_enter Try.func42, Try.ntmps42
  go_wp2_with fail
  go_loopg [] G (fun gn wr => ∃ (fl1 st1 sp1 : Nat → Int) (nx1 : Nat → Nat), Hid (much_ E.N st1 < (gn : Int)) ∧ Hid (Mod (SK E) w0 wr) ∧ Hid (Kw E fl1 st1 h sp1 nx1 (co : Int) cost wr) ∧ Hid (Lev E s t want co h fl st fl1 st1))
  case atStart => exact ⟨fl, st, sp, nx, HG0, HM0, HK0, HL0⟩
  case round =>
    obtain ⟨fl1, st1, sp1, nx1, HG, HM, HK, HLV⟩ := hrel
    clear HG0 HM0 HK0 HL0
    go_wp2_with fail
    go_at_call 52
    refine (countK_any HN.out HNE.out hco HLV.out.sT.cap HK.out).mono ?_
    rintro e w1 ⟨sp2, b, rfl, hm1, hk1, hsp, hb⟩
    have HM1 := Lib.hid (HM.out.trans hm1)
    have HK1 := Lib.hid hk1
    have HSP := Lib.hid hsp
    have HB := Lib.hid hb
    clear hm1 hk1 hsp hb HM HK
    cases b with
    | false =>
      have h7 := HK1.out.cellW.2.2.2.2.2.2.2.1
      have HCT := Lib.hid (contains64_any (w := w1) (a := some ⟨E.sb, 0, none⟩) (m := E.N) (c := E.N) (f := st1) (pred := posB) 54 HCF.out pos_any (by omega) (fun k hk => ⟨E.sb, 0, rfl, by rw [Nat.zero_add]; exact HK1.out.stays.cell hk⟩))
      have HFL : Hid (Flat0 E co h fl1 st1) := Lib.hid ⟨_, HSP.out.shut (fun hex => by have := HB.out.2 hex; cases this)⟩
      go_wp2_with (go_at_call 29; refine HCT.out.mono ?_; rintro e w2 ⟨⟨q, rfl, hq⟩, rfl⟩; have HQ := Lib.hid hq; clear hq)
      go_ret
      exact ⟨fl1, st1, sp2, nx1, by have := tells_not HQ.out; cases q <;> exact this, HM1.out, HK1.out, HLV.out, HFL.out⟩
    | true =>
      have HEX := Lib.hid (HB.out.1 rfl)
      clear HB
      have h9 := HK1.out.cellW.2.2.2.2.2.2.2.2.2.1
      have hcl := Lib.run_clear_slice (P := Try.prog) w1 61 3 0 (.int .i64 0) Try.underlying61 (fun _ => by kernel_rfl) rfl rfl E.nb 0 E.N E.N hN0 (fun j hj => by rw [Nat.zero_add, HK1.out.next.cell hj]; rfl) (fun j _ => HK1.out.next.frozen _)
      obtain ⟨hk2, hm2⟩ := Kw.clearNext E.N 0 nx1 w1 HK1.out HM1.out (by omega) (fun i hi => by omega)
      obtain ⟨w2, hw2⟩ : ∃ w2, w1.setCells E.nb 0 (List.replicate E.N (.int .i64 0)) = w2 := ⟨_, rfl⟩
      rw [hw2] at hcl hk2 hm2
      have HK2 := Lib.hid hk2
      have HM2 := Lib.hid hm2
      have HR2 : Hid (Rd2 E.l E.N s t want E.L co h sp2 fl1 st1 fl1 st1 (fun _ => 0) 0) := Lib.hid (Rd2.begin_ HLV.out.sT)
      have h72 := hk2.cellW.2.2.2.2.2.2.2.1
      clear hw2 hk2 hm2 HK1 HM1
      go_wp2_with fail
      clear hcl h9 h72
      go_loopw [16] (fun i w3 => ∃ (c : Nat) (fl2 st2 : Nat → Int) (nx2 : Nat → Nat), i = .int .i64 (c : Int) ∧ c ≤ E.N ∧ Hid (Mod (SK E) w0 w3) ∧ Hid (Kw E fl2 st2 h sp2 nx2 (co : Int) cost w3) ∧ Hid (Rd2 E.l E.N s t want E.L co h sp2 fl1 st1 fl2 st2 nx2 c)) (fun i _ => E.N - (intOf i).toNat)
      case atStart => exact ⟨0, fl1, st1, _, rfl, Nat.zero_le _, HM2, HK2, HR2⟩
      case round =>
        obtain ⟨c, fl2, st2, nx2, rfl, hc, HM3, HK3, HRD⟩ := hrel
        clear HM2 HK2 HR2
        by_cases hlt : c < E.N
        · have r0 := HK3.out.stays.cell hlt
          obtain ⟨z, hz⟩ : ∃ z, st2 c = z := ⟨_, rfl⟩
          have HZ := Lib.hid hz
          rw [hz] at r0
          clear hz
          by_cases hz0 : 0 < z
          · have HZB : Hid (z ≤ 36028797018963968) := Lib.hid (by have := HRD.out.sT.small HN.out hlt; rw [HZ.out] at this; omega)
            have hz1 : 1 ≤ z := by omega
            have HPRE := Lib.hid (HRD.out.pre HN.out HSP.out)
            have HPC := Lib.hid (pour_all (cost := cost) HN.out HNE.out hco E.N c hlt (HSP.out.small c hlt).2)
            have h7 := HK3.out.cellW.2.2.2.2.2.2.2.1
            go_wp2_with fail
            refine wp_region_held_drew (S := fun W => W.cell? ⟨E.p, 7, none⟩ = some (.slice (some ⟨E.sb, 0, none⟩) E.N E.N)) (by kernel_rfl) h7 (fun hHeld => ?_)
            obtain ⟨w4, hw4⟩ : ∃ w4, World.drew wr = w4 := ⟨_, rfl⟩
            have HK4 : Hid (Kw E fl2 st2 h sp2 nx2 (co : Int) cost w4) := Lib.hid (hw4 ▸ HK3.out.drew)
            have HM4 : Hid (Mod (SK E) w0 w4) := Lib.hid (hw4 ▸ HM3.out.drew)
            have r4 := HK4.out.stays.cell hlt
            rw [HZ.out] at r4
            rw [hw4] at hHeld ⊢
            clear hw4 h7 r0
            refine wpAnyH_take (i := 0) (v := ?_) rfl (by kernel_rfl) (by kernel_rfl) (by kernel_rfl) (fun _ _ _ h => h) (Or.inl ⟨by rfl, ?_⟩) hHeld ?_
            rotate_left
            · intro W0 hW; have hW1 := hW; go_simp; (try with_reducible rfl)
            try simp only [Act.put, List.setIfInBounds_toArray, List.set_cons_zero, List.set_cons_succ, List.getElem_toArray, List.getElem_cons_zero]
            refine wpAnyH_take (i := 1) (v := ?_) rfl (by kernel_rfl) (by kernel_rfl) (by kernel_rfl) (fun _ _ _ h => h) (Or.inl ⟨by rfl, ?_⟩) hHeld ?_
            rotate_left
            · intro W0 hW; have hW1 := hW; go_simp; (try with_reducible rfl)
            try simp only [Act.put, List.setIfInBounds_toArray, List.set_cons_zero, List.set_cons_succ, List.getElem_toArray, List.getElem_cons_zero, List.getElem_cons_succ]
            refine wpAnyH_take (i := 2) (v := ?_) rfl (by kernel_rfl) (by kernel_rfl) (by kernel_rfl) (fun _ _ _ h => h) (Or.inl ⟨by rfl, ?_⟩) hHeld ?_
            rotate_left
            · intro W0 hW; have hW1 := hW; go_simp; (try with_reducible rfl)
            try simp only [Act.put, List.setIfInBounds_toArray, List.set_cons_zero, List.set_cons_succ, List.getElem_toArray, List.getElem_cons_zero, List.getElem_cons_succ]
            refine wpAnyH_take (i := 3) (v := ?_) rfl (by kernel_rfl) (by kernel_rfl) (by kernel_rfl) (fun _ _ _ h => h) (Or.inl ⟨by rfl, ?_⟩) hHeld ?_
            rotate_left
            · intro W0 hW; have hW1 := hW; go_simp; (try with_reducible rfl)
            try simp only [Act.put, List.setIfInBounds_toArray, List.set_cons_zero, List.set_cons_succ, List.getElem_toArray, List.getElem_cons_zero, List.getElem_cons_succ]
            refine wpAnyH_take (i := 4) (v := ?_) rfl (by kernel_rfl) (by kernel_rfl) (by kernel_rfl) (fun _ _ _ h => h) (Or.inl ⟨by rfl, ?_⟩) hHeld ?_
            rotate_left
            · intro W0 hW; have hW1 := hW; go_simp; (try with_reducible rfl)
            try simp only [Act.put, List.setIfInBounds_toArray, List.set_cons_zero, List.set_cons_succ, List.getElem_toArray, List.getElem_cons_zero, List.getElem_cons_succ]
            refine wpAnyH_take (i := 5) (v := ?_) rfl (by kernel_rfl) (by kernel_rfl) (by kernel_rfl) (fun _ _ _ h => h) (Or.inl ⟨by rfl, ?_⟩) hHeld ?_
            rotate_left
            · intro W0 hW; have hW1 := hW; go_simp; (try with_reducible rfl)
            try simp only [Act.put, List.setIfInBounds_toArray, List.set_cons_zero, List.set_cons_succ, List.getElem_toArray, List.getElem_cons_zero, List.getElem_cons_succ]
            refine wpAnyH_take (i := 7) (v := ?_) rfl (by kernel_rfl) (by kernel_rfl) (by kernel_rfl) (fun _ _ _ h => h) (Or.inl ⟨by rfl, ?_⟩) hHeld ?_
            rotate_left
            · intro W0 hW; have hW1 := hW; go_simp; (try with_reducible rfl)
            try simp only [Act.put, List.setIfInBounds_toArray, List.set_cons_zero, List.set_cons_succ, List.getElem_toArray, List.getElem_cons_zero, List.getElem_cons_succ]
            refine wpAnyH_take (i := 8) (v := ?_) rfl (by kernel_rfl) (by kernel_rfl) (by kernel_rfl) (fun _ _ _ h => h) (Or.inl ⟨by rfl, ?_⟩) hHeld ?_
            rotate_left
            · intro W0 hW; have hW1 := hW; go_simp; (try with_reducible rfl)
            try simp only [Act.put, List.setIfInBounds_toArray, List.set_cons_zero, List.set_cons_succ, List.getElem_toArray, List.getElem_cons_zero, List.getElem_cons_succ]
            refine wpAnyH_take (i := 9) (v := ?_) rfl (by kernel_rfl) (by kernel_rfl) (by kernel_rfl) (fun _ _ _ h => h) (Or.inl ⟨by rfl, ?_⟩) hHeld ?_
            rotate_left
            · intro W0 hW; have hW1 := hW; go_simp; (try with_reducible rfl)
            try simp only [Act.put, List.setIfInBounds_toArray, List.set_cons_zero, List.set_cons_succ, List.getElem_toArray, List.getElem_cons_zero, List.getElem_cons_succ]
            refine wpAnyH_ready (rs := [6, 10]) (by kernel_rfl) (by simp) ?_
            refine AllReadyH.cons rfl (fun K hK => ?_) (AllReadyH.cons rfl (fun K hK => ?_) AllReadyH.nil)
            · go_simp
              refine hK.out _ _ ?_ (fun hHeld => ?_)
              · exact hHeld
              clear hK K
              try simp only [Act.put, List.setIfInBounds_toArray, List.set_cons_zero, List.set_cons_succ, List.getElem_toArray, List.getElem_cons_zero, List.getElem_cons_succ]
              refine wpAnyH_ready (rs := [10]) (by kernel_rfl) (by simp) ?_
              refine AllReadyH.cons rfl (fun K hK => ?_) AllReadyH.nil
              go_simp
              refine (HPC.out z fl2 st2 nx2 w4 hz1 HZB.out HK4.out HPRE.out).mono ?_
              rintro e w5 ⟨gone, fl3, st3, nx3, rfl, hm5, hk5, hp5, hpr5⟩
              have HK5 := Lib.hid hk5
              have HM5 := Lib.hid (HM4.out.trans hm5)
              obtain ⟨hst5, hrd5⟩ := HRD.out.take HSP.out hlt (by rw [HZ.out]; exact hz0) (by rw [HZ.out]; exact hp5) hpr5
              have HR5 := Lib.hid hrd5
              have s5 := hk5.stays.cell hlt
              have t5 := hk5.stays.frozen c
              rw [hst5, HZ.out] at s5
              have h75 := hk5.cellW.2.2.2.2.2.2.2.1
              have HG := Lib.hid (show 0 ≤ gone ∧ gone ≤ z from ⟨hp5.g0, hp5.g1⟩)
              clear hm5 hk5 hp5 hpr5 hst5 hrd5
              refine hK.out _ _ ?_ (fun hHeld => ?_)
              · exact h75
              clear hK K
              try simp only [Act.put, List.setIfInBounds_toArray, List.set_cons_zero, List.set_cons_succ, List.getElem_toArray, List.getElem_cons_zero, List.getElem_cons_succ]
              have hgz := HG.out
              have hw5 : IntKind.i64.wrap (z - gone) = z - gone := by have := HZB.out; rw [IntKind.wrap_i64]; omega
              have HK6 := Lib.hid (HK5.out.setStays c (z - gone))
              have HM6 := Lib.hid (SK.set HOR.out.cs HOR.out.ds HM5.out c (.int .i64 (z - gone)))
              have h76 := HK6.out.cellW.2.2.2.2.2.2.2.1
              refine wpAnyH_take (i := 11) (v := ?_) rfl (by kernel_rfl) (by kernel_rfl) (by kernel_rfl) (fun _ _ _ h => h) (Or.inl ⟨by rfl, ?_⟩) hHeld ?_
              rotate_left
              · intro W0 hW; have hW1 := hW; go_simp; (try with_reducible rfl)
              try simp only [Act.put, List.setIfInBounds_toArray, List.set_cons_zero, List.set_cons_succ, List.getElem_toArray, List.getElem_cons_zero, List.getElem_cons_succ]
              refine wpAnyH_take (i := 12) (v := ?_) rfl (by kernel_rfl) (by kernel_rfl) (by kernel_rfl) (fun _ _ _ h => h) (Or.inl ⟨by rfl, ?_⟩) hHeld ?_
              rotate_left
              · intro W0 hW; have hW1 := hW; go_simp; (try with_reducible rfl)
              try simp only [Act.put, List.setIfInBounds_toArray, List.set_cons_zero, List.set_cons_succ, List.getElem_toArray, List.getElem_cons_zero, List.getElem_cons_succ]
              refine wpAnyH_ready (rs := [13]) (by kernel_rfl) (by simp) ?_
              refine AllReadyH.cons rfl (fun K hK => ?_) AllReadyH.nil
              go_simp
              refine hK.out _ _ ?_ (fun hHeld => ?_)
              · exact h76
              clear hK K
              try simp only [Act.put, List.setIfInBounds_toArray, List.set_cons_zero, List.set_cons_succ, List.getElem_toArray, List.getElem_cons_zero, List.getElem_cons_succ]
              refine wpAnyH_done (by kernel_rfl) ?_ _
              clear hHeld
              go_wp2_with fail
              go_roundw
              case rel => exact ⟨c + 1, fl3, _, nx3, by go_num, by omega, HM6, HK6, Lib.hid (by have := HR5.out; rw [HZ.out] at this; exact this)⟩
              case measure => simp [intOf]; omega
            · go_simp
              refine (HPC.out z fl2 st2 nx2 w4 hz1 HZB.out HK4.out HPRE.out).mono ?_
              rintro e w5 ⟨gone, fl3, st3, nx3, rfl, hm5, hk5, hp5, hpr5⟩
              have HK5 := Lib.hid hk5
              have HM5 := Lib.hid (HM4.out.trans hm5)
              obtain ⟨hst5, hrd5⟩ := HRD.out.take HSP.out hlt (by rw [HZ.out]; exact hz0) (by rw [HZ.out]; exact hp5) hpr5
              have HR5 := Lib.hid hrd5
              have s5 := hk5.stays.cell hlt
              have t5 := hk5.stays.frozen c
              rw [hst5, HZ.out] at s5
              have h75 := hk5.cellW.2.2.2.2.2.2.2.1
              have HG := Lib.hid (show 0 ≤ gone ∧ gone ≤ z from ⟨hp5.g0, hp5.g1⟩)
              clear hm5 hk5 hp5 hpr5 hst5 hrd5
              refine hK.out _ _ ?_ (fun hHeld => ?_)
              · exact h75
              clear hK K
              try simp only [Act.put, List.setIfInBounds_toArray, List.set_cons_zero, List.set_cons_succ, List.getElem_toArray, List.getElem_cons_zero, List.getElem_cons_succ]
              refine wpAnyH_ready (rs := [6]) (by kernel_rfl) (by simp) ?_
              refine AllReadyH.cons rfl (fun K hK => ?_) AllReadyH.nil
              go_simp
              refine hK.out _ _ ?_ (fun hHeld => ?_)
              · exact hHeld
              clear hK K
              try simp only [Act.put, List.setIfInBounds_toArray, List.set_cons_zero, List.set_cons_succ, List.getElem_toArray, List.getElem_cons_zero, List.getElem_cons_succ]
              have hgz := HG.out
              have hw5 : IntKind.i64.wrap (z - gone) = z - gone := by have := HZB.out; rw [IntKind.wrap_i64]; omega
              have HK6 := Lib.hid (HK5.out.setStays c (z - gone))
              have HM6 := Lib.hid (SK.set HOR.out.cs HOR.out.ds HM5.out c (.int .i64 (z - gone)))
              have h76 := HK6.out.cellW.2.2.2.2.2.2.2.1
              refine wpAnyH_take (i := 11) (v := ?_) rfl (by kernel_rfl) (by kernel_rfl) (by kernel_rfl) (fun _ _ _ h => h) (Or.inl ⟨by rfl, ?_⟩) hHeld ?_
              rotate_left
              · intro W0 hW; have hW1 := hW; go_simp; (try with_reducible rfl)
              try simp only [Act.put, List.setIfInBounds_toArray, List.set_cons_zero, List.set_cons_succ, List.getElem_toArray, List.getElem_cons_zero, List.getElem_cons_succ]
              refine wpAnyH_take (i := 12) (v := ?_) rfl (by kernel_rfl) (by kernel_rfl) (by kernel_rfl) (fun _ _ _ h => h) (Or.inl ⟨by rfl, ?_⟩) hHeld ?_
              rotate_left
              · intro W0 hW; have hW1 := hW; go_simp; (try with_reducible rfl)
              try simp only [Act.put, List.setIfInBounds_toArray, List.set_cons_zero, List.set_cons_succ, List.getElem_toArray, List.getElem_cons_zero, List.getElem_cons_succ]
              refine wpAnyH_ready (rs := [13]) (by kernel_rfl) (by simp) ?_
              refine AllReadyH.cons rfl (fun K hK => ?_) AllReadyH.nil
              go_simp
              refine hK.out _ _ ?_ (fun hHeld => ?_)
              · exact h76
              clear hK K
              try simp only [Act.put, List.setIfInBounds_toArray, List.set_cons_zero, List.set_cons_succ, List.getElem_toArray, List.getElem_cons_zero, List.getElem_cons_succ]
              refine wpAnyH_done (by kernel_rfl) ?_ _
              clear hHeld
              go_wp2_with fail
              go_roundw
              case rel => exact ⟨c + 1, fl3, _, nx3, by go_num, by omega, HM6, HK6, Lib.hid (by have := HR5.out; rw [HZ.out] at this; exact this)⟩
              case measure => simp [intOf]; omega
          · have HRN := Lib.hid (HRD.out.skip (by rw [HZ.out]; exact hz0))
            have hzb : decide (0 < z) = false := by simp; omega
            go_wp2_with fail
            go_roundw
            case rel => exact ⟨c + 1, fl2, st2, nx2, by go_num, by omega, HM3, HK3, HRN⟩
            case measure => simp [intOf]; omega
        · obtain rfl : c = E.N := by omega
          have hlt2 := HRD.out.end_ HEX.out
          have HG2 : Hid (much_ E.N st2 < ((gk - 1 : Nat) : Int)) := Lib.hid (by have := HG.out; have := much_nonneg E.N st1; omega)
          have HL2 : Hid (Lev E s t want co h fl st fl2 st2) := Lib.hid ⟨HRD.out.sT, HLV.out.shr.trans HRD.out.shr, fun hz => by
            obtain ⟨i, hi, hp, _⟩ := HEX.out
            have b1 := HLV.out.sT.bal i hi
            have b0 := HS0.out.bal i hi
            rw [HLV.out.same hz] at b1
            have := hz i hi
            omega⟩
          have hgk : gk - 1 < gk := by have := HG.out; have := much_nonneg E.N st1; omega
          clear hlt2
          go_wp2_with fail
          go_roundg (gk - 1)
          case measure => exact hgk
          case rel => exact ⟨fl2, st2, sp2, nx2, HG2, HM3, HK3, HL2⟩
end Go.Proofs.Ytbenmebmfihleaa
end
section
/- Package least: settle. -/
namespace Go.Proofs.Ytbenmebmfihleaa
open Go.RowKit

variable {w wr w1 w2 w4 : World} {E : EnvK} {fl st h sp d : Nat → Int} {nx : Nat → Nat} {cost : Int} {s t co c : Nat} {want R M ne T : Int} {Z : Nat → Bool} {h0 f0 : Nat → Int}
/-- Nodes lie between nothing and B. -/
def Within (N : Nat) (h : Nat → Int) (B : Int) : Prop := ∀ i, i < N → 0 ≤ h i ∧ h i ≤ B
theorem Within.near {N : Nat} {B : Int} (hw : Within N h B) (hB : B ≤ 8589934592000) : Near N h := fun i hi => by have := hw i hi; omega
/-- What a search rests on, while nodes lie within bounds. -/
theorem dijE_of (hn : NetK E.l E.N s t want E.L) (hs : ST E.l E.N s t want co fl h st) (hw : Within E.N h 8589934592000) (hz : Flat0 E co h fl st) : ∃ Z, DijE E.l E.N E.L co h fl st 8594229559296 FAR (phi E.N E.L (fun _ => false)) Z := by
  obtain ⟨Z, z1, z2, z3⟩ := hz
  refine ⟨Z, hn.lanes, by omega, rfl, ?_, by unfold FAR; omega, fun u hu a ha hl => ⟨hs.cheap.lane hn.lanes hu ha hl, ?_⟩, z2, z3, z1⟩
  · have := phi_small hn (fun _ => false)
    unfold FAR
    omega
  · obtain ⟨x, hx, hv, hd⟩ := hn.lanes.sound u hu a ha
    have hc := hn.cost x (List.mem_of_getElem? hx)
    have hxo := okP_true.1 (hn.ok x (List.mem_of_getElem? hx))
    obtain ⟨s1, s2⟩ := shift_le x.2.2.2 co hc.1 hc.2
    have h1 := hw x.1.toNat (by omega)
    have h2 := hw x.2.1.toNat (by omega)
    rw [rise_of hx]
    unfold riseP stp
    split <;> omega
/-- Where nothing costs anything, and all is flat. -/
def AllFlat (E : EnvK) (co : Nat) (h : Nat → Int) : Prop := (∀ x ∈ E.l, x.2.2.2 / 2 ^ co = 0) ∧ ∀ i, i < E.N → h i = 0
theorem allFlat_dij (hn : NetK E.l E.N s t want E.L) (hs : ST E.l E.N s t want co fl h st) (ha : AllFlat E co h) (hz : Flat0 E co h fl st) : ∃ Z, DijE E.l E.N E.L co h fl st 0 FAR (phi E.N E.L (fun _ => false)) Z := by
  obtain ⟨Z, z1, z2, z3⟩ := hz
  refine ⟨Z, hn.lanes, by omega, rfl, by unfold FAR; omega, by unfold FAR; omega, fun u hu a ha2 hl => ⟨hs.cheap.lane hn.lanes hu ha2 hl, ?_⟩, z2, z3, z1⟩
  obtain ⟨x, hx, hv, hd⟩ := hn.lanes.sound u hu a ha2
  have hxo := okP_true.1 (hn.ok x (List.mem_of_getElem? hx))
  have h1 := ha.2 x.1.toNat (by omega)
  have h2 := ha.2 x.2.1.toNat (by omega)
  have h3 := ha.1 x (List.mem_of_getElem? hx)
  rw [rise_of hx]
  unfold riseP stp
  split <;> omega
/-- Where no way is found, those that are reached are shut in. -/
theorem FarK.shut (hf : FarK E.l E.N E.L co h fl st R FAR M d ne) (hF : ne = FAR) (h0 : 0 < FAR) (hb : M * R < FAR) : Shut E.l E.N E.L fl st (fun i => decide (d i ≠ FAR)) := by
  refine ⟨fun u hu hS a ha hl => ?_, fun i hi hp => ?_, fun i hi hp => ?_⟩
  · simp only [decide_eq_true_eq] at hS ⊢
    exact hf.lane1 u hu a ha hl hF hS
  · simp only [decide_eq_true_eq]
    rw [hf.exc i hi hp]
    omega
  · simp only [decide_eq_false_iff_not, Decidable.not_not]
    have h1 := hf.def_ i hi hp
    rw [hF] at h1
    rcases hf.far i hi with e | e
    · exact e
    · omega
/-- If nothing stayed nothing is turned. -/
def SameK (E : EnvK) (st fl h fl1 h1 st1 : Nat → Int) : Prop := (∀ i, i < E.N → st i = 0) → fl1 = fl ∧ (∀ i, i < E.N → h1 i = h i) ∧ ∀ i, i < E.N → st1 i = 0
theorem SameK.refl (E : EnvK) (st fl h : Nat → Int) : SameK E st fl h fl h st := fun hz => ⟨rfl, fun _ _ => rfl, hz⟩
theorem SameK.level {fl1 h1 st1 fl2 st2 : Nat → Int} (hsm : SameK E st fl h fl1 h1 st1) (hs : ST E.l E.N s t want co fl1 h1 st1) (hl : Lev E s t want co h1 fl1 st1 fl2 st2) : SameK E st fl h fl2 h1 st2 := fun hz => by
  obtain ⟨e1, e2, e3⟩ := hsm hz
  have e4 := hl.same e3
  refine ⟨e4.trans e1, e2, fun i hi => ?_⟩
  have b1 := hs.bal i hi
  have b2 := hl.sT.bal i hi
  rw [e4] at b2
  have := e3 i hi
  omega
theorem SameK.pos {fl1 h1 st1 : Nat → Int} (hsm : SameK E st fl h fl1 h1 st1) (hp : ∃ i, i < E.N ∧ 0 < st1 i) (fl2 h2 st2 : Nat → Int) : SameK E st fl h fl2 h2 st2 := fun hz => by
  obtain ⟨_, _, e3⟩ := hsm hz
  obtain ⟨i, hi, h0⟩ := hp
  have := e3 i hi
  omega
structure SetG (E : EnvK) (s t : Nat) (want : Int) (co : Nat) (fl h0 st fl2 h2 st2 : Nat → Int) : Prop where
  sT : ST E.l E.N s t want co fl2 h2 st2
  zero : ∀ i, i < E.N → st2 i = 0
  high : ∀ i, i < E.N → h0 i ≤ h2 i ∧ h2 i ≤ h0 i + (E.N : Int)
  same : SameK E st fl h0 fl2 h2 st2
def SettleP (E : EnvK) (s t : Nat) (want : Int) (co : Nat) (fl st h0 : Nat → Int) (cost : Int) (w0 : World) (e : Ending) (w' : World) : Prop := ∃ (fl2 st2 h2 sp2 : Nat → Int) (nx2 : Nat → Nat), e = .returned (.bool true) ∧ Mod (SK E) w0 w' ∧ Kw E fl2 st2 h2 sp2 nx2 (co : Int) cost w' ∧ SetG E s t want co fl h0 st fl2 h2 st2
/-- A state of a settling. -/
structure SetA (E : EnvK) (s t : Nat) (want : Int) (co : Nat) (fl h0 st fl1 h1 st1 : Nat → Int) (T : Int) : Prop where
  sT : ST E.l E.N s t want co fl1 h1 st1
  up : Up E.N h0 h1 st1 T
  le : T ≤ (E.N : Int)
  same : SameK E st fl h0 fl1 h1 st1
theorem posB_true {z : Int} : posB z = true ↔ 0 < z := by simp [posB]
set_option maxHeartbeats 4000000 in
set_option maxRecDepth 100000 in
theorem settleK_ref {w0 : World} (hn : NetK E.l E.N s t want E.L) (hco : co ≤ 64) (hs : ST E.l E.N s t want co fl h0 st) (hr : Ref E.l E.N s t want co f0 h0) (hw : ∀ i, i < E.N → 0 ≤ h0 i ∧ h0 i + (E.N : Int) ≤ 8589934592000) (H : Kw E fl st h0 sp nx (co : Int) cost w0) :
    Calls Try.prog 24 #[.pointer (some ⟨E.p, 0, none⟩)] w0 (SettleP E s t want co fl st h0 cost w0) := by
  have HN := Lib.hid hn
  have HR := Lib.hid hr
  have HW := Lib.hid hw
  have HM0 := Lib.hid (Mod.refl (SK E) w0)
  have HK0 := Lib.hid H
  have HA0 : Hid (SetA E s t want co fl h0 st fl h0 st 0) := Lib.hid ⟨hs, Up.begin_ _ _ _, by omega, SameK.refl E st fl h0⟩
  clear hn hr hw H hs
  go_enter Try.func24, Try.ntmps24
  go_wp2_with fail
  go_loopg [] (E.N + 2) (fun gn wr => ∃ (fl1 st1 h1 sp1 : Nat → Int) (nx1 : Nat → Nat) (T : Int), T ≤ (E.N : Int) ∧ (E.N : Int) + 2 ≤ T + gn ∧ Hid (Mod (SK E) w0 wr) ∧ Hid (Kw E fl1 st1 h1 sp1 nx1 (co : Int) cost wr) ∧ Hid (SetA E s t want co fl h0 st fl1 h1 st1 T))
  case atStart => exact ⟨fl, st, h0, sp, nx, 0, by omega, by omega, HM0, HK0, HA0⟩
  case round =>
    obtain ⟨fl1, st1, h1, sp1, nx1, T, hT, hgn, HM, HK, HA⟩ := hrel
    clear HM0 HK0 HA0
    have HWI : Hid (Within E.N h1 8589934592000) := Lib.hid (fun i hi => by have a := HA.out.up.lo i hi; have b := HW.out i hi; omega)
    have HNE : Hid (Near E.N h1) := Lib.hid (HWI.out.near (by omega))
    go_wp2_with fail
    go_at_call 42
    refine (levelK_any HN.out HNE.out hco HA.out.sT HK.out).mono ?_
    rintro e w1 ⟨fl2, st2, sp2, nx2, ⟨q, rfl, hq⟩, hm1, hk1, hlev, hfl⟩
    have HK1 := Lib.hid hk1
    have HM1 := Lib.hid (HM.out.trans hm1)
    have HLV := Lib.hid hlev
    have HFL := Lib.hid hfl
    have HQ := Lib.hid hq
    have HSM := Lib.hid (HA.out.same.level HA.out.sT hlev)
    have HUP := Lib.hid (HA.out.up.shr hlev.shr)
    clear hm1 hk1 hlev hfl hq HM HK
    cases q with
    | true =>
      have HZ : Hid (∀ i, i < E.N → st2 i = 0) := Lib.hid (HLV.out.sT.bal.settled HN.out (fun i hi hp => HQ.out.1 rfl ⟨i, hi, posB_true.2 hp⟩))
      have HG : Hid (SetG E s t want co fl h0 st fl2 h1 st2) := Lib.hid ⟨HLV.out.sT, HZ.out, fun i hi => by have := HUP.out.lo i hi; omega, HSM.out⟩
      go_wp2_with fail
      go_ret
      exact ⟨fl2, st2, h1, sp2, nx2, rfl, HM1.out, HK1.out, HG.out⟩
    | false =>
      have HEX : Hid (∃ i, i < E.N ∧ 0 < st2 i) := Lib.hid (Classical.byContradiction (fun hno => by
        have := HQ.out.2 (fun ⟨k, hk, hp⟩ => hno ⟨k, hk, posB_true.1 hp⟩)
        cases this))
      clear HQ
      obtain ⟨Z, hZ⟩ := dijE_of HN.out HLV.out.sT HWI.out HFL.out
      have HZE := Lib.hid hZ
      clear hZ
      go_wp2_with fail
      go_at_call 43
      refine (liftK_any HN.out HNE.out hco HLV.out.sT.cap (Int.le_refl _) HZE.out HK1.out).mono ?_
      rintro e w2 ⟨d, ne, hfk, hm2, ⟨hF, rfl, hk2⟩ | ⟨hF, rfl, hk2⟩⟩
      · exfalso
        obtain ⟨i, hi, hp⟩ := HEX.out
        exact HR.out.open_ HLV.out.sT HN.out (hfk.shut hF (by unfold FAR; omega) HZE.out.big) hi hp
      · have HK2 := Lib.hid hk2
        have HM2 := Lib.hid (HM1.out.trans hm2)
        have hpos := hfk.pos
        have hle := hfk.le
        have HS2 : Hid (ST E.l E.N s t want co fl2 (upTo h1 d ne E.N) st2) := Lib.hid (HLV.out.sT.lift HN.out (d := fun i => min (d i) ne) (fun i hi => if_pos hi) (fun u hu a ha hl => hfk.lanes u hu a ha hl))
        have HU2 : Hid (Up E.N h0 (upTo h1 d ne E.N) st2 (T + ne)) := Lib.hid (HUP.out.lift (d := fun i => min (d i) ne) (fun i hi => if_pos hi) (by omega) (fun i hi => by have := hfk.nn i hi; omega) (fun i hi hp => by have := hfk.exc i hi hp; omega) (fun i hi hp => by have := hfk.def_ i hi hp; omega))
        have HT2 : Hid (T + ne ≤ (E.N : Int)) := Lib.hid (by
          obtain ⟨i, hi, hp⟩ := HEX.out
          exact HU2.out.small HR.out HS2.out HN.out hi hp)
        have HA2 : Hid (SetA E s t want co fl h0 st fl2 (upTo h1 d ne E.N) st2 (T + ne)) := Lib.hid ⟨HS2.out, HU2.out, HT2.out, HSM.out.pos HEX.out _ _ _⟩
        have hT2 := HT2.out
        clear hfk hF hk2 hm2
        go_wp2_with fail
        go_roundg (gk - 1)
        case measure => omega
        case rel => exact ⟨fl2, st2, _, sp2, nx2, T + ne, hT2, by omega, HM2, HK2, HA2⟩
def SettleB (E : EnvK) (s t : Nat) (want : Int) (co : Nat) (fl st h0 : Nat → Int) (cost : Int) (w0 : World) (e : Ending) (w' : World) : Prop := (∃ (fl2 st2 sp2 : Nat → Int) (nx2 : Nat → Nat), e = .returned (.bool true) ∧ Mod (SK E) w0 w' ∧ Kw E fl2 st2 h0 sp2 nx2 (co : Int) cost w' ∧ SetG E s t want co fl h0 st fl2 h0 st2) ∨ (e = .returned (.bool false) ∧ Mod (SK E) w0 w' ∧ Short E.l s t want)
set_option maxHeartbeats 4000000 in
set_option maxRecDepth 100000 in
theorem settleK_flat {w0 : World} (hn : NetK E.l E.N s t want E.L) (hco : co ≤ 64) (hs : ST E.l E.N s t want co fl h0 st) (hf : AllFlat E co h0) (H : Kw E fl st h0 sp nx (co : Int) cost w0) :
    Calls Try.prog 24 #[.pointer (some ⟨E.p, 0, none⟩)] w0 (SettleB E s t want co fl st h0 cost w0) := by
  have HN := Lib.hid hn
  have HF := Lib.hid hf
  have HM0 := Lib.hid (Mod.refl (SK E) w0)
  have HK0 := Lib.hid H
  have HS0 := Lib.hid hs
  have HNE : Hid (Near E.N h0) := Lib.hid (fun i hi => by have := hf.2 i hi; omega)
  clear hn hf H hs
  go_enter Try.func24, Try.ntmps24
  go_wp2_with fail
  go_loopg [] 1 (fun gn wr => gn = 1 ∧ Hid (Mod (SK E) w0 wr) ∧ Hid (Kw E fl st h0 sp nx (co : Int) cost wr))
  case atStart => exact ⟨rfl, HM0, HK0⟩
  case round =>
    obtain ⟨hgn, HM, HK⟩ := hrel
    clear HM0 HK0 hgn
    go_wp2_with fail
    go_at_call 42
    refine (levelK_any HN.out HNE.out hco HS0.out HK.out).mono ?_
    rintro e w1 ⟨fl2, st2, sp2, nx2, ⟨q, rfl, hq⟩, hm1, hk1, hlev, hfl⟩
    have HK1 := Lib.hid hk1
    have HM1 := Lib.hid (HM.out.trans hm1)
    have HLV := Lib.hid hlev
    have HFL := Lib.hid hfl
    have HQ := Lib.hid hq
    have HSM := Lib.hid ((SameK.refl E st fl h0).level HS0.out hlev)
    clear hm1 hk1 hlev hfl hq HM HK
    cases q with
    | true =>
      have HZ : Hid (∀ i, i < E.N → st2 i = 0) := Lib.hid (HLV.out.sT.bal.settled HN.out (fun i hi hp => HQ.out.1 rfl ⟨i, hi, posB_true.2 hp⟩))
      have HG : Hid (SetG E s t want co fl h0 st fl2 h0 st2) := Lib.hid ⟨HLV.out.sT, HZ.out, fun i hi => by omega, HSM.out⟩
      go_wp2_with fail
      go_ret
      exact .inl ⟨fl2, st2, sp2, nx2, rfl, HM1.out, HK1.out, HG.out⟩
    | false =>
      have HEX : Hid (∃ i, i < E.N ∧ 0 < st2 i) := Lib.hid (Classical.byContradiction (fun hno => by
        have := HQ.out.2 (fun ⟨k, hk, hp⟩ => hno ⟨k, hk, posB_true.1 hp⟩)
        cases this))
      clear HQ
      obtain ⟨Z, hZ⟩ := allFlat_dij HN.out HLV.out.sT HF.out HFL.out
      have HZE := Lib.hid hZ
      clear hZ
      go_wp2_with fail
      go_at_call 43
      refine (liftK_any HN.out HNE.out hco HLV.out.sT.cap (by omega) HZE.out HK1.out).mono ?_
      rintro e w2 ⟨d, ne, hfk, hm2, ⟨hF, rfl, hk2⟩ | ⟨hF, rfl, hk2⟩⟩
      · have HSH : Hid (Short E.l s t want) := Lib.hid (by
          obtain ⟨i, hi, hp⟩ := HEX.out
          exact (hfk.shut hF (by unfold FAR; omega) HZE.out.big).short HLV.out.sT HN.out hi hp)
        have HM2 := Lib.hid (HM1.out.trans hm2)
        clear hfk hF hk2 hm2
        go_wp2_with fail
        go_ret
        exact .inr ⟨rfl, HM2.out, HSH.out⟩
      · exfalso
        have h1 := hfk.pos
        rcases hfk.near with e | ⟨v, hv, hp, e⟩
        · exact hF e
        · rcases hfk.far v hv with e2 | e2
          · exact hF (e.symm.trans e2)
          · rw [Int.mul_zero] at e2
            omega
end Go.Proofs.Ytbenmebmfihleaa
end

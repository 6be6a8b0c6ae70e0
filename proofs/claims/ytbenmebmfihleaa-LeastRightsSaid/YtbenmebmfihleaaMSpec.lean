/- Joined: LawRight, LeastSpec. -/
import Derived.Test.YtbenmebmfihleaaMFlowT
import Derived.Test.YtbenmebmfihleaaLawNet
section
/- The law's own test of a result (layer 10). -/
namespace Go.Proofs.Ytbenmebmfihleaa
open Go.RowKit

variable {len cap N g s t k m hm fc hc B : Nat} {l : List Pi} {xs hs : List Int} {w wr w2 : World} {a fa ha : Option Addr} {c want z : Int} {x : Pi}
/-- Block g, new, holds the result. -/
structure RBox (B : Nat) (wr : World) (g : Nat) (fa : Option Addr) (m fc : Nat) (c : Int) (ha : Option Addr) (hm hc : Nat) : Prop where
  ge : B ≤ g
  blk : wr.heap[g]? = some (.cells #[.slice fa m fc, .int .i64 c, .slice ha hm hc] 36 (0, 0))
theorem RBox.lt (h : RBox B wr g fa m fc c ha hm hc) : g < wr.heap.size := (Array.getElem?_eq_some_iff.1 h.blk).1
theorem RBox.later (h : RBox B wr g fa m fc c ha hm hc) (hb : Below wr.heap.size wr w2) : RBox B w2 g fa m fc c ha hm hc := ⟨h.ge, (hb.block g h.lt).trans h.blk⟩
theorem RBox.alloc (h : RBox B wr g fa m fc c ha hm hc) (o : Obj) : RBox B (wr.alloc o) g fa m fc c ha hm hc := ⟨h.ge, (Below.heap_alloc _ _ _ h.lt).trans h.blk⟩
theorem RBox.c0 (h : RBox B wr g fa m fc c ha hm hc) : wr.cell? ⟨g, 0, none⟩ = some (.slice fa m fc) := by simp [World.cell?, h.blk]
theorem RBox.c1 (h : RBox B wr g fa m fc c ha hm hc) : wr.cell? ⟨g, 1, none⟩ = some (.int .i64 c) := by simp [World.cell?, h.blk]
theorem RBox.c2 (h : RBox B wr g fa m fc c ha hm hc) : wr.cell? ⟨g, 2, none⟩ = some (.slice ha hm hc) := by simp [World.cell?, h.blk]
theorem RBox.make (hB : B ≤ wr.heap.size) (fa : Option Addr) (m fc : Nat) (c : Int) (ha : Option Addr) (hm hc : Nat) : RBox B (wr.alloc (.cells #[.slice fa m fc, .int .i64 c, .slice ha hm hc] 36)) wr.heap.size fa m fc c ha hm hc := ⟨hB, heap_alloc_new _ _⟩
/-- The net's box and the result's. -/
structure TwoB (w wr : World) (N : Nat) (a : Option Addr) (len cap : Nat) (fa : Option Addr) (m fc : Nat) (c : Int) (ha : Option Addr) (hm hc : Nat) : Prop where
  net : NBox w wr w.heap.size (N : Int) a len cap
  res : RBox w.heap.size wr (w.heap.size + 1) fa m fc c ha hm hc
theorem TwoB.later (h : TwoB w wr N a len cap fa m fc c ha hm hc) (hb : Below wr.heap.size wr w2) : TwoB w w2 N a len cap fa m fc c ha hm hc := ⟨h.net.later hb, h.res.later hb⟩
theorem TwoB.alloc (h : TwoB w wr N a len cap fa m fc c ha hm hc) (o : Obj) : TwoB w (wr.alloc o) N a len cap fa m fc c ha hm hc := ⟨h.net.alloc o, h.res.alloc o⟩
theorem TwoB.make (w : World) (N : Nat) (a : Option Addr) (len cap : Nat) (fa : Option Addr) (m fc : Nat) (c : Int) (ha : Option Addr) (hm hc : Nat) :
    TwoB w ((w.alloc (.cells #[.int .i64 (N : Int), .slice a len cap] 27)).alloc (.cells #[.slice fa m fc, .int .i64 c, .slice ha hm hc] 36)) N a len cap fa m fc c ha hm hc :=
  ⟨(NBox.make (Below.refl _ w) (N : Int) a len cap).alloc _, by
    have := RBox.make (B := w.heap.size) (wr := w.alloc (.cells #[.int .i64 (N : Int), .slice a len cap] 27)) (by simp) fa m fc c ha hm hc
    simpa using this⟩
/-- Does it hold? -/
def RightIs (l : List Pi) (N : Nat) (xs hs : List Int) (s t : Nat) (want c : Int) : Prop := xs.length = l.length ∧ hs.length = N ∧ IsLeast l N (flOf xs) (flOf hs) s t want c
noncomputable def rightL (l : List Pi) (N : Nat) (xs hs : List Int) (s t : Nat) (want c : Int) : Bool := open Classical in decide (RightIs l N xs hs s t want c)
theorem rightL_no (h : ¬ RightIs l N xs hs s t want c) : rightL l N xs hs s t want c = false := by simp [rightL, h]
theorem rightL_yes (h : RightIs l N xs hs s t want c) : rightL l N xs hs s t want c = true := by simp [rightL, h]
theorem rightL_eq (h : RightIs l N xs hs s t want c ↔ c = z) : rightL l N xs hs s t want c = (z == c) := by
  by_cases e : c = z
  · rw [rightL_yes (h.2 e), e]; simp
  · rw [rightL_no (fun x => e (h.1 x))]; simp; omega
/-- The first k pipes are as they should be. -/
structure LimbsTo (l : List Pi) (fl h : Nat → Int) (k : Nat) : Prop where
  ends : ∀ (j : Nat) (x : Pi), j < k → l[j]? = some x → (fl j < x.2.2.1 → 0 ≤ steep h x) ∧ (0 < fl j → steep h x ≤ 0)
theorem LimbsTo.on {fl h : Nat → Int} (hl : LimbsTo l fl h k) (hx : l[k]? = some x) (h1 : fl k < x.2.2.1 → 0 ≤ steep h x) (h2 : 0 < fl k → steep h x ≤ 0) : LimbsTo l fl h (k + 1) := ⟨fun j y hj hy => by
  by_cases e : j = k
  · subst e
    rw [hx] at hy
    cases hy
    exact ⟨h1, h2⟩
  · exact hl.ends j y (by omega) hy⟩
def FitTo (h : Nat → Int) (k : Nat) : Prop := ∀ i, i < k → -1125899906842624 ≤ h i ∧ h i ≤ 1125899906842624
theorem FitTo.on {h : Nat → Int} (hf : FitTo h k) (h1 : -1125899906842624 ≤ h k) (h2 : h k ≤ 1125899906842624) : FitTo h (k + 1) := fun i hi => by
  by_cases e : i = k
  · subst e; exact ⟨h1, h2⟩
  · exact hf i (by omega)
/-- No product that is too great. -/
def Safe (l : List Pi) (xs : List Int) : Prop := ∀ (k : Nat) (x : Pi), l[k]? = some x → 0 ≤ flOf xs k → flOf xs k ≤ x.2.2.1 → 0 ≤ flOf xs k * x.2.2.2 ∧ flOf xs k * x.2.2.2 ≤ 43980465111040
theorem Safe.cost (h : Safe l xs) (hf : IsFlow l N (flOf xs) s t) (k : Nat) : 0 ≤ costP l (flOf xs) k ∧ costP l (flOf xs) k ≤ (k : Int) * 43980465111040 := by
  have hx : ∀ (k : Nat) (x : Pi), l[k]? = some x → 0 ≤ dueP (flOf xs) k x ∧ dueP (flOf xs) k x ≤ 43980465111040 := fun k x hx => by
    have a := hf.cap k x hx
    exact h k x hx a.1 a.2
  exact ⟨sumP_nonneg (fun k x h => (hx k x h).1) k, (sumP_bound (by omega) (fun k x h => ⟨by have := (hx k x h).1; omega, (hx k x h).2⟩) k).2⟩

set_option maxHeartbeats 4000000 in
set_option maxRecDepth 100000 in
theorem lawRight_any (hN : N ≤ 1000) (hlen : len ≤ 20) (hok : ∀ x ∈ l, okP (N : Int) x = true) (hs0 : s < N) (ht : t < N) (hsafe : Safe l xs) (hmx : m ≤ 9223372036854775807) (hhx : hm ≤ 9223372036854775807)
    (a : Option Addr) (cap : Nat) (want c : Int) (fa : Option Addr) (fc : Nat) (ha : Option Addr) (hc : Nat) (w : World) (hl : IsPipes w.heap.size w a len l) (hi : IsNums w.heap.size w fa m xs) (hh : IsNums w.heap.size w ha hm hs) :
    Calls Try.prog 13 #[.agg #[.int .i64 (N : Int), .slice a len cap], .int .i64 (s : Int), .int .i64 (t : Int), .int .i64 want, .agg #[.slice fa m fc, .int .i64 c, .slice ha hm hc]] w fun e w' => e = .returned (.bool (rightL l N xs hs s t want c)) ∧ Below w.heap.size w w' := by
  have HG := Lib.hid (TwoB.make w N a len cap fa m fc c ha hm hc)
  have hll := hl.1
  have hxl := hi.1
  have hhl := hh.1
  have HL := Lib.hid hl
  have HI := Lib.hid hi
  have HH := Lib.hid hh
  have HOK := Lib.hid hok
  have HSF := Lib.hid hsafe
  clear hl hi hh hok hsafe
  by_cases hfl : xs.length = l.length ∧ IsFlow l N (flOf xs) s t
  · have HV := Lib.hid (flowsV_yes hfl)
    obtain ⟨much, hmu⟩ : ∃ much, netTo l (flOf xs) (t : Int) l.length = much := ⟨_, rfl⟩
    rw [hmu] at HV
    have HM := Lib.hid hmu
    have HF := Lib.hid hfl.2
    have HXL := Lib.hid hfl.1
    clear hmu hfl
    have x0 := HG.out.net.c0
    have x1 := HG.out.net.c1
    have r0 := HG.out.res.c0
    have r2 := HG.out.res.c2
    by_cases hw : much = want
    · by_cases hn : hm = N
      · have HLT0 : Hid (LimbsTo l (flOf xs) (flOf hs) 0) := Lib.hid ⟨fun j x hj => by omega⟩
        have HC0 : Hid (costP l (flOf xs) 0 = 0) := Lib.hid rfl
        subst hw hn
        go_enter Try.func13, Try.ntmps13
        go_wp2_with (first
          | (go_at_call 16; refine (flows_any hN hlen (fun x hx => (okP_true.1 (HOK.out x hx)).2.2.1.2) hs0 ht m fc fa a cap _ hmx ((HL.out.later HG.out.net.below).mono HG.out.net.below.size) ((HI.out.later HG.out.net.below).mono HG.out.net.below.size)).mono ?_; rw [HV.out]; rintro e w3 ⟨rfl, hb3⟩; have HX := Lib.hid (HG.out.later hb3); clear hb3 x0 x1 r0 r2; have x0 := HX.out.net.c0; have x1 := HX.out.net.c1; have r0 := HX.out.res.c0; have r2 := HX.out.res.c2))
        clear x0 x1 r0 r2
        go_loopw [13, 47] (fun cv kv wr => ∃ (k : Nat) (d : Int), kv = .int .i64 k ∧ cv = .int .i64 d ∧ k ≤ len ∧ Hid (costP l (flOf xs) k = d) ∧ Hid (TwoB w wr hm a len cap fa m fc c ha hm hc) ∧ Hid (LimbsTo l (flOf xs) (flOf hs) k)) (fun _ kv _ => len - (intOf kv).toNat)
        case atStart => exact ⟨0, 0, rfl, rfl, Nat.zero_le _, HC0, HX, HLT0⟩
        case round =>
          obtain ⟨k, d, rfl, rfl, hk, HD, HX, HLT⟩ := hrel
          clear HLT0 HC0 HG
          by_cases hlt : k < len
          · obtain ⟨bp, op, x, rfl, _, hx, e0, e1, e2, e3⟩ := (HX.out.net.pipes HL.out).at_ hlt
            have hxo := okP_true.1 (HOK.out x (List.mem_of_getElem? hx))
            obtain ⟨bn, on, z, rfl, hz, ez⟩ := (HI.out.later HX.out.net.below).at_ (k := k) (by have := HXL.out; omega)
            have hkm : k < m := by have := HXL.out; omega
            have hfz := flOf_at hz
            have hcap := HF.out.cap k x hx
            have hsf := HSF.out k x hx hcap.1 hcap.2
            have hst : costP l (flOf xs) (k + 1) = d + z * x.2.2.2 := by unfold costP; rw [sumP_step hx]; have := HD.out; unfold costP at this; rw [this, dueP, hfz]
            have hcb := (HSF.out.cost HF.out k)
            rw [HD.out] at hcb
            rw [hfz] at hcap hsf
            have hcb2 : 0 ≤ d ∧ d ≤ 879609302220800 := by omega
            obtain ⟨f, u, r, q⟩ := x
            simp only at e0 e1 e2 e3 hxo hcap hsf hst
            obtain ⟨f, rfl⟩ : ∃ f' : Nat, f = (f' : Int) := ⟨f.toNat, by omega⟩
            obtain ⟨u, rfl⟩ : ∃ u' : Nat, u = (u' : Int) := ⟨u.toNat, by omega⟩
            have hfN : f < hm := by omega
            have huN : u < hm := by omega
            obtain ⟨bh, oh, zf, rfl, hzf, ezf⟩ := (HH.out.later HX.out.net.below).at_ hfN
            obtain ⟨bh2, oh2, zu, hbh, hzu, ezu⟩ := (HH.out.later HX.out.net.below).at_ huN
            cases hbh
            have hff := flOf_at hzf
            have hfu := flOf_at hzu
            have HX1 := Lib.hid (HX.out.alloc (.cells #[.int .i64 (f : Int), .int .i64 (u : Int), .int .i64 r, .int .i64 q] 47))
            have ez1 : (wr.alloc (.cells #[.int .i64 (f : Int), .int .i64 (u : Int), .int .i64 r, .int .i64 q] 47)).cell? ⟨bn, on + k, none⟩ = some (.int .i64 z) := (World.cell?_alloc_past _ _ _ (World.block_lt_of_cell? _ _ ez)).trans ez
            have ezf1 : (wr.alloc (.cells #[.int .i64 (f : Int), .int .i64 (u : Int), .int .i64 r, .int .i64 q] 47)).cell? ⟨bh, oh + f, none⟩ = some (.int .i64 zf) := (World.cell?_alloc_past _ _ _ (World.block_lt_of_cell? _ _ ezf)).trans ezf
            have ezu1 : (wr.alloc (.cells #[.int .i64 (f : Int), .int .i64 (u : Int), .int .i64 r, .int .i64 q] 47)).cell? ⟨bh, oh + u, none⟩ = some (.int .i64 zu) := (World.cell?_alloc_past _ _ _ (World.block_lt_of_cell? _ _ ezu)).trans ezu
            have r0 := HX1.out.res.c0
            have r2 := HX1.out.res.c2
            have hstp : steep (flOf hs) ((f : Int), (u : Int), r, q) = q + zf - zu := by simp only [steep, Int.toNat_natCast, hff, hfu]
            have HXX := Lib.hid hx
            have HFZ := Lib.hid hfz
            have HFF := Lib.hid hff
            have HFU := Lib.hid hfu
            have HSTP := Lib.hid hstp
            have HST := Lib.hid hst
            obtain ⟨_, _, _, hq1, hq2⟩ := hxo
            clear hx hz hfz hzf hzu hff hfu hstp hst ez ezf ezu hcb
            go_wp2_with fail
            go_quiet (fail)
            have HX2 := Lib.hid (HX1.out.later (below_drewN (Below.refl _ _) nq))
            generalize hw2 : (wr.alloc (.cells #[.int .i64 (f : Int), .int .i64 (u : Int), .int .i64 r, .int .i64 q] 47)).drewN nq = wr2 at HX2 ⊢
            have ez2 : wr2.cell? ⟨bn, on + k, none⟩ = some (.int .i64 z) := by rw [← hw2]; simpa using ez1
            have p2 : wr2.cell? ⟨wr.heap.size, 2, none⟩ = some (.int .i64 r) := by rw [← hw2]; simp
            have p3 : wr2.cell? ⟨wr.heap.size, 3, none⟩ = some (.int .i64 q) := by rw [← hw2]; simp
            clear r0 r2 ez1 ezf1 ezu1 hw2 e0 e1 e2 e3
            have r0 := HX2.out.res.c0
            by_cases g0 : zf < -1125899906842624
            · have g0b : decide (zf < -1125899906842624) = true := by simpa using g0
              have HR := Lib.hid (rightL_no (l := l) (N := hm) (xs := xs) (hs := hs) (s := s) (t := t) (want := much) (c := c) (fun h => by have := h.2.2.fit f hfN; rw [HFF.out] at this; omega))
              go_wp2_with fail
              go_ret
              exact ⟨by rw [HR.out]; rfl, by first | exact HX2.out.net.below | exact below_drewN HX2.out.net.below _⟩
            · have g0b : decide (zf < -1125899906842624) = false := by simpa using g0
              by_cases g1 : 1125899906842624 < zf
              · have g1b : decide (1125899906842624 < zf) = true := by simpa using g1
                have HR := Lib.hid (rightL_no (l := l) (N := hm) (xs := xs) (hs := hs) (s := s) (t := t) (want := much) (c := c) (fun h => by have := h.2.2.fit f hfN; rw [HFF.out] at this; omega))
                go_wp2_with fail
                go_ret
                exact ⟨by rw [HR.out]; rfl, by first | exact HX2.out.net.below | exact below_drewN HX2.out.net.below _⟩
              · have g1b : decide (1125899906842624 < zf) = false := by simpa using g1
                by_cases g2 : zu < -1125899906842624
                · have g2b : decide (zu < -1125899906842624) = true := by simpa using g2
                  have HR := Lib.hid (rightL_no (l := l) (N := hm) (xs := xs) (hs := hs) (s := s) (t := t) (want := much) (c := c) (fun h => by have := h.2.2.fit u huN; rw [HFU.out] at this; omega))
                  go_wp2_with fail
                  go_ret
                  exact ⟨by rw [HR.out]; rfl, by first | exact HX2.out.net.below | exact below_drewN HX2.out.net.below _⟩
                · have g2b : decide (zu < -1125899906842624) = false := by simpa using g2
                  by_cases g3 : 1125899906842624 < zu
                  · have g3b : decide (1125899906842624 < zu) = true := by simpa using g3
                    have HR := Lib.hid (rightL_no (l := l) (N := hm) (xs := xs) (hs := hs) (s := s) (t := t) (want := much) (c := c) (fun h => by have := h.2.2.fit u huN; rw [HFU.out] at this; omega))
                    go_wp2_with fail
                    go_ret
                    exact ⟨by rw [HR.out]; rfl, by first | exact HX2.out.net.below | exact below_drewN HX2.out.net.below _⟩
                  · have g3b : decide (1125899906842624 < zu) = false := by simpa using g3
                    by_cases b1 : z < r
                    · have b1b : decide (z < r) = true := by simpa using b1
                      by_cases b2 : q + zf < zu
                      · have b2b : decide (q + zf < zu) = true := by simpa using b2
                        have HR := Lib.hid (rightL_no (l := l) (N := hm) (xs := xs) (hs := hs) (s := s) (t := t) (want := much) (c := c) (fun h => by have := h.2.2.limbs k _ HXX.out; rw [HSTP.out, HFZ.out] at this; simp only at this; omega))
                        go_wp2_with fail
                        go_quiet (fail)
                        go_wp2_with fail
                        go_ret
                        exact ⟨by rw [HR.out]; rfl, by first | exact HX2.out.net.below | exact below_drewN HX2.out.net.below _⟩
                      · have b2b : decide (q + zf < zu) = false := by simpa using b2
                        by_cases b3 : 0 < z
                        · have b3b : decide (0 < z) = true := by simpa using b3
                          by_cases b4 : zu < q + zf
                          · have b4b : decide (zu < q + zf) = true := by simpa using b4
                            have HR := Lib.hid (rightL_no (l := l) (N := hm) (xs := xs) (hs := hs) (s := s) (t := t) (want := much) (c := c) (fun h => by have := h.2.2.limbs k _ HXX.out; rw [HSTP.out, HFZ.out] at this; simp only at this; omega))
                            go_wp2_with fail
                            go_quiet (fail)
                            go_wp2_with fail
                            go_ret
                            exact ⟨by rw [HR.out]; rfl, by first | exact HX2.out.net.below | exact below_drewN HX2.out.net.below _⟩
                          · have b4b : decide (zu < q + zf) = false := by simpa using b4
                            have HN := Lib.hid (HLT.out.on HXX.out (by rw [HSTP.out, HFZ.out]; simp only; omega) (by rw [HSTP.out, HFZ.out]; omega))
                            go_wp2_with fail
                            go_quiet (fail)
                            go_wp2_with fail
                            go_quiet (fail)
                            go_wp2_with fail
                            go_roundw
                            case rel => exact ⟨k + 1, _, by go_num, rfl, by omega, HST, Lib.hid (HX2.out.later (by first | exact below_drewN (below_drewN (Below.refl _ _) _) _ | exact below_drewN (Below.refl _ _) _)), HN⟩
                            case measure => simp [intOf]; omega
                        · have b3b : decide (0 < z) = false := by simpa using b3
                          have HN := Lib.hid (HLT.out.on HXX.out (by rw [HSTP.out, HFZ.out]; simp only; omega) (by rw [HSTP.out, HFZ.out]; omega))
                          go_wp2_with fail
                          go_quiet (fail)
                          go_wp2_with fail
                          go_quiet (fail)
                          go_wp2_with fail
                          go_roundw
                          case rel => exact ⟨k + 1, _, by go_num, rfl, by omega, HST, Lib.hid (HX2.out.later (by first | exact below_drewN (below_drewN (Below.refl _ _) _) _ | exact below_drewN (Below.refl _ _) _)), HN⟩
                          case measure => simp [intOf]; omega
                    · have b1b : decide (z < r) = false := by simpa using b1
                      by_cases b3 : 0 < z
                      · have b3b : decide (0 < z) = true := by simpa using b3
                        by_cases b4 : zu < q + zf
                        · have b4b : decide (zu < q + zf) = true := by simpa using b4
                          have HR := Lib.hid (rightL_no (l := l) (N := hm) (xs := xs) (hs := hs) (s := s) (t := t) (want := much) (c := c) (fun h => by have := h.2.2.limbs k _ HXX.out; rw [HSTP.out, HFZ.out] at this; simp only at this; omega))
                          go_wp2_with fail
                          go_quiet (fail)
                          go_wp2_with fail
                          go_ret
                          exact ⟨by rw [HR.out]; rfl, by first | exact HX2.out.net.below | exact below_drewN HX2.out.net.below _⟩
                        · have b4b : decide (zu < q + zf) = false := by simpa using b4
                          have HN := Lib.hid (HLT.out.on HXX.out (by rw [HSTP.out, HFZ.out]; simp only; omega) (by rw [HSTP.out, HFZ.out]; omega))
                          go_wp2_with fail
                          go_quiet (fail)
                          go_wp2_with fail
                          go_quiet (fail)
                          go_wp2_with fail
                          go_roundw
                          case rel => exact ⟨k + 1, _, by go_num, rfl, by omega, HST, Lib.hid (HX2.out.later (by first | exact below_drewN (below_drewN (Below.refl _ _) _) _ | exact below_drewN (Below.refl _ _) _)), HN⟩
                          case measure => simp [intOf]; omega
                      · have b3b : decide (0 < z) = false := by simpa using b3
                        have HN := Lib.hid (HLT.out.on HXX.out (by rw [HSTP.out, HFZ.out]; simp only; omega) (by rw [HSTP.out, HFZ.out]; omega))
                        go_wp2_with fail
                        go_quiet (fail)
                        go_wp2_with fail
                        go_quiet (fail)
                        go_wp2_with fail
                        go_roundw
                        case rel => exact ⟨k + 1, _, by go_num, rfl, by omega, HST, Lib.hid (HX2.out.later (by first | exact below_drewN (below_drewN (Below.refl _ _) _) _ | exact below_drewN (Below.refl _ _) _)), HN⟩
                        case measure => simp [intOf]; omega
          · have hle : l.length = k := by omega
            have HLA : Hid (Limbs l (flOf xs) (flOf hs)) := Lib.hid (fun j x hx => HLT.out.ends j x (by have := (List.getElem?_eq_some_iff.1 hx).1; omega) hx)
            have HDD : Hid (costP l (flOf xs) l.length = d) := Lib.hid (by rw [hle]; exact HD.out)
            have HFT0 : Hid (FitTo (flOf hs) 0) := Lib.hid (fun i hi => by omega)
            have r2 := HX.out.res.c2
            clear HLT HD
            go_wp2_with fail
            clear r2
            go_loopw [124] (fun kv wr => ∃ i : Nat, kv = .int .i64 i ∧ i ≤ hm ∧ Hid (TwoB w wr hm a len cap fa m fc c ha hm hc) ∧ Hid (FitTo (flOf hs) i)) (fun kv _ => hm - (intOf kv).toNat)
            case atStart => exact ⟨0, rfl, Nat.zero_le _, HX, HFT0⟩
            case round =>
              clear HFT0 HX
              obtain ⟨i, rfl, hi, HX, HFT⟩ := hrel
              by_cases hlt2 : i < hm
              · obtain ⟨bh, oh, zi, rfl, hzi, ezi⟩ := (HH.out.later HX.out.net.below).at_ hlt2
                have hfi := flOf_at hzi
                have HFI := Lib.hid hfi
                clear hzi hfi
                by_cases g1 : zi < -1125899906842624
                · have g1b : decide (zi < -1125899906842624) = true := by simpa using g1
                  have HR := Lib.hid (rightL_no (l := l) (N := hm) (xs := xs) (hs := hs) (s := s) (t := t) (want := much) (c := c) (fun h => by have := h.2.2.fit i hlt2; rw [HFI.out] at this; omega))
                  go_wp2_with fail
                  go_ret
                  exact ⟨by rw [HR.out]; rfl, by first | exact HX.out.net.below | exact below_drewN HX.out.net.below _⟩
                · have g1b : decide (zi < -1125899906842624) = false := by simpa using g1
                  by_cases g2 : 1125899906842624 < zi
                  · have g2b : decide (1125899906842624 < zi) = true := by simpa using g2
                    have HR := Lib.hid (rightL_no (l := l) (N := hm) (xs := xs) (hs := hs) (s := s) (t := t) (want := much) (c := c) (fun h => by have := h.2.2.fit i hlt2; rw [HFI.out] at this; omega))
                    go_wp2_with fail
                    go_ret
                    exact ⟨by rw [HR.out]; rfl, by first | exact HX.out.net.below | exact below_drewN HX.out.net.below _⟩
                  · have g2b : decide (1125899906842624 < zi) = false := by simpa using g2
                    have HN := Lib.hid (HFT.out.on (by rw [HFI.out]; omega) (by rw [HFI.out]; omega))
                    go_wp2_with fail
                    go_roundw
                    case rel => exact ⟨i + 1, by go_num, by omega, HX, HN⟩
                    case measure => simp [intOf]; omega
              · obtain rfl : hm = i := by omega
                have HR := Lib.hid (rightL_eq (l := l) (N := hm) (xs := xs) (hs := hs) (s := s) (t := t) (want := much) (c := c) (z := d) ⟨fun h => by rw [h.2.2.cost, HDD.out], fun e => ⟨HXL.out, hhl, HF.out, HM.out.symm, HLA.out, HFT.out, by rw [HDD.out]; exact e⟩⟩)
                have r1 := HX.out.res.c1
                go_wp2_with fail
                go_ret
                exact ⟨by rw [HR.out]; rfl, HX.out.net.below⟩
      · have hnb : ((hm : Int) != (N : Int)) = true := by simp; omega
        have hwb : (much != want) = false := by simpa using hw
        have HR := Lib.hid (rightL_no (l := l) (N := N) (xs := xs) (hs := hs) (s := s) (t := t) (want := want) (c := c) (fun h => hn (by rw [← h.2.1]; exact hhl.symm)))
        subst hw
        go_enter Try.func13, Try.ntmps13
        go_wp2_with (first
          | (go_at_call 16; refine (flows_any hN hlen (fun x hx => (okP_true.1 (HOK.out x hx)).2.2.1.2) hs0 ht m fc fa a cap _ hmx ((HL.out.later HG.out.net.below).mono HG.out.net.below.size) ((HI.out.later HG.out.net.below).mono HG.out.net.below.size)).mono ?_; rw [HV.out]; rintro e w3 ⟨rfl, hb3⟩; have HX := Lib.hid (HG.out.later hb3); clear hb3 x0 x1 r0 r2; have x0 := HX.out.net.c0; have x1 := HX.out.net.c1; have r0 := HX.out.res.c0; have r2 := HX.out.res.c2))
        go_ret
        exact ⟨by rw [HR.out]; rfl, HX.out.net.below⟩
    · have hwb : (much != want) = true := by simpa using hw
      have HR := Lib.hid (rightL_no (l := l) (N := N) (xs := xs) (hs := hs) (s := s) (t := t) (want := want) (c := c) (fun h => hw (by rw [h.2.2.much, HM.out])))
      go_enter Try.func13, Try.ntmps13
      go_wp2_with (first
        | (go_at_call 16; refine (flows_any hN hlen (fun x hx => (okP_true.1 (HOK.out x hx)).2.2.1.2) hs0 ht m fc fa a cap _ hmx ((HL.out.later HG.out.net.below).mono HG.out.net.below.size) ((HI.out.later HG.out.net.below).mono HG.out.net.below.size)).mono ?_; rw [HV.out]; rintro e w3 ⟨rfl, hb3⟩; have HX := Lib.hid (HG.out.later hb3); clear hb3 x0 x1 r0 r2; have x0 := HX.out.net.c0; have x1 := HX.out.net.c1; have r0 := HX.out.res.c0; have r2 := HX.out.res.c2))
      go_ret
      exact ⟨by rw [HR.out]; rfl, HX.out.net.below⟩
  · have HV := Lib.hid (flowsV_no hfl)
    have x0 := HG.out.net.c0
    have x1 := HG.out.net.c1
    have r0 := HG.out.res.c0
    have r2 := HG.out.res.c2
    have HR := Lib.hid (rightL_no (l := l) (N := N) (xs := xs) (hs := hs) (s := s) (t := t) (want := want) (c := c) (fun h => hfl ⟨h.1, h.2.2.flow⟩))
    go_enter Try.func13, Try.ntmps13
    go_wp2_with (first
      | (go_at_call 16; refine (flows_any hN hlen (fun x hx => (okP_true.1 (HOK.out x hx)).2.2.1.2) hs0 ht m fc fa a cap _ hmx ((HL.out.later HG.out.net.below).mono HG.out.net.below.size) ((HI.out.later HG.out.net.below).mono HG.out.net.below.size)).mono ?_; rw [HV.out]; rintro e w3 ⟨rfl, hb3⟩; have HX := Lib.hid (HG.out.later hb3); clear hb3 x0 x1 r0 r2; have x0 := HX.out.net.c0; have x1 := HX.out.net.c1; have r0 := HX.out.res.c0; have r2 := HX.out.res.c2))
    go_ret
    exact ⟨by rw [HR.out]; rfl, HX.out.net.below⟩
end Go.Proofs.Ytbenmebmfihleaa
end
section
/- What the calls of package least are to answer: for the laws' walks, whatever their text is. -/
namespace Go.Proofs.Ytbenmebmfihleaa
open Go.RowKit

/-- May so much be wanted, at such costs? -/
def RangeL (l : List Pi) (want : Int) : Prop := (0 ≤ want ∧ want ≤ 10000) ∧ ∀ x ∈ l, 0 ≤ x.2.2.2 ∧ x.2.2.2 ≤ 4294967296
/-- The error ahead of any flow; 0 if there is none. -/
noncomputable def leastErr (n : Int) (l : List Pi) (s t want : Int) : Int := open Classical in if endsP n l s t = 0 then (if RangeL l want then 0 else 2) else endsP n l s t
/-- What Right answers. -/
noncomputable def rightLV (n : Int) (l : List Pi) (xs hs : List Int) (s t want c : Int) : Bool := open Classical in
  decide (endsP n l s t = 0 ∧ RangeL l want ∧ RightIs l n.toNat xs hs s.toNat t.toNat want c)
/-- Not so much goes through a cut. -/
def Short (l : List Pi) (s t : Nat) (want : Int) : Prop := ∃ S : Nat → Bool, S s = true ∧ S t = false ∧ capOut l S l.length < want
/-- What the laws' calls of packages flow and least are to answer. -/
structure LeastSpec : Prop where
  most_ok : ∀ (N s t len cap : Nat) (l : List Pi) (a : Option Addr) (w : World), endsP (N : Int) l (s : Int) (t : Int) = 0 → IsPipes w.heap.size w a len l →
    Calls Try.prog 11 #[.agg #[.int .i64 (N : Int), .slice a len cap], .int .i64 (s : Int), .int .i64 (t : Int)] w fun e w' => Below w.heap.size w w' ∧
      ∃ v fl much, e = .returned (.tuple #[v, .int .i64 much, .int .i64 0]) ∧ LongRow w' w.heap.size v len fl ∧ IsMost l N fl s t much
  ends_any : ∀ (n s t : Int) (len cap : Nat) (l : List Pi) (a : Option Addr) (w : World), IsPipes w.heap.size w a len l →
    Calls Try.prog 17 #[.agg #[.int .i64 n, .slice a len cap], .int .i64 s, .int .i64 t] w fun e w' => e = .returned (.int .i64 (endsP n l s t)) ∧ Below w.heap.size w w'
  least_bad : ∀ (n s t want : Int) (len cap : Nat) (l : List Pi) (a : Option Addr) (w : World), leastErr n l s t want ≠ 0 → IsPipes w.heap.size w a len l →
    Calls Try.prog 12 #[.agg #[.int .i64 n, .slice a len cap], .int .i64 s, .int .i64 t, .int .i64 want] w fun e w' => Below w.heap.size w w' ∧
      ∃ a1 c1 a2 c2, e = .returned (.tuple #[.agg #[.slice a1 0 c1, .int .i64 0, .slice a2 0 c2], .int .i64 (leastErr n l s t want)])
  least_any : ∀ (N s t len cap : Nat) (want : Int) (l : List Pi) (a : Option Addr) (w : World), endsP (N : Int) l (s : Int) (t : Int) = 0 → RangeL l want → IsPipes w.heap.size w a len l →
    Calls Try.prog 12 #[.agg #[.int .i64 (N : Int), .slice a len cap], .int .i64 (s : Int), .int .i64 (t : Int), .int .i64 want] w fun e w' => Below w.heap.size w w' ∧
      ((∃ a1 c1 a2 c2, e = .returned (.tuple #[.agg #[.slice a1 0 c1, .int .i64 0, .slice a2 0 c2], .int .i64 8]) ∧ Short l s t want) ∨
       ∃ v u f h c, e = .returned (.tuple #[.agg #[v, .int .i64 c, u], .int .i64 0]) ∧ LongRow w' w.heap.size v len f ∧ LongRow w' w.heap.size u N h ∧ IsLeast l N f h s t want c ∧ h s = 0 ∧ ∀ i, i < N → h i ≤ h t)
  right_any : ∀ (n s t want c : Int) (len cap : Nat) (l : List Pi) (a : Option Addr) (m fc : Nat) (xs : List Int) (fa : Option Addr) (hm hc : Nat) (hs : List Int) (ha : Option Addr) (w : World),
    m ≤ 9223372036854775807 → len ≤ 9223372036854775807 → hm ≤ 9223372036854775807 → IsPipes w.heap.size w a len l → IsNums w.heap.size w fa m xs → IsNums w.heap.size w ha hm hs →
    Calls Try.prog 14 #[.agg #[.int .i64 n, .slice a len cap], .int .i64 s, .int .i64 t, .int .i64 want, .agg #[.slice fa m fc, .int .i64 c, .slice ha hm hc]] w fun e w' => Below w.heap.size w w' ∧
      e = .returned (.bool (rightLV n l xs hs s t want c))
variable {l : List Pi} {N s t k : Nat} {f h : Nat → Int} {xs hs : List Int} {want c : Int}
theorem LeastSpec.least_none (P : LeastSpec) (N s t len cap : Nat) (want much : Int) (fl : Nat → Int) (l : List Pi) (a : Option Addr) (w : World) (he : endsP (N : Int) l (s : Int) (t : Int) = 0) (hr : RangeL l want) (hm : IsMost l N fl s t much) (hlt : much < want) (hl : IsPipes w.heap.size w a len l) :
    Calls Try.prog 12 #[.agg #[.int .i64 (N : Int), .slice a len cap], .int .i64 (s : Int), .int .i64 (t : Int), .int .i64 want] w fun e w' => Below w.heap.size w w' ∧
      ∃ a1 c1 a2 c2, e = .returned (.tuple #[.agg #[.slice a1 0 c1, .int .i64 0, .slice a2 0 c2], .int .i64 8]) := by
  obtain ⟨hc, h1, h2, h3⟩ := endsP_zero.1 he
  refine (P.least_any N s t len cap want l a w he hr hl).mono ?_
  rintro e w' ⟨hb, ⟨a1, c1, a2, c2, rfl, _⟩ | ⟨v, u, f, h, c, rfl, _, _, hle, _, _⟩⟩
  · exact ⟨hb, a1, c1, a2, c2, rfl⟩
  · have := hle.le_most hm (checkP_zero.1 hc).2 (by omega) (by omega) (by omega)
    omega
theorem LeastSpec.least_ok (P : LeastSpec) (N s t len cap : Nat) (want much : Int) (fl : Nat → Int) (l : List Pi) (a : Option Addr) (w : World) (he : endsP (N : Int) l (s : Int) (t : Int) = 0) (hr : RangeL l want) (hm : IsMost l N fl s t much) (hle : want ≤ much) (hl : IsPipes w.heap.size w a len l) :
    Calls Try.prog 12 #[.agg #[.int .i64 (N : Int), .slice a len cap], .int .i64 (s : Int), .int .i64 (t : Int), .int .i64 want] w fun e w' => Below w.heap.size w w' ∧
      ∃ v u f h c, e = .returned (.tuple #[.agg #[v, .int .i64 c, u], .int .i64 0]) ∧ LongRow w' w.heap.size v len f ∧ LongRow w' w.heap.size u N h ∧ IsLeast l N f h s t want c ∧ h s = 0 ∧ ∀ i, i < N → h i ≤ h t := by
  obtain ⟨hc, h1, h2, h3⟩ := endsP_zero.1 he
  refine (P.least_any N s t len cap want l a w he hr hl).mono ?_
  rintro e w' ⟨hb, ⟨a1, c1, a2, c2, rfl, S, s1, s2, hlt⟩ | h⟩
  · have := hm.flow.weak (checkP_zero.1 hc).2 (by omega) (by omega) (by omega) s1 s2
    have := hm.much
    omega
  · exact ⟨hb, h⟩
theorem IsLeast.congr {f2 h2 : Nat → Int} (hl : IsLeast l N f h s t want c) (hok : ∀ x ∈ l, okP (N : Int) x = true) (e1 : ∀ k, k < l.length → f k = f2 k) (e2 : ∀ i, i < N → h i = h2 i) : IsLeast l N f2 h2 s t want c where
  flow := hl.flow.congr e1
  much := by rw [hl.much]; exact sumP_fl e1 _
  limbs := fun k x hx => by
    have hk := (List.getElem?_eq_some_iff.1 hx).1
    have ho := okP_true.1 (hok x (List.mem_of_getElem? hx))
    have := hl.limbs k x hx
    rw [e1 k hk] at this
    have e : steep h x = steep h2 x := by unfold steep; rw [e2 _ (by omega), e2 _ (by omega)]
    rw [e] at this
    exact this
  fit := fun i hi => by rw [← e2 i hi]; exact hl.fit i hi
  cost := by rw [hl.cost]; exact sumP_congr (fun k x hx => by unfold dueP; rw [e1 k (List.getElem?_eq_some_iff.1 hx).1]) _
/-- What Least gave holds, as rows. -/
theorem IsLeast.rows (hl : IsLeast l N f h s t want c) (hok : ∀ x ∈ l, okP (N : Int) x = true) : RightIs l N ((List.range l.length).map f) ((List.range N).map h) s t want c :=
  ⟨by simp, by simp, hl.congr hok (fun k hk => (flOf_rowF rfl k hk).symm) (fun i hi => (flOf_rowF rfl i hi).symm)⟩
/-- No sum of the law's own test grows too great, if what flows and what it costs is small. -/
theorem safe_small (hr : ∀ x ∈ l, x.2.2.1 ≤ 255) (hc : ∀ x ∈ l, 0 ≤ x.2.2.2 ∧ x.2.2.2 ≤ 255) : Safe l xs := fun k x hx h1 h2 => by
  have a := hr x (List.mem_of_getElem? hx)
  have b := hc x (List.mem_of_getElem? hx)
  have e1 := Int.mul_nonneg h1 b.1
  have e2 : flOf xs k * x.2.2.2 ≤ 255 * 255 := Int.le_trans (Int.mul_le_mul_of_nonneg_right (show flOf xs k ≤ 255 by omega) b.1) (Int.mul_le_mul_of_nonneg_left b.2 (by omega))
  omega
/-- Nor if it is as cheap as can be. -/
theorem IsLeast.safe (hl : RightIs l N xs hs s t want c) (hok : ∀ x ∈ l, okP (N : Int) x = true) (hs0 : s < N) (ht : t < N) (hst : s ≠ t) (hr : RangeL l want) : Safe l xs := fun k x hx h1 h2 => by
  have b := hr.2 x (List.mem_of_getElem? hx)
  have e1 := Int.mul_nonneg h1 b.1
  refine ⟨e1, ?_⟩
  by_cases h0 : 0 < x.2.2.2
  · have a := hl.2.2.thin hok hs0 ht hst (fun y hy => (hr.2 y hy).1) hx h0
    have c1 := hr.1.2
    have e2 : flOf xs k * x.2.2.2 ≤ 10000 * 4294967296 := Int.le_trans (Int.mul_le_mul_of_nonneg_right (show flOf xs k ≤ 10000 by omega) b.1) (Int.mul_le_mul_of_nonneg_left b.2 (by omega))
    omega
  · have : x.2.2.2 = 0 := by omega
    rw [this, Int.mul_zero]
    omega
end Go.Proofs.Ytbenmebmfihleaa
end

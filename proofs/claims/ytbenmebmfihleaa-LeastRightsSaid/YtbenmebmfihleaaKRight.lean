/- Package least: Right. -/
import Derived.Test.YtbenmebmfihleaaKCheck
import Derived.Test.YtbenmebmfihleaaMLane
import Derived.Test.YtbenmebmfihleaaFRight
import Derived.BigQuiet
import Derived.Deep.RegionWith
namespace Go.Proofs.Ytbenmebmfihleaa
open Go.RowKit

variable {w wr w2 : World} {a fa ha : Option Addr} {len cap N m fc hm hc r : Nat} {l : List Pi} {n s t want c : Int} {xs hs : List Int}
/-- The call's own blocks: the net's copy, the result's. -/
structure Rb (w wr : World) (n : Int) (a : Option Addr) (len cap : Nat) (c : Int) (fa : Option Addr) (m fc : Nat) (ha : Option Addr) (hm hc : Nat) : Prop where
  box : NBox w wr w.heap.size n a len cap
  res : wr.heap[w.heap.size + 1]? = some (.cells #[.slice fa m fc, .int .i64 c, .slice ha hm hc] 36 (0, 0))
theorem Rb.later (h : Rb w wr n a len cap c fa m fc ha hm hc) (hb : Below wr.heap.size wr w2) : Rb w w2 n a len cap c fa m fc ha hm hc := ⟨h.box.later hb, (hb.block _ (Array.getElem?_eq_some_iff.1 h.res).1).trans h.res⟩
theorem Rb.cells (h : Rb w wr n a len cap c fa m fc ha hm hc) : wr.cell? ⟨w.heap.size, 0, none⟩ = some (.int .i64 n) ∧ wr.cell? ⟨w.heap.size, 1, none⟩ = some (.slice a len cap) ∧ wr.cell? ⟨w.heap.size + 1, 0, none⟩ = some (.slice fa m fc) ∧ wr.cell? ⟨w.heap.size + 1, 1, none⟩ = some (.int .i64 c) ∧ wr.cell? ⟨w.heap.size + 1, 2, none⟩ = some (.slice ha hm hc) :=
  ⟨h.box.c0, h.box.c1, by simp [World.cell?, h.res], by simp [World.cell?, h.res], by simp [World.cell?, h.res]⟩
theorem Rb.nums {b : Option Addr} {k : Nat} {ys : List Int} (h : Rb w wr n a len cap c fa m fc ha hm hc) (hx : IsNums w.heap.size w b k ys) : IsNums wr.heap.size wr b k ys := (hx.later h.box.below).mono h.box.below.size
/-- What Right is to tell. -/
def RightP (n : Int) (l : List Pi) (xs hs : List Int) (s t want c : Int) : Prop := endsP n l s t = 0 ∧ RangeL l want ∧ RightIs l n.toNat xs hs s.toNat t.toNat want c
theorem rightLV_true : rightLV n l xs hs s t want c = true ↔ RightP n l xs hs s t want c := by simp [rightLV, RightP]
theorem rightLV_eq {b : Bool} (h : b = true ↔ RightP n l xs hs s t want c) : rightLV n l xs hs s t want c = b := Bool.eq_iff_iff.2 (rightLV_true.trans h.symm)
theorem tells_true {P : Prop} {e : Ending} (h : Tells P e) (hp : P) : e = .returned (.bool true) := by
  obtain ⟨b, rfl, h1⟩ := h
  rw [h1.2 hp]
theorem tells_false {P : Prop} {e : Ending} (h : Tells P e) (hp : ¬ P) : e = .returned (.bool false) := by
  obtain ⟨b, rfl, h1⟩ := h
  cases b with
  | true => exact absurd (h1.1 rfl) hp
  | false => rfl
theorem nums_cells {B k : Nat} {b : Option Addr} {ys : List Int} (h : IsNums B wr b k ys) : CellsF wr b k (flOf ys) := fun j hj => by
  rcases h.2 with h0 | ⟨g, o, e, _, h1⟩
  · omega
  · have hjl : j < ys.length := by rw [h.1]; exact hj
    exact ⟨g, o, e, h1 j (flOf ys j) (by simp [flOf, List.getD, hjl])⟩
def Twixt (n : Int) (l : List Pi) (xs hs : List Int) (s t want c : Int) (w : World) (e : Ending) (w' : World) : Prop := Tells (RightP n l xs hs s t want c) e ∧ Below w.heap.size w w'
/-- May it not lie so high? -/
def highB (z : Int) : Bool := decide (z < -1125899906842624) || decide (1125899906842624 < z)
theorem highB_false {z : Int} : highB z = false ↔ -1125899906842624 ≤ z ∧ z ≤ 1125899906842624 := by simp [highB]
theorem high_any (z : Int) (W : World) : Calls Try.prog 30 #[.int .i64 z] W fun e w' => e = .returned (.bool (highB z)) ∧ W = w' := by
  by_cases h1 : z < -1125899906842624
  · have HE : Hid (highB z = true) := Lib.hid (by simp [highB, h1])
    go_enter Try.func30, Try.ntmps30
    go_wp2_with fail
    go_ret
    exact ⟨by rw [HE.out]; rfl, rfl⟩
  · have h1b : decide (z < -1125899906842624) = false := by simp; omega
    by_cases h2 : 1125899906842624 < z
    · have HE : Hid (highB z = true) := Lib.hid (by simp [highB, h2])
      go_enter Try.func30, Try.ntmps30
      go_wp2_with fail
      go_ret
      exact ⟨by rw [HE.out]; rfl, rfl⟩
    · have HE : Hid (highB z = false) := Lib.hid (highB_false.2 (by omega))
      have h2b : decide (1125899906842624 < z) = false := by simp; omega
      go_enter Try.func30, Try.ntmps30
      go_wp2_with fail
      go_ret
      exact ⟨by rw [HE.out]; rfl, rfl⟩
theorem rb_make (w : World) (n : Int) (a : Option Addr) (len cap : Nat) (c : Int) (fa : Option Addr) (m fc : Nat) (ha : Option Addr) (hm hc : Nat) : Rb w ((w.alloc (.cells #[.int .i64 n, .slice a len cap] 27)).alloc (.cells #[.slice fa m fc, .int .i64 c, .slice ha hm hc] 36)) n a len cap c fa m fc ha hm hc := by
  have hsz : (w.alloc (.cells #[.int .i64 n, .slice a len cap] 27)).heap.size = w.heap.size + 1 := by simp
  exact ⟨(NBox.make (Below.refl _ w) n a len cap).alloc _, by rw [← hsz]; exact heap_alloc_new _ _⟩
set_option maxHeartbeats 2000000 in
theorem rightK_bad (n s t want c : Int) (len cap : Nat) (l : List Pi) (a : Option Addr) (m fc : Nat) (xs : List Int) (fa : Option Addr) (hm hc : Nat) (hs : List Int) (ha : Option Addr) (w : World) (he : leastErr n l s t want ≠ 0) (hl : IsPipes w.heap.size w a len l) :
    Calls Try.prog 14 #[.agg #[.int .i64 n, .slice a len cap], .int .i64 s, .int .i64 t, .int .i64 want, .agg #[.slice fa m fc, .int .i64 c, .slice ha hm hc]] w (Twixt n l xs hs s t want c w) := by
  have HR := Lib.hid (rb_make w n a len cap c fa m fc ha hm hc)
  have HCA := Lib.hid (checkK_any n s t want len cap l a _ (HR.out.box.pipesHere hl))
  have heb : (leastErr n l s t want != 0) = true := by simpa using he
  have HNO : Hid (¬ RightP n l xs hs s t want c) := Lib.hid (fun h => he (kErr_zero.2 ⟨h.1, h.2.1⟩))
  generalize leastErr n l s t want = v at *
  clear hl he
  go_enter Try.func14, Try.ntmps14
  go_wp2_with (go_at_call 22; refine HCA.out.mono ?_; rintro e w2 ⟨rfl, hb2⟩; have HR2 := Lib.hid (HR.out.later hb2); clear hb2)
  go_ret
  exact ⟨tells_no HNO.out, HR2.out.box.below⟩
/-- The right to be of one who knows: all is in bounds. -/
structure RiE (n : Int) (l : List Pi) (s t want : Int) (len : Nat) (N s0 t0 : Nat) : Prop where
  en : n = (N : Int)
  es : s = (s0 : Int)
  et : t = (t0 : Int)
  ends : endsP n l s t = 0
  range : RangeL l want
  nm : N ≤ 1000
  lm : len ≤ 20000
  ok : ∀ x ∈ l, okP (N : Int) x = true
  sN : s0 < N
  tN : t0 < N
  st : s0 ≠ t0
theorem riE_of (he : leastErr n l s t want = 0) (hl : l.length = len) : ∃ N s0 t0, RiE n l s t want len N s0 t0 := by
  obtain ⟨h1, h2⟩ := kErr_zero.1 he
  obtain ⟨hck, hs, ht, hst⟩ := endsP_zero.1 h1
  obtain ⟨hns, hok⟩ := checkP_zero.1 hck
  have e1 : n = (n.toNat : Int) := by omega
  exact ⟨n.toNat, s.toNat, t.toNat, e1, by omega, by omega, h1, h2, by omega, by omega, by rw [← e1]; exact hok, by omega, by omega, by omega⟩
theorem nums_below {B k : Nat} {b : Option Addr} {ys : List Int} (h : IsNums B wr b k ys) : ∀ j, j < k → ∃ g o, b = some ⟨g, o, none⟩ ∧ g < B ∧ wr.cell? ⟨g, o + j, none⟩ = some (.int .i64 (flOf ys j)) := fun j hj => by
  rcases h.2 with h0 | ⟨g, o, e, hg, h1⟩
  · omega
  · have hjl : j < ys.length := by rw [h.1]; exact hj
    exact ⟨g, o, e, hg, h1 j (flOf ys j) (by simp [flOf, List.getD, hjl])⟩
/-- The work that Right makes. -/
theorem vw_made {W3 W4 : World} {u6 u7 u8 u9 : Value} {T : TypeId} (e : W4 = W3.alloc (.cells #[.int .i64 (N : Int), .slice a len cap, .slice fa len fc, .int .i64 c, .slice ha N hc, .int .i64 0, u6, u7, u8, u9] T)) (hl : IsPipes W3.heap.size W3 a len l) (hx : IsNums W3.heap.size W3 fa len xs) (hh : IsNums W3.heap.size W3 ha N hs) :
    Vw W4 (W3.heap.size + 1) W3.heap.size N len l (flOf xs) (flOf hs) 0 := by
  have hb : Below W3.heap.size W3 W4 := by rw [e]; exact (Below.refl _ _).alloc (Nat.le_refl _) _
  have hn : W4.heap[W3.heap.size]? = some (.cells #[.int .i64 (N : Int), .slice a len cap, .slice fa len fc, .int .i64 c, .slice ha N hc, .int .i64 0, u6, u7, u8, u9] T (0, 0)) := by rw [e]; exact heap_alloc_new _ _
  refine ⟨⟨a, cap, by simp [World.cell?, hn], (hl.laterC hb).mono (by omega)⟩, ⟨fa, fc, by simp [World.cell?, hn], fun k hk => ?_⟩, ⟨ha, hc, by simp [World.cell?, hn], fun k hk => ?_⟩, by simp [World.cell?, hn], by omega, (Array.getElem?_eq_some_iff.1 hn).1⟩
  · obtain ⟨g, o, e1, h1, h2⟩ := nums_below hx k hk
    exact ⟨g, o, e1, by omega, (hb.cell (p := ⟨g, o + k, none⟩) h1).trans h2⟩
  · obtain ⟨g, o, e1, h1, h2⟩ := nums_below hh k hk
    exact ⟨g, o, e1, by omega, (hb.cell (p := ⟨g, o + k, none⟩) h1).trans h2⟩
/-- Where the heights tell so, it is as cheap as can be. -/
theorem cheap_least {fl h : Nat → Int} {s0 t0 : Nat} (hC : Cheap l 0 fl h) (hf : IsFlow l N fl s0 t0) (hm : netTo l fl (t0 : Int) l.length = want) (hn : Near N h) : IsLeast l N fl h s0 t0 want (costP l fl l.length) :=
  ⟨hf, hm.symm, fun k x hx => by have := hC k x hx; rw [stp_zero] at this; exact this, hn, rfl⟩
theorem least_cheap {fl h : Nat → Int} {s0 t0 : Nat} (hL : IsLeast l N fl h s0 t0 want c) : Cheap l 0 fl h := fun k x hx => by rw [stp_zero]; exact hL.limbs k x hx
theorem least_dues {fl h : Nat → Int} {s0 t0 : Nat} (hL : IsLeast l N fl h s0 t0 want c) (hok : ∀ x ∈ l, okP (N : Int) x = true) (hs : s0 < N) (ht : t0 < N) (hst : s0 ≠ t0) (hr : RangeL l want) : Dues l fl := fun k x hx => by
  have b := hr.2 x (List.mem_of_getElem? hx)
  have h1 := (hL.flow.cap k x hx).1
  have e1 := Int.mul_nonneg h1 b.1
  refine ⟨e1, ?_⟩
  by_cases h0 : 0 < x.2.2.2
  · have a := hL.thin hok hs ht hst (fun y hy => (hr.2 y hy).1) hx h0
    have c1 := hr.1.2
    have e2 : fl k * x.2.2.2 ≤ 10000 * 4294967296 := Int.le_trans (Int.mul_le_mul_of_nonneg_right (show fl k ≤ 10000 by omega) b.1) (Int.mul_le_mul_of_nonneg_left b.2 (by omega))
    omega
  · have : x.2.2.2 = 0 := by omega
    rw [this, Int.mul_zero]
    omega
set_option maxHeartbeats 4000000 in
set_option maxRecDepth 100000 in
theorem rightK_ok (N s t : Nat) (want c : Int) (len cap : Nat) (l : List Pi) (a : Option Addr) (m fc : Nat) (xs : List Int) (fa : Option Addr) (hm hc : Nat) (hs : List Int) (ha : Option Addr) (w : World) (hR : RiE (N : Int) l (s : Int) (t : Int) want len N s t) (hmm : m ≤ 9223372036854775807) (hhm : hm ≤ 9223372036854775807)
    (hl : IsPipes w.heap.size w a len l) (hx : IsNums w.heap.size w fa m xs) (hh : IsNums w.heap.size w ha hm hs) :
    Calls Try.prog 14 #[.agg #[.int .i64 (N : Int), .slice a len cap], .int .i64 (s : Int), .int .i64 (t : Int), .int .i64 want, .agg #[.slice fa m fc, .int .i64 c, .slice ha hm hc]] w (Twixt (N : Int) l xs hs (s : Int) (t : Int) want c w) := by
  have HR := Lib.hid (rb_make w (N : Int) a len cap c fa m fc ha hm hc)
  have HCA := Lib.hid (checkK_any (N : Int) (s : Int) (t : Int) want len cap l a _ (HR.out.box.pipesHere hl))
  rw [kErr_ok hR.ends hR.range] at HCA
  have HL := Lib.hid hl
  have HX := Lib.hid hx
  have HH := Lib.hid hh
  have HE := Lib.hid hR
  have hlen := hR.lm
  clear hl hx hh hR
  go_enter Try.func14, Try.ntmps14
  go_wp2_with fail
  go_at_call 22
  refine HCA.out.mono ?_
  rintro e w2 ⟨rfl, hb2⟩
  have HR2 := Lib.hid (HR.out.later hb2)
  obtain ⟨x0, x1, x2, x3, x4⟩ := HR2.out.cells
  clear hb2 HR HCA
  by_cases hNm : hm = N
  · obtain rfl : N = hm := hNm.symm
    have HRT := Lib.hid (fright_any (N : Int) (s : Int) (t : Int) len cap l a m fc xs fa w2 hmm (by omega) (HR2.out.box.pipesHere HL.out) (HR2.out.nums HX.out))
    by_cases hF : endsP (N : Int) l (s : Int) (t : Int) = 0 ∧ xs.length = l.length ∧ IsFlow l (N : Int).toNat (flOf xs) (s : Int).toNat (t : Int).toNat
    · rw [rightV_yes hF] at HRT
      have HFL : Hid (xs.length = l.length ∧ IsFlow l N (flOf xs) s t) := Lib.hid ⟨hF.2.1, by simpa using hF.2.2⟩
      obtain ⟨net, hnet⟩ : ∃ z, netTo l (flOf xs) (t : Int) l.length = z := ⟨_, rfl⟩
      have HNET := Lib.hid hnet
      rw [hnet] at HRT
      clear hF hnet
      by_cases hw : net = want
      · subst hw
        go_wp2_with fail
        go_at_call 28
        refine HRT.out.mono ?_
        rintro e w3 ⟨hb3, rfl⟩
        have HR3 := Lib.hid (HR2.out.later hb3)
        clear x0 x1 x2 x3 x4 HR2 hb3 HRT
        obtain ⟨x0, x1, x2, x3, x4⟩ := HR3.out.cells
        go_wp2_with fail
        go_at_call 29
        refine (contains64_any (f := flOf hs) (pred := highB) 30 (fun _ _ => by kernel_rfl) high_any hhm (nums_cells (HR3.out.nums HH.out))).mono ?_
        rintro e w4 ⟨hT, rfl⟩
        by_cases hA : ∃ k, k < N ∧ highB (flOf hs k) = true
        · have HNO : Hid (¬ RightP (N : Int) l xs hs (s : Int) (t : Int) net c) := Lib.hid (fun h => by
            obtain ⟨k, hk, hp⟩ := hA
            have h1 := h.2.2.2.2.fit k (by simpa using hk)
            have h2 := highB_false.2 h1
            rw [hp] at h2
            cases h2)
          have ht := tells_true hT hA
          subst ht
          clear hT hA
          go_wp2_with fail
          go_ret
          exact ⟨tells_no HNO.out, HR3.out.box.below⟩
        · have HNE : Hid (Near N (flOf hs)) := Lib.hid (fun i hi => highB_false.1 (Bool.eq_false_iff.2 (fun h => hA ⟨i, hi, h⟩)))
          have ht := tells_false hT hA
          subst ht
          clear hT hA
          go_wp2_with fail
          obtain rfl : len = m := by have h1 := HFL.out.1; have h2 := HX.out.1; have h3 := HL.out.1; omega
          have HV : Hid (Vw (w3.alloc (.cells #[.int .i64 (N : Int), .slice a len cap, .slice fa len fc, .int .i64 c, .slice ha N hc, .int .i64 0, .slice none 0 0, .slice none 0 0, .slice none 0 0, .slice none 0 0] 70)) (w3.heap.size + 1) w3.heap.size N len l (flOf xs) (flOf hs) 0) := Lib.hid (vw_made rfl (HR3.out.box.pipesHere HL.out) (HR3.out.nums HX.out) (HR3.out.nums HH.out))
          have HR4 : Hid (Rb w (w3.alloc (.cells #[.int .i64 (N : Int), .slice a len cap, .slice fa len fc, .int .i64 c, .slice ha N hc, .int .i64 0, .slice none 0 0, .slice none 0 0, .slice none 0 0, .slice none 0 0] 70)) (N : Int) a len cap c fa len fc ha N hc) := Lib.hid (HR3.out.later ((Below.refl _ _).alloc (Nat.le_refl _) _))
          clear x0 x1 x2 x3 x4 HR3
          obtain ⟨w4, hw4⟩ : ∃ w4, w3.alloc (.cells #[.int .i64 (N : Int), .slice a len cap, .slice fa len fc, .int .i64 c, .slice ha N hc, .int .i64 0, .slice none 0 0, .slice none 0 0, .slice none 0 0, .slice none 0 0] 70) = w4 := ⟨_, rfl⟩
          rw [hw4] at HV HR4 ⊢
          clear hw4
          obtain ⟨g, hg⟩ : ∃ g, w3.heap.size = g := ⟨_, rfl⟩
          rw [hg] at HV ⊢
          clear hg
          have hcap : Hid (∀ k, k < len → 0 ≤ flOf xs k ∧ flOf xs k ≤ 1099511627776) := Lib.hid (fun k hk => by
            have h1 := HL.out.1
            obtain ⟨x, hx⟩ : ∃ x, l[k]? = some x := ⟨l[k], by simp⟩
            have h2 := HFL.out.2.cap k x hx
            have h3 := (okP_true.1 (HE.out.ok x (List.mem_of_getElem? hx))).2.2.1.2
            omega)
          have hll : l.length ≤ 20000 := by have := HL.out.1; omega
          by_cases hC : Cheap l 0 (flOf xs) (flOf hs)
          · have HLE := Lib.hid (cheap_least hC HFL.out.2 HNET.out HNE.out)
            have HDU := Lib.hid (least_dues HLE.out HE.out.ok HE.out.sN HE.out.tN HE.out.st HE.out.range)
            have HC := Lib.hid hC
            obtain ⟨z, hz⟩ : ∃ z, costP l (flOf xs) len = z := ⟨_, rfl⟩
            have HZ := Lib.hid hz
            have HSM := Lib.hid (fun (W : World) (h : Vw W (g + 1) g N len l (flOf xs) (flOf hs) 0) => sumK_any h HDU.out hll hcap.out HE.out.range.2)
            have HCH := Lib.hid (fun (W : World) (h : Vw W (g + 1) g N len l (flOf xs) (flOf hs) 0) => cheapestK_any h HE.out.ok hcap.out HE.out.range.2 HNE.out (by omega) hll)
            rw [hz] at HSM
            clear hC hz
            have HVd := Lib.hid (HV.out.later (Below.refl _ _).drew)
            have HRd := Lib.hid (HR4.out.later (Below.refl _ _).drew)
            have r1 := HRd.out.cells.2.2.2.1
            have HP : Hid (RightP (N : Int) l xs hs (s : Int) (t : Int) net c ↔ z = c) := Lib.hid (by
              have h1 : len = l.length := HL.out.1.symm
              constructor
              · intro h
                have h2 := h.2.2.2.2.cost
                rw [h2, ← HZ.out, h1]
              · rintro rfl
                refine ⟨HE.out.ends, HE.out.range, HFL.out.1, HH.out.1, ?_⟩
                have h2 := HLE.out
                rw [← h1, HZ.out] at h2
                exact h2)
            by_cases hzc : z = c
            · have hzb : (z == c) = true := by simpa using hzc
              have HYES := Lib.hid (HP.out.2 hzc)
              clear hzc HP
              go_region_held3 (fun W => W.cell? ⟨w.heap.size + 1, 1, none⟩ = some (.int .i64 c))
                (first | assumption | exact HR5.out.cells.2.2.2.1 | exact HR6.out.cells.2.2.2.1)
                (first
                  | (go_at_call 31; refine (HCH.out _ HVd.out).mono ?_; rintro e w5 ⟨hT, hb5⟩; obtain rfl := tells_true hT HC.out; have HV5 := Lib.hid (HVd.out.later (hb5.mono HVd.out.size)); have HR5 := Lib.hid (HRd.out.later hb5); clear hT hb5)
                  | (go_at_call 27; refine (HSM.out _ HV5.out).mono ?_; rintro e w6 ⟨rfl, hb6⟩; have HR6 := Lib.hid (HR5.out.later hb6); clear hb6))
              all_goals (go_wp2_with fail; go_ret; exact ⟨tells_yes HYES.out, by first | exact HR6.out.box.below | exact HR6.out.box.below.drew⟩)
            · have hzb : (z == c) = false := by simpa using hzc
              have HNO : Hid (¬ RightP (N : Int) l xs hs (s : Int) (t : Int) net c) := Lib.hid (fun h => hzc (HP.out.1 h))
              clear hzc HP
              go_region_held3 (fun W => W.cell? ⟨w.heap.size + 1, 1, none⟩ = some (.int .i64 c))
                (first | assumption | exact HR5.out.cells.2.2.2.1 | exact HR6.out.cells.2.2.2.1)
                (first
                  | (go_at_call 31; refine (HCH.out _ HVd.out).mono ?_; rintro e w5 ⟨hT, hb5⟩; obtain rfl := tells_true hT HC.out; have HV5 := Lib.hid (HVd.out.later (hb5.mono HVd.out.size)); have HR5 := Lib.hid (HRd.out.later hb5); clear hT hb5)
                  | (go_at_call 27; refine (HSM.out _ HV5.out).mono ?_; rintro e w6 ⟨rfl, hb6⟩; have HR6 := Lib.hid (HR5.out.later hb6); clear hb6))
              all_goals (go_wp2_with fail; go_ret; exact ⟨tells_no HNO.out, by first | exact HR6.out.box.below | exact HR6.out.box.below.drew⟩)
          · have HNC := Lib.hid hC
            have HNO : Hid (¬ RightP (N : Int) l xs hs (s : Int) (t : Int) net c) := Lib.hid (fun h => hC (least_cheap h.2.2.2.2))
            have HCH := Lib.hid (fun (W : World) (h : Vw W (g + 1) g N len l (flOf xs) (flOf hs) 0) => cheapestK_any h HE.out.ok hcap.out HE.out.range.2 HNE.out (by omega) hll)
            have HVd := Lib.hid (HV.out.later (Below.refl _ _).drew)
            have HRd := Lib.hid (HR4.out.later (Below.refl _ _).drew)
            have r1 := HRd.out.cells.2.2.2.1
            clear hC
            refine wp_region_held_drew (S := fun _ => True) (by kernel_rfl) trivial (fun hHeld => ?_)
            refine wpAnyH_ready (rs := [0]) (by kernel_rfl) (by simp) ?_
            refine AllReadyH.cons rfl (fun K hK => ?_) AllReadyH.nil
            go_simp
            refine (HCH.out _ HVd.out).mono ?_
            rintro e w5 ⟨hT, hb5⟩
            obtain rfl := tells_false hT HNC.out
            have HR5 := Lib.hid (HRd.out.later hb5)
            clear hT hb5
            refine hK.out _ _ ?_ (fun hHeld => ?_)
            · exact trivial
            clear hK K
            try simp only [Act.put, List.setIfInBounds_toArray, List.set_cons_zero, List.set_cons_succ, List.getElem_toArray, List.getElem_cons_zero, List.getElem_cons_succ]
            refine wpAnyH_take (i := 1) (v := ?_) rfl (by kernel_rfl) (by kernel_rfl) (by kernel_rfl) (fun _ _ _ h => h) (Or.inl ⟨by rfl, ?_⟩) hHeld ?_
            rotate_left
            · intro W0 _; go_simp; (try with_reducible rfl)
            try simp only [Act.put, List.setIfInBounds_toArray, List.set_cons_zero, List.set_cons_succ, List.getElem_toArray, List.getElem_cons_zero, List.getElem_cons_succ]
            refine wpAnyH_take (i := 2) (v := undef) rfl (by kernel_rfl) (by kernel_rfl) (by kernel_rfl) (fun _ _ _ h => h) (Or.inr ⟨by rfl, rfl⟩) hHeld ?_
            try simp only [Act.put, List.setIfInBounds_toArray, List.set_cons_zero, List.set_cons_succ, List.getElem_toArray, List.getElem_cons_zero, List.getElem_cons_succ]
            refine wpAnyH_take (i := 3) (v := undef) rfl (by kernel_rfl) (by kernel_rfl) (by kernel_rfl) (fun _ _ _ h => h) (Or.inr ⟨by rfl, rfl⟩) hHeld ?_
            try simp only [Act.put, List.setIfInBounds_toArray, List.set_cons_zero, List.set_cons_succ, List.getElem_toArray, List.getElem_cons_zero, List.getElem_cons_succ]
            refine wpAnyH_take (i := 4) (v := undef) rfl (by kernel_rfl) (by kernel_rfl) (by kernel_rfl) (fun _ _ _ h => h) (Or.inr ⟨by rfl, rfl⟩) hHeld ?_
            try simp only [Act.put, List.setIfInBounds_toArray, List.set_cons_zero, List.set_cons_succ, List.getElem_toArray, List.getElem_cons_zero, List.getElem_cons_succ]
            refine wpAnyH_take (i := 5) (v := undef) rfl (by kernel_rfl) (by kernel_rfl) (by kernel_rfl) (fun _ _ _ h => h) (Or.inr ⟨by rfl, rfl⟩) hHeld ?_
            try simp only [Act.put, List.setIfInBounds_toArray, List.set_cons_zero, List.set_cons_succ, List.getElem_toArray, List.getElem_cons_zero, List.getElem_cons_succ]
            refine wpAnyH_take (i := 6) (v := ?_) rfl (by kernel_rfl) (by kernel_rfl) (by kernel_rfl) (fun _ _ _ h => h) (Or.inl ⟨by rfl, ?_⟩) hHeld ?_
            rotate_left
            · intro W0 _; go_simp; (try with_reducible rfl)
            try simp only [Act.put, List.setIfInBounds_toArray, List.set_cons_zero, List.set_cons_succ, List.getElem_toArray, List.getElem_cons_zero, List.getElem_cons_succ]
            refine wpAnyH_take (i := 7) (v := ?_) rfl (by kernel_rfl) (by kernel_rfl) (by kernel_rfl) (fun _ _ _ h => h) (Or.inl ⟨by rfl, ?_⟩) hHeld ?_
            rotate_left
            · intro W0 _; go_simp; (try with_reducible rfl)
            try simp only [Act.put, List.setIfInBounds_toArray, List.set_cons_zero, List.set_cons_succ, List.getElem_toArray, List.getElem_cons_zero, List.getElem_cons_succ]
            refine wpAnyH_done (by kernel_rfl) ?_ _
            clear hHeld
            go_wp2_with fail
            go_ret
            exact ⟨tells_no HNO.out, HR5.out.box.below⟩
      · have hwc : (net != want) = true := by simpa using hw
        have HNO : Hid (¬ RightP (N : Int) l xs hs (s : Int) (t : Int) want c) := Lib.hid (fun h => hw (by have := h.2.2.2.2.much; simp at this; rw [this]; exact HNET.out.symm))
        go_wp2_with (go_at_call 28; refine HRT.out.mono ?_; rintro e w3 ⟨hb3, rfl⟩; have HR3 := Lib.hid (HR2.out.later hb3); clear hb3)
        go_ret
        exact ⟨tells_no HNO.out, HR3.out.box.below⟩
    · have HNO : Hid (¬ RightP (N : Int) l xs hs (s : Int) (t : Int) want c) := Lib.hid (fun h => hF ⟨h.1, h.2.2.1, h.2.2.2.2.flow⟩)
      rw [rightV_no hF] at HRT
      clear hF
      go_wp2_with (go_at_call 28; refine HRT.out.mono ?_; rintro e w3 ⟨hb3, rfl⟩; have HR3 := Lib.hid (HR2.out.later hb3); clear hb3)
      go_ret
      exact ⟨tells_no HNO.out, HR3.out.box.below⟩
  · have hnc : ((hm : Int) != (N : Int)) = true := by simp; omega
    have HNO : Hid (¬ RightP (N : Int) l xs hs (s : Int) (t : Int) want c) := Lib.hid (fun h => by have h1 := h.2.2.2.1; have h2 := HH.out.1; simp at h1; omega)
    go_wp2_with fail
    go_ret
    exact ⟨tells_no HNO.out, HR2.out.box.below⟩
end Go.Proofs.Ytbenmebmfihleaa

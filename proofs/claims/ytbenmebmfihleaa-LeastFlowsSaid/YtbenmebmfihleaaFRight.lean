/- Package flow: Right. -/
import Derived.Test.YtbenmebmfihleaaFCheck
import Derived.BigQuiet
import Derived.BigRegion
import Derived.RegionTactic
import Derived.Deep.QuietTactic
import Derived.OneCell
import Derived.Deep.OwnRows
import Derived.LoopTactic
namespace Go.Proofs.Ytbenmebmfihleaa
open Go.RowKit

variable {w wr w2 : World} {a b : Option Addr} {len cap B g ab sb N s t m c : Nat} {l : List Pi} {n : Int} {k : Nat} {x : Pi} {f f2 fl : Nat → Int} {xs : List Int} {z : Int}
theorem sumP_upto {g h : Nat → Pi → Int} : ∀ n, (∀ (j : Nat) (x : Pi), j < n → l[j]? = some x → g j x = h j x) → sumP l g n = sumP l h n
  | 0, _ => rfl
  | n + 1, e => by
    rw [sumP, sumP, sumP_upto n (fun j x hj hx => e j x (by omega) hx)]
    cases hx : l[n]? with
    | none => rfl
    | some x => simp only [e n x (by omega) hx]
theorem netTo_bound (hc : ∀ (j : Nat) (x : Pi), j < k → l[j]? = some x → 0 ≤ fl j ∧ fl j ≤ 1099511627776) (i : Int) : -((k : Int) * 1099511627776) ≤ netTo l fl i k ∧ netTo l fl i k ≤ (k : Int) * 1099511627776 := by
  have e : netTo l fl i k = netTo l (fun j => if j < k then fl j else 0) i k := sumP_upto k (fun j x hj _ => by simp [brings, hj])
  rw [e]
  refine sumP_bound (by omega) (fun j x hx => ?_) k
  by_cases h : j < k
  · have := hc j x h hx
    simp only [brings, h, if_true]
    split <;> split <;> omega
  · simp only [brings, h, if_false]
    split <;> split <;> omega
theorem netTo_step (hx : l[k]? = some x) (i : Int) : netTo l fl i (k + 1) = netTo l fl i k + ((if x.2.1 = i then fl k else 0) - (if x.1 = i then fl k else 0)) := sumP_step hx
theorem flOf_get (h : xs[k]? = some z) : flOf xs k = z := by simp [flOf, List.getD, h]
/-- The receiver's box, and the row of what stays. -/
structure RW (w wr : World) (g : Nat) (n : Int) (a : Option Addr) (len cap : Nat) (sb N : Nat) (f : Nat → Int) : Prop where
  box : NBox w wr g n a len cap
  st : wr.rowIs sb 2 N (fun i => .int .i64 (f i))
  ge : w.heap.size ≤ sb
  ne : g ≠ sb
theorem RW.later (h : RW w wr g n a len cap sb N f) (hb : Below wr.heap.size wr w2) : RW w w2 g n a len cap sb N f := ⟨h.box.later hb, rowIs_below h.st hb, h.ge, h.ne⟩
theorem RW.congr (h : RW w wr g n a len cap sb N f) (e : ∀ i, i < N → f i = f2 i) : RW w wr g n a len cap sb N f2 := ⟨h.box, h.st.congr (fun i hi => by rw [e i hi]), h.ge, h.ne⟩
theorem RW.set_ (h : RW w wr g n a len cap sb N f) (i : Nat) (z : Int) : RW w (wr.setCell ⟨sb, i, none⟩ (.int .i64 z)) g n a len cap sb N (fun j => if j = i then z else f j) :=
  ⟨⟨h.box.below.setCell h.ge _, h.box.ge, (heap_setCell_other _ _ _ _ h.ne).trans h.box.blk⟩, (h.st.set i _).congr (fun j _ => by split <;> rfl), h.ge, h.ne⟩
def PBox (w : World) (ab : Nat) (x : Pi) : Prop := w.heap[ab]? = some (.cells #[.int .i64 x.1, .int .i64 x.2.1, .int .i64 x.2.2.1, .int .i64 x.2.2.2] 47 (0, 0))
theorem PBox.cells (h : PBox w ab x) : w.cell? ⟨ab, 0, none⟩ = some (.int .i64 x.1) ∧ w.cell? ⟨ab, 1, none⟩ = some (.int .i64 x.2.1) ∧ w.cell? ⟨ab, 2, none⟩ = some (.int .i64 x.2.2.1) := by
  unfold PBox at h
  simp [World.cell?, h]
theorem rightV_no {n s t : Int} (h : ¬ (endsP n l s t = 0 ∧ xs.length = l.length ∧ IsFlow l n.toNat (flOf xs) s.toNat t.toNat)) : rightV n l xs s t = (0, false) := by
  unfold rightV
  rw [if_neg h]
theorem rightV_yes {n s t : Int} (h : endsP n l s t = 0 ∧ xs.length = l.length ∧ IsFlow l n.toNat (flOf xs) s.toNat t.toNat) : rightV n l xs s t = (netTo l (flOf xs) t l.length, true) := by
  unfold rightV
  rw [if_pos h]
theorem ret_no {P : Int × Bool} (h : P = (0, false)) : Ending.returned (.tuple #[.int .i64 0, .bool false]) = .returned (.tuple #[.int .i64 P.1, .bool P.2]) := by rw [h]
theorem ret_yes {P : Int × Bool} {v : Int} (h : P = (v, true)) : Ending.returned (.tuple #[.int .i64 v, .bool true]) = .returned (.tuple #[.int .i64 P.1, .bool P.2]) := by rw [h]
theorem infoLongR : (Try.prog.info? 2).map (fun i => (i.zero, i.size, i.bytes)) = some (some (.int .i64 0), 1, 8) := by kernel_rfl
set_option maxHeartbeats 4000000 in
set_option maxRecDepth 100000 in
theorem fright_ok (N s t len cap : Nat) (l : List Pi) (a : Option Addr) (c : Nat) (xs : List Int) (b : Option Addr) (w : World) (he : endsP (N : Int) l (s : Int) (t : Int) = 0) (hl : IsPipes w.heap.size w a len l) (hx : IsNums w.heap.size w b len xs) :
    Calls Try.prog 28 #[.agg #[.int .i64 (N : Int), .slice a len cap], .slice b len c, .int .i64 (s : Int), .int .i64 (t : Int)] w fun e w' => Below w.heap.size w w' ∧
      e = .returned (.tuple #[.int .i64 (rightV (N : Int) l xs (s : Int) (t : Int)).1, .bool (rightV (N : Int) l xs (s : Int) (t : Int)).2]) := by
  obtain ⟨hck, hs, ht, hst⟩ := endsP_zero.1 he
  obtain ⟨⟨_, hN, hll⟩, hok⟩ := checkP_zero.1 hck
  have hN2 : N ≤ 1000 := by omega
  have hlen : len ≤ 20000 := by have := hl.1; omega
  have hsN : s < N := by omega
  have htN : t < N := by omega
  have hmk := run_make_row' (P := Try.prog) 31 2 (.int .i64 0) 8 Try.underlying31 infoLongR rfl .i64 .i64 N (by omega) (by omega)
  have HLn : Hid (l.length = len) := Lib.hid hl.1
  have HXn : Hid (xs.length = len) := Lib.hid hx.1
  have HE := Lib.hid he
  have HOK := Lib.hid hok
  have HG := Lib.hid (NBox.make (Below.refl _ w) (N : Int) a len cap)
  have HEN := Lib.hid (fends_any (N : Int) (s : Int) (t : Int) len cap l a _ (HG.out.pipesHere hl))
  rw [he] at HEN
  have HL := Lib.hid hl
  have HX := Lib.hid hx
  clear hl hx he hok hck hll hN hs ht hst
  go_enter Try.func28, Try.ntmps28
  go_wp2_with (go_at_call 17; refine HEN.out.mono ?_; rintro e w2 ⟨rfl, hb2⟩; have HG2 := Lib.hid (HG.out.later hb2); have x0 := HG2.out.c0; have x1 := HG2.out.c1; have y1 := (HG2.out.alloc (.cells (madeCells #[.int .i64 0] N) 2)).c1; clear hb2)
  have HR0 : Hid (RW w (w2.alloc (.cells (madeCells #[.int .i64 0] N) 2)) w.heap.size (N : Int) a len cap w2.heap.size N (fun i => netTo l (flOf xs) (i : Int) 0)) := Lib.hid ⟨HG2.out.alloc _, World.rowIs_made _ _ _ _, HG2.out.below.size, by have := HG2.out.lt; omega⟩
  obtain ⟨sb, hsb⟩ : ∃ sb, w2.heap.size = sb := ⟨_, rfl⟩
  obtain ⟨g, hg⟩ : ∃ g, w.heap.size = g := ⟨_, rfl⟩
  have HGW := Lib.hid hg
  rw [hsb, hg] at HR0
  rw [hsb]
  clear hmk x0 x1 y1 hsb hg HG HG2 HEN
  go_loopw [34] (fun i wr => ∃ k : Nat, i = .int .i64 k ∧ k ≤ len ∧ Hid (RW w wr g (N : Int) a len cap sb N (fun i => netTo l (flOf xs) (i : Int) k)) ∧ Hid (∀ (j : Nat) (x : Pi), j < k → l[j]? = some x → 0 ≤ flOf xs j ∧ flOf xs j ≤ x.2.2.1)) (fun i _ => len - (intOf i).toNat)
  case atStart => exact ⟨0, rfl, Nat.zero_le _, HR0, Lib.hid (fun j _ h => by omega)⟩
  case round =>
    obtain ⟨k, rfl, hk, HR, HC⟩ := hrel
    clear HR0
    by_cases hlt : k < len
    · obtain ⟨pb, off, x, rfl, hb, hx, e0, e1, e2, e3⟩ := (HR.out.box.pipes HL.out).at_ hlt
      obtain ⟨nb, noff, z, rfl, hz, n0⟩ := (HX.out.later HR.out.box.below).at_ hlt
      have hxo := okP_true.1 (HOK.out x (List.mem_of_getElem? hx))
      have HXX := Lib.hid hx
      have HZ := Lib.hid (flOf_get hz)
      have hnb : nb < wr.heap.size := World.block_lt_of_cell? wr _ n0
      have HBB : Hid (∀ (j : Nat) (x : Pi), j < k → l[j]? = some x → 0 ≤ flOf xs j ∧ flOf xs j ≤ 1099511627776) := Lib.hid (fun j x hj hx => by
        have h1 := HC.out j x hj hx
        have h2 := okP_true.1 (HOK.out x (List.mem_of_getElem? hx))
        omega)
      obtain ⟨f0, t0, rm, cs⟩ := x
      simp only at e0 e1 e2 e3 hxo
      obtain ⟨p, rfl⟩ : ∃ p : Nat, f0 = (p : Int) := ⟨f0.toNat, by omega⟩
      obtain ⟨q, rfl⟩ : ∃ q : Nat, t0 = (q : Int) := ⟨t0.toNat, by omega⟩
      have hp : p < N := by omega
      have hq : q < N := by omega
      have hrm : rm ≤ 1099511627776 := hxo.2.2.1.2
      have HR1 := Lib.hid (HR.out.later ((Below.refl wr.heap.size wr).alloc (Nat.le_refl _) (.cells #[.int .i64 (p : Int), .int .i64 (q : Int), .int .i64 rm, .int .i64 cs] 47)))
      have n1 : (wr.alloc (.cells #[.int .i64 (p : Int), .int .i64 (q : Int), .int .i64 rm, .int .i64 cs] 47)).cell? ⟨nb, noff + k, none⟩ = some (.int .i64 z) := (World.cell?_alloc_past _ _ _ hnb).trans n0
      have HP1 : Hid (PBox (wr.alloc (.cells #[.int .i64 (p : Int), .int .i64 (q : Int), .int .i64 rm, .int .i64 cs] 47)) wr.heap.size ((p : Int), (q : Int), rm, cs)) := Lib.hid (heap_alloc_new _ _)
      have HBN : Hid (w.heap.size ≤ sb ∧ sb < wr.heap.size) := Lib.hid ⟨HR.out.ge, HR.out.st.lt⟩
      have HNB : Hid (nb < w.heap.size) := Lib.hid (by
        obtain ⟨_, h2⟩ := HX.out
        rcases h2 with h2 | ⟨b2, off2, e, hb2, _⟩
        · omega
        · injection e with e; injection e with e1; omega)
      have HBND := Lib.hid (fun i => netTo_bound HBB.out i)
      clear hz hb hxo hx hnb
      by_cases h1 : z < 0
      · have HV := Lib.hid (rightV_no (n := (N : Int)) (l := l) (xs := xs) (s := (s : Int)) (t := (t : Int)) (fun h => by have := (h.2.2.cap k _ HXX.out).1; have := HZ.out; omega))
        have d1 : decide (z < 0) = true := by simp [h1]
        go_wp2_with fail
        go_quiet (fail)
        go_wp2_with fail
        go_ret2
        exact ⟨below_drewN HR1.out.box.below _, ret_no HV.out⟩
      · have d1 : decide (z < 0) = false := by simp; omega
        by_cases h2 : rm < z
        · have HV := Lib.hid (rightV_no (n := (N : Int)) (l := l) (xs := xs) (s := (s : Int)) (t := (t : Int)) (fun h => by have h9 : flOf xs k ≤ rm := (h.2.2.cap k _ HXX.out).2; have := HZ.out; omega))
          have d2 : decide (rm < z) = true := by simp [h2]
          go_wp2_with fail
          go_quiet (fail)
          go_wp2_with fail
          go_ret2
          exact ⟨below_drewN HR1.out.box.below _, ret_no HV.out⟩
        · have d2 : decide (rm < z) = false := by simp; omega
          go_wp2_with fail
          go_quiet (fail)
          have HR2 := Lib.hid (HR1.out.later (below_drewN (Below.refl _ _) nq))
          have HP2 : Hid (PBox ((wr.alloc (.cells #[.int .i64 (p : Int), .int .i64 (q : Int), .int .i64 rm, .int .i64 cs] 47)).drewN nq) wr.heap.size ((p : Int), (q : Int), rm, cs)) := Lib.hid HP1.out
          have HN2 : Hid (((wr.alloc (.cells #[.int .i64 (p : Int), .int .i64 (q : Int), .int .i64 rm, .int .i64 cs] 47)).drewN nq).cell? ⟨nb, noff + k, none⟩ = some (.int .i64 z)) := Lib.hid n1
          obtain ⟨w3, hw3⟩ : ∃ w3, (wr.alloc (.cells #[.int .i64 (p : Int), .int .i64 (q : Int), .int .i64 rm, .int .i64 cs] 47)).drewN nq = w3 := ⟨_, rfl⟩
          obtain ⟨ab, hab⟩ : ∃ ab, wr.heap.size = ab := ⟨_, rfl⟩
          rw [hw3] at HR2 HP2 HN2
          rw [hab] at HP2 HBN
          rw [hw3, hab]
          clear hw3 hab n0 n1 e0 e1 e2 e3 HR1 HP1
          obtain ⟨l0, l1, l2⟩ := HP2.out.cells
          have n2 := HN2.out
          obtain ⟨sp, hsp⟩ : ∃ v, netTo l (flOf xs) (p : Int) k = v := ⟨_, rfl⟩
          have HSP := Lib.hid hsp
          have r0 := HR2.out.st.cell hp
          have rf := HR2.out.st.frozen p
          rw [hsp] at r0
          have b1 := HBND.out (p : Int)
          rw [hsp] at b1
          have hkk : (k : Int) * 1099511627776 ≤ 21990232555520000 := by omega
          have w1 : IntKind.i64.wrap (sp - z) = sp - z := by rw [IntKind.wrap_i64]; omega
          have HR3 := Lib.hid (HR2.out.set_ p (sp - z))
          obtain ⟨sq, hsq⟩ : ∃ v, (if q = p then sp - z else netTo l (flOf xs) (q : Int) k) = v := ⟨_, rfl⟩
          have HSQ := Lib.hid hsq
          have r3 := HR3.out.st.cell hq
          rw [hsq] at r3
          have rf3 := HR3.out.st.frozen q
          have b2 := HBND.out (q : Int)
          have w2' : IntKind.i64.wrap (sq + z) = sq + z := by rw [IntKind.wrap_i64]; split at hsq <;> omega
          have HR4 := Lib.hid ((HR3.out.set_ q (sq + z)).congr (f2 := fun i => netTo l (flOf xs) (i : Int) (k + 1)) (fun i _ => by
            rw [netTo_step HXX.out, HZ.out]
            have a1 : ((q : Int) = (i : Int)) ↔ i = q := by omega
            have a2 : ((p : Int) = (i : Int)) ↔ i = p := by omega
            simp only [a1, a2]
            by_cases e1 : i = q
            · subst e1
              simp only [if_true]
              have := HSQ.out
              split at this
              · rename_i e2; subst e2; have := HSP.out; simp only [if_true]; omega
              · rename_i e2; simp only [e2, if_false]; omega
            · by_cases e2 : i = p
              · subst e2; have := HSP.out; simp only [e1, if_true, if_false]; omega
              · simp only [e1, e2, if_false]; omega))
          have l3 : (w3.setCell ⟨sb, p, none⟩ (.int .i64 (sp - z))).cell? ⟨ab, 1, none⟩ = some (.int .i64 (q : Int)) := (World.cell?_of_block (heap_setCell_other _ _ _ _ (fun e => by have h : ab = sb := e; have := HBN.out; omega))).trans l1
          have n3 : (w3.setCell ⟨sb, p, none⟩ (.int .i64 (sp - z))).cell? ⟨nb, noff + k, none⟩ = some (.int .i64 z) := (World.cell?_of_block (heap_setCell_other _ _ _ _ (fun e => by have h : nb = sb := e; have := HBN.out; have := HNB.out; omega))).trans n2
          have HCN : Hid (∀ (j : Nat) (x : Pi), j < k + 1 → l[j]? = some x → 0 ≤ flOf xs j ∧ flOf xs j ≤ x.2.2.1) := Lib.hid (fun j x hj hx => by
            by_cases e : j = k
            · subst e
              have e4 := HXX.out
              rw [hx] at e4
              injection e4 with e4
              subst e4
              rw [HZ.out]
              simp only
              omega
            · exact HC.out j x (by omega) hx)
          clear hsp hsq b1 b2 hkk HR2 HR3
          go_wp2_with fail
          go_region
          go_wp2_with fail
          go_region
          go_wp2_with fail
          go_roundw
          case rel => exact ⟨k + 1, by go_num, by omega, Lib.hid (HR4.out.later (Below.refl _ _).drew.drew), HCN⟩
          case measure => simp [intOf]; omega
    · have hke : k = l.length := by have := HLn.out; omega
      subst hke
      have HC2 : Hid (∀ (j : Nat) (x : Pi), l[j]? = some x → 0 ≤ flOf xs j ∧ flOf xs j ≤ x.2.2.1) := Lib.hid (fun j x hx => HC.out j x (List.getElem?_eq_some_iff.1 hx).1 hx)
      clear HC
      go_wp2_with fail
      go_loop [78] (fun i => ∃ k2 : Nat, i = .int .i64 k2 ∧ k2 ≤ N ∧ Hid (∀ i, i < k2 → i ≠ s → i ≠ t → netTo l (flOf xs) (i : Int) l.length = 0)) (fun i => N - (intOf i).toNat)
      case atStart => exact ⟨0, rfl, Nat.zero_le _, Lib.hid (fun i h => by omega)⟩
      case round =>
        obtain ⟨k2, rfl, hk2, HZ⟩ := hrel
        by_cases hlt2 : k2 < N
        · have r0 := HR.out.st.cell hlt2
          obtain ⟨v, hv⟩ : ∃ v, netTo l (flOf xs) (k2 : Int) l.length = v := ⟨_, rfl⟩
          have HV2 := Lib.hid hv
          rw [hv] at r0
          clear hv
          by_cases h1 : k2 = s
          · have d1 : ((k2 : Int) != (s : Int)) = false := by simp [h1]
            have HZN : Hid (∀ i, i < k2 + 1 → i ≠ s → i ≠ t → netTo l (flOf xs) (i : Int) l.length = 0) := Lib.hid (fun i hi h2 h3 => HZ.out i (by omega) h2 h3)
            clear h1
            go_wp2_with fail
            go_round
            case rel => exact ⟨k2 + 1, by go_num, by omega, HZN⟩
            case measure => simp [intOf]; omega
          · have d1 : ((k2 : Int) != (s : Int)) = true := by simp; omega
            by_cases h2 : k2 = t
            · have d2 : ((k2 : Int) != (t : Int)) = false := by simp [h2]
              have HZN : Hid (∀ i, i < k2 + 1 → i ≠ s → i ≠ t → netTo l (flOf xs) (i : Int) l.length = 0) := Lib.hid (fun i hi h2 h3 => HZ.out i (by omega) h2 h3)
              clear h1 h2
              go_wp2_with fail
              go_round
              case rel => exact ⟨k2 + 1, by go_num, by omega, HZN⟩
              case measure => simp [intOf]; omega
            · have d2 : ((k2 : Int) != (t : Int)) = true := by simp; omega
              by_cases h3 : v = 0
              · have d3 : (v != 0) = false := by simp [h3]
                have HZN : Hid (∀ i, i < k2 + 1 → i ≠ s → i ≠ t → netTo l (flOf xs) (i : Int) l.length = 0) := Lib.hid (fun i hi h4 h5 => by
                  by_cases e : i = k2
                  · subst e; rw [HV2.out]; exact h3
                  · exact HZ.out i (by omega) h4 h5)
                clear h1 h2 h3
                go_wp2_with fail
                go_round
                case rel => exact ⟨k2 + 1, by go_num, by omega, HZN⟩
                case measure => simp [intOf]; omega
              · have d3 : (v != 0) = true := by simpa using h3
                have HV := Lib.hid (rightV_no (n := (N : Int)) (l := l) (xs := xs) (s := (s : Int)) (t := (t : Int)) (fun h => h3 (by
                  have := h.2.2.cons k2 (by simp; omega) (by simpa using h1) (by simpa using h2)
                  rw [HV2.out] at this
                  exact this)))
                clear h1 h2 h3
                go_wp2_with fail
                go_ret2
                exact ⟨HR.out.box.below, ret_no HV.out⟩
        · obtain rfl : k2 = N := by omega
          have r0 := HR.out.st.cell htN
          obtain ⟨v, hv⟩ : ∃ v, netTo l (flOf xs) (t : Int) l.length = v := ⟨_, rfl⟩
          rw [hv] at r0
          by_cases h1 : v < 0
          · have HV := Lib.hid (rightV_no (n := (k2 : Int)) (l := l) (xs := xs) (s := (s : Int)) (t := (t : Int)) (fun h => by
              have := h.2.2.ge
              simp only [Int.toNat_natCast] at this
              omega))
            clear hv
            go_wp2_with fail
            go_ret2
            exact ⟨HR.out.box.below, ret_no HV.out⟩
          · have HV := Lib.hid (rightV_yes (n := (k2 : Int)) (l := l) (xs := xs) (s := (s : Int)) (t := (t : Int)) ⟨HE.out, by rw [HXn.out, HLn.out], HC2.out, by simpa using HZ.out, by simp only [Int.toNat_natCast]; omega⟩)
            rw [hv] at HV
            clear hv
            go_wp2_with fail
            go_ret2
            exact ⟨HR.out.box.below, ret_yes HV.out⟩
set_option maxHeartbeats 2000000 in
theorem fright_any (n s t : Int) (len cap : Nat) (l : List Pi) (a : Option Addr) (m c : Nat) (xs : List Int) (b : Option Addr) (w : World) (_hm : m ≤ 9223372036854775807) (hlm : len ≤ 9223372036854775807) (hl : IsPipes w.heap.size w a len l) (hx : IsNums w.heap.size w b m xs) :
    Calls Try.prog 28 #[.agg #[.int .i64 n, .slice a len cap], .slice b m c, .int .i64 s, .int .i64 t] w fun e w' => Below w.heap.size w w' ∧
      e = .returned (.tuple #[.int .i64 (rightV n l xs s t).1, .bool (rightV n l xs s t).2]) := by
  by_cases he : endsP n l s t = 0
  · obtain ⟨hck, hs, ht, _⟩ := endsP_zero.1 he
    obtain ⟨⟨hn0, _, _⟩, _⟩ := checkP_zero.1 hck
    obtain ⟨N, rfl⟩ : ∃ N : Nat, n = (N : Int) := ⟨n.toNat, by omega⟩
    obtain ⟨s, rfl⟩ : ∃ s2 : Nat, s = (s2 : Int) := ⟨s.toNat, by omega⟩
    obtain ⟨t, rfl⟩ : ∃ t2 : Nat, t = (t2 : Int) := ⟨t.toNat, by omega⟩
    by_cases hml : m = len
    · subst hml
      exact fright_ok N s t m cap l a c xs b w he hl hx
    · have HV := Lib.hid (rightV_no (n := (N : Int)) (l := l) (xs := xs) (s := (s : Int)) (t := (t : Int)) (fun h => hml (by have := h.2.1; have := hl.1; have := hx.1; omega)))
      have d1 : ((m : Int) != (len : Int)) = true := by simp; omega
      have HG := Lib.hid (NBox.make (Below.refl _ w) (N : Int) a len cap)
      have HEN := Lib.hid (fends_any (N : Int) (s : Int) (t : Int) len cap l a _ (HG.out.pipesHere hl))
      rw [he] at HEN
      clear hl hx he hml hck hs ht
      go_enter Try.func28, Try.ntmps28
      go_wp2_with (go_at_call 17; refine HEN.out.mono ?_; rintro e w2 ⟨rfl, hb2⟩; have HG2 := Lib.hid (HG.out.later hb2); have x0 := HG2.out.c0; have x1 := HG2.out.c1; clear hb2)
      go_ret2
      exact ⟨HG2.out.below, ret_no HV.out⟩
  · have HV := Lib.hid (rightV_no (n := n) (l := l) (xs := xs) (s := s) (t := t) (fun h => he h.1))
    have HG := Lib.hid (NBox.make (Below.refl _ w) n a len cap)
    have HEN := Lib.hid (fends_any n s t len cap l a _ (HG.out.pipesHere hl))
    have hb : (endsP n l s t != 0) = true := by simpa using he
    generalize endsP n l s t = ev at hb HEN
    clear hl hx he
    go_enter Try.func28, Try.ntmps28
    go_wp2_with (go_at_call 17; refine HEN.out.mono ?_; rintro e w2 ⟨rfl, hb2⟩; have HG2 := Lib.hid (HG.out.later hb2); have x0 := HG2.out.c0; have x1 := HG2.out.c1; clear hb2)
    go_ret2
    exact ⟨HG2.out.below, ret_no HV.out⟩
end Go.Proofs.Ytbenmebmfihleaa

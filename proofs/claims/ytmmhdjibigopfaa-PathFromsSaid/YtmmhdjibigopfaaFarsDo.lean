/- How far the nodes are, by the law's own rounds: the walk. -/
import Derived.Test.YtmmhdjibigopfaaFars
namespace Go.Proofs.Ytmmhdjibigopfaa
open Go.RowKit

variable {len : Nat} {l : List Ar}
set_option maxHeartbeats 4000000 in
set_option maxRecDepth 100000 in
theorem fars_any (N s : Nat) (hs : s < N) (hN : N ≤ 1000) (hlen : len ≤ 20000) (hok : ∀ x ∈ l, okA (N : Int) x = true) (a : Option Addr) (cap : Nat) (w : World) (hl : IsArcs w.heap.size w a len l) :
    Calls Try.prog 10 #[.agg #[.int .i64 (N : Int), .slice a len cap], .int .i64 (s : Int)] w fun e w' => Below w.heap.size w w' ∧
      ((∃ v far, e = .returned (.tuple #[v, .bool true]) ∧ LongRow w' w.heap.size v N (valI far) ∧ Dist l s far) ∨ (e = .returned (.tuple #[.slice none 0 0, .bool false]) ∧ Neg l s)) := by
  have hmk := run_make_row' (P := Try.prog) 28 2 (.int .i64 0) 8 Try.underlying28 infoLong rfl .i64 .i64 N (by omega) (by omega)
  have HLn : Hid (l.length = len) := Lib.hid hl.1
  have HL := Lib.hid hl; clear hl
  have HOK := Lib.hid hok; clear hok
  have hs1 : (0 : Int) ≤ (s : Int) := by omega
  have hs2 : (s : Int) < (N : Int) := by omega
  have HW0 := Lib.hid (FarsW.made (Box.make (Below.refl _ w) (N : Int) a len cap) (g1 := w.heap.size + 1) (by simp) (show N ≤ 1000000 by omega))
  have HB0 := Lib.hid (Near.begin_ l s)
  go_enter Try.func10, Try.ntmps10
  go_wp2_with fail
  clear hmk
  obtain ⟨g1, hg1⟩ : ∃ g1, g1 = w.heap.size + 1 := ⟨_, rfl⟩
  rw [← hg1] at HW0 ⊢
  clear hg1
  go_loopw [16] (fun i wr => ∃ (k : Nat), i = .int .i64 k ∧ k ≤ N ∧ Hid (FarsW w wr w.heap.size N a len cap (.slice (some ⟨g1, 0, none⟩) N N) (fun i => if i < k then 1152921504606846976 else 0))) (fun i _ => N - (intOf i).toNat)
  case atStart => exact ⟨0, rfl, Nat.zero_le _, HW0⟩
  case round =>
    obtain ⟨k, rfl, hk, HX⟩ := hrel
    clear HW0
    by_cases hlt : k < N
    · have k2 : (k : Int) < (N : Int) := by omega
      have q0 := HX.out.now.cell hlt
      have q1 := HX.out.now.frozen k
      have HN := Lib.hid ((HX.out.set_ hlt 1152921504606846976).congr (f2 := fun i => if i < k + 1 then 1152921504606846976 else 0) (fun i _ => by
        by_cases e : i = k
        · subst e; simp
        · have : (i < k + 1) = (i < k) := by apply propext; omega
          simp only [e, if_false, this]))
      go_wp2_with fail
      go_roundw
      case rel => exact ⟨k + 1, by go_num, by omega, HN⟩
      case measure => simp [intOf]; omega
    · obtain rfl : k = N := by omega
      have q0 := HX.out.now.cell hs
      have q1 := HX.out.now.frozen s
      have HF := Lib.hid ((HX.out.set_ hs 0).congr (f2 := valI (fun i => if i = s then some 0 else none)) (fun i hi => by
        by_cases e : i = s
        · simp [valI, e]
        · simp [valI, e, hi]))
      have b0 := (HX.out.set_ hs 0).box.c0
      go_wp2_with fail
      clear HX q0 q1 b0
      have HG0 : Hid (k < 0 → Neg l s) := Lib.hid (fun h => absurd h (by omega))
      go_loopw [6, 29] (fun v i wr => ∃ (r : Nat) (far : Nat → Option Int), i = .int .i64 r ∧ r ≤ k + 1 ∧ Hid (FarsW w wr w.heap.size k a len cap v (valI far)) ∧ Hid (Near l s far r) ∧ Hid (k < r → Neg l s)) (fun _ i _ => k + 1 - (intOf i).toNat)
      case atStart => exact ⟨0, _, rfl, Nat.zero_le _, HF, HB0, HG0⟩
      case round =>
        clear HF HB0 HG0
        obtain ⟨r, far, rfl, hr, HX, HNr, HG⟩ := hrel
        by_cases hlt2 : r < k + 1
        · have r2 : (r : Int) < (k : Int) + 1 := by omega
          obtain ⟨g1, c1, hv, _, _, hcp, hcm⟩ := HX.out.now.some_ (by omega)
          subst hv
          unfold maxLen at hcm
          clear HG
          go_wp2_with (go_at_call 22; refine (cloneLongs HX.out.now (by omega) (by omega)).mono ?_; rintro e w2 ⟨v2, rfl, hr2, hb2⟩; obtain ⟨g2, c2, hv, _, _, hcp2, hcm2⟩ := hr2.some_ (by omega); subst hv; have HI0 := Lib.hid (FarsI.make HX.out hb2 hr2); have x1 := HI0.out.one.box.c1; clear hr2 hb2)
          unfold maxLen at hcm2
          have HM0 := Lib.hid HNr.out.mid
          clear HX x1
          go_loopw [36] (fun i wr => ∃ (q : Nat) (next : Nat → Option Int), i = .int .i64 q ∧ q ≤ len ∧ Hid (FarsI w wr w.heap.size k a len cap g1 c1 g2 c2 (valI far) (valI next)) ∧ Hid (Mid l s far next r q)) (fun i _ => len - (intOf i).toNat)
          case atStart => exact ⟨0, _, rfl, Nat.zero_le _, HI0, HM0⟩
          case round =>
            clear HI0 HM0
            obtain ⟨q, next, rfl, hq, HX, HM⟩ := hrel
            by_cases hlt3 : q < len
            · obtain ⟨b, off, x, rfl, hb, hx, e0, e1, e2⟩ := (HX.out.one.box.arcs HL.out).at_ hlt3
              have hxok := okA_true.1 (HOK.out x (List.mem_of_getElem? hx))
              have HXX := Lib.hid hx
              clear hx hb
              obtain ⟨f0, t0, c⟩ := x
              simp only at e0 e1 e2 hxok
              obtain ⟨f, rfl⟩ : ∃ f : Nat, f0 = (f : Int) := ⟨f0.toNat, by omega⟩
              obtain ⟨t, rfl⟩ : ∃ t : Nat, t0 = (t : Int) := ⟨t0.toNat, by omega⟩
              have hf : f < k := by omega
              have ht : t < k := by omega
              have f1 : (0 : Int) ≤ (f : Int) := by omega
              have f2 : (f : Int) < (k : Int) := by omega
              have t1 : (0 : Int) ≤ (t : Int) := by omega
              have t2 : (t : Int) < (k : Int) := by omega
              have hc1 : -1099511627776 ≤ c := hxok.2.2.1
              have hc2 : c ≤ 1099511627776 := hxok.2.2.2
              clear hxok
              have HX1 := Lib.hid (HX.out.later ((Below.refl wr.heap.size wr).alloc (Nat.le_refl _) (.cells #[.int .i64 (f : Int), .int .i64 (t : Int), .int .i64 c] 41)))
              have n0 := HX1.out.one.now.cell hf
              cases hfar : far f with
              | none =>
                rw [valI_none hfar] at n0
                have HN := Lib.hid (HM.out.skip HXX.out rfl hfar)
                clear hfar
                go_wp2_with fail
                go_roundw
                case rel => exact ⟨q + 1, next, by go_num, by omega, HX1, HN⟩
                case measure => simp [intOf]; omega
              | some p =>
                rw [valI_some hfar] at n0
                have hps := HNr.out.small HOK.out (by omega) f p hfar
                have hp1 : -1102000000000000 ≤ p := hps.1
                have hp2 : p ≤ 1102000000000000 := hps.2
                have hpne : (p != 1152921504606846976) = true := by simp; omega
                have HMn := Lib.hid (HM.out.step HNr.out HXX.out rfl rfl hfar)
                have HV := Lib.hid (minO_val (far := next) (j := t) hfar (HNr.out.small HOK.out (by omega)) c ⟨hc1, hc2⟩)
                have m0 := HX1.out.two.cell ht
                have m1 := HX1.out.two.frozen t
                have HS0 := Lib.hid (FarS.made (wr := wr) HX.out.one.now.base_.2 (by have := HX.out.one.now.cell hf; rw [valI_some hfar] at this; exact this) (f : Int) (t : Int) c 41)
                have HGG : Hid (g2 < wr.heap.size) := Lib.hid HX.out.two.base_.2
                have HNE : Hid (g1 ≠ g2) := Lib.hid HX.out.ne
                clear hfar hps HX
                have wpc : IntKind.i64.wrap (p + c) = p + c := by rw [IntKind.wrap_i64]; omega
                have HWP := Lib.hid wpc
                clear wpc
                by_cases hlt4 : p + c < valI next t
                · have HN := Lib.hid (((HX1.out.later (Below.refl _ _).drew).set_ ht (p + c)).congr (fun i _ => by have := HV.out i; simp only [hlt4, if_true] at this; exact this))
                  clear HV
                  generalize valI next t = cur at *
                  go_wp2_with fail
                  refine wp_region_held_drew (S := FarS wr.heap.size g1 (f : Int) (t : Int) c p f) (by kernel_rfl) HS0.out (fun hHeld => ?_)
                  refine wpAnyH_take (i := 0) (v := ?_) rfl (by kernel_rfl) (by kernel_rfl) (by kernel_rfl) (fun _ _ _ h => h) (Or.inl ⟨by rfl, ?_⟩) hHeld ?_
                  rotate_left
                  · intro W0 hW; obtain ⟨hW1, hW2, hW3, hW4, hW5, hW6⟩ := hW; go_simp; (try with_reducible rfl)
                  try simp only [Act.put, List.setIfInBounds_toArray, List.set_cons_zero, List.set_cons_succ, List.getElem_toArray, List.getElem_cons_zero]
                  refine wpAnyH_take (i := 1) (v := ?_) rfl (by kernel_rfl) (by kernel_rfl) (by kernel_rfl) (fun _ _ _ h => h) (Or.inl ⟨by rfl, ?_⟩) hHeld ?_
                  rotate_left
                  · intro W0 hW; obtain ⟨hW1, hW2, hW3, hW4, hW5, hW6⟩ := hW; go_simp; (try with_reducible rfl)
                  try simp only [Act.put, List.setIfInBounds_toArray, List.set_cons_zero, List.set_cons_succ, List.getElem_toArray, List.getElem_cons_zero, List.getElem_cons_succ]
                  refine wpAnyH_take (i := 2) (v := ?_) rfl (by kernel_rfl) (by kernel_rfl) (by kernel_rfl) (fun _ _ _ h => h) (Or.inl ⟨by rfl, ?_⟩) hHeld ?_
                  rotate_left
                  · intro W0 hW; obtain ⟨hW1, hW2, hW3, hW4, hW5, hW6⟩ := hW; go_simp; (try with_reducible rfl)
                  try simp only [Act.put, List.setIfInBounds_toArray, List.set_cons_zero, List.set_cons_succ, List.getElem_toArray, List.getElem_cons_zero, List.getElem_cons_succ]
                  refine wpAnyH_take (i := 3) (v := ?_) rfl (by kernel_rfl) (by kernel_rfl) (by kernel_rfl) (fun _ _ _ h => h) (Or.inl ⟨by rfl, ?_⟩) hHeld ?_
                  rotate_left
                  · intro W0 hW; obtain ⟨hW1, hW2, hW3, hW4, hW5, hW6⟩ := hW; go_simp; (try with_reducible rfl)
                  try simp only [Act.put, List.setIfInBounds_toArray, List.set_cons_zero, List.set_cons_succ, List.getElem_toArray, List.getElem_cons_zero, List.getElem_cons_succ]
                  refine wpAnyH_take (i := 4) (v := ?_) rfl (by kernel_rfl) (by kernel_rfl) (by kernel_rfl) (fun _ _ _ h => h) (Or.inl ⟨by rfl, ?_⟩) hHeld ?_
                  rotate_left
                  · intro W0 hW; obtain ⟨hW1, hW2, hW3, hW4, hW5, hW6⟩ := hW; go_simp; (try with_reducible rfl)
                  try simp only [Act.put, List.setIfInBounds_toArray, List.set_cons_zero, List.set_cons_succ, List.getElem_toArray, List.getElem_cons_zero, List.getElem_cons_succ]
                  refine wpAnyH_take (i := 5) (v := ?_) rfl (by kernel_rfl) (by kernel_rfl) (by kernel_rfl) (fun _ _ _ h => h) (Or.inl ⟨by rfl, ?_⟩) hHeld ?_
                  rotate_left
                  · intro W0 hW; obtain ⟨hW1, hW2, hW3, hW4, hW5, hW6⟩ := hW; go_simp; (try with_reducible rfl)
                  try simp only [Act.put, List.setIfInBounds_toArray, List.set_cons_zero, List.set_cons_succ, List.getElem_toArray, List.getElem_cons_zero, List.getElem_cons_succ]
                  refine wpAnyH_take (i := 6) (v := ?_) rfl (by kernel_rfl) (by kernel_rfl) (by kernel_rfl) (fun _ _ _ h => h) (Or.inl ⟨by rfl, ?_⟩) hHeld ?_
                  rotate_left
                  · intro W0 hW; obtain ⟨hW1, hW2, hW3, hW4, hW5, hW6⟩ := hW; go_simp; (try with_reducible rfl)
                  try simp only [Act.put, List.setIfInBounds_toArray, List.set_cons_zero, List.set_cons_succ, List.getElem_toArray, List.getElem_cons_zero, List.getElem_cons_succ]
                  refine wpAnyH_take (i := 8) (v := ?_) rfl (by kernel_rfl) (by kernel_rfl) (by kernel_rfl) (fun _ _ _ h => h) (Or.inl ⟨by rfl, ?_⟩) hHeld ?_
                  rotate_left
                  · intro W0 hW; obtain ⟨hW1, hW2, hW3, hW4, hW5, hW6⟩ := hW; go_simp; (try with_reducible rfl)
                  try simp only [Act.put, List.setIfInBounds_toArray, List.set_cons_zero, List.set_cons_succ, List.getElem_toArray, List.getElem_cons_zero, List.getElem_cons_succ]
                  refine wpAnyH_take (i := 9) (v := ?_) rfl (by kernel_rfl) (by kernel_rfl) (by kernel_rfl) (fun _ _ _ h => h) (Or.inl ⟨by rfl, ?_⟩) hHeld ?_
                  rotate_left
                  · intro W0 hW; obtain ⟨hW1, hW2, hW3, hW4, hW5, hW6⟩ := hW; go_simp; (try with_reducible rfl)
                  try simp only [Act.put, List.setIfInBounds_toArray, List.set_cons_zero, List.set_cons_succ, List.getElem_toArray, List.getElem_cons_zero, List.getElem_cons_succ]
                  refine wpAnyH_take (i := 10) (v := ?_) rfl (by kernel_rfl) (by kernel_rfl) (by kernel_rfl) (fun _ _ _ h => h) (Or.inl ⟨by rfl, ?_⟩) hHeld ?_
                  rotate_left
                  · intro W0 hW; obtain ⟨hW1, hW2, hW3, hW4, hW5, hW6⟩ := hW; go_simp; (try with_reducible rfl)
                  try simp only [Act.put, List.setIfInBounds_toArray, List.set_cons_zero, List.set_cons_succ, List.getElem_toArray, List.getElem_cons_zero, List.getElem_cons_succ]
                  refine wpAnyH_take (i := 11) (v := ?_) rfl (by kernel_rfl) (by kernel_rfl) (by kernel_rfl) (fun _ _ _ h => h) (Or.inl ⟨by rfl, ?_⟩) hHeld ?_
                  rotate_left
                  · intro W0 hW; obtain ⟨hW1, hW2, hW3, hW4, hW5, hW6⟩ := hW; go_simp; (try with_reducible rfl)
                  try simp only [Act.put, List.setIfInBounds_toArray, List.set_cons_zero, List.set_cons_succ, List.getElem_toArray, List.getElem_cons_zero, List.getElem_cons_succ]
                  refine wpAnyH_take (i := 12) (v := ?_) rfl (by kernel_rfl) (by kernel_rfl) (by kernel_rfl) (fun _ _ _ h => h) (Or.inl ⟨by rfl, ?_⟩) hHeld ?_
                  rotate_left
                  · intro W0 hW; obtain ⟨hW1, hW2, hW3, hW4, hW5, hW6⟩ := hW; go_simp; (try with_reducible rfl)
                  try simp only [Act.put, List.setIfInBounds_toArray, List.set_cons_zero, List.set_cons_succ, List.getElem_toArray, List.getElem_cons_zero, List.getElem_cons_succ]
                  refine wpAnyH_take (i := 13) (v := ?_) rfl (by kernel_rfl) (by kernel_rfl) (by kernel_rfl) (fun _ _ _ h => h) (Or.inl ⟨by rfl, ?_⟩) hHeld ?_
                  rotate_left
                  · intro W0 hW; obtain ⟨hW1, hW2, hW3, hW4, hW5, hW6⟩ := hW; go_simp; (try with_reducible rfl)
                  try simp only [Act.put, List.setIfInBounds_toArray, List.set_cons_zero, List.set_cons_succ, List.getElem_toArray, List.getElem_cons_zero, List.getElem_cons_succ]
                  refine wpAnyH_take (i := 14) (v := ?_) rfl (by kernel_rfl) (by kernel_rfl) (by kernel_rfl) (fun _ _ _ h => h) (Or.inl ⟨by rfl, ?_⟩) hHeld ?_
                  rotate_left
                  · intro W0 hW; obtain ⟨hW1, hW2, hW3, hW4, hW5, hW6⟩ := hW; go_simp; (try with_reducible rfl)
                  try simp only [Act.put, List.setIfInBounds_toArray, List.set_cons_zero, List.set_cons_succ, List.getElem_toArray, List.getElem_cons_zero, List.getElem_cons_succ]
                  refine wpAnyH_take (i := 15) (v := ?_) rfl (by kernel_rfl) (by kernel_rfl) (by kernel_rfl) (fun _ _ _ h => h) (Or.inl ⟨by rfl, ?_⟩) hHeld ?_
                  rotate_left
                  · intro W0 hW; obtain ⟨hW1, hW2, hW3, hW4, hW5, hW6⟩ := hW; go_simp; (try with_reducible rfl)
                  try simp only [Act.put, List.setIfInBounds_toArray, List.set_cons_zero, List.set_cons_succ, List.getElem_toArray, List.getElem_cons_zero, List.getElem_cons_succ]
                  simp only [HWP.out]
                  refine wpAnyH_ready (rs := [7]) (by kernel_rfl) (by simp) ?_
                  refine AllReadyH.cons rfl (fun K hK => ?_) AllReadyH.nil
                  go_simp
                  refine hK.out _ _ ?_ (fun hHeld => ?_)
                  · exact hHeld
                  clear hK K
                  try simp only [Act.put, List.setIfInBounds_toArray, List.set_cons_zero, List.set_cons_succ, List.getElem_toArray, List.getElem_cons_zero, List.getElem_cons_succ]
                  refine wpAnyH_ready (rs := [16]) (by kernel_rfl) (by simp) ?_
                  refine AllReadyH.cons rfl (fun K hK => ?_) AllReadyH.nil
                  go_simp
                  refine hK.out _ _ ?_ (fun hHeld => ?_)
                  · exact hHeld
                  clear hK K
                  try simp only [Act.put, List.setIfInBounds_toArray, List.set_cons_zero, List.set_cons_succ, List.getElem_toArray, List.getElem_cons_zero, List.getElem_cons_succ]
                  refine wpAnyH_take (i := 17) (v := ?_) rfl (by kernel_rfl) (by kernel_rfl) (by kernel_rfl) (fun _ _ _ h => h) (Or.inl ⟨by rfl, ?_⟩) hHeld ?_
                  rotate_left
                  · intro W0 hW; obtain ⟨hW1, hW2, hW3, hW4, hW5, hW6⟩ := hW; go_simp; (try with_reducible rfl)
                  try simp only [Act.put, List.setIfInBounds_toArray, List.set_cons_zero, List.set_cons_succ, List.getElem_toArray, List.getElem_cons_zero, List.getElem_cons_succ]
                  refine wpAnyH_ready (rs := [18]) (by kernel_rfl) (by simp) ?_
                  refine AllReadyH.cons rfl (fun K hK => ?_) AllReadyH.nil
                  go_simp
                  refine hK.out _ _ ?_ (fun hHeld => ?_)
                  · exact hHeld.mod ((Mod.refl (fun b => b = g2) _).setCell (p := ⟨g2, t, none⟩) (.inr rfl) _) (fun h => by have h2 : wr.heap.size = g2 := h; have := HGG.out; omega) (fun h => HNE.out h)
                  clear hK K
                  try simp only [Act.put, List.setIfInBounds_toArray, List.set_cons_zero, List.set_cons_succ, List.getElem_toArray, List.getElem_cons_zero, List.getElem_cons_succ]
                  refine wpAnyH_done (by kernel_rfl) ?_ _
                  clear hHeld
                  go_wp2_with fail
                  go_roundw
                  case rel => exact ⟨q + 1, _, by go_num, by omega, HN, HMn⟩
                  case measure => simp [intOf]; omega
                · have HN := Lib.hid (((HX1.out.later (Below.refl _ _).drew).set_ ht ((valI next t))).congr (fun i _ => by have := HV.out i; simp only [hlt4, if_false] at this; exact this))
                  clear HV
                  generalize valI next t = cur at *
                  go_wp2_with fail
                  refine wp_region_held_drew (S := FarS wr.heap.size g1 (f : Int) (t : Int) c p f) (by kernel_rfl) HS0.out (fun hHeld => ?_)
                  refine wpAnyH_take (i := 0) (v := ?_) rfl (by kernel_rfl) (by kernel_rfl) (by kernel_rfl) (fun _ _ _ h => h) (Or.inl ⟨by rfl, ?_⟩) hHeld ?_
                  rotate_left
                  · intro W0 hW; obtain ⟨hW1, hW2, hW3, hW4, hW5, hW6⟩ := hW; go_simp; (try with_reducible rfl)
                  try simp only [Act.put, List.setIfInBounds_toArray, List.set_cons_zero, List.set_cons_succ, List.getElem_toArray, List.getElem_cons_zero]
                  refine wpAnyH_take (i := 1) (v := ?_) rfl (by kernel_rfl) (by kernel_rfl) (by kernel_rfl) (fun _ _ _ h => h) (Or.inl ⟨by rfl, ?_⟩) hHeld ?_
                  rotate_left
                  · intro W0 hW; obtain ⟨hW1, hW2, hW3, hW4, hW5, hW6⟩ := hW; go_simp; (try with_reducible rfl)
                  try simp only [Act.put, List.setIfInBounds_toArray, List.set_cons_zero, List.set_cons_succ, List.getElem_toArray, List.getElem_cons_zero, List.getElem_cons_succ]
                  refine wpAnyH_take (i := 2) (v := ?_) rfl (by kernel_rfl) (by kernel_rfl) (by kernel_rfl) (fun _ _ _ h => h) (Or.inl ⟨by rfl, ?_⟩) hHeld ?_
                  rotate_left
                  · intro W0 hW; obtain ⟨hW1, hW2, hW3, hW4, hW5, hW6⟩ := hW; go_simp; (try with_reducible rfl)
                  try simp only [Act.put, List.setIfInBounds_toArray, List.set_cons_zero, List.set_cons_succ, List.getElem_toArray, List.getElem_cons_zero, List.getElem_cons_succ]
                  refine wpAnyH_take (i := 3) (v := ?_) rfl (by kernel_rfl) (by kernel_rfl) (by kernel_rfl) (fun _ _ _ h => h) (Or.inl ⟨by rfl, ?_⟩) hHeld ?_
                  rotate_left
                  · intro W0 hW; obtain ⟨hW1, hW2, hW3, hW4, hW5, hW6⟩ := hW; go_simp; (try with_reducible rfl)
                  try simp only [Act.put, List.setIfInBounds_toArray, List.set_cons_zero, List.set_cons_succ, List.getElem_toArray, List.getElem_cons_zero, List.getElem_cons_succ]
                  refine wpAnyH_take (i := 4) (v := ?_) rfl (by kernel_rfl) (by kernel_rfl) (by kernel_rfl) (fun _ _ _ h => h) (Or.inl ⟨by rfl, ?_⟩) hHeld ?_
                  rotate_left
                  · intro W0 hW; obtain ⟨hW1, hW2, hW3, hW4, hW5, hW6⟩ := hW; go_simp; (try with_reducible rfl)
                  try simp only [Act.put, List.setIfInBounds_toArray, List.set_cons_zero, List.set_cons_succ, List.getElem_toArray, List.getElem_cons_zero, List.getElem_cons_succ]
                  refine wpAnyH_take (i := 5) (v := ?_) rfl (by kernel_rfl) (by kernel_rfl) (by kernel_rfl) (fun _ _ _ h => h) (Or.inl ⟨by rfl, ?_⟩) hHeld ?_
                  rotate_left
                  · intro W0 hW; obtain ⟨hW1, hW2, hW3, hW4, hW5, hW6⟩ := hW; go_simp; (try with_reducible rfl)
                  try simp only [Act.put, List.setIfInBounds_toArray, List.set_cons_zero, List.set_cons_succ, List.getElem_toArray, List.getElem_cons_zero, List.getElem_cons_succ]
                  refine wpAnyH_take (i := 6) (v := ?_) rfl (by kernel_rfl) (by kernel_rfl) (by kernel_rfl) (fun _ _ _ h => h) (Or.inl ⟨by rfl, ?_⟩) hHeld ?_
                  rotate_left
                  · intro W0 hW; obtain ⟨hW1, hW2, hW3, hW4, hW5, hW6⟩ := hW; go_simp; (try with_reducible rfl)
                  try simp only [Act.put, List.setIfInBounds_toArray, List.set_cons_zero, List.set_cons_succ, List.getElem_toArray, List.getElem_cons_zero, List.getElem_cons_succ]
                  refine wpAnyH_take (i := 8) (v := ?_) rfl (by kernel_rfl) (by kernel_rfl) (by kernel_rfl) (fun _ _ _ h => h) (Or.inl ⟨by rfl, ?_⟩) hHeld ?_
                  rotate_left
                  · intro W0 hW; obtain ⟨hW1, hW2, hW3, hW4, hW5, hW6⟩ := hW; go_simp; (try with_reducible rfl)
                  try simp only [Act.put, List.setIfInBounds_toArray, List.set_cons_zero, List.set_cons_succ, List.getElem_toArray, List.getElem_cons_zero, List.getElem_cons_succ]
                  refine wpAnyH_take (i := 9) (v := ?_) rfl (by kernel_rfl) (by kernel_rfl) (by kernel_rfl) (fun _ _ _ h => h) (Or.inl ⟨by rfl, ?_⟩) hHeld ?_
                  rotate_left
                  · intro W0 hW; obtain ⟨hW1, hW2, hW3, hW4, hW5, hW6⟩ := hW; go_simp; (try with_reducible rfl)
                  try simp only [Act.put, List.setIfInBounds_toArray, List.set_cons_zero, List.set_cons_succ, List.getElem_toArray, List.getElem_cons_zero, List.getElem_cons_succ]
                  refine wpAnyH_take (i := 10) (v := ?_) rfl (by kernel_rfl) (by kernel_rfl) (by kernel_rfl) (fun _ _ _ h => h) (Or.inl ⟨by rfl, ?_⟩) hHeld ?_
                  rotate_left
                  · intro W0 hW; obtain ⟨hW1, hW2, hW3, hW4, hW5, hW6⟩ := hW; go_simp; (try with_reducible rfl)
                  try simp only [Act.put, List.setIfInBounds_toArray, List.set_cons_zero, List.set_cons_succ, List.getElem_toArray, List.getElem_cons_zero, List.getElem_cons_succ]
                  refine wpAnyH_take (i := 11) (v := ?_) rfl (by kernel_rfl) (by kernel_rfl) (by kernel_rfl) (fun _ _ _ h => h) (Or.inl ⟨by rfl, ?_⟩) hHeld ?_
                  rotate_left
                  · intro W0 hW; obtain ⟨hW1, hW2, hW3, hW4, hW5, hW6⟩ := hW; go_simp; (try with_reducible rfl)
                  try simp only [Act.put, List.setIfInBounds_toArray, List.set_cons_zero, List.set_cons_succ, List.getElem_toArray, List.getElem_cons_zero, List.getElem_cons_succ]
                  refine wpAnyH_take (i := 12) (v := ?_) rfl (by kernel_rfl) (by kernel_rfl) (by kernel_rfl) (fun _ _ _ h => h) (Or.inl ⟨by rfl, ?_⟩) hHeld ?_
                  rotate_left
                  · intro W0 hW; obtain ⟨hW1, hW2, hW3, hW4, hW5, hW6⟩ := hW; go_simp; (try with_reducible rfl)
                  try simp only [Act.put, List.setIfInBounds_toArray, List.set_cons_zero, List.set_cons_succ, List.getElem_toArray, List.getElem_cons_zero, List.getElem_cons_succ]
                  refine wpAnyH_take (i := 13) (v := ?_) rfl (by kernel_rfl) (by kernel_rfl) (by kernel_rfl) (fun _ _ _ h => h) (Or.inl ⟨by rfl, ?_⟩) hHeld ?_
                  rotate_left
                  · intro W0 hW; obtain ⟨hW1, hW2, hW3, hW4, hW5, hW6⟩ := hW; go_simp; (try with_reducible rfl)
                  try simp only [Act.put, List.setIfInBounds_toArray, List.set_cons_zero, List.set_cons_succ, List.getElem_toArray, List.getElem_cons_zero, List.getElem_cons_succ]
                  refine wpAnyH_take (i := 14) (v := ?_) rfl (by kernel_rfl) (by kernel_rfl) (by kernel_rfl) (fun _ _ _ h => h) (Or.inl ⟨by rfl, ?_⟩) hHeld ?_
                  rotate_left
                  · intro W0 hW; obtain ⟨hW1, hW2, hW3, hW4, hW5, hW6⟩ := hW; go_simp; (try with_reducible rfl)
                  try simp only [Act.put, List.setIfInBounds_toArray, List.set_cons_zero, List.set_cons_succ, List.getElem_toArray, List.getElem_cons_zero, List.getElem_cons_succ]
                  refine wpAnyH_take (i := 15) (v := ?_) rfl (by kernel_rfl) (by kernel_rfl) (by kernel_rfl) (fun _ _ _ h => h) (Or.inl ⟨by rfl, ?_⟩) hHeld ?_
                  rotate_left
                  · intro W0 hW; obtain ⟨hW1, hW2, hW3, hW4, hW5, hW6⟩ := hW; go_simp; (try with_reducible rfl)
                  try simp only [Act.put, List.setIfInBounds_toArray, List.set_cons_zero, List.set_cons_succ, List.getElem_toArray, List.getElem_cons_zero, List.getElem_cons_succ]
                  simp only [HWP.out]
                  refine wpAnyH_ready (rs := [7]) (by kernel_rfl) (by simp) ?_
                  refine AllReadyH.cons rfl (fun K hK => ?_) AllReadyH.nil
                  go_simp
                  refine hK.out _ _ ?_ (fun hHeld => ?_)
                  · exact hHeld
                  clear hK K
                  try simp only [Act.put, List.setIfInBounds_toArray, List.set_cons_zero, List.set_cons_succ, List.getElem_toArray, List.getElem_cons_zero, List.getElem_cons_succ]
                  refine wpAnyH_ready (rs := [16]) (by kernel_rfl) (by simp) ?_
                  refine AllReadyH.cons rfl (fun K hK => ?_) AllReadyH.nil
                  go_simp
                  refine hK.out _ _ ?_ (fun hHeld => ?_)
                  · exact hHeld
                  clear hK K
                  try simp only [Act.put, List.setIfInBounds_toArray, List.set_cons_zero, List.set_cons_succ, List.getElem_toArray, List.getElem_cons_zero, List.getElem_cons_succ]
                  refine wpAnyH_take (i := 17) (v := ?_) rfl (by kernel_rfl) (by kernel_rfl) (by kernel_rfl) (fun _ _ _ h => h) (Or.inl ⟨by rfl, ?_⟩) hHeld ?_
                  rotate_left
                  · intro W0 hW; obtain ⟨hW1, hW2, hW3, hW4, hW5, hW6⟩ := hW; go_simp; (try with_reducible rfl)
                  try simp only [Act.put, List.setIfInBounds_toArray, List.set_cons_zero, List.set_cons_succ, List.getElem_toArray, List.getElem_cons_zero, List.getElem_cons_succ]
                  refine wpAnyH_ready (rs := [18]) (by kernel_rfl) (by simp) ?_
                  refine AllReadyH.cons rfl (fun K hK => ?_) AllReadyH.nil
                  go_simp
                  refine hK.out _ _ ?_ (fun hHeld => ?_)
                  · exact hHeld.mod ((Mod.refl (fun b => b = g2) _).setCell (p := ⟨g2, t, none⟩) (.inr rfl) _) (fun h => by have h2 : wr.heap.size = g2 := h; have := HGG.out; omega) (fun h => HNE.out h)
                  clear hK K
                  try simp only [Act.put, List.setIfInBounds_toArray, List.set_cons_zero, List.set_cons_succ, List.getElem_toArray, List.getElem_cons_zero, List.getElem_cons_succ]
                  refine wpAnyH_done (by kernel_rfl) ?_ _
                  clear hHeld
                  go_wp2_with fail
                  go_roundw
                  case rel => exact ⟨q + 1, _, by go_num, by omega, HN, HMn⟩
                  case measure => simp [intOf]; omega
            · have HN2 := Lib.hid (HM.out.done HNr.out (by have := HLn.out; omega))
              have HS2 := Lib.hid HX.out.swap
              cases heq : sameN (valI far) (valI next) k with
              | true =>
                have HD := Lib.hid (near_end HNr.out HN2.out HOK.out hs (by omega) heq)
                have HE := Lib.hid heq
                clear heq
                go_wp2_with (go_at_call 23; refine (eqRows HX.out.one.now HX.out.two (by omega)).mono ?_; rw [HE.out]; rintro e w3 ⟨rfl, hb3⟩; have HX3 := Lib.hid (HX.out.later hb3); clear hb3)
                go_ret2
                exact ⟨HX3.out.one.box.below, .inl ⟨_, far, rfl, HX3.out.one.now.rebase (by omega), HD.out⟩⟩
              | false =>
                have HG2 := Lib.hid (near_on HNr.out HN2.out HOK.out hs heq)
                have HE := Lib.hid heq
                clear heq
                go_wp2_with (go_at_call 23; refine (eqRows HX.out.one.now HX.out.two (by omega)).mono ?_; rw [HE.out]; rintro e w3 ⟨rfl, hb3⟩; have HX3 := Lib.hid (HS2.out.later hb3); clear hb3)
                go_roundw
                case rel => exact ⟨r + 1, next, by go_num, by omega, HX3, HN2, HG2⟩
                case measure => simp [intOf]; omega
        · have HE := Lib.hid (HG.out (by omega))
          go_wp2_with fail
          go_ret2
          exact ⟨HX.out.box.below, .inr ⟨rfl, HE.out⟩⟩
end Go.Proofs.Ytmmhdjibigopfaa

/- The walk of the law on Most (of package flow). -/
import Derived.Test.YtifhapmblofmkaaLFlows
import Derived.Test.YtifhapmblofmkaaLLeast
import Derived.Test.YtifhapmblofmkaaLEnds
import Derived.Test.YtifhapmblofmkaaLNet
namespace Go.Proofs.Ytifhapmblofmkaa
open Go.RowKit

variable {len cap N g s t : Nat} {l : List Pi} {w wr w2 : World} {a : Option Addr} {much : Int} {fl : Nat → Int}
/-- The net's box, its pipes. -/
structure NPA (w wr : World) (g N : Nat) (a : Option Addr) (len cap : Nat) (l : List Pi) : Prop where
  box : NBox w wr g (N : Int) a len cap
  pipes : IsPipes wr.heap.size wr a len l
theorem NPA.later (h : NPA w wr g N a len cap l) (hb : Below wr.heap.size wr w2) : NPA w w2 g N a len cap l := ⟨h.box.later hb, (h.pipes.later hb).mono hb.size⟩
/-- Which net the law makes. -/
theorem law_net {n : Int} (hn : (Lit.int .u8 n).wf = true) : (0 ≤ n ∧ n ≤ 255) ∧ ∃ N : Nat, 2 + n % 5 = (N : Int) ∧ 2 ≤ N ∧ N ≤ 6 := by
  simp [Lit.wf, IntKind.min, IntKind.max, IntKind.signed, IntKind.bits] at hn
  exact ⟨hn, (2 + n % 5).toNat, by omega, by omega, by omega⟩
theorem law_u8 {n : Int} (hn : (Lit.int .u8 n).wf = true) : 0 ≤ n ∧ n ≤ 255 := by
  simp [Lit.wf, IntKind.min, IntKind.max, IntKind.signed, IntKind.bits] at hn
  exact hn
/-- What the law asks of its net. -/
structure NetOk (N : Nat) (l : List Pi) : Prop where
  check : checkP (N : Int) l = 0
  short : l.length ≤ 14
  nodes : ∀ x ∈ l, (0 ≤ x.1 ∧ x.1 < (N : Int)) ∧ (0 ≤ x.2.1 ∧ x.2.1 < (N : Int))
  rooms : ∀ x ∈ l, 0 ≤ x.2.2.1 ∧ x.2.2.1 ≤ 255
theorem net_ok (hN : 1 ≤ N) (hN6 : N ≤ 6) (hl : ∀ x ∈ l, SmallP x) (k : Nat) : NetOk N (pipesTo (N : Int) l k) :=
  ⟨pipes_check hN hN6 hl k, pipesTo_len _ _ _, fun x hx => (pipes_small hN hl k x hx).1, fun x hx => (pipes_small hN hl k x hx).2.1⟩
theorem NetOk.ends (h : NetOk N l) (hs : s < N) (ht : t < N) (hst : s ≠ t) : endsP (N : Int) l (s : Int) (t : Int) = 0 := endsP_zero.2 ⟨h.check, by omega, by omega, by omega⟩
theorem NetOk.ok (h : NetOk N l) : ∀ x ∈ l, okP (N : Int) x = true := (checkP_zero.1 h.check).2
/-- The law's own test of what Most tells. -/
theorem flows_most (h : IsMost l N fl s t much) : flowsV N l ((List.range l.length).map fl) s t = (much, true) := by
  have e : ∀ k, k < l.length → flOf ((List.range l.length).map fl) k = fl k := flOf_rowF rfl
  rw [flowsV_yes ⟨by simp, h.flow.congr (fun k hk => (e k hk).symm)⟩, sumP_fl e, ← h.much]

set_option maxHeartbeats 4000000 in
set_option maxRecDepth 100000 in
theorem flowMosts_walk (P : FlowSpec) (hawake : ∀ w, Calls Try.prog 8 #[] w fun e w' => e = .returned (.bool true) ∧ Below w.heap.size w w')
    (n : Int) (hn : (Lit.int .u8 n).wf = true) (a : Option Addr) (cap : Nat) (p : Int) (hp : (Lit.int .u8 p).wf = true) (q : Int) (hq : (Lit.int .u8 q).wf = true) (w : World) (hbig : len ≤ maxLen) (hl : IsLP w.heap.size w a len l) :
    Calls Try.prog 3 #[.int .u8 n, .slice a len cap, .int .u8 p, .int .u8 q] w fun e w' => e = .returned (.bool true) ∧ Below w.heap.size w w' := by
  unfold maxLen at hbig
  obtain ⟨⟨hn1, hn2⟩, N, hN, hN1, hN6⟩ := law_net hn
  have hp2 := law_u8 hp
  have hq2 := law_u8 hq
  clear hn hp hq
  have HM := Lib.hid (fun W (h : IsLP W.heap.size W a len l) => net_any n hn1 (by omega) a cap W hbig h)
  have HO := Lib.hid (net_ok (N := N) (by omega) hN6 hl.small len)
  have HL := Lib.hid hl; clear hl
  rw [hN] at HM
  clear hN hn1 hn2
  generalize pipesTo (N : Int) l len = xs at HM HO
  have hxl := HO.out.short
  have HP := Lib.hid hp2
  have HQ := Lib.hid hq2
  clear hp2 hq2
  go_enter Try.func3, Try.ntmps3
  go_wp2_with (first
    | (go_at_call 8; refine (hawake _).mono ?_; rintro e w1 ⟨rfl, hb1⟩; have HB1 := Lib.hid hb1; clear hb1)
    | (go_at_call 9; refine (HM.out _ ((HL.out.later HB1.out).mono HB1.out.size)).mono ?_; rintro e w2 ⟨lv, rfl, hrow, hb2⟩; obtain ⟨la, lc, hv⟩ := owns_shape hrow; subst hv; have HB2 := Lib.hid (HB1.out.trans (hb2.mono HB1.out.size)); have HX3 : Hid (NPA w (w2.alloc (.cells #[.int .i64 (N : Int), .slice la xs.length lc] 26)) w2.heap.size N la xs.length lc xs) := Lib.hid ⟨NBox.make HB2.out (N : Int) la xs.length lc, ((owns_pipes hrow).2.later ((Below.refl _ w2).alloc (Nat.le_refl _) (.cells #[.int .i64 (N : Int), .slice la xs.length lc] 26))).mono (by simp)⟩; clear hrow hb2)
    | (go_at_call 10; refine (ends_law N hN1 hN6 p q HP.out HQ.out la xs.length lc _).mono ?_; rintro e w4 ⟨hb4, s, t, rfl, hs, ht, hst⟩; have HX4 := Lib.hid (HX3.out.later hb4); have x0 := HX4.out.box.c0; have x1 := HX4.out.box.c1; have HST := Lib.hid hst; clear hb4 hst)
    | (go_at_call 11; refine (P.most_ok N s t xs.length lc xs la _ (HO.out.ends hs ht HST.out) HX4.out.pipes).mono ?_; rintro e w5 ⟨hb5, v5, fl, much, rfl, hr5, hm5⟩; have HX5 := Lib.hid (HX4.out.later hb5); have y0 := HX5.out.box.c0; have y1 := HX5.out.box.c1; obtain ⟨va, vc, hv5⟩ := owns_shape hr5; subst hv5; have HR5 := Lib.hid hr5.nums0; have HM5 := Lib.hid hm5; clear hb5 hr5 hm5)
    | (go_at_call 12; refine (flows_any (by omega) hxl (fun x hx => (HO.out.rooms x hx).2) hs ht xs.length vc va la lc _ (by omega) HX5.out.pipes HR5.out).mono ?_; rw [flows_most HM5.out]; rintro e w6 ⟨rfl, hb6⟩; have HX6 := Lib.hid (HX5.out.later hb6); have z0 := HX6.out.box.c0; have z1 := HX6.out.box.c1; clear hb6)
    | (go_at_call 13; refine (least_any much hN6 hxl HO.out.nodes HO.out.rooms hs ht (fun S a1 a2 => by rw [HM5.out.much]; exact HM5.out.flow.weak HO.out.ok hs ht HST.out a1 a2) HM5.out.cut la lc _ HX6.out.pipes).mono ?_; rintro e w7 ⟨rfl, hb7⟩; have HX7 := Lib.hid (HX6.out.later hb7); clear hb7))
  go_ret
  exact ⟨rfl, HX7.out.box.below⟩
end Go.Proofs.Ytifhapmblofmkaa

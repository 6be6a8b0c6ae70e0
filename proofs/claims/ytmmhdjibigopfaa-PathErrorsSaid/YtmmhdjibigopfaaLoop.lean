/- Package path: loop, Cycle. -/
import Derived.Test.YtmmhdjibigopfaaWay
namespace Go.Proofs.Ytmmhdjibigopfaa
open Go.RowKit

variable {w wr w2 w4 : World} {a : Option Addr} {len cap g tb gf cf gb cb N i s g' cap' R q on c v : Nat} {l : List Ar} {by_ : Nat → Int} {far : Nat → Option Int} {ws rest : List Int} {d W : Int} {T : Nat → Nat}
/-- As Run.cycle, and how many arcs. -/
theorem Run.cycle2 (h : Run l s far by_ T R q) (hok : ∀ x ∈ l, okA (N : Int) x = true) (hs : s < N) (hv : N ≤ T v) :
    (∀ m, m ≤ N → backs l by_ v m < N) ∧ ∃ ws W, BW l by_ (backs l by_ v N) (backs l by_ v N) ws W ∧ ws ≠ [] ∧ ws.length ≤ N ∧ Comes l s (backs l by_ v N) := by
  have hin : ∀ m, m ≤ N → backs l by_ v m < N := fun m hm => by
    by_cases hmN : m < N
    · exact h.lt hok hs (by have := h.backs_T hv m hm; omega)
    · have hmn : m = N := by omega
      subst hmn
      obtain ⟨k, x, hb⟩ := h.backs_by hv (m := m - 1) (by omega)
      have e : m - 1 + 1 = m := by omega
      rw [e] at hb
      have := okA_true.1 (hok x (List.mem_of_getElem? hb.2.1))
      have := hb.2.2.2
      omega
  obtain ⟨a, b, hab, hb, he⟩ := pigeon N (backs l by_ v) hin
  have hper : ∀ m, b + m ≤ N → backs l by_ v (a + m) = backs l by_ v (b + m) := fun m => by
    induction m with
    | zero => intro _; exact he
    | succ m ih =>
      intro hm
      have := ih (by omega)
      rw [← Nat.add_assoc, ← Nat.add_assoc, backs, backs, this]
  have e1 := hper (N - b) (by omega)
  have e2 : b + (N - b) = N := by omega
  rw [e2] at e1
  obtain ⟨ws, W, h1, h2⟩ := h.backs_bw hv (a := a + (N - b)) (b - a) (by omega)
  have e3 : a + (N - b) + (b - a) = N := by omega
  rw [e3, e1] at h1
  have hne : ws ≠ [] := fun e => by subst e; simp at h2; omega
  refine ⟨hin, ws, W, h1, hne, by omega, ?_⟩
  cases h1 with
  | nil => exact absurd rfl hne
  | snoc hw hb2 =>
    obtain ⟨_, p, d, g1, _⟩ := h.by_of hb2
    obtain ⟨k2, hw2⟩ := h.att _ d g1
    exact hw2.comes

set_option maxHeartbeats 4000000 in
set_option maxRecDepth 100000 in
theorem loop_any (hN : N ≤ 1000) (hok : ∀ x ∈ l, okA (N : Int) x = true) (hon : on < N) {cyc : List Int} (hcyc : BW l by_ on on cyc W) (hne : cyc ≠ []) (hcl : cyc.length ≤ N) (a : Option Addr) (cap : Nat) (w : World)
    (hl : IsArcs w.heap.size w a len l) (hb : IntRow w 0 (.slice (some ⟨gb, 0, none⟩) N cb) N by_) :
    Calls Try.prog 24 #[.agg #[.slice (some ⟨gf, 0, none⟩) N cf, .slice (some ⟨gb, 0, none⟩) N cb], .agg #[.int .i64 (N : Int), .slice a len cap], .int .i64 (on : Int)] w fun e w' =>
      ∃ v ws W2, e = .returned v ∧ w'.ownsRow w.heap.size 3 1 v ws.length (numsV ws) ∧ BW l by_ on on ws W2 ∧ ws ≠ [] ∧ ws.length ≤ N ∧ Below w.heap.size w w' := by
  obtain ⟨i0, hi0, hz0, hz1, hz2⟩ := info_parts infoInt
  have HOK := Lib.hid hok
  have HLl := Lib.hid hl.1
  have HL := Lib.hid hl
  have HB := Lib.hid hb
  have HST : Hid (BW l by_ on on cyc W ∧ ∃ W2, BW l by_ on on ([] : List Int).reverse W2) := Lib.hid ⟨hcyc, 0, .nil⟩
  have HNE := Lib.hid hne
  have HCL : Hid (cyc.length + ([] : List Int).length ≤ N) := Lib.hid (by simpa using hcl)
  have HM0 := Lib.hid (WayM.make w N a len cap gf cf gb cb)
  clear hok hl hb hcyc hne hcl
  go_enter Try.func24, Try.ntmps24
  go_wp2_with fail
  go_loopg [7, 8] cyc.length (fun m lv av wr => ∃ (c : Nat) (rest ws : List Int) (d : Int), av = .int .i64 c ∧ c < N ∧ rest.length = m ∧ Hid (WayM w wr N a len cap gf cf gb cb lv ws) ∧ Hid (BW l by_ on c rest d ∧ ∃ W2, BW l by_ c on ws.reverse W2) ∧ Hid (ws = [] → rest ≠ []) ∧ Hid (rest.length + ws.length ≤ N))
  case atStart => exact ⟨on, cyc, [], W, rfl, hon, rfl, HM0, HST, Lib.hid (fun _ => HNE.out), HCL⟩
  case round =>
    obtain ⟨c, rest, ws, d, rfl, hcN, hrm, HM, HS, HE, HC⟩ := hrel
    clear HM0 HST HNE HCL
    have u1 : (0 : Int) ≤ (c : Int) := by omega
    have u2 : (c : Int) < (N : Int) := by omega
    obtain ⟨va, vc, hv⟩ := owns_shape HM.out.row
    have hwl : ws.length ≤ N := by have := HC.out; omega
    subst hv
    by_cases hx : ws ≠ [] ∧ c = on
    · obtain ⟨hw0, rfl⟩ := hx
      obtain ⟨W2, hbw⟩ := HS.out.2
      have HBW := Lib.hid hbw
      have HW0 := Lib.hid hw0
      have hwp : ¬ ws.length = 0 := fun e => hw0 (List.eq_nil_of_length_eq_zero e)
      have hwb : (ws.length == 0) = false := by simpa using hwp
      have hwc : ((ws.length : Int) == 0) = false := by simp; exact hw0
      clear hbw hw0
      go_wp2_with (go_at_call 34; refine (reverse_owns HM.out.row rfl (by omega)).mono ?_; rintro e w5 ⟨rfl, ho5, hm5⟩; have HM5 := Lib.hid (HM.out.mod hm5 (v2 := .slice va ws.length vc) (ws2 := ws.reverse) ho5); clear ho5 hm5)
      go_ret
      exact ⟨_, ws.reverse, W2, rfl, owns_rebase HM5.out.row (by omega), HBW.out, by have := HW0.out; simpa using this, by rw [List.length_reverse]; exact hwl, HM5.out.box.below⟩
    · have hrne : rest ≠ [] := fun e => by
        by_cases h0 : ws = []
        · exact HE.out h0 e
        · exact hx ⟨h0, ((HS.out.1.empty e).1)⟩
      have hex : ∃ (k f : Nat) (x : Ar) (r : List Int) (d : Int), rest = r ++ [(k : Int)] ∧ ByOf l by_ c f k x ∧ BW l by_ on f r d := by
        obtain ⟨h1, _⟩ := HS.out
        cases h1 with
        | nil => exact absurd rfl hrne
        | snoc h hb2 => exact ⟨_, _, _, _, _, rfl, hb2, h⟩
      obtain ⟨k, f, x, r, d2, hre, hby, hwr⟩ := hex
      subst hre
      obtain ⟨W2, hbw⟩ := HS.out.2
      have HS2 : Hid (BW l by_ on f r d2 ∧ ∃ W2, BW l by_ f on (ws ++ [(k : Int)]).reverse W2) := Lib.hid ⟨hwr, _, ((BW.one hby).append hbw).turn (by simp) rfl⟩
      have HE2 : Hid (ws ++ [(k : Int)] = [] → r ≠ []) := Lib.hid (fun e => by simp at e)
      have HC2 : Hid (r.length + (ws ++ [(k : Int)]).length ≤ N) := Lib.hid (by have := HC.out; simp at this ⊢; omega)
      have hwN : ws.length < N := by have := HC.out; simp at this; omega
      have hxo := okA_true.1 (HOK.out x (List.mem_of_getElem? hby.2.1))
      have hfN : f < N := by have := hby.2.2.2; omega
      have HXK := Lib.hid hby.2.1
      have HXF := Lib.hid hby.2.2.2
      have x2 := (HB.out.below HM.out.box.below).cell hcN
      rw [hby.1] at x2
      have hkl : k < len := by have h1 := (List.getElem?_eq_some_iff.1 hby.2.1).1; have h2 := HLl.out; omega
      have hsome : ∃ b off, a = some ⟨b, off, none⟩ := by
        obtain ⟨b, off, _, e, _⟩ := HL.out.at_ hkl
        exact ⟨b, off, e⟩
      obtain ⟨b, off, rfl⟩ := hsome
      have x1 := HM.out.t1
      simp at hrm
      clear hwr hbw hby hxo hrne HS HE HC
      have u3 : (0 : Int) ≤ (k : Int) := by omega
      have u4 : (k : Int) < (len : Int) := by omega
      have HO3 := Lib.hid (HM.out.row.alloc (.cells #[.int .i64 (k : Int)] 3))
      have HMA := Lib.hid (HM.out.later ((Below.refl wr.heap.size wr).alloc (Nat.le_refl _) (.cells #[.int .i64 (k : Int)] 3)))
      have HCl : Hid (w.heap.size + 1 < wr.heap.size) := Lib.hid HM.out.box.lt
      by_cases hw0 : ws = []
      · subst hw0
        go_wp2_with (at_builtin; refine wpList_append_fresh rfl (.tmp 24) (.tmp 26) 29 rfl (w.heap.size + 2) 3 i0 _ 1 8 Try.underlying29 hi0 hz0 hz1 hz2 (by decide) (.slice va ([] : List Int).length vc) ([] : List Int).length (numsV ([] : List Int)) rfl HO3.out ⟨wr.heap.size, 0, none⟩ 1 [.int .i64 (k : Int)] rfl rfl (news_at _ _ _ _ rfl) (one_int _) (by unfold maxLen; omega) (by omega) (by have := HCl.out; simp; omega) ?_; intro g' cap' w5 hown hgrow hfr; have HM5 := Lib.hid (HMA.out.mod (v2 := .slice (some ⟨g', 0, none⟩) (([] : List Int).length + 1) cap') (ws2 := ([] : List Int) ++ [(k : Int)]) ((Mod.refl _ _).grown hgrow (fun k hk => .inr hk)) (by rw [List.length_append, numsV_snoc]; exact hown)); have y1 := HM5.out.box.c1; obtain ⟨y2, _, _⟩ := (HM5.out.box.arcs HL.out).get HXK.out; rw [HXF.out] at y2; clear hown hgrow hfr)
        go_roundg r.length
        case measure => omega
        case rel => exact ⟨f, r, _, _, rfl, hfN, rfl, HM5, HS2, HE2, HC2⟩
      · have hco : ¬ c = on := fun e => hx ⟨hw0, e⟩
        have hcb : (c == on) = false := by simpa using hco
        have hcc : ((c : Int) != (on : Int)) = true := by simp; omega
        have hwp : ¬ ws.length = 0 := fun e => hw0 (List.eq_nil_of_length_eq_zero e)
        have hwb : (ws.length == 0) = false := by simpa using hwp
        have hwc : ((ws.length : Int) == 0) = false := by simp; exact hw0
        clear hx hw0
        go_wp2_with (at_builtin; refine wpList_append_fresh rfl (.tmp 24) (.tmp 26) 29 rfl (w.heap.size + 2) 3 i0 _ 1 8 Try.underlying29 hi0 hz0 hz1 hz2 (by decide) (.slice va ws.length vc) ws.length (numsV ws) rfl HO3.out ⟨wr.heap.size, 0, none⟩ 1 [.int .i64 (k : Int)] rfl rfl (news_at _ _ _ _ rfl) (one_int _) (by unfold maxLen; omega) (by omega) (by have := HCl.out; simp; omega) ?_; intro g' cap' w5 hown hgrow hfr; have HM5 := Lib.hid (HMA.out.mod (v2 := .slice (some ⟨g', 0, none⟩) (ws.length + 1) cap') (ws2 := ws ++ [(k : Int)]) ((Mod.refl _ _).grown hgrow (fun k hk => .inr hk)) (by rw [List.length_append, numsV_snoc]; exact hown)); have y1 := HM5.out.box.c1; obtain ⟨y2, _, _⟩ := (HM5.out.box.arcs HL.out).get HXK.out; rw [HXF.out] at y2; clear hown hgrow hfr)
        go_roundg r.length
        case measure => omega
        case rel => exact ⟨f, r, _, _, rfl, hfN, rfl, HM5, HS2, HE2, HC2⟩
end Go.Proofs.Ytmmhdjibigopfaa

/- Package path: Way. -/
import Derived.Test.YtmmhdjibigopfaaRev
namespace Go.Proofs.Ytmmhdjibigopfaa
open Go.RowKit

variable {w wr w2 w4 : World} {a : Option Addr} {len cap g tb gf cf gb cb N i s g' cap' : Nat} {l : List Ar} {by_ : Nat → Int} {far : Nat → Option Int} {ws rest : List Int} {d : Int} {v : Value}
theorem Box.kept2 {S : Nat → Prop} {n : Int} (h : Box w wr g n a len cap) (hm : Mod S wr w2) (hS : ∀ k, S k → w.heap.size ≤ k) (hg : ¬ S g) : Box w w2 g n a len cap :=
  ⟨((Mod.of_below S h.below).trans hm).below (Nat.le_refl _) hS, h.ge, (hm.block g h.lt hg).trans h.blk⟩
/-- A way's nodes: one for each number of arcs. -/
theorem WayBy.nodes (h : WayBy l s by_ i ws d) : ∃ v : Nat → Nat, ∀ t, t ≤ ws.length → ∃ e, WayBy l s by_ (v t) (ws.take t) e := by
  induction h with
  | nil =>
    refine ⟨fun _ => s, fun t ht => ⟨0, ?_⟩⟩
    rw [List.take_nil]
    exact .nil
  | snoc h hb hx h1 h2 hi ih =>
    rename_i f i k x r d
    obtain ⟨v, hv⟩ := ih
    refine ⟨fun t => if t ≤ r.length then v t else i, fun t ht => ?_⟩
    by_cases e : t ≤ r.length
    · simp only [e, if_true]
      obtain ⟨d2, h3⟩ := hv t e
      exact ⟨d2, by rw [List.take_append_of_le_length e]; exact h3⟩
    · simp only [e, if_false]
      simp at ht
      exact ⟨_, by rw [List.take_of_length_le (by simp; omega)]; exact h.snoc hb hx h1 h2 hi⟩
/-- It has fewer arcs than there are nodes. -/
theorem WayBy.short (hok : ∀ x ∈ l, okA (N : Int) x = true) (hs : s < N) (h : WayBy l s by_ i ws d) : ws.length < N := by
  by_cases hl : ws.length < N
  · exact hl
  · obtain ⟨v, hv⟩ := h.nodes
    obtain ⟨p, q, hpq, hq, he⟩ := pigeon N v (fun t ht => by
      obtain ⟨e, h2⟩ := hv t (by omega)
      exact h2.walk.lt hok hs)
    obtain ⟨e1, h1⟩ := hv p (by omega)
    obtain ⟨e2, h2⟩ := hv q (by omega)
    rw [he] at h1
    have := (h1.only h2).1
    have h3 := congrArg List.length this
    simp at h3
    omega
/-- What Way has: the tree's box, the graph's, the row that grows. -/
structure WayM (w wr : World) (N : Nat) (a : Option Addr) (len cap gf cf gb cb : Nat) (v : Value) (ws : List Int) : Prop where
  box : Box w wr (w.heap.size + 1) (N : Int) a len cap
  tr : wr.heap[w.heap.size]? = some (.cells #[.slice (some ⟨gf, 0, none⟩) N cf, .slice (some ⟨gb, 0, none⟩) N cb] 31 (0, 0))
  row : wr.ownsRow (w.heap.size + 2) 3 1 v ws.length (numsV ws)
theorem WayM.later (h : WayM w wr N a len cap gf cf gb cb v ws) (hb : Below wr.heap.size wr w2) : WayM w w2 N a len cap gf cf gb cb v ws :=
  ⟨h.box.later hb, (hb.block _ (Array.getElem?_eq_some_iff.1 h.tr).1).trans h.tr, owns_below h.row hb⟩
theorem WayM.mod {v2 : Value} {ws2 : List Int} (h : WayM w wr N a len cap gf cf gb cb v ws) (hm : Mod (fun k => v.ownBlock = some k) wr w2) (h2 : w2.ownsRow (w.heap.size + 2) 3 1 v2 ws2.length (numsV ws2)) : WayM w w2 N a len cap gf cf gb cb v2 ws2 := by
  have hlt : ∀ k, v.ownBlock = some k → w.heap.size + 2 ≤ k := fun k hk => (World.ownsRow.lt h.row k hk).1
  refine ⟨h.box.kept2 hm (fun k hk => by have := hlt k hk; omega) (fun hk => by have := hlt _ hk; omega), ?_, h2⟩
  rw [hm.block _ (Array.getElem?_eq_some_iff.1 h.tr).1 (fun hk => by have := hlt _ hk; omega)]
  exact h.tr
theorem WayM.t1 (h : WayM w wr N a len cap gf cf gb cb v ws) : wr.cell? ⟨w.heap.size, 1, none⟩ = some (.slice (some ⟨gb, 0, none⟩) N cb) := by simp [World.cell?, h.tr]
theorem WayM.make (w : World) (N : Nat) (a : Option Addr) (len cap gf cf gb cb : Nat) : WayM w ((w.alloc (.cells #[.slice (some ⟨gf, 0, none⟩) N cf, .slice (some ⟨gb, 0, none⟩) N cb] 31)).alloc (.cells #[.int .i64 (N : Int), .slice a len cap] 26)) N a len cap gf cf gb cb (.slice none 0 0) [] := by
  refine ⟨?_, heap_alloc2_old _ _ _, World.ownsRow_nil _ _ _ 1⟩
  have h := Box.make ((Below.refl w.heap.size w).alloc (Nat.le_refl _) (.cells #[.slice (some ⟨gf, 0, none⟩) N cf, .slice (some ⟨gb, 0, none⟩) N cb] 31)) (N : Int) a len cap
  simpa using h

set_option maxHeartbeats 4000000 in
set_option maxRecDepth 100000 in
theorem way_ok (N s len cap i : Nat) (l : List Ar) (a : Option Addr) (w : World) (far : Nat → Option Int) (by_ : Nat → Int) (gf cf gb cb : Nat) (hs : s < N) (hi : i < N) (hc : checkV (N : Int) l = 0)
    (hroot : by_ s = -1) (_hz : far s ≠ none) (hoff : ∀ i, far i = none → by_ i = -1) (hch : ∀ i d, far i = some d → ∃ ws e, WayBy l s by_ i ws e) (_hpast : ∀ i, ¬ i < N → far i = none) (hl : IsArcs w.heap.size w a len l)
    (_hf : LongRow w 0 (.slice (some ⟨gf, 0, none⟩) N cf) N (valI far)) (hb : IntRow w 0 (.slice (some ⟨gb, 0, none⟩) N cb) N by_) :
    Calls Try.prog 19 #[.agg #[.slice (some ⟨gf, 0, none⟩) N cf, .slice (some ⟨gb, 0, none⟩) N cb], .agg #[.int .i64 (N : Int), .slice a len cap], .int .i64 (i : Int)] w fun e w' =>
      ∃ v ws, e = .returned v ∧ w'.ownsRow w.heap.size 3 1 v ws.length (numsV ws) ∧ WayIs l s far by_ i ws ∧ ws.length ≤ 1002 ∧ Below w.heap.size w w' := by
  obtain ⟨i0, hi0, hz0, hz1, hz2⟩ := info_parts infoInt
  obtain ⟨hN, hok⟩ := checkV_zero.1 hc
  have hN2 : N ≤ 1000 := by omega
  have hll := hl.1
  have hlen : len ≤ 20000 := by omega
  have HOK := Lib.hid hok
  have HLl := Lib.hid hll
  have HL := Lib.hid hl
  have HB := Lib.hid hb
  have HROOT := Lib.hid hroot
  have hW : ∃ tot, WayIs l s far by_ i tot ∧ ((∃ e, WayBy l s by_ i tot e) ∨ (tot = [] ∧ by_ i = -1)) := by
    cases e : far i with
    | none => exact ⟨[], ⟨fun _ => rfl, (fun d hd => by rw [e] at hd; cases hd)⟩, .inr ⟨rfl, hoff i e⟩⟩
    | some d =>
      obtain ⟨ws, e2, hw⟩ := hch i d e
      exact ⟨ws, ⟨(fun hn => by rw [e] at hn; cases hn), fun d2 _ => ⟨e2, hw⟩⟩, .inl ⟨e2, hw⟩⟩
  obtain ⟨tot, htot, hor⟩ := hW
  have HT := Lib.hid htot
  have htl : tot.length ≤ 1000 := by
    rcases hor with ⟨e, hw⟩ | ⟨e, _⟩
    · have := hw.short hok hs; omega
    · subst e; simp
  have htl2 : tot = [] ∨ tot.length < N := by
    rcases hor with ⟨e, hw⟩ | ⟨e, _⟩
    · exact .inr (hw.short hok hs)
    · exact .inl e
  have HTL := Lib.hid htl
  have HTL2 := Lib.hid htl2
  have hst : ∃ (c : Nat) (rest : List Int), c = i ∧ c < N ∧ tot = rest ++ ([] : List Int).reverse ∧ ((∃ e, WayBy l s by_ c rest e) ∨ (rest = [] ∧ by_ c = -1)) := ⟨i, tot, rfl, hi, by simp, hor⟩
  obtain ⟨c0, rest0, hc0, hcN, hrt, hor0⟩ := hst
  have HOR := Lib.hid hor0
  have HRT := Lib.hid hrt
  have HM0 := Lib.hid (WayM.make w N a len cap gf cf gb cb)
  clear htl2 hc hok hll hl hb hroot _hz hoff hch _hpast _hf hor htot htl hor0 hrt hN hi
  subst hc0
  have hN1 : (0 : Int) ≤ (N : Int) := by omega
  go_enter Try.func19, Try.ntmps19
  go_wp2_with fail
  go_loopg [7, 8] rest0.length (fun m lv av wr => ∃ (c : Nat) (rest ws : List Int), av = .int .i64 c ∧ c < N ∧ rest.length = m ∧ Hid (WayM w wr N a len cap gf cf gb cb lv ws) ∧ Hid (tot = rest ++ ws.reverse) ∧ Hid ((∃ e, WayBy l s by_ c rest e) ∨ (rest = [] ∧ by_ c = -1)))
  case atStart => exact ⟨_, _, [], rfl, hcN, rfl, HM0, HRT, HOR⟩
  case round =>
    obtain ⟨c, rest, ws, rfl, hcN2, hrm, HM, HT2, HO⟩ := hrel
    clear HM0 HRT HOR
    have u1 : (0 : Int) ≤ (c : Int) := by omega
    have u2 : (c : Int) < (N : Int) := by omega
    have x0 := HM.out.t1
    have x1 := HM.out.box.c1
    have x2 := (HB.out.below HM.out.box.below).cell hcN2
    by_cases hk : by_ c = -1
    · rw [hk] at x2
      have hre : rest = [] := by
        rcases HO.out with ⟨e, hw⟩ | ⟨e, _⟩
        · cases hw with
          | nil => rfl
          | snoc _ hb2 => omega
        · exact e
      have HTE : Hid (tot = ws.reverse) := Lib.hid (by rw [HT2.out, hre]; rfl)
      clear hk hre
      obtain ⟨va, vc, hv⟩ := owns_shape HM.out.row
      have hwl : ws.length ≤ 1000 := by have h1 := HTL.out; have h2 := congrArg List.length HTE.out; simp at h2; omega
      subst hv
      go_wp2_with (go_at_call 34; refine (reverse_owns HM.out.row rfl (by omega)).mono ?_; rintro e w5 ⟨rfl, ho5, hm5⟩; have HM5 := Lib.hid (HM.out.mod hm5 (v2 := .slice va ws.length vc) (ws2 := ws.reverse) ho5); clear ho5 hm5)
      go_ret
      exact ⟨_, tot, rfl, by rw [HTE.out]; exact owns_rebase HM5.out.row (by omega), HT.out, by have := HTL.out; omega, HM5.out.box.below⟩
    · have hex : ∃ (k f : Nat) (x : Ar) (r : List Int) (d : Int), rest = r ++ [(k : Int)] ∧ by_ c = (k : Int) ∧ l[k]? = some x ∧ x.1 = (f : Int) ∧ WayBy l s by_ f r d := by
        rcases HO.out with ⟨e, hw⟩ | ⟨_, e⟩
        · cases hw with
          | nil => exact absurd HROOT.out hk
          | snoc h hb2 hx h1 h2 hi => exact ⟨_, _, _, _, _, rfl, hb2, hx, h1, h⟩
        · exact absurd e hk
      obtain ⟨k, f, x, r, d, hre, hbk, hxk, hxf, hwr⟩ := hex
      subst hre
      rw [hbk] at x2
      have hkl : k < len := by have h1 := (List.getElem?_eq_some_iff.1 hxk).1; have h2 := HLl.out; omega
      obtain ⟨b, off, x', rfl, hbb, hx', e0, e1, e2⟩ := (HM.out.box.arcs HL.out).at_ hkl
      rw [hxk] at hx'
      cases hx'
      rw [hxf] at e0
      have hfN : f < N := hwr.walk.lt HOK.out hs
      have HO2 : Hid ((∃ e, WayBy l s by_ f r e) ∨ (r = [] ∧ by_ f = -1)) := Lib.hid (.inl ⟨_, hwr⟩)
      have HT3 : Hid (tot = r ++ (ws ++ [(k : Int)]).reverse) := Lib.hid (by rw [HT2.out]; simp)
      have hwN : ws.length < N := by
        rcases HTL2.out with h1 | h1
        · rw [HT2.out] at h1; simp at h1
        · have h2 := congrArg List.length HT2.out; simp at h2; omega
      simp at hrm
      have HXK := Lib.hid hxk
      have HXF := Lib.hid hxf
      clear hk hbk hxk hxf hwr hbb HO HT2 e1 e2
      obtain ⟨va, vc, hv⟩ := owns_shape HM.out.row
      subst hv
      have u3 : (0 : Int) ≤ (k : Int) := by omega
      have u4 : (k : Int) < (len : Int) := by omega
      have u5 : decide ((k : Int) < 0) = false := by simp
      have u6 : decide (len ≤ k) = false := by simp; omega
      have u7 : ¬ ws.length = N := by omega
      have u8 : (ws.length == N) = false := by simpa using u7
      have HO3 := Lib.hid (HM.out.row.alloc (.cells #[.int .i64 (k : Int)] 3))
      have HMA := Lib.hid (HM.out.later ((Below.refl wr.heap.size wr).alloc (Nat.le_refl _) (.cells #[.int .i64 (k : Int)] 3)))
      have HCl : Hid (w.heap.size + 1 < wr.heap.size) := Lib.hid HM.out.box.lt
      go_wp2_with (at_builtin; refine wpList_append_fresh rfl (.tmp 40) (.tmp 42) 29 rfl (w.heap.size + 2) 3 i0 _ 1 8 Try.underlying29 hi0 hz0 hz1 hz2 (by decide) (.slice va ws.length vc) ws.length (numsV ws) rfl HO3.out ⟨wr.heap.size, 0, none⟩ 1 [.int .i64 (k : Int)] rfl rfl (news_at _ _ _ _ rfl) (one_int _) (by unfold maxLen; omega) (by omega) (by have := HCl.out; simp; omega) ?_; intro g' cap' w5 hown hgrow hfr; have HM5 := Lib.hid (HMA.out.mod (v2 := .slice (some ⟨g', 0, none⟩) (ws.length + 1) cap') (ws2 := ws ++ [(k : Int)]) ((Mod.refl _ _).grown hgrow (fun k hk => .inr hk)) (by rw [List.length_append, numsV_snoc]; exact hown)); have y1 := HM5.out.box.c1; obtain ⟨y2, _, _⟩ := (HM5.out.box.arcs HL.out).get HXK.out; rw [HXF.out] at y2; clear hown hgrow hfr)
      go_roundg r.length
      case measure => omega
      case rel => exact ⟨f, r, _, rfl, hfN, rfl, HM5, HT3, HO2⟩
end Go.Proofs.Ytmmhdjibigopfaa

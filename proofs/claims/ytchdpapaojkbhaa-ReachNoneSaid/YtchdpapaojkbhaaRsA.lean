/- Joined: RShort, RHas, ROut, RReady, RServe, ReachIs. -/
import Derived.Test.YtchdpapaojkbhaaNwA
import Derived.Test.YtchdpapaojkbhaaWyA
import Derived.Test.YtchdpapaojkbhaaRcA
import Derived.Test.YtchdpapaojkbhaaTuA
import Derived.Test.YtchdpapaojkbhaaIChA
import Derived.Laws.EntriesVeiled
import Derived.StillTailTactics
import Derived.Test.YtchdpapaojkbhaaBtA
import Derived.Deep.QuietTactic
import Derived.BigQuiet
section
/- Package reach: shortest; what it tells by the words of chapter 14. -/
namespace Go.Proofs.Ytchdpapaojkbhaa
open Go.RowKit

variable {w w2 : World} {T : Nat → Nat → Int} {N i k s c len cap : Nat} {l : List Ar} {W : Nat → Nat → Option Int} {far : Nat → Option Int} {dn : Nat → Bool} {a : Option Addr} {x : Ins} {d : Int}
/-- A row of far numbers, from place 1 on. -/
def ShortP (l : List Ar) (N : Nat) (w : World) (e : Ending) (w' : World) : Prop := Below w.heap.size w w' ∧ ∃ (gf cf c : Nat) (far : Nat → Option Int) (dn : Nat → Bool), e = .returned (.slice (some ⟨gf, 1, none⟩) (N - 1) c) ∧
  LongRow w' w.heap.size (.slice (some ⟨gf, 0, none⟩) N cf) N (valI far) ∧ SrchH l 0 N far dn []
set_option maxHeartbeats 1000000 in
theorem shortest_any (hN : 2 ≤ N) (a : Option Addr) (cap : Nat) (w : World) (hc : checkV (N : Int) l = 0) (hw0 : ∀ x ∈ l, 0 ≤ x.2.2) (hl : IsArcs w.heap.size w a len l) :
    Calls Try.prog 25 #[.agg #[.int .i64 (N : Int), .slice a len cap]] w (ShortP l N w) := by
  have HG := Lib.hid (Box.make (Below.refl _ w) (N : Int) a len cap)
  have HNR := Lib.hid (fun (W' : World) (h : IsArcs W'.heap.size W' a len l) => near_ok N 0 len cap l a W' (by omega) hc hw0 h)
  have HL := Lib.hid hl
  clear hc hw0 hl
  go_enter Try.func25, Try.ntmps25
  go_wp2_with fail
  refine (HNR.out _ (HG.out.arcsHere HL.out)).mono ?_
  rintro e w2 ⟨hb2, gf, cf, vb, far, dn, by_, rfl, hf, hI, hS⟩
  obtain ⟨va, vc, hv⟩ := owns_shape hI
  subst hv
  obtain ⟨g2, c2, e2, _, _, hc1, hc2⟩ := owns_some hf (by omega)
  obtain rfl : cf = c2 := by injection e2
  have hca : ¬ cf = 1 := by omega
  have hcl : ¬ N < 1 := by omega
  have hcn : N ≤ cf := by omega
  have HB2 := Lib.hid (HG.out.below.trans (hb2.mono HG.out.below.size))
  have HF2 := Lib.hid ((hf.below ((Below.refl _ _).alloc (Nat.le_refl _) (.cells #[.slice (some ⟨gf, 0, none⟩) N cf, .slice va N vc] 84))).rebase HG.out.below.size)
  have HS2 := Lib.hid hS
  clear hf hS hb2 e2 hc1 hc2 hI
  go_wp2_with fail
  go_ret
  exact ⟨HB2.out.alloc HB2.out.size _, gf, cf, _, far, dn, rfl, HF2.out, HS2.out⟩
/-! ### What is told -/
theorem SrchH.told (h : SrchH l 0 N far dn []) (ha : ArcsOf l W) (hok : ∀ x ∈ l, okA (N : Int) x = true) (hN : 0 < N) {e : Int} (hw : W 0 i = some e) : ∃ d, far i = some d ∧ valI far i = d ∧ LeastW W 0 i d := by
  obtain ⟨d, h1, h2⟩ := ha.found h.base h.led hok hN hw
  exact ⟨d, h1, valI_some h1, h2⟩
theorem turned_of (ha : ArcsOf l W) : ArcsOf (turned l) (fun i k => W k i) := ⟨fun x hx => by
  unfold turned at hx
  rw [List.mem_map] at hx
  obtain ⟨y, hy, rfl⟩ := hx
  obtain ⟨i, k, h1, h2, h3⟩ := ha.arc y hy
  exact ⟨k, i, h2, h1, h3⟩, fun i k c h => by
  obtain ⟨y, hy, h1, h2, h3⟩ := ha.all k i c h
  exact ⟨_, List.mem_map.2 ⟨y, hy, rfl⟩, h2, h1, h3⟩⟩
theorem turned_ok (hc : checkV (N : Int) l = 0) (hw0 : ∀ x ∈ l, 0 ≤ x.2.2) : checkV (N : Int) (turned l) = 0 ∧ ∀ x ∈ turned l, 0 ≤ x.2.2 := by
  obtain ⟨h1, h2⟩ := checkV_zero.1 hc
  refine ⟨checkV_zero.2 ⟨by unfold turned; rw [List.length_map]; exact h1, fun x hx => ?_⟩, fun x hx => ?_⟩
  · unfold turned at hx
    rw [List.mem_map] at hx
    obtain ⟨y, hy, rfl⟩ := hx
    have := okA_true.1 (h2 y hy)
    exact okA_true.2 ⟨this.2.1, this.1, this.2.2⟩
  · unfold turned at hx
    rw [List.mem_map] at hx
    obtain ⟨y, hy, rfl⟩ := hx
    exact hw0 y hy
/-! ### By trucks -/
theorem trucks_in (hm : May x) : ∀ i k, i < 1 + x.sats.length → k < 1 + x.sats.length → 0 ≤ tmI x i k ∧ tmI x i k ≤ 1099511627776 := fun i k hi hk => by
  have hn : x.nodes = 1 + x.sats.length + x.cus.length := rfl
  have := hm.tm_in (i := i) (k := k) (by omega) (by omega)
  omega
theorem trucks_least (hi : i < 1 + x.sats.length) (h : LeastW (fullW (tmI x) (1 + x.sats.length)) 0 i d) : LeastW (arcS x) 0 i d := by
  have hn : x.nodes = 1 + x.sats.length + x.cus.length := rfl
  refine LeastW.named (f := fun i => i) (N := 1 + x.sats.length) (fun i k c hc => ?_) (fun i k c hc => ?_) (fun a b _ _ e => e) (by omega) hi h
  · obtain ⟨⟨h1, h2, h3⟩, rfl⟩ := fullW_some.1 hc
    exact arcW_some.2 ⟨⟨by omega, by omega, h3, by simp [inS]; omega, by simp [inS]; omega⟩, by omega⟩
  · obtain ⟨⟨h1, h2, h3, h4, h5⟩, rfl⟩ := arcW_some.1 hc
    simp only [inS, decide_eq_true_eq] at h4 h5
    exact ⟨i, k, rfl, rfl, h4, h5, fullW_some.2 ⟨⟨h4, h5, h3⟩, by omega⟩⟩
/-! ### By bikes -/
theorem bikes_in (hm : May x) (hs : s < x.sats.length) : ∀ i k, i < 1 + x.cus.length → k < 1 + x.cus.length → 0 ≤ takeP x s i k ∧ takeP x s i k ≤ 1099511627776 := fun i k hi hk => by
  have h1 := nodeP_lt hs hi
  have h2 := nodeP_lt hs hk
  have := hm.tm_in h1 h2
  have := hm.sty_in h1
  unfold takeP
  omega
theorem nodeP_inj (hs : s < x.sats.length) {a b : Nat} (e : nodeP x s a = nodeP x s b) : a = b := by
  unfold nodeP at e
  split at e <;> split at e <;> omega
theorem nodeP_in : inC x s (nodeP x s i) = true := by
  unfold nodeP inC
  split
  · simp
  · simp; omega
theorem bikes_named (hs : s < x.sats.length) : (∀ i k c, fullW (takeP x s) (1 + x.cus.length) i k = some c → arcC x s (nodeP x s i) (nodeP x s k) = some c) ∧
    ∀ i k c, arcC x s i k = some c → ∃ a b, i = nodeP x s a ∧ k = nodeP x s b ∧ a < 1 + x.cus.length ∧ b < 1 + x.cus.length ∧ fullW (takeP x s) (1 + x.cus.length) a b = some c := by
  have hn : x.nodes = 1 + x.sats.length + x.cus.length := rfl
  refine ⟨fun i k c hc => ?_, fun i k c hc => ?_⟩
  · obtain ⟨⟨h1, h2, h3⟩, rfl⟩ := fullW_some.1 hc
    exact arcW_some.2 ⟨⟨nodeP_lt hs h1, nodeP_lt hs h2, fun e => h3 (nodeP_inj hs e), nodeP_in, nodeP_in⟩, rfl⟩
  · obtain ⟨⟨h1, h2, h3, h4, h5⟩, rfl⟩ := arcW_some.1 hc
    have place : ∀ j, j < x.nodes → inC x s j = true → ∃ p, j = nodeP x s p ∧ p < 1 + x.cus.length := fun j hj hin => by
      simp only [inC, Bool.or_eq_true, decide_eq_true_eq] at hin
      rcases hin with e | e
      · exact ⟨0, e, by omega⟩
      · exact ⟨j - x.sats.length, by rw [nodeP_pos (by omega)]; omega, by omega⟩
    obtain ⟨a, rfl, ha⟩ := place i h1 h4
    obtain ⟨b, rfl, hb⟩ := place k h2 h5
    exact ⟨a, b, rfl, rfl, ha, hb, fullW_some.2 ⟨⟨ha, hb, fun e => h3 (by rw [e])⟩, rfl⟩⟩
theorem bikes_out (hs : s < x.sats.length) (hc : c < x.cus.length) (h : LeastW (fullW (takeP x s) (1 + x.cus.length)) 0 (1 + c) d) : LeastW (arcC x s) (1 + s) (1 + x.sats.length + c) d := by
  have h2 := LeastW.named (f := nodeP x s) (bikes_named hs).1 (bikes_named hs).2 (fun a b _ _ e => nodeP_inj hs e) (by omega) (by omega) h
  rw [nodeP_zero, nodeP_pos (by omega), show x.sats.length + (1 + c) = 1 + x.sats.length + c by omega] at h2
  exact h2
theorem bikes_back (hs : s < x.sats.length) (hc : c < x.cus.length) (h : LeastW (fun i k => fullW (takeP x s) (1 + x.cus.length) k i) 0 (1 + c) d) : LeastW (arcC x s) (1 + x.sats.length + c) (1 + s) d := by
  have h1 := h.back (W2 := fullW (takeP x s) (1 + x.cus.length)) (fun i j c => Iff.rfl)
  have h2 := LeastW.named (f := nodeP x s) (bikes_named hs).1 (bikes_named hs).2 (fun a b _ _ e => nodeP_inj hs e) (by omega) (by omega) h1
  rw [nodeP_zero, nodeP_pos (by omega), show x.sats.length + (1 + c) = 1 + x.sats.length + c by omega] at h2
  exact h2
/-- A row from place 1 on, as numbers. -/
theorem nums_short {gf cf : Nat} {f : Nat → Int} {B : Nat} (h : LongRow w B (.slice (some ⟨gf, 0, none⟩) N cf) N f) (hN : 2 ≤ N) : IsNums w.heap.size w (some ⟨gf, 1, none⟩) (N - 1) ((List.range (N - 1)).map (fun j => f (1 + j))) :=
  ⟨by simp, .inr ⟨gf, 1, rfl, h.base_.2, fun j v hj => by
    rw [List.getElem?_map] at hj
    by_cases hjn : j < N - 1
    · rw [List.getElem?_range hjn] at hj
      simp only [Option.map_some, Option.some.injEq] at hj
      subst hj
      exact h.cell (by omega)
    · rw [List.getElem?_eq_none (by simp; omega)] at hj
      cases hj⟩⟩
end Go.Proofs.Ytchdpapaojkbhaa
end
section
/- Package reach: has, rounds; Out and Back. -/
namespace Go.Proofs.Ytchdpapaojkbhaa
open Go.RowKit

variable {w wr w2 : World} {A : InA} {x : Ins} {B g sb nb s i k p q : Nat}
set_option maxHeartbeats 1000000 in
theorem has_sat (A : InA) (x : Ins) (w : World) (hi : IsIns w.heap.size w A x) (hm : May x) (hs : s < x.sats.length) :
    Calls Try.prog 30 #[.agg (insC A x), .int .i64 (s : Int)] w fun e w' => e = .returned (.bool true) ∧ Below w.heap.size w w' := by
  have HX := Lib.hid (XBox.make (Below.refl _ w) A x)
  have HE := Lib.hid hm.err
  have HC := Lib.hid (fun (W : World) (h : IsIns W.heap.size W A x) => check_wide A x W h (by have := hm.lc; have := nodes_61 hm; omega) (by have := hm.lt; have := nodes_61 hm; omega))
  have HI := Lib.hid hi
  have HS := Lib.hid hs
  clear hi hm hs
  unfold insC at HC HX ⊢
  go_enter Try.func30, Try.ntmps30
  go_wp2_with (go_at_call 19; refine (HC.out _ (HX.out.pipesHere HI.out)).mono ?_; rw [HE.out]; rintro e w2 ⟨rfl, hb2⟩; have HX2 := Lib.hid (HX.out.later hb2); obtain ⟨-, -, -, -, -, c5, -, -, -⟩ := HX2.out.cells; clear hb2)
  go_ret
  exact ⟨by show Ending.returned (.bool (decide (s < x.sats.length))) = _; rw [decide_eq_true HS.out], HX2.out.below⟩
set_option maxHeartbeats 1000000 in
theorem has_none (A : InA) (x : Ins) (t : Int) (w : World) (hi : IsIns w.heap.size w A x) (hl3 : x.cost.length ≤ 9223372036854775807) (hl4 : x.time.length ≤ 9223372036854775807) (hno : instErr x ≠ 0 ∨ t < 0 ∨ (x.sats.length : Int) ≤ t) :
    Calls Try.prog 30 #[.agg (insC A x), .int .i64 t] w fun e w' => e = .returned (.bool false) ∧ Below w.heap.size w w' := by
  have HX := Lib.hid (XBox.make (Below.refl _ w) A x)
  have HC := Lib.hid (fun (W : World) (h : IsIns W.heap.size W A x) => check_wide A x W h hl3 hl4)
  have HI := Lib.hid hi
  have HNO := Lib.hid hno
  clear hi hl3 hl4 hno
  by_cases he : instErr x = 0
  · have HE := Lib.hid he
    clear he
    by_cases h0 : t < 0
    · have h0b : decide (t ≥ 0) = false := by simp; omega
      have h0n : ¬ 0 ≤ t := by omega
      clear h0 HNO
      unfold insC at HC HX ⊢
      go_enter Try.func30, Try.ntmps30
      go_wp2_with (go_at_call 19; refine (HC.out _ (HX.out.pipesHere HI.out)).mono ?_; rw [HE.out]; rintro e w2 ⟨rfl, hb2⟩; have HX2 := Lib.hid (HX.out.later hb2); obtain ⟨-, -, -, -, -, c5, -, -, -⟩ := HX2.out.cells; clear hb2)
      go_ret
      exact ⟨rfl, HX2.out.below⟩
    · have h1 : (x.sats.length : Int) ≤ t := by
        rcases HNO.out with h | h | h
        · exact absurd HE.out h
        · omega
        · exact h
      have h0b : decide (t ≥ 0) = true := by simp; omega
      have h0n : 0 ≤ t := by omega
      have h1b : decide (t < (x.sats.length : Int)) = false := by simp; omega
      have h1n : ¬ t < (x.sats.length : Int) := by omega
      clear h0 h1 HNO
      unfold insC at HC HX ⊢
      go_enter Try.func30, Try.ntmps30
      go_wp2_with (go_at_call 19; refine (HC.out _ (HX.out.pipesHere HI.out)).mono ?_; rw [HE.out]; rintro e w2 ⟨rfl, hb2⟩; have HX2 := Lib.hid (HX.out.later hb2); obtain ⟨-, -, -, -, -, c5, -, -, -⟩ := HX2.out.cells; clear hb2)
      go_ret
      exact ⟨rfl, HX2.out.below⟩
  · generalize instErr x = v at *
    have heb : (v == 0) = false := by simpa using he
    clear HNO
    unfold insC at HC HX ⊢
    go_enter Try.func30, Try.ntmps30
    go_wp2_with (go_at_call 19; refine (HC.out _ (HX.out.pipesHere HI.out)).mono ?_; rintro e w2 ⟨rfl, hb2⟩; have HX2 := Lib.hid (HX.out.later hb2); obtain ⟨-, -, -, -, -, c5, -, -, -⟩ := HX2.out.cells; clear hb2)
    go_ret
    exact ⟨rfl, HX2.out.below⟩
set_option maxHeartbeats 1000000 in
theorem outNo_any (A : InA) (x : Ins) (t : Int) (w : World) (hi : IsIns w.heap.size w A x) (hl3 : x.cost.length ≤ 9223372036854775807) (hl4 : x.time.length ≤ 9223372036854775807) (hno : instErr x ≠ 0 ∨ t < 0 ∨ (x.sats.length : Int) ≤ t) :
    Calls Try.prog 14 #[.agg (insC A x), .int .i64 t] w (Empty w) := by
  have HX := Lib.hid (XBox.make (Below.refl _ w) A x)
  have HH := Lib.hid (fun (W : World) (h : IsIns W.heap.size W A x) => has_none A x t W h hl3 hl4 hno)
  have HI := Lib.hid hi
  clear hi hl3 hl4 hno
  unfold insC at HH HX ⊢
  go_enter Try.func14, Try.ntmps14
  go_wp2_with (go_at_call 30; refine (HH.out _ (HX.out.pipesHere HI.out)).mono ?_; rintro e w2 ⟨rfl, hb2⟩; have HX2 := Lib.hid (HX.out.later hb2); clear hb2)
  go_ret
  exact ⟨none, 0, rfl, HX2.out.below⟩
set_option maxHeartbeats 1000000 in
theorem backNo_any (A : InA) (x : Ins) (t : Int) (w : World) (hi : IsIns w.heap.size w A x) (hl3 : x.cost.length ≤ 9223372036854775807) (hl4 : x.time.length ≤ 9223372036854775807) (hno : instErr x ≠ 0 ∨ t < 0 ∨ (x.sats.length : Int) ≤ t) :
    Calls Try.prog 15 #[.agg (insC A x), .int .i64 t] w (Empty w) := by
  have HX := Lib.hid (XBox.make (Below.refl _ w) A x)
  have HH := Lib.hid (fun (W : World) (h : IsIns W.heap.size W A x) => has_none A x t W h hl3 hl4 hno)
  have HI := Lib.hid hi
  clear hi hl3 hl4 hno
  unfold insC at HH HX ⊢
  go_enter Try.func15, Try.ntmps15
  go_wp2_with (go_at_call 30; refine (HH.out _ (HX.out.pipesHere HI.out)).mono ?_; rintro e w2 ⟨rfl, hb2⟩; have HX2 := Lib.hid (HX.out.later hb2); clear hb2)
  go_ret
  exact ⟨none, 0, rfl, HX2.out.below⟩
end Go.Proofs.Ytchdpapaojkbhaa
end
section
/- Package reach: rounds; Out and Back. -/
namespace Go.Proofs.Ytchdpapaojkbhaa
open Go.RowKit

variable {w wr w2 : World} {A : InA} {x : Ins} {B g sb nb s i k p q : Nat}
/-- The ways of a satellite's bikes. -/
def bikesL (x : Ins) (s : Nat) : List Ar := waysTo (takeP x s) (1 + x.cus.length) (1 + x.cus.length)
theorem roH_make {W : World} {o : Obj} (hX : XBox w W g A x) (hi : IsIns w.heap.size w A x) :
    RoH w.heap.size (((W.alloc (.cells #[.int .i64 (s : Int)] 3)).alloc o).alloc (.cells #[.func (.func 41) #[] #[.pointer (some ⟨g, 0, none⟩), .pointer (some ⟨W.heap.size, 0, none⟩)]] 81)) g W.heap.size (W.heap.size + 2) A x s := by
  have hb : Below W.heap.size W (((W.alloc (.cells #[.int .i64 (s : Int)] 3)).alloc o).alloc (.cells #[.func (.func 41) #[] #[.pointer (some ⟨g, 0, none⟩), .pointer (some ⟨W.heap.size, 0, none⟩)]] 81)) := (((Below.refl _ _).alloc (Nat.le_refl _) _).alloc (by simp) _).alloc (by simp; omega) _
  have hz : ((W.alloc (.cells #[.int .i64 (s : Int)] 3)).alloc o).heap.size = W.heap.size + 2 := by simp
  refine ⟨⟨(hX.later hb).blk, (hi.later hX.below).later (hb.mono hX.below.size), ?_⟩, ?_, ?_⟩
  · exact Nat.le_trans hX.below.size hb.size
  · have h1 : (W.alloc (.cells #[.int .i64 (s : Int)] 3)).heap[W.heap.size]? = some (.cells #[.int .i64 (s : Int)] 3 (0, 0)) := heap_alloc_new _ _
    rw [Below.heap_alloc _ _ _ (by simp; omega), Below.heap_alloc _ _ _ (by simp)]
    exact h1
  · have h1 := heap_alloc_new ((W.alloc (.cells #[.int .i64 (s : Int)] 3)).alloc o) (.cells #[.func (.func 41) #[] #[.pointer (some ⟨g, 0, none⟩), .pointer (some ⟨W.heap.size, 0, none⟩)]] 81)
    rw [hz] at h1
    exact h1
theorem roH_res {W : World} {v : Value} : (((W.alloc (.cells #[.int .i64 (s : Int)] 3)).alloc (.cells #[.int .i64 0, .slice none 0 0] 71)).alloc (.cells #[v] 81)).heap[W.heap.size + 1]? = some (.cells #[.int .i64 0, .slice none 0 0] 71 (0, 0)) := by
  have h1 := heap_alloc_new (W.alloc (.cells #[.int .i64 (s : Int)] 3)) (.cells #[.int .i64 0, .slice none 0 0] 71)
  have hz : (W.alloc (.cells #[.int .i64 (s : Int)] 3)).heap.size = W.heap.size + 1 := by simp
  rw [hz] at h1
  rw [Below.heap_alloc _ _ _ (by simp)]
  exact h1
set_option maxHeartbeats 2000000 in
set_option maxRecDepth 100000 in
theorem rounds_any (A : InA) (x : Ins) (w : World) (hi : IsIns w.heap.size w A x) (hm : May x) (hs : s < x.sats.length) :
    Calls Try.prog 31 #[.agg (insC A x), .int .i64 (s : Int)] w fun e w' => ∃ lv, e = .returned (.agg #[.int .i64 ((1 + x.cus.length : Nat) : Int), lv]) ∧ w'.ownsRow w.heap.size 88 3 lv (bikesL x s).length (flatA (bikesL x s)) ∧ Below w.heap.size w w' := by
  have hmf : ∀ (fn : Fn) (first cap : Array Value) (w : World), (Instr.makeFunc fn first cap).run Try.prog w = .ok (.func fn first cap) w := fun _ _ _ _ => rfl
  have hX1 := XBox.make (Below.refl _ w) A x
  have HR := Lib.hid (roH_make (s := s) (o := .cells #[.int .i64 0, .slice none 0 0] 71) hX1 hi)
  have HRS := Lib.hid (roH_res (s := s) (W := w.alloc (.cells (insC A x) 34)) (v := .func (.func 41) #[] #[.pointer (some ⟨w.heap.size, 0, none⟩), .pointer (some ⟨(w.alloc (.cells (insC A x) 34)).heap.size, 0, none⟩)]))
  have hz : (w.alloc (.cells (insC A x) 34)).heap.size = w.heap.size + 1 := by simp
  rw [hz] at HR HRS
  have HXB := Lib.hid hX1.below
  have hnc := hm.nc
  have hcw : ((1 + x.cus.length : Nat) : Int) = 1 + (x.cus.length : Int) := by omega
  have HW : Hid (∀ (W0 : World), RoH w.heap.size W0 w.heap.size (w.heap.size + 1) (w.heap.size + 1 + 2) A x s → Calls Try.prog 26 #[.int .i64 (1 + (x.cus.length : Int)), .func (.func 43) #[] #[.pointer (some ⟨w.heap.size, 0, none⟩), .pointer (some ⟨w.heap.size + 1 + 1 + 1, 0, none⟩)]] W0 fun e w' => ∃ lv, e = .returned (.agg #[.int .i64 (1 + (x.cus.length : Int)), lv]) ∧ w'.ownsRow W0.heap.size 88 3 lv (bikesL x s).length (flatA (bikesL x s)) ∧ Below W0.heap.size W0 w') := Lib.hid (fun W0 hR => by
    have h := arcsWays_any (N := 1 + x.cus.length) 43 #[.pointer (some ⟨w.heap.size, 0, none⟩), .pointer (some ⟨w.heap.size + 1 + 2, 0, none⟩)] (fun _ _ => by kernel_rfl) (by omega) (takeP x s) W0 (fun W hb i k hi hk _ => rtake_any hm W (hR.later hb) hs i k hi hk)
    rw [hcw] at h
    exact h)
  have HCW := Lib.hid hcw
  have hnc1 := hnc.1
  have hnc2 := hnc.2
  obtain ⟨c0, c1, c2, c3, c4, c5, c6, c7, c8⟩ := HR.out.inh.cells
  clear hi hm hs hX1 hz hnc hcw c0 c1 c2 c3 c4 c5 c7 c8
  unfold insC at HR HW HRS HXB c6 ⊢
  go_enter Try.func31, Try.ntmps31
  go_wp2_with fail
  refine (HW.out _ HR.out).mono ?_
  rintro e w5 ⟨lv, rfl, ho, hb5⟩
  obtain ⟨va, vc, hv⟩ := owns_shape ho
  subst hv
  have HRS5 := Lib.hid ((hb5.block _ (Array.getElem?_eq_some_iff.1 HRS.out).1).trans HRS.out)
  have r0 := cell_of_row _ _ 0 _ _ _ HRS5.out
  have r1 := cell_of_row _ _ 1 _ _ _ HRS5.out
  have d0 := frozen_of_row _ _ 0 _ _ HRS5.out
  have d1 := frozen_of_row _ _ 1 _ _ HRS5.out
  have HB5 := Lib.hid hb5
  have HO5 := Lib.hid ho
  clear hb5 ho
  go_wp2_with fail
  have hm : Mod (fun k => k = w.heap.size + 1 + 1) w5 ((w5.setCell ⟨w.heap.size + 1 + 1, 0, none⟩ (.int .i64 (1 + (x.cus.length : Int)))).setCell ⟨w.heap.size + 1 + 1, 1, none⟩ (.slice va (bikesL x s).length vc)) := ((Mod.refl (fun k => k = w.heap.size + 1 + 1) w5).setCell (p := ⟨w.heap.size + 1 + 1, 0, none⟩) (.inr rfl) _).setCell (p := ⟨w.heap.size + 1 + 1, 1, none⟩) (.inr rfl) _
  have hR := HR.out
  have hlt := (Array.getElem?_eq_some_iff.1 hR.fn).1
  have g1 : ((w5.setCell ⟨w.heap.size + 1 + 1, 0, none⟩ (.int .i64 (1 + (x.cus.length : Int)))).setCell ⟨w.heap.size + 1 + 1, 1, none⟩ (.slice va (bikesL x s).length vc)).heap[w.heap.size + 1 + 1]? = some (.cells #[.int .i64 (1 + (x.cus.length : Int)), .slice va (bikesL x s).length vc] 71 (0, 0)) := by
    have h1 := heap_setCell_same w5 (w.heap.size + 1 + 1) 0 _ _ (.int .i64 (1 + (x.cus.length : Int))) HRS5.out
    exact heap_setCell_same _ (w.heap.size + 1 + 1) 1 _ _ (.slice va (bikesL x s).length vc) h1
  refine bodyPost_ret (v := .agg #[.int .i64 (1 + (x.cus.length : Int)), .slice va (bikesL x s).length vc]) (results_cell_row rfl _ _ (w.heap.size + 1 + 1) 71 _ (0, 0) _ rfl g1 Try.underlying71 rfl infoGraphL) rfl ⟨_, by rw [HCW.out], owns_rebase (owns_kept HO5.out hm (fun k hk (e : k = w.heap.size + 1 + 1) => ?_)) ?_, ?_⟩
  · have := (World.ownsRow.lt HO5.out k hk).1
    omega
  · exact hR.inh.le
  · exact ((Mod.of_below (fun k => k = w.heap.size + 1 + 1) ((((HXB.out.alloc HXB.out.size _).alloc (by simp; omega) _).alloc (by simp; omega) _).trans (HB5.out.mono (by simp; omega)))).trans hm).below (Nat.le_refl _) (fun k (e : k = w.heap.size + 1 + 1) => by omega)
theorem bikesL_ok (hm : May x) (hs : s < x.sats.length) : checkV ((1 + x.cus.length : Nat) : Int) (bikesL x s) = 0 ∧ ∀ y ∈ bikesL x s, 0 ≤ y.2.2 := waysTo_ok (by have := hm.nc; omega) (bikes_in hm hs)
set_option maxHeartbeats 1000000 in
theorem out_any (A : InA) (x : Ins) (w : World) (hi : IsIns w.heap.size w A x) (hm : May x) (hs : s < x.sats.length) :
    Calls Try.prog 14 #[.agg (insC A x), .int .i64 (s : Int)] w (Nums w (OutOf x s)) := by
  have HX := Lib.hid (XBox.make (Below.refl _ w) A x)
  have HH := Lib.hid (fun (W : World) (h : IsIns W.heap.size W A x) => has_sat A x W h hm hs)
  have HR := Lib.hid (fun (W : World) (h : IsIns W.heap.size W A x) => rounds_any A x W h hm hs)
  have HI := Lib.hid hi
  have HO := Lib.hid (bikesL_ok hm hs)
  have HN := Lib.hid (show 2 ≤ 1 + x.cus.length by have := hm.nc; omega)
  have HS := Lib.hid hs
  clear hi hm hs
  unfold insC at HH HR HX ⊢
  go_enter Try.func14, Try.ntmps14
  go_wp2_with (first
    | (go_at_call 30; refine (HH.out _ (HX.out.pipesHere HI.out)).mono ?_; rintro e w2 ⟨rfl, hb2⟩; have HX2 := Lib.hid (HX.out.later hb2); obtain ⟨c0, c1, c2, c3, c4, c5, c6, c7, c8⟩ := HX2.out.cells; clear hb2)
    | (go_at_call 31; refine (HR.out _ (HX2.out.pipesHere HI.out)).mono ?_; rintro e w3 ⟨lv, rfl, ho, hb3⟩; obtain ⟨va, vc, hv⟩ := owns_shape ho; subst hv; have HA3 := Lib.hid (owns_arcs ho).2; have HB3 := Lib.hid (HX2.out.below.trans (hb3.mono HX2.out.below.size)); clear ho hb3 c0 c1 c2 c3 c4 c5 c6 c7 c8)
    | (go_at_call 25; refine (shortest_any HN.out va vc _ HO.out.1 HO.out.2 HA3.out).mono ?_; rintro e w4 ⟨hb4, gf, cf, c, far, dn, rfl, hf, hS⟩; have HB4 := Lib.hid (HB3.out.trans (hb4.mono HB3.out.size)); have HF4 := Lib.hid hf; have HS4 := Lib.hid hS; clear hb4 hf hS))
  go_ret
  refine ⟨(List.range (1 + x.cus.length - 1)).map (fun j => valI far (1 + j)), some ⟨gf, 1, none⟩, c, by simp, ?_, ⟨by simp, fun c hc => ?_⟩, HB4.out⟩
  · have h := nums_short HF4.out HN.out
    simpa using h
  · obtain ⟨d, h1, h2, h3⟩ := HS4.out.told (i := 1 + c) waysTo_arcs (checkV_zero.1 HO.out.1).2 (by omega) (fullW_some.2 ⟨⟨by omega, by omega, by omega⟩, rfl⟩)
    refine ⟨d, bikes_out HS.out hc h3, ?_⟩
    rw [List.getElem?_map, List.getElem?_range (by omega)]
    simp only [Option.map_some, h2]
set_option maxHeartbeats 1000000 in
theorem back_any (A : InA) (x : Ins) (w : World) (hi : IsIns w.heap.size w A x) (hm : May x) (hs : s < x.sats.length) :
    Calls Try.prog 15 #[.agg (insC A x), .int .i64 (s : Int)] w (Nums w (BackOf x s)) := by
  have HX := Lib.hid (XBox.make (Below.refl _ w) A x)
  have HH := Lib.hid (fun (W : World) (h : IsIns W.heap.size W A x) => has_sat A x W h hm hs)
  have HR := Lib.hid (fun (W : World) (h : IsIns W.heap.size W A x) => rounds_any A x W h hm hs)
  have HI := Lib.hid hi
  have HO0 := Lib.hid (bikesL_ok hm hs)
  have HO := Lib.hid (turned_ok HO0.out.1 HO0.out.2)
  have HN := Lib.hid (show 2 ≤ 1 + x.cus.length by have := hm.nc; omega)
  have HLN := Lib.hid (show (bikesL x s).length ≤ 1000000 from by have := (checkV_zero.1 HO0.out.1).1; omega)
  have HS := Lib.hid hs
  clear hi hm hs
  unfold insC at HH HR HX ⊢
  go_enter Try.func15, Try.ntmps15
  go_wp2_with (first
    | (go_at_call 30; refine (HH.out _ (HX.out.pipesHere HI.out)).mono ?_; rintro e w2 ⟨rfl, hb2⟩; have HX2 := Lib.hid (HX.out.later hb2); obtain ⟨c0, c1, c2, c3, c4, c5, c6, c7, c8⟩ := HX2.out.cells; clear hb2)
    | (go_at_call 31; refine (HR.out _ (HX2.out.pipesHere HI.out)).mono ?_; rintro e w3 ⟨lv, rfl, ho, hb3⟩; obtain ⟨va, vc, hv⟩ := owns_shape ho; subst hv; have HA3 := Lib.hid (owns_arcs ho).2; have HB3 := Lib.hid (HX2.out.below.trans (hb3.mono HX2.out.below.size)); clear ho hb3 c0 c1 c2 c3 c4 c5 c6 c7 c8)
    | (go_at_call 32; refine (turned_any _ HLN.out va vc _ HA3.out).mono ?_; rintro e w4 ⟨T, rfl, hA, _, hb4⟩; have HA4 := Lib.hid hA; have HB4 := Lib.hid (HB3.out.trans (hb4.mono HB3.out.size)); clear hA hb4)
    | (go_at_call 25; refine (shortest_any HN.out _ _ _ HO.out.1 HO.out.2 HA4.out).mono ?_; rintro e w5 ⟨hb5, gf, cf, c, far, dn, rfl, hf, hS⟩; have HB5 := Lib.hid (HB4.out.trans (hb5.mono HB4.out.size)); have HF5 := Lib.hid hf; have HS5 := Lib.hid hS; clear hb5 hf hS))
  go_ret
  refine ⟨(List.range (1 + x.cus.length - 1)).map (fun j => valI far (1 + j)), some ⟨gf, 1, none⟩, c, by simp, ?_, ⟨by simp, fun c hc => ?_⟩, HB5.out⟩
  · have h := nums_short HF5.out HN.out
    simpa using h
  · obtain ⟨d, h1, h2, h3⟩ := HS5.out.told (i := 1 + c) (turned_of waysTo_arcs) (checkV_zero.1 HO.out.1).2 (by omega) (fullW_some.2 ⟨⟨by omega, by omega, by omega⟩, rfl⟩)
    refine ⟨d, bikes_back HS.out hc h3, ?_⟩
    rw [List.getElem?_map, List.getElem?_range (by omega)]
    simp only [Option.map_some, h2]
end Go.Proofs.Ytchdpapaojkbhaa
end
section
/- Package reach: Ready. -/
namespace Go.Proofs.Ytchdpapaojkbhaa
open Go.RowKit

variable {w wr w2 : World} {A : InA} {x : Ins} {B g sb nb s i k p q : Nat} {far : Nat → Option Int} {dn : Nat → Bool}
/-- The ways of the trucks. -/
def trucksL (x : Ins) : List Ar := waysTo (tmI x) (1 + x.sats.length) (1 + x.sats.length)
theorem trucksL_ok (hm : May x) : checkV ((1 + x.sats.length : Nat) : Int) (trucksL x) = 0 ∧ ∀ y ∈ trucksL x, 0 ≤ y.2.2 := waysTo_ok (by have := hm.ns; omega) (trucks_in hm)
set_option maxHeartbeats 1000000 in
theorem readyNo_any (A : InA) (x : Ins) (w : World) (hi : IsIns w.heap.size w A x) (hl3 : x.cost.length ≤ 9223372036854775807) (hl4 : x.time.length ≤ 9223372036854775807) (hno : instErr x ≠ 0) :
    Calls Try.prog 11 #[.agg (insC A x)] w (Empty w) := by
  have HX := Lib.hid (XBox.make (Below.refl _ w) A x)
  have HC := Lib.hid (fun (W : World) (h : IsIns W.heap.size W A x) => check_wide A x W h hl3 hl4)
  have HI := Lib.hid hi
  clear hi hl3 hl4
  generalize instErr x = v at *
  have heb : (v != 0) = true := by simpa using hno
  unfold insC at HC HX ⊢
  go_enter Try.func11, Try.ntmps11
  go_wp2_with (go_at_call 19; refine (HC.out _ (HX.out.pipesHere HI.out)).mono ?_; rintro e w2 ⟨rfl, hb2⟩; have HX2 := Lib.hid (HX.out.later hb2); clear hb2)
  go_ret
  exact ⟨none, 0, rfl, HX2.out.below⟩
/-- The first k satellites' holds are added. -/
def heldF (x : Ins) (f : Nat → Int) (k j : Nat) : Int := if 1 ≤ j ∧ j ≤ k then f j + (x.sats.getD (j - 1) (0, 0)).2 else f j
theorem heldF_zero (f : Nat → Int) (j : Nat) : heldF x f 0 j = f j := by unfold heldF; rw [if_neg (by omega)]
theorem heldF_old {f : Nat → Int} : heldF x f k (1 + k) = f (1 + k) := by unfold heldF; rw [if_neg (by omega)]
theorem heldF_next {f : Nat → Int} {h : Int} {j : Nat} (hh : (x.sats.getD k (0, 0)).2 = h) : (if j = 1 + k then f (1 + k) + h else heldF x f k j) = heldF x f (k + 1) j := by
  unfold heldF
  by_cases e : j = 1 + k
  · subst e
    rw [if_pos rfl, if_pos (by omega), show 1 + k - 1 = k by omega, hh]
  · rw [if_neg e]
    by_cases h2 : 1 ≤ j ∧ j ≤ k
    · rw [if_pos h2, if_pos (by omega)]
    · rw [if_neg h2, if_neg (by omega)]
theorem heldF_all {f : Nat → Int} (h : s < k) : heldF x f k (1 + s) = f (1 + s) + (x.sats.getD s (0, 0)).2 := by unfold heldF; rw [if_pos (by omega), show 1 + s - 1 = s by omega]
set_option maxHeartbeats 4000000 in
set_option maxRecDepth 100000 in
theorem ready_any (A : InA) (x : Ins) (w : World) (hi : IsIns w.heap.size w A x) (hm : May x) :
    Calls Try.prog 11 #[.agg (insC A x)] w (Nums w (ReadyOf x)) := by
  have HX := Lib.hid (XBox.make (Below.refl _ w) A x)
  have HE := Lib.hid hm.err
  have HC := Lib.hid (fun (W : World) (h : IsIns W.heap.size W A x) => check_wide A x W h (by have := hm.lc; have := nodes_61 hm; omega) (by have := hm.lt; have := nodes_61 hm; omega))
  have HI := Lib.hid hi
  have hns1 := hm.ns.1
  have hns2 := hm.ns.2
  have hmf : ∀ (fn : Fn) (first cap : Array Value) (w : World), (Instr.makeFunc fn first cap).run Try.prog w = .ok (.func fn first cap) w := fun _ _ _ _ => rfl
  have hcw : ((1 + x.sats.length : Nat) : Int) = 1 + (x.sats.length : Int) := by omega
  have hnn : x.nodes = 1 + x.sats.length + x.cus.length := rfl
  have HW : Hid (∀ (W0 : World), InH w.heap.size W0 w.heap.size A x → Calls Try.prog 26 #[.int .i64 (1 + (x.sats.length : Int)), .func (.func 27) #[] #[.pointer (some ⟨w.heap.size, 0, none⟩)]] W0 fun e w' => ∃ lv, e = .returned (.agg #[.int .i64 (1 + (x.sats.length : Int)), lv]) ∧ w'.ownsRow W0.heap.size 88 3 lv (trucksL x).length (flatA (trucksL x)) ∧ Below W0.heap.size W0 w') := Lib.hid (fun W0 hR => by
    have h := arcsWays_any (N := 1 + x.sats.length) 27 #[.pointer (some ⟨w.heap.size, 0, none⟩)] (fun _ _ => by kernel_rfl) (by omega) (tmI x) W0 (fun W hb i k hi hk _ => rtime_any hm W (hR.later hb) i k (by omega) (by omega))
    rw [hcw] at h
    exact h)
  have HO := Lib.hid (trucksL_ok hm)
  have HN := Lib.hid (show 2 ≤ 1 + x.sats.length by omega)
  have HSH : Hid (∀ (W : World) (a : Option Addr) (cap : Nat), IsArcs W.heap.size W a (trucksL x).length (trucksL x) → Calls Try.prog 25 #[.agg #[.int .i64 (1 + (x.sats.length : Int)), .slice a (trucksL x).length cap]] W (ShortP (trucksL x) (1 + x.sats.length) W)) := Lib.hid (fun W a cap h => by
    have h2 := shortest_any HN.out a cap W HO.out.1 HO.out.2 h
    rw [hcw] at h2
    exact h2)
  have HM := Lib.hid hm
  clear hi hm hcw hnn
  unfold insC at HC HX ⊢
  go_enter Try.func11, Try.ntmps11
  go_wp2_with (first
    | (go_at_call 19; refine (HC.out _ (HX.out.pipesHere HI.out)).mono ?_; rw [HE.out]; rintro e w2 ⟨rfl, hb2⟩; have HX2 := Lib.hid (HX.out.later hb2); have c5 := HX2.out.cells.2.2.2.2.2.1; clear hb2)
    | (go_at_call 26; refine (HW.out _ ⟨HX2.out.blk, HI.out.later HX2.out.below, HX2.out.below.size⟩).mono ?_; rintro e w3 ⟨lv, rfl, ho, hb3⟩; obtain ⟨va, vc, hv⟩ := owns_shape ho; subst hv; have HA3 := Lib.hid (owns_arcs ho).2; have HX3 := Lib.hid (HX2.out.later hb3); clear ho hb3 c5)
    | (go_at_call 25; refine (HSH.out _ va vc HA3.out).mono ?_; rintro e w4 ⟨hb4, gf, cf, c, far, dn, rfl, hf, hS⟩; have HX4 := Lib.hid (HX3.out.later hb4); have HGF : Hid (w.heap.size < gf) := Lib.hid (by have := hf.base_.1; have := HX3.out.lt; omega); have HF4 := Lib.hid (hf.rebase HX3.out.below.size); have HS4 := Lib.hid hS; have c5 := HX4.out.cells.2.2.2.2.2.1; clear hb4 hf hS))
  have HL : Hid (∀ i, i < x.sats.length → 0 ≤ valI far (1 + i) ∧ valI far (1 + i) ≤ 1099511627776000) := Lib.hid (fun i hi => by
    obtain ⟨d, h1, h2, h3⟩ := HS4.out.told (i := 1 + i) waysTo_arcs (checkV_zero.1 HO.out.1).2 (by omega) (fullW_some.2 ⟨⟨by omega, by omega, by omega⟩, rfl⟩)
    have h4 := HS4.out.bnd (1 + i) d h1
    have h5 := (doneD_in (N := 1 + x.sats.length) (dn := dn)).2
    rw [h2]
    omega)
  have HF0 : Hid (LongRow w4 w.heap.size (.slice (some ⟨gf, 0, none⟩) (1 + x.sats.length) cf) (1 + x.sats.length) (heldF x (valI far) 0)) := Lib.hid (HF4.out.congr (fun j _ => (heldF_zero _ j).symm))
  clear HF4 HA3 HX3 HX2 c5
  have HXX : Hid (XBox w w4 w.heap.size A x) := HX4
  clear HX4
  go_loopw [19] (fun iv wr => ∃ k : Nat, iv = .int .i64 (k : Int) ∧ k ≤ x.sats.length ∧ Hid (XBox w wr w.heap.size A x) ∧ Hid (LongRow wr w.heap.size (.slice (some ⟨gf, 0, none⟩) (1 + x.sats.length) cf) (1 + x.sats.length) (heldF x (valI far) k))) (fun iv _ => x.sats.length - (intOf iv).toNat)
  case atStart => exact ⟨0, rfl, Nat.zero_le _, HXX, HF0⟩
  case round =>
    obtain ⟨k, rfl, hk, HXR, HF⟩ := hrel
    clear HXX HF0
    by_cases hlt : k < x.sats.length
    · have hk2 : k < x.sats.length := hlt
      obtain ⟨b, off, y, hsa, hb, hy, q0, q1⟩ := (HI.out.sats.later HXR.out.below).at_ hk2
      obtain ⟨room, hold⟩ := y
      simp only at q0 q1
      have hho := HM.out.hold_in hy
      simp only at hho
      have hyd : (x.sats.getD k (0, 0)).2 = hold := by rw [List.getD, hy]; rfl
      have HNX := Lib.hid (fun (j : Nat) (_ : j < 1 + x.sats.length) => heldF_next (x := x) (f := valI far) (j := j) hyd)
      obtain ⟨w5, hw5⟩ : ∃ w5, w5 = World.drew (wr.alloc (.cells #[.int .i64 room, .int .i64 hold] 61)) := ⟨_, rfl⟩
      have hb5 : Below wr.heap.size wr w5 := by rw [hw5]; exact ((Below.refl _ _).alloc (Nat.le_refl _) _).drew
      have HX5 := Lib.hid (HXR.out.later hb5)
      have HF5 := Lib.hid (HF.out.below hb5)
      have s0 : w5.cell? ⟨wr.heap.size, 0, none⟩ = some (.int .i64 room) := by rw [hw5]; simp
      have s1 : w5.cell? ⟨wr.heap.size, 1, none⟩ = some (.int .i64 hold) := by rw [hw5]; simp
      have f0 := HF5.out.cell (i := 1 + k) (by omega)
      have f1 := HF5.out.frozen (1 + k)
      rw [heldF_old] at f0
      have hin := HL.out k hk2
      obtain ⟨z, hz⟩ : ∃ z, valI far (1 + k) = z := ⟨_, rfl⟩
      have HZ := Lib.hid hz
      rw [hz] at f0 hin
      have zw : IntKind.i64.wrap (z + hold) = z + hold := by rw [IntKind.wrap_i64]; omega
      have HX6 : Hid (XBox w (w5.setCell ⟨gf, 1 + k, none⟩ (.int .i64 (z + hold))) w.heap.size A x) := Lib.hid ⟨HX5.out.below.setCell (p := ⟨gf, 1 + k, none⟩) (by have := HGF.out; show w.heap.size ≤ gf; omega) _, HX5.out.ge, (heap_setCell_other _ _ _ _ (by have := HGF.out; show w.heap.size ≠ gf; omega)).trans HX5.out.blk⟩
      have HF6 : Hid (LongRow (w5.setCell ⟨gf, 1 + k, none⟩ (.int .i64 (z + hold))) w.heap.size (.slice (some ⟨gf, 0, none⟩) (1 + x.sats.length) cf) (1 + x.sats.length) (heldF x (valI far) (k + 1))) := Lib.hid ((HF5.out.set_ (k := 1 + k) (by omega) (z + hold)).congr (fun j hj => by rw [← hz]; exact HNX.out j hj))
      rw [hsa]
      have HSA := Lib.hid hsa
      clear hb hy hyd hz hsa hb5 hk2
      go_wp2_with fail
      refine wp_region_still_tail 8 (by kernel_rfl) (by kernel_rfl) ?_
      simp only [List.take_succ_cons, List.take_zero, List.drop_succ_cons, List.drop_zero]
      change wpStill _ _ (World.drew (wr.alloc (.cells #[.int .i64 room, .int .i64 hold] 61))) (fun a' => wpList _ _ _ _ a' (World.drew (wr.alloc (.cells #[.int .i64 room, .int .i64 hold] 61)))) _ _
      rw [← hw5]
      clear hw5
      repeat still_step
      refine wpStill_nil ?_
      go_wp2_with fail
      go_roundw
      case rel => exact ⟨k + 1, by go_num, by omega, HX6, HF6⟩
      case measure => simp [intOf]; omega
    · obtain rfl : k = x.sats.length := by omega
      go_wp2_with fail
      go_ret
      refine ⟨(List.range (1 + x.sats.length - 1)).map (fun j => heldF x (valI far) x.sats.length (1 + j)), some ⟨gf, 1, none⟩, c, by simp, ?_, ⟨by simp, fun s hs => ?_⟩, HXR.out.below⟩
      · have h := nums_short HF.out HN.out
        simpa using h
      · obtain ⟨d, h1, h2, h3⟩ := HS4.out.told (i := 1 + s) waysTo_arcs (checkV_zero.1 HO.out.1).2 (by omega) (fullW_some.2 ⟨⟨by omega, by omega, by omega⟩, rfl⟩)
        refine ⟨d, trucks_least (by omega) h3, ?_⟩
        rw [List.getElem?_map, List.getElem?_range (by omega)]
        simp only [Option.map_some, heldF_all hs, h2]
end Go.Proofs.Ytchdpapaojkbhaa
end
section
/- Package reach: mays: who may be served from a satellite. -/
namespace Go.Proofs.Ytchdpapaojkbhaa
open Go.RowKit

variable {w wr w2 : World} {A : InA} {x : Ins} {B g s i k p q c z : Nat} {rd ou ba : List Int}
theorem mayI_val {ld op cl st sr ho r o b : Int} (hc : x.cus[c]? = some (ld, op, cl, st)) (hs : x.sats[s]? = some (sr, ho)) (hr : rd[s]? = some r) (h1 : ou[c]? = some o) (h2 : ba[c]? = some b) :
    mayI x rd ou ba s c = (decide (ld ≤ min sr x.br) && decide (max op (r + o) ≤ cl) && decide (max op (r + o) + b ≤ x.en)) := by
  have e1 : x.cus.getD c (0, 0, 0, 0) = (ld, op, cl, st) := by rw [List.getD, hc]; rfl
  have e2 : x.sats.getD s (0, 0) = (sr, ho) := by rw [List.getD, hs]; rfl
  have e3 : rd.getD s 0 = r := by rw [List.getD, hr]; rfl
  have e4 : ou.getD c 0 = o := by rw [List.getD, h1]; rfl
  have e5 : ba.getD c 0 = b := by rw [List.getD, h2]; rfl
  unfold mayI
  rw [e1, e2, e3, e4, e5, Int.max_comm (r + o) op]
  simp only
  congr 2
  apply Bool.eq_iff_iff.2
  simp only [Bool.and_eq_true, decide_eq_true_eq]
  omega
/-- The set of those below k that may be. -/
def ServeTo (z k : Nat) (f : Nat → Bool) : Prop := z < 18446744073709551616 ∧ ∀ c, c < 64 → z.testBit c = (decide (c < k) && f c)
theorem ServeTo.zero (f : Nat → Bool) : ServeTo 0 0 f := ⟨by decide, fun c _ => by simp⟩
theorem ServeTo.no {f : Nat → Bool} (h : ServeTo z k f) (hf : f k = false) : ServeTo z (k + 1) f := ⟨h.1, fun c hc => by
  rw [h.2 c hc]
  by_cases e : c = k
  · subst e; simp [hf]
  · have : (c < k + 1) = (c < k) := by apply propext; omega
    simp only [this]⟩
theorem ServeTo.yes {f : Nat → Bool} (h : ServeTo z k f) (hf : f k = true) (hk : k < 64) : ServeTo (withN z (k : Int)) (k + 1) f := ⟨withN_lt h.1 _, fun c hc => by
  rw [with_bit, h.2 c hc]
  by_cases e : c = k
  · subst e
    have : decide ((0 : Int) ≤ (c : Int) ∧ (c : Int) < 64 ∧ (c : Int).toNat = c) = true := by simp; omega
    rw [this]
    simp [hf]
  · have h1 : decide ((0 : Int) ≤ (k : Int) ∧ (k : Int) < 64 ∧ (k : Int).toNat = c) = false := by simp; omega
    have h2 : (c < k + 1) = (c < k) := by apply propext; omega
    rw [h1, Bool.or_false]
    simp only [h2]⟩
/-- What mays answers. -/
def ServeP (x : Ins) (rd : List Int) (s : Nat) (w : World) (e : Ending) (w' : World) : Prop := ∃ (z : Nat) (ou ba : List Int), e = .returned (.int .u64 (z : Int)) ∧ OutOf x s ou ∧ BackOf x s ba ∧ ServeTo z x.cus.length (fun c => mayI x rd ou ba s c) ∧ Below w.heap.size w w'
set_option maxHeartbeats 8000000 in
set_option maxRecDepth 100000 in
theorem serve_any (A : InA) (x : Ins) (w : World) (hi : IsIns w.heap.size w A x) (hm : May x) (hrd : ReadyOf x rd) {r : Int} (hs : s < x.sats.length) (hr : rd[s]? = some r) :
    Calls Try.prog 33 #[.agg (insC A x), .int .i64 (s : Int), .int .i64 r] w (ServeP x rd s w) := by
  have HX := Lib.hid (XBox.make (Below.refl _ w) A x)
  have HI := Lib.hid hi
  have HM := Lib.hid hm
  have HS := Lib.hid hs
  have HR := Lib.hid hr
  have HO := Lib.hid (fun (W : World) (h : XBox w W w.heap.size A x) => out_any A x W (h.pipesHere hi) hm hs)
  have HB := Lib.hid (fun (W : World) (h : XBox w W w.heap.size A x) => back_any A x W (h.pipesHere hi) hm hs)
  have hrin := hrd.in_ hm hr
  have hnc1 := hm.nc.1
  have hnc2 := hm.nc.2
  have hns2 := hm.ns.2
  have HX1 : Hid (XBox w (w.alloc (.cells (insC A x) 34)).drew w.heap.size A x) := Lib.hid (HX.out.later (Below.refl _ _).drew)
  clear hi hm hrd hr
  unfold insC at HX HX1 HO HB ⊢
  go_enter Try.func33, Try.ntmps33
  go_wp2_with fail
  refine wp_region_held_drew (S := fun Wz => XBox w Wz w.heap.size A x) (by kernel_rfl) HX1.out (fun hHeld => ?_)
  refine wpAnyH_take (i := 0) (v := ?_) rfl (by kernel_rfl) (by kernel_rfl) (by kernel_rfl) (fun _ _ _ h => h) (Or.inl ⟨by rfl, ?_⟩) hHeld ?_
  rotate_left
  · intro Wz hWz; obtain ⟨c0, c1, c2, c3, c4, c5, c6, c7, c8⟩ := XBox.cells hWz; go_simp; (try with_reducible rfl)
  try simp only [Act.put, List.setIfInBounds_toArray, List.set_cons_zero, List.set_cons_succ, List.getElem_toArray, List.getElem_cons_zero]
  refine wpAnyH_take (i := 1) (v := ?_) rfl (by kernel_rfl) (by kernel_rfl) (by kernel_rfl) (fun _ _ _ h => h) (Or.inl ⟨by rfl, ?_⟩) hHeld ?_
  rotate_left
  · intro Wz hWz; obtain ⟨c0, c1, c2, c3, c4, c5, c6, c7, c8⟩ := XBox.cells hWz; go_simp; (try with_reducible rfl)
  try simp only [Act.put, List.setIfInBounds_toArray, List.set_cons_zero, List.set_cons_succ, List.getElem_toArray, List.getElem_cons_zero, List.getElem_cons_succ]
  refine wpAnyH_take (i := 3) (v := ?_) rfl (by kernel_rfl) (by kernel_rfl) (by kernel_rfl) (fun _ _ _ h => h) (Or.inl ⟨by rfl, ?_⟩) hHeld ?_
  rotate_left
  · intro Wz hWz; obtain ⟨c0, c1, c2, c3, c4, c5, c6, c7, c8⟩ := XBox.cells hWz; go_simp; (try with_reducible rfl)
  try simp only [Act.put, List.setIfInBounds_toArray, List.set_cons_zero, List.set_cons_succ, List.getElem_toArray, List.getElem_cons_zero, List.getElem_cons_succ]
  refine wpAnyH_take (i := 4) (v := ?_) rfl (by kernel_rfl) (by kernel_rfl) (by kernel_rfl) (fun _ _ _ h => h) (Or.inl ⟨by rfl, ?_⟩) hHeld ?_
  rotate_left
  · intro Wz hWz; obtain ⟨c0, c1, c2, c3, c4, c5, c6, c7, c8⟩ := XBox.cells hWz; go_simp; (try with_reducible rfl)
  try simp only [Act.put, List.setIfInBounds_toArray, List.set_cons_zero, List.set_cons_succ, List.getElem_toArray, List.getElem_cons_zero, List.getElem_cons_succ]
  refine wpAnyH_ready (rs := [2]) (by kernel_rfl) (by simp) ?_
  refine AllReadyH.cons rfl (fun K hK => ?_) AllReadyH.nil
  go_simp
  refine (HO.out _ hHeld).mono ?_
  rintro e w3 ⟨ou, oa, oc, rfl, hn3, hou, hb3⟩
  have hd3 := XBox.later hHeld hb3
  have HN3 := Lib.hid hn3
  have HOU := Lib.hid hou
  clear hb3 hn3 hou
  refine hK.out _ _ ?_ (fun hHeld => ?_)
  · exact hd3
  clear hK K
  try simp only [Act.put, List.setIfInBounds_toArray, List.set_cons_zero, List.set_cons_succ, List.getElem_toArray, List.getElem_cons_zero, List.getElem_cons_succ]
  refine wpAnyH_ready (rs := [5]) (by kernel_rfl) (by simp) ?_
  refine AllReadyH.cons rfl (fun K hK => ?_) AllReadyH.nil
  go_simp
  refine (HB.out _ hHeld).mono ?_
  rintro e w4 ⟨ba, ba_, bc, rfl, hn4, hba, hb4⟩
  have hd4 := XBox.later hHeld hb4
  have HN4 := Lib.hid hn4
  have HBA := Lib.hid hba
  have HO4 := Lib.hid ((HN3.out.later hb4).mono hb4.size)
  clear hb4 hn4 hba
  refine hK.out _ _ ?_ (fun hHeld => ?_)
  · exact hd4
  clear hK K
  try simp only [Act.put, List.setIfInBounds_toArray, List.set_cons_zero, List.set_cons_succ, List.getElem_toArray, List.getElem_cons_zero, List.getElem_cons_succ]
  refine wpAnyH_take (i := 6) (v := ?_) rfl (by kernel_rfl) (by kernel_rfl) (by kernel_rfl) (fun _ _ _ h => h) (Or.inl ⟨by rfl, ?_⟩) hHeld ?_
  rotate_left
  · intro Wz hWz; obtain ⟨c0, c1, c2, c3, c4, c5, c6, c7, c8⟩ := XBox.cells hWz; go_simp; (try with_reducible rfl)
  try simp only [Act.put, List.setIfInBounds_toArray, List.set_cons_zero, List.set_cons_succ, List.getElem_toArray, List.getElem_cons_zero, List.getElem_cons_succ]
  refine wpAnyH_take (i := 7) (v := ?_) rfl (by kernel_rfl) (by kernel_rfl) (by kernel_rfl) (fun _ _ _ h => h) (Or.inl ⟨by rfl, ?_⟩) hHeld ?_
  rotate_left
  · intro Wz hWz; obtain ⟨c0, c1, c2, c3, c4, c5, c6, c7, c8⟩ := XBox.cells hWz; go_simp; (try with_reducible rfl)
  try simp only [Act.put, List.setIfInBounds_toArray, List.set_cons_zero, List.set_cons_succ, List.getElem_toArray, List.getElem_cons_zero, List.getElem_cons_succ]
  refine wpAnyH_done (by kernel_rfl) ?_ _
  have HX4 := Lib.hid hd4
  clear hHeld hd4 hd3 HX1 HX HN3 HO HB
  obtain ⟨b1, o1, y, hsa, hb1, hy, q0, q1⟩ := (HI.out.sats.later HX4.out.below).at_ hs
  obtain ⟨sr, ho⟩ := y
  simp only at q0 q1
  obtain ⟨c0, c1, c2, c3, c4, c5, c6, c7, c8⟩ := HX4.out.cells
  rw [hsa] at c5
  have HSA := Lib.hid hsa
  have HY := Lib.hid hy
  have s1 : (0 : Int) ≤ (s : Int) := by omega
  have s2 : (s : Int) < (x.sats.length : Int) := by omega
  clear hsa hy
  obtain ⟨w5, hw5⟩ : ∃ w5, w5 = World.drew w4 := ⟨_, rfl⟩
  have hb5 : Below w4.heap.size w4 w5 := by rw [hw5]; exact (Below.refl _ _).drew
  have HX5 := Lib.hid (HX4.out.later hb5)
  have HO5 := Lib.hid ((HO4.out.later hb5).mono hb5.size)
  have HB5 := Lib.hid ((HN4.out.later hb5).mono hb5.size)
  obtain ⟨e0, e1, e2, e3, e4, e5, e6, e7, e8⟩ := HX5.out.cells
  rw [HSA.out] at e5
  obtain ⟨b2, o2, hca, hb2, hpr⟩ : ∃ b off, A.ca = some ⟨b, off, none⟩ ∧ b < w.heap.size ∧ PiRow w b off x.cus := by
    rcases HI.out.cus.2 with h | h
    · omega
    · exact h
  rw [hca] at e6
  have HPR := Lib.hid hpr
  have HB2 := Lib.hid hb2
  obtain ⟨bo, oo, hoa, hbo, hoc⟩ : ∃ b off, oa = some ⟨b, off, none⟩ ∧ b < w5.heap.size ∧ ∀ (j : Nat) (v : Int), ou[j]? = some v → w5.cell? ⟨b, off + j, none⟩ = some (.int .i64 v) := by
    rcases HO5.out.2 with h | h
    · have := HOU.out.1; omega
    · exact h
  subst hoa
  have HBO := Lib.hid hbo
  have HOC := Lib.hid hoc
  obtain ⟨bb, ob, hba, hbb, hbc⟩ : ∃ b off, ba_ = some ⟨b, off, none⟩ ∧ b < w5.heap.size ∧ ∀ (j : Nat) (v : Int), ba[j]? = some v → w5.cell? ⟨b, off + j, none⟩ = some (.int .i64 v) := by
    rcases HB5.out.2 with h | h
    · have := HBA.out.1; omega
    · exact h
  subst hba
  have HBB := Lib.hid hbb
  have HBC := Lib.hid hbc
  have HOL := Lib.hid HOU.out.1
  have HBL := Lib.hid HBA.out.1
  clear hpr hb2 hbo hoc hbb hbc hca HO5 HB5
  have q5 : w5.cell? ⟨b1, o1 + s * 2, none⟩ = some (.int .i64 sr) := by rw [hw5]; exact q0
  obtain ⟨room, hroom⟩ : ∃ m, min sr x.br = m := ⟨_, rfl⟩
  have hrm : (if x.br < sr then x.br else sr) = room := by rw [← hroom]; split <;> omega
  clear c0 c1 c2 c3 c4 c5 c6 c7 c8 HO4 HN4 HX4 hb5 q0 q1
  go_wp2_with fail
  refine wp_region_still_lit (by kernel_rfl) (by kernel_rfl) ?_
  change wpStill _ _ (World.drew w4) (fun a' => Exit.then _ _ _ a' (World.drew w4)) _ _
  rw [← hw5]
  clear hw5
  repeat still_step
  refine wpStill_nil ?_
  have HROOM := Lib.hid hroom
  clear hroom hrm e0 e1 e2 e3 e4 e5 e7 e8 q5 s1 s2
  have HZ0 := Lib.hid (ServeTo.zero (fun c => mayI x rd ou ba s c))
  have HBW0 : Hid (Below w5.heap.size w5 w5) := Lib.hid (Below.refl _ _)
  go_wp2_with fail
  clear e6
  go_loopw [10, 33] (fun lv iv wr => ∃ (k z : Nat), lv = .int .u64 (z : Int) ∧ iv = .int .i64 (k : Int) ∧ k ≤ x.cus.length ∧ Hid (ServeTo z k (fun c => mayI x rd ou ba s c)) ∧ Hid (Below w5.heap.size w5 wr)) (fun _ iv _ => x.cus.length - (intOf iv).toNat)
  case atStart => exact ⟨0, 0, rfl, rfl, Nat.zero_le _, HZ0, HBW0⟩
  case round =>
    obtain ⟨k, z, rfl, rfl, hk, HZ, HBW⟩ := hrel
    clear HZ0 HBW0
    by_cases hlt : k < x.cus.length
    · obtain ⟨cu, hy⟩ : ∃ cu, x.cus[k]? = some cu := ⟨_, List.getElem?_eq_getElem hlt⟩
      obtain ⟨p0, p1, p2, p3⟩ := HPR.out.of_block ((HX5.out.later HBW.out).below.block b2 HB2.out) k _ hy
      obtain ⟨o, hov⟩ : ∃ o, ou[k]? = some o := ⟨_, List.getElem?_eq_getElem (by have := HOL.out; omega)⟩
      obtain ⟨bk, hbv⟩ : ∃ o, ba[k]? = some o := ⟨_, List.getElem?_eq_getElem (by have := HBL.out; omega)⟩
      have hoin := HOU.out.in_ HM.out HS.out hov
      have hbin := HBA.out.in_ HM.out HS.out hbv
      have hcb := HM.out.cus _ (List.mem_of_getElem? hy)
      obtain ⟨ld, op, cl, st⟩ := cu
      simp only at p0 p1 p2 p3
      simp [cusB, inB_] at hcb
      have HMV := Lib.hid (mayI_val hy HY.out HR.out hov hbv)
      rw [HROOM.out] at HMV
      obtain ⟨tt, htt⟩ : ∃ m, max op (r + o) = m := ⟨_, rfl⟩
      have hmx : (if op < r + o then r + o else op) = tt := by rw [← htt]; split <;> omega
      have htin : 0 ≤ tt ∧ tt ≤ 5000000000 := by omega
      rw [htt] at HMV
      have row : IntKind.i64.wrap (r + o) = r + o := by rw [IntKind.wrap_i64]; omega
      have tbw : IntKind.i64.wrap (tt + bk) = tt + bk := by rw [IntKind.wrap_i64]; omega
      obtain ⟨w6, hw6⟩ : ∃ w6, w6 = World.drew (wr.alloc (.cells #[.int .i64 ld, .int .i64 op, .int .i64 cl, .int .i64 st] 56)) := ⟨_, rfl⟩
      have hb6 : Below wr.heap.size wr w6 := by rw [hw6]; exact ((Below.refl _ _).alloc (Nat.le_refl _) _).drew
      have HBW6 := Lib.hid (HBW.out.trans (hb6.mono HBW.out.size))
      have v0 : w6.cell? ⟨wr.heap.size, 0, none⟩ = some (.int .i64 ld) := by rw [hw6]; simp
      have v1 : w6.cell? ⟨wr.heap.size, 1, none⟩ = some (.int .i64 op) := by rw [hw6]; simp
      have v2 : w6.cell? ⟨wr.heap.size, 2, none⟩ = some (.int .i64 cl) := by rw [hw6]; simp
      have v3 := (HBW6.out.cell (p := ⟨bo, oo + k, none⟩) HBO.out).trans (HOC.out k o hov)
      have v4 := (HBW6.out.cell (p := ⟨bb, ob + k, none⟩) HBB.out).trans (HBC.out k bk hbv)
      have v5 := (HX5.out.later HBW6.out).cells.1
      have hkl : (k : Int) < (ou.length : Int) := by have := HOL.out; omega
      have hkb : (k : Int) < (ba.length : Int) := by have := HBL.out; omega
      have hk0 : (0 : Int) ≤ (k : Int) := by omega
      have HTT := Lib.hid htt
      have HK48 := Lib.hid (show k < 64 by omega)
      clear hy hov hbv htt hcb hb6 hmx
      go_wp2_with fail
      refine wp_region_still_lit (by kernel_rfl) (by kernel_rfl) ?_
      change wpStill _ _ (World.drew (wr.alloc (.cells #[.int .i64 ld, .int .i64 op, .int .i64 cl, .int .i64 st] 56))) (fun a' => Exit.then _ _ _ a' (World.drew (wr.alloc (.cells #[.int .i64 ld, .int .i64 op, .int .i64 cl, .int .i64 st] 56)))) _ _
      rw [← hw6]
      clear hw6
      repeat still_step
      refine wpStill_nil ?_
      rw [HTT.out]
      by_cases h1 : ld ≤ room
      · have d1 : decide (ld ≤ room) = true := decide_eq_true h1
        by_cases h2 : tt ≤ cl
        · have d2 : decide (tt ≤ cl) = true := decide_eq_true h2
          by_cases h3 : tt + bk ≤ x.en
          · have d3 : decide (tt + bk ≤ x.en) = true := decide_eq_true h3
            have HNX := Lib.hid (HZ.out.yes (by rw [HMV.out, d1, d2, d3]; rfl) HK48.out)
            have HWI := Lib.hid (with_any z HZ.out.1 (k : Int))
            clear HMV
            go_wp2_with fail
            go_quiet (fail)
            have HBQ := Lib.hid (HBW6.out.trans ((below_drewN (Below.refl _ _) nq).mono HBW6.out.size))
            go_wp2_with (go_at_call 44; refine (HWI.out _).mono ?_; rintro e w8 ⟨rfl, rfl⟩)
            go_roundw
            case rel => exact ⟨k + 1, _, rfl, by go_num, by omega, HNX, HBQ⟩
            case measure => simp [intOf]; omega
          · have d3 : decide (tt + bk ≤ x.en) = false := decide_eq_false h3
            have HNX := Lib.hid (HZ.out.no (by rw [HMV.out, d1, d2, d3]; rfl))
            clear HMV
            go_wp2_with fail
            go_quiet (fail)
            have HBQ := Lib.hid (HBW6.out.trans ((below_drewN (Below.refl _ _) nq).mono HBW6.out.size))
            go_wp2_with fail
            go_roundw
            case rel => exact ⟨k + 1, _, rfl, by go_num, by omega, HNX, HBQ⟩
            case measure => simp [intOf]; omega
        · have d2 : decide (tt ≤ cl) = false := decide_eq_false h2
          have HNX := Lib.hid (HZ.out.no (by rw [HMV.out, d1, d2]; rfl))
          clear HMV
          go_wp2_with fail
          go_quiet (fail)
          have HBQ := Lib.hid (HBW6.out.trans ((below_drewN (Below.refl _ _) nq).mono HBW6.out.size))
          go_wp2_with fail
          go_roundw
          case rel => exact ⟨k + 1, _, rfl, by go_num, by omega, HNX, HBQ⟩
          case measure => simp [intOf]; omega
      · have d1 : decide (ld ≤ room) = false := decide_eq_false h1
        have HNX := Lib.hid (HZ.out.no (by rw [HMV.out, d1]; rfl))
        clear HMV
        go_wp2_with fail
        go_quiet (fail)
        have HBQ := Lib.hid (HBW6.out.trans ((below_drewN (Below.refl _ _) nq).mono HBW6.out.size))
        go_wp2_with fail
        go_roundw
        case rel => exact ⟨k + 1, _, rfl, by go_num, by omega, HNX, HBQ⟩
        case measure => simp [intOf]; omega
    · obtain rfl : k = x.cus.length := by omega
      go_wp2_with fail
      go_ret
      exact ⟨z, ou, ba, rfl, HOU.out, HBA.out, HZ.out, (HX5.out.later HBW.out).below⟩
end Go.Proofs.Ytchdpapaojkbhaa
end
section
/- Package reach: Mays; all that the laws ask of the package. -/
namespace Go.Proofs.Ytchdpapaojkbhaa
open Go.RowKit

variable {w wr w2 : World} {A : InA} {x : Ins} {B g s i k p q c z : Nat} {rd ou ba : List Int}
theorem infoSetR : (Try.prog.info? 50).map (fun i => (i.zero, i.size, i.bytes)) = some (some (.int .u64 0), 1, 8) := by kernel_rfl
set_option maxHeartbeats 1000000 in
theorem maysNo_any (A : InA) (x : Ins) (w : World) (hi : IsIns w.heap.size w A x) (hl3 : x.cost.length ≤ 9223372036854775807) (hl4 : x.time.length ≤ 9223372036854775807) (hno : instErr x ≠ 0) :
    Calls Try.prog 16 #[.agg (insC A x)] w (Empty w) := by
  have HX := Lib.hid (XBox.make (Below.refl _ w) A x)
  have HR := Lib.hid (fun (W : World) (h : IsIns W.heap.size W A x) => readyNo_any A x W h hl3 hl4 hno)
  have HI := Lib.hid hi
  have hmk := run_make_row' (P := Try.prog) 44 50 (.int .u64 0) 8 Try.underlying44 infoSetR rfl .i64 .i64 0 (by omega) (by omega)
  simp only [Int.natCast_zero] at hmk
  clear hi hl3 hl4 hno
  unfold insC at HR HX ⊢
  go_enter Try.func16, Try.ntmps16
  go_wp2_with (go_at_call 11; refine (HR.out _ (HX.out.pipesHere HI.out)).mono ?_; rintro e w2 ⟨ra, rc, rfl, hb2⟩; have HX2 := Lib.hid (HX.out.later hb2); clear hb2)
  have HB3 := Lib.hid (HX2.out.below.alloc HX2.out.below.size (.cells (madeCells #[.int .u64 0] 0) 50))
  obtain ⟨w3, hw3⟩ : ∃ w3, w2.alloc (.cells (madeCells #[.int .u64 0] 0) 50) = w3 := ⟨_, rfl⟩
  rw [hw3] at HB3
  rw [hw3]
  clear hw3 hmk
  go_loopw [14] (fun iv wr => iv = .int .i64 0 ∧ Hid (Below w.heap.size w wr)) (fun _ _ => 0)
  case atStart => exact ⟨rfl, HB3⟩
  case round =>
    obtain ⟨rfl, HB⟩ := hrel
    go_wp2_with fail
    go_ret
    exact ⟨_, _, rfl, HB.out⟩
/-- What is told of the first k satellites. -/
def ServedTo (x : Ins) (rd : List Int) (zf : Nat → Nat) (k : Nat) : Prop := ∀ s, s < k → ∃ ou ba : List Int, OutOf x s ou ∧ BackOf x s ba ∧ ServeTo (zf s) x.cus.length (fun c => mayI x rd ou ba s c)
theorem served_all {zf : Nat → Nat} (hm : May x) (hrd : ReadyOf x rd) (h : ServedTo x rd zf x.sats.length) : SetsOf x ((List.range x.sats.length).map zf) := by
  have hnc := hm.nc
  refine ⟨by simp, fun s c => (zf s).testBit c, ⟨rd, hrd, fun s hs => ?_⟩, fun s z hz c hc => ?_⟩
  · obtain ⟨ou, ba, h1, h2, h3⟩ := h s hs
    refine ⟨ou, ba, h1, h2, fun c hc => ?_⟩
    show (zf s).testBit c = _
    rw [h3.2 c (by omega), decide_eq_true hc, Bool.true_and]
  · rw [List.getElem?_map] at hz
    by_cases hs : s < x.sats.length
    · rw [List.getElem?_range hs] at hz
      simp only [Option.map_some, Option.some.injEq] at hz
      subst hz
      obtain ⟨ou, ba, h1, h2, h3⟩ := h s hs
      have h4 := h3.2 c hc
      show (zf s).testBit c = (decide (c < x.cus.length) && (zf s).testBit c)
      rw [h4]
      cases decide (c < x.cus.length) <;> rfl
    · rw [List.getElem?_eq_none (by simp; omega)] at hz
      cases hz
theorem sets_row {G N : Nat} {zf : Nat → Nat} (h : w.rowIs G 50 N (fun j => .int .u64 ((zf j : Nat) : Int))) (hz : ∀ j, j < N → zf j < 18446744073709551616) : IsSets w.heap.size w (some ⟨G, 0, none⟩) N ((List.range N).map zf) := by
  refine ⟨by simp, fun z hm => ?_, .inr ⟨G, 0, rfl, h.lt, fun j z hj => ?_⟩⟩
  · rw [List.mem_map] at hm
    obtain ⟨j, hj, rfl⟩ := hm
    exact hz j (List.mem_range.1 hj)
  · rw [List.getElem?_map] at hj
    by_cases hjn : j < N
    · rw [List.getElem?_range hjn] at hj
      simp only [Option.map_some, Option.some.injEq] at hj
      subst hj
      rw [Nat.zero_add]
      exact h.cell hjn
    · rw [List.getElem?_eq_none (by simp; omega)] at hj
      cases hj
def setZ (zf : Nat → Nat) (k z j : Nat) : Nat := if j = k then z else zf j
theorem ServedTo.next {zf : Nat → Nat} (h : ServedTo x rd zf k) (h1 : OutOf x k ou) (h2 : BackOf x k ba) (h3 : ServeTo z x.cus.length (fun c => mayI x rd ou ba k c)) : ServedTo x rd (setZ zf k z) (k + 1) := fun s hs => by
  by_cases e : s = k
  · subst e
    exact ⟨ou, ba, h1, h2, by unfold setZ; rw [if_pos rfl]; exact h3⟩
  · obtain ⟨o, b, e1, e2, e3⟩ := h s (by omega)
    exact ⟨o, b, e1, e2, by unfold setZ; rw [if_neg e]; exact e3⟩
/-- The row of sets: the first k are told. -/
def zRow (zf : Nat → Nat) (k j : Nat) : Value := .int .u64 (((if j < k then zf j else 0 : Nat)) : Int)
theorem zRow_next {zf : Nat → Nat} {j : Nat} : (if j = k then .int .u64 (z : Int) else zRow zf k j) = zRow (setZ zf k z) (k + 1) j := by
  unfold zRow setZ
  by_cases e : j = k
  · subst e; simp
  · rw [if_neg e, if_neg e]
    have : (j < k + 1) = (j < k) := by apply propext; omega
    simp only [this]
set_option maxHeartbeats 4000000 in
set_option maxRecDepth 100000 in
theorem maysR_any (A : InA) (x : Ins) (w : World) (hi : IsIns w.heap.size w A x) (hm : May x) :
    Calls Try.prog 16 #[.agg (insC A x)] w fun e w' => ∃ (zs : List Nat) (a : Option Addr) (c : Nat), e = .returned (.slice a zs.length c) ∧ IsSets w'.heap.size w' a zs.length zs ∧ SetsOf x zs ∧ Below w.heap.size w w' := by
  have HX := Lib.hid (XBox.make (Below.refl _ w) A x)
  have HI := Lib.hid hi
  have HM := Lib.hid hm
  have HR := Lib.hid (fun (W : World) (h : IsIns W.heap.size W A x) => ready_any A x W h hm)
  have hns1 := hm.ns.1
  have hns2 := hm.ns.2
  have hmk := run_make_row' (P := Try.prog) 44 50 (.int .u64 0) 8 Try.underlying44 infoSetR rfl .i64 .i64 x.sats.length (by omega) (by omega)
  clear hi hm
  unfold insC at HR HX ⊢
  go_enter Try.func16, Try.ntmps16
  go_wp2_with (go_at_call 11; refine (HR.out _ (HX.out.pipesHere HI.out)).mono ?_; rintro e w2 ⟨rd, ra, rc, rfl, hn, hrd, hb2⟩; have HX2 := Lib.hid (HX.out.later hb2); have HRD := Lib.hid hrd; have HNR := Lib.hid hn; have hrl := hrd.1; rw [hrl]; have HRL := Lib.hid hrl; clear hb2 hrd hn hrl)
  obtain ⟨bo, oo, hoa, hbo, hoc⟩ : ∃ b off, ra = some ⟨b, off, none⟩ ∧ b < w2.heap.size ∧ ∀ (j : Nat) (v : Int), rd[j]? = some v → w2.cell? ⟨b, off + j, none⟩ = some (.int .i64 v) := by
    rcases HNR.out.2 with h | h
    · have := HRL.out; omega
    · exact h
  subst hoa
  have HBO := Lib.hid hbo
  have HOC := Lib.hid hoc
  clear hbo hoc HNR
  have HX3 := Lib.hid (HX2.out.later ((Below.refl w2.heap.size w2).alloc (Nat.le_refl _) (.cells (madeCells #[.int .u64 0] x.sats.length) 50)))
  have HB3 : Hid (Below w2.heap.size w2 (w2.alloc (.cells (madeCells #[.int .u64 0] x.sats.length) 50))) := Lib.hid ((Below.refl w2.heap.size w2).alloc (Nat.le_refl _) _)
  have HR3 := Lib.hid (World.rowIs_made w2 (.int .u64 0) x.sats.length 50)
  obtain ⟨w3, hw3⟩ : ∃ w3, w2.alloc (.cells (madeCells #[.int .u64 0] x.sats.length) 50) = w3 := ⟨_, rfl⟩
  obtain ⟨G, hG⟩ : ∃ G, w2.heap.size = G := ⟨_, rfl⟩
  rw [hw3] at HX3 HB3 HR3
  rw [hw3, hG]
  rw [hG] at HR3
  have HGB : Hid (w2.heap.size ≤ G) := Lib.hid (by omega)
  have HGX : Hid (w.heap.size < G) := Lib.hid (by have := HX2.out.lt; omega)
  clear hw3 hG hmk HX2
  have HR4 : Hid (w3.rowIs G 50 x.sats.length (zRow (fun _ => 0) 0)) := Lib.hid (HR3.out.congr fun j _ => by simp [zRow])
  have HZ0 : Hid (ServedTo x rd (fun _ => 0) 0) := Lib.hid (fun s hs => by omega)
  clear HR3
  go_loopw [14] (fun iv wr => ∃ (k : Nat) (zf : Nat → Nat), iv = .int .i64 (k : Int) ∧ k ≤ x.sats.length ∧ Hid (XBox w wr w.heap.size A x) ∧ Hid (Below w2.heap.size w2 wr) ∧ Hid (wr.rowIs G 50 x.sats.length (zRow zf k)) ∧ Hid (ServedTo x rd zf k)) (fun iv _ => x.sats.length - (intOf iv).toNat)
  case atStart => exact ⟨0, _, rfl, Nat.zero_le _, HX3, HB3, HR4, HZ0⟩
  case round =>
    obtain ⟨k, zf, rfl, hk, HX, HB, HRW, HZ⟩ := hrel
    clear HX3 HB3 HR4 HZ0
    by_cases hlt : k < x.sats.length
    · obtain ⟨r, hr⟩ : ∃ r, rd[k]? = some r := ⟨_, List.getElem?_eq_getElem (by have := HRL.out; omega)⟩
      have v0 := (HB.out.cell (p := ⟨bo, oo + k, none⟩) HBO.out).trans (HOC.out k r hr)
      have HSV := Lib.hid (fun (W : World) (h : IsIns W.heap.size W A x) => serve_any A x W h HM.out HRD.out hlt hr)
      obtain ⟨c0, c1, c2, c3, c4, c5, c6, c7, c8⟩ := HX.out.cells
      have hkr : (k : Int) < (rd.length : Int) := by have := HRL.out; omega
      clear hr
      go_wp2_with fail
      refine (HSV.out _ (HX.out.pipesHere HI.out)).mono ?_
      rintro e w5 ⟨z, ou, ba, rfl, h1, h2, h3, hb5⟩
      have HX5 := Lib.hid (HX.out.later hb5)
      have HB5 := Lib.hid (HB.out.trans (hb5.mono HB.out.size))
      have HR5 := Lib.hid (rowIs_below HRW.out hb5)
      have HZ5 := Lib.hid (HZ.out.next h1 h2 h3)
      have q0 := HR5.out.cell hlt
      have q1 := HR5.out.frozen k
      unfold zRow at q0
      have HX6 : Hid (XBox w (w5.setCell ⟨G, k, none⟩ (.int .u64 (z : Int))) w.heap.size A x) := Lib.hid ⟨HX5.out.below.setCell (p := ⟨G, k, none⟩) (by have := HGX.out; show w.heap.size ≤ G; omega) _, HX5.out.ge, (heap_setCell_other _ _ _ _ (by have := HGX.out; show w.heap.size ≠ G; omega)).trans HX5.out.blk⟩
      have HB6 : Hid (Below w2.heap.size w2 (w5.setCell ⟨G, k, none⟩ (.int .u64 (z : Int)))) := Lib.hid (HB5.out.setCell (p := ⟨G, k, none⟩) HGB.out _)
      have HR6 : Hid ((w5.setCell ⟨G, k, none⟩ (.int .u64 (z : Int))).rowIs G 50 x.sats.length (zRow (setZ zf k z) (k + 1))) := Lib.hid ((HR5.out.set k _).congr fun j _ => zRow_next)
      clear h1 h2 h3 hb5
      go_wp2_with fail
      go_roundw
      case rel => exact ⟨k + 1, _, by go_num, by omega, HX6, HB6, HR6, HZ5⟩
      case measure => simp [intOf]; omega
    · obtain rfl : k = x.sats.length := by omega
      go_wp2_with fail
      go_ret
      refine ⟨(List.range x.sats.length).map zf, some ⟨G, 0, none⟩, x.sats.length, by simp, ?_, served_all HM.out HRD.out HZ.out, HX.out.below⟩
      have h := sets_row (zf := zf) (HRW.out.congr (fun j hj => by unfold zRow; rw [if_pos hj])) (fun j hj => by obtain ⟨_, _, _, _, h3⟩ := HZ.out j hj; exact h3.1)
      simpa using h
/-- Package reach answers as the laws ask. -/
theorem reach_spec : ReachSpec where
  ready A x w hi hm := ready_any A x w hi hm
  out A x _ w hi hm hs := out_any A x w hi hm hs
  back A x _ w hi hm hs := back_any A x w hi hm hs
  mays A x w hi hm := maysR_any A x w hi hm
  readyNo A x w hi h1 h2 h3 := readyNo_any A x w hi h1 h2 h3
  outNo A x s w hi h1 h2 _ h4 := outNo_any A x s w hi h1 h2 h4
  backNo A x s w hi h1 h2 _ h4 := backNo_any A x s w hi h1 h2 h4
  maysNo A x w hi h1 h2 h3 := maysNo_any A x w hi h1 h2 h3
end Go.Proofs.Ytchdpapaojkbhaa
end

/- The law's own order of the nodes: the walk. -/
import Derived.Test.YtgoegkajfhhcjaaNext
import Derived.Test.YtgoegkajfhhcjaaOrderSpec
import Derived.Deep.LoopGhost
import Derived.WalkSmall
namespace Go.Proofs.Ytgoegkajfhhcjaa
open Go.RowKit

variable {w wr w2 w4 : World} {a : Option Addr} {len cap C N g' cap' i m q : Nat} {l : List Ar} {o : List Nat} {lv : Value} {x : Ar} {nv : Int} {ob : Obj}
def memB (o : List Nat) (i : Nat) : Bool := decide (i ∈ o)
/-- May it be next, by the first q arcs? -/
def freeB (l : List Ar) (o : List Nat) (i q : Nat) : Bool := !memB o i && (l.take q).all (fun x => x.2.1 != (i : Int) || memB o x.1.toNat)
theorem freeB_zero (l : List Ar) (o : List Nat) (i : Nat) : freeB l o i 0 = !memB o i := by simp [freeB]
theorem freeB_succ (hx : l[q]? = some x) : freeB l o i (q + 1) = (freeB l o i q && (x.2.1 != (i : Int) || memB o x.1.toNat)) := by
  rw [freeB, List.take_add_one, hx, Option.toList_some, List.all_append]
  simp [freeB, Bool.and_assoc]
theorem freeB_all (hok : ∀ x ∈ l, okA (N : Int) x = true) (hq : l.length ≤ q) : freeB l o i q = true ↔ Free l o i := by
  rw [freeB, List.take_of_length_le hq]
  simp only [Bool.and_eq_true, Bool.not_eq_true', List.all_eq_true, Bool.or_eq_true, bne_iff_ne, memB, decide_eq_false_iff_not, decide_eq_true_eq]
  constructor
  · rintro ⟨h1, h2⟩
    refine ⟨h1, fun x hx e => ?_⟩
    have h3 := okA_true.1 (hok x hx)
    rcases h2 x hx with h4 | h4
    · exact absurd e h4
    · exact ⟨x.1.toNat, by omega, h4⟩
  · rintro ⟨h1, h2⟩
    refine ⟨h1, fun x hx => ?_⟩
    by_cases e : x.2.1 = (i : Int)
    · obtain ⟨f, h3, h4⟩ := h2 x hx e
      right
      rw [h3]
      simpa using h4
    · exact .inl e
/-- The least one from m on that may be next; -1: none. -/
def NextIs (l : List Ar) (N : Nat) (o : List Nat) (m : Nat) (nv : Int) : Prop := (nv = -1 ∧ ∀ j, m ≤ j → j < N → ¬ Free l o j) ∨ ∃ k : Nat, nv = (k : Int) ∧ m ≤ k ∧ k < N ∧ Free l o k ∧ ∀ j, m ≤ j → j < k → ¬ Free l o j
theorem NextIs.begin_ (l : List Ar) (N : Nat) (o : List Nat) : NextIs l N o N (-1) := .inl ⟨rfl, fun j h1 h2 => by omega⟩
theorem NextIs.skip (h : NextIs l N o (m + 1) nv) (hf : ¬ Free l o m) : NextIs l N o m nv := by
  rcases h with ⟨h1, h2⟩ | ⟨k, h1, h2, h3, h4, h5⟩
  · exact .inl ⟨h1, fun j hj hN => by
      by_cases e : j = m
      · subst e; exact hf
      · exact h2 j (by omega) hN⟩
  · exact .inr ⟨k, h1, by omega, h3, h4, fun j hj hk => by
      by_cases e : j = m
      · subst e; exact hf
      · exact h5 j (by omega) hk⟩
theorem NextIs.take (hm : m < N) (hf : Free l o m) : NextIs l N o m (m : Int) := .inr ⟨m, rfl, Nat.le_refl _, hm, hf, fun j h1 h2 => by omega⟩
theorem nodesV_snoc (o : List Nat) (i : Nat) : nodesV (o ++ [i]) = nodesV o ++ [(i : Int)] := by simp [nodesV]

/-- What it has in memory: the graph's box, the marks, the nodes so far. -/
structure SortW (w wr : World) (C N : Nat) (a : Option Addr) (len cap : Nat) (o : List Nat) (lv : Value) : Prop where
  box : Box w wr w.heap.size (N : Int) a len cap
  marks : wr.rowIs C 4 N (fun i => .bool (memB o i))
  lt : w.heap.size < C
  row : wr.ownsRow (C + 1) 3 1 lv (nodesV o).length (numsV (nodesV o))
theorem SortW.later (h : SortW w wr C N a len cap o lv) (hb : Below wr.heap.size wr w2) : SortW w w2 C N a len cap o lv := ⟨h.box.later hb, rowIs_below h.marks hb, h.lt, owns_below h.row hb⟩
theorem SortW.start (w : World) (N : Nat) (a : Option Addr) (len cap : Nat) : SortW w ((w.alloc (.cells #[.int .i64 (N : Int), .slice a len cap] 26)).alloc (.cells (madeCells #[.bool false] N) 4)) (w.heap.size + 1) N a len cap [] (.slice none 0 0) := by
  refine ⟨(Box.make (Below.refl _ w) (N : Int) a len cap).alloc _, ?_, by omega, World.ownsRow_nil _ _ _ 1⟩
  have := World.rowIs_made (w.alloc (.cells #[.int .i64 (N : Int), .slice a len cap] 26)) (.bool false) N 4
  rw [World.size_alloc] at this
  exact this.congr (fun i _ => by simp [memB])
/-- One more. -/
theorem SortW.push {k : Nat} (h : SortW w wr C N a len cap o lv) (hk : k < N) (hown : w4.ownsRow (C + 1) 3 1 (.slice (some ⟨g', 0, none⟩) ((nodesV o).length + 1) cap') ((nodesV o).length + 1) (numsV (nodesV o) ++ [.int .i64 (k : Int)]))
    (hgrow : ((wr.setCell ⟨C, k, none⟩ (.bool true)).alloc ob).grownBy w4 lv.ownBlock) : SortW w w4 C N a len cap (o ++ [k]) (.slice (some ⟨g', 0, none⟩) ((nodesV o).length + 1) cap') := by
  have hC : ∀ k, lv.ownBlock = some k → C + 1 ≤ k := fun k hk => (World.ownsRow.lt h.row k hk).1
  have hlt := h.lt
  have hm1 : Mod (fun b => b = C) wr (wr.setCell ⟨C, k, none⟩ (.bool true)) := (Mod.refl (fun b => b = C) wr).setCell (p := ⟨C, k, none⟩) (.inr rfl) _
  have hm2 : Mod (fun k => lv.ownBlock = some k) (wr.setCell ⟨C, k, none⟩ (.bool true)) w4 := ((Mod.refl _ _).alloc ob).grown hgrow (fun k hk => .inr hk)
  have hm : Mod (fun b => b = C ∨ lv.ownBlock = some b) wr w4 := (hm1.mono (fun _ _ q => .inl q)).trans (hm2.mono (fun _ _ q => .inr q))
  refine ⟨⟨((Mod.of_below (fun b => b = C ∨ lv.ownBlock = some b) h.box.below).trans hm).below (Nat.le_refl _) (fun b hb => ?_), Nat.le_refl _, ?_⟩, ?_, hlt, ?_⟩
  · rcases hb with hb | hb
    · omega
    · have := hC b hb; omega
  · rw [hm.block _ h.box.lt (fun hb => by
      rcases hb with hb | hb
      · omega
      · have := hC _ hb; omega)]
    exact h.box.blk
  · have h2 : w4.rowIs C 4 N (fun i => if i = k then .bool true else .bool (memB o i)) := (h.marks.set k (.bool true)).of_block (hm2.block C (Nat.lt_of_lt_of_le h.marks.lt hm1.size) (fun hb => by have := hC _ hb; omega))
    refine h2.congr (fun i _ => ?_)
    by_cases e : i = k
    · subst e; simp [memB]
    · simp [memB, e]
  · rw [nodesV_snoc, numsV_snoc, List.length_append]
    exact hown

set_option maxHeartbeats 4000000 in
set_option maxRecDepth 100000 in
theorem sorted_any (N : Nat) (hN1 : 1 ≤ N) (hN : N ≤ 1000) (hlen : len ≤ 20000) (hok : ∀ x ∈ l, okA (N : Int) x = true) (a : Option Addr) (cap : Nat) (w : World) (hl : IsArcs w.heap.size w a len l) :
    Calls Try.prog 11 #[.agg #[.int .i64 (N : Int), .slice a len cap]] w fun e w' => Below w.heap.size w w' ∧
      ((∃ v out, e = .returned (.tuple #[v, .bool true]) ∧ Whole l N out ∧ w'.ownsRow w.heap.size 3 1 v (nodesV out).length (numsV (nodesV out))) ∨
       ∃ out, e = .returned (.tuple #[.slice none 0 0, .bool false]) ∧ Stuck l N out) := by
  obtain ⟨i0, hi0, hz0, hz1, hz2⟩ := info_parts infoInt
  have hmk := run_make_row' (P := Try.prog) 52 4 (.bool false) 1 Try.underlying52 infoBool rfl .i64 .i64 N (by omega) (by omega)
  have HLn : Hid (l.length = len) := Lib.hid hl.1
  have HL := Lib.hid hl; clear hl
  have HOK := Lib.hid hok; clear hok
  have HW0 := Lib.hid (SortW.start w N a len cap)
  have HS0 : Hid (Seq l N []) := Lib.hid .nil
  go_enter Try.func11, Try.ntmps11
  go_wp2_with fail
  clear hmk
  obtain ⟨C, hC⟩ : ∃ C, C = w.heap.size + 1 := ⟨_, rfl⟩
  rw [← hC] at HW0 ⊢
  clear hC
  go_loopg [4] N (fun n lv wr => ∃ (o : List Nat), o.length + n = N ∧ Hid (SortW w wr C N a len cap o lv) ∧ Hid (Seq l N o))
  case atStart => exact ⟨[], by simp, HW0, HS0⟩
  case round =>
    obtain ⟨o, hon, HX, HS⟩ := hrel
    clear HW0 HS0
    obtain ⟨va, vc, hv⟩ := owns_shape HX.out.row
    have hnl : (nodesV o).length = o.length := nodesV_length o
    rw [hnl] at hv
    subst hv
    have x0 := HX.out.box.c0
    have x1 := HX.out.box.c1
    by_cases hlt : o.length < N
    · have HN0 := Lib.hid (NextIs.begin_ l N o)
      go_wp2_with fail
      clear x0 x1
      go_loopw [6, 7] (fun s6 s7 wr => ∃ (m : Nat) (z nv : Int), s6 = .int .i64 nv ∧ s7 = .int .i64 z ∧ z + 1 = (m : Int) ∧ m ≤ N ∧ Hid (SortW w wr C N a len cap o (.slice va o.length vc)) ∧ Hid (NextIs l N o m nv)) (fun _ s7 _ => (intOf s7 + 1).toNat)
      case atStart => exact ⟨N, (N : Int) - 1, -1, rfl, rfl, by omega, Nat.le_refl _, HX, HN0⟩
      case round =>
        clear HX HN0
        obtain ⟨m, z, nv, rfl, rfl, hz, hm, HX, HN⟩ := hrel
        by_cases hzz : 0 ≤ z
        · obtain ⟨i, rfl⟩ : ∃ i : Nat, z = (i : Int) := ⟨z.toNat, by omega⟩
          have hmi : m = i + 1 := by omega
          subst hmi
          have i1 : (0 : Int) ≤ (i : Int) := by omega
          have i2 : (i : Int) < (N : Int) := by omega
          have hiN : i < N := by omega
          have y0 := HX.out.marks.cell hiN
          have y1 := HX.out.box.c1
          go_wp2_with fail
          clear y0 y1
          go_loopw [8, 34] (fun s8 s34 wr => ∃ (q : Nat), s34 = .int .i64 q ∧ s8 = .bool (freeB l o i q) ∧ q ≤ len ∧ Hid (SortW w wr C N a len cap o (.slice va o.length vc))) (fun _ s34 _ => len - (intOf s34).toNat)
          case atStart => exact ⟨0, rfl, by rw [freeB_zero], Nat.zero_le _, HX⟩
          case round =>
            clear HX
            obtain ⟨q, rfl, rfl, hq, HX⟩ := hrel
            by_cases hlt2 : q < len
            · obtain ⟨b, off, x, rfl, hb, hx, e0, e1, e2⟩ := (HX.out.box.arcs HL.out).at_ hlt2
              have hxok := okA_true.1 (HOK.out x (List.mem_of_getElem? hx))
              have HFS := Lib.hid (freeB_succ (o := o) (i := i) hx)
              clear hx hb
              obtain ⟨f0, t0, wt⟩ := x
              simp only at e0 e1 e2 hxok
              obtain ⟨f, rfl⟩ : ∃ f : Nat, f0 = (f : Int) := ⟨f0.toNat, by omega⟩
              obtain ⟨t, rfl⟩ : ∃ t : Nat, t0 = (t : Int) := ⟨t0.toNat, by omega⟩
              have hf : f < N := by omega
              have f1 : (0 : Int) ≤ (f : Int) := by omega
              have f2 : (f : Int) < (N : Int) := by omega
              clear hxok
              have HXA := Lib.hid (HX.out.later ((Below.refl wr.heap.size wr).alloc (Nat.le_refl _) (.cells #[.int .i64 (f : Int), .int .i64 (t : Int), .int .i64 wt] 35)))
              have cf := HXA.out.marks.cell hf
              cases hfb : freeB l o i q with
              | false =>
                have HF2 : Hid (freeB l o i (q + 1) = false) := Lib.hid (by rw [HFS.out, hfb]; rfl)
                clear hfb cf
                go_wp2_with fail
                go_roundw
                case rel => exact ⟨q + 1, by go_num, by rw [HF2.out], by omega, HXA⟩
                case measure => simp [intOf]; omega
              | true =>
                by_cases hti : t = i
                · subst hti
                  cases hmf : memB o f with
                  | false =>
                    rw [hmf] at cf
                    have HF2 : Hid (freeB l o t (q + 1) = false) := Lib.hid (by rw [HFS.out, hfb]; simp [hmf])
                    clear hfb hmf
                    go_wp2_with fail
                    go_roundw
                    case rel => exact ⟨q + 1, by go_num, by rw [HF2.out], by omega, HXA⟩
                    case measure => simp [intOf]; omega
                  | true =>
                    rw [hmf] at cf
                    have HF2 : Hid (freeB l o t (q + 1) = true) := Lib.hid (by rw [HFS.out, hfb]; simp [hmf])
                    clear hfb hmf
                    go_wp2_with fail
                    go_roundw
                    case rel => exact ⟨q + 1, by go_num, by rw [HF2.out], by omega, HXA⟩
                    case measure => simp [intOf]; omega
                · have HF2 : Hid (freeB l o i (q + 1) = true) := Lib.hid (by rw [HFS.out, hfb]; simp; left; omega)
                  have htb : ((t : Int) != (i : Int)) = true := by simp; omega
                  clear hfb cf
                  go_wp2_with fail
                  go_roundw
                  case rel => exact ⟨q + 1, by go_num, by rw [HF2.out], by omega, HXA⟩
                  case measure => simp [intOf]; omega
            · have HFA := Lib.hid (freeB_all (o := o) (i := i) (q := q) HOK.out (by have := HLn.out; omega))
              cases hfb : freeB l o i q with
              | false =>
                have HN2 := Lib.hid (HN.out.skip (fun h => by rw [HFA.out.2 h] at hfb; cases hfb))
                clear hfb
                go_wp2_with fail
                go_roundw
                case rel => exact ⟨i, (i : Int) - 1, nv, rfl, rfl, by omega, by omega, HX, HN2⟩
                case measure => (simp [intOf]; try omega)
              | true =>
                have HN2 := Lib.hid (NextIs.take hiN (HFA.out.1 hfb))
                clear hfb
                go_wp2_with fail
                go_roundw
                case rel => exact ⟨i, (i : Int) - 1, (i : Int), rfl, rfl, by omega, by omega, HX, HN2⟩
                case measure => (simp [intOf]; try omega)
        · have hm0 : m = 0 := by omega
          subst hm0
          have hex : (nv = -1 ∧ Stuck l N o) ∨ ∃ k : Nat, nv = (k : Int) ∧ k < N ∧ Seq l N (o ++ [k]) := by
            rcases HN.out with ⟨h1, h2⟩ | ⟨k, h1, _, h3, h4, h5⟩
            · exact .inl ⟨h1, HS.out, hlt, fun j hj => h2 j (Nat.zero_le _) hj⟩
            · exact .inr ⟨k, h1, h3, HS.out.snoc h3 h4 (fun j hj => h5 j (Nat.zero_le _) hj)⟩
          rcases hex with ⟨rfl, hst⟩ | ⟨k, rfl, hk, hsq⟩
          · have HST := Lib.hid hst
            clear hst
            go_wp2_with fail
            go_ret2
            exact ⟨HX.out.box.below, .inr ⟨rfl, o, HST.out⟩⟩
          · have HSQ := Lib.hid hsq
            clear hsq
            have k1 : (0 : Int) ≤ (k : Int) := by omega
            have k2 : (k : Int) < (N : Int) := by omega
            have y0 := HX.out.marks.cell hk
            have y1 := HX.out.marks.frozen k
            have ho3 := (ownsRow_setCell_other HX.out.row (a := ⟨C, k, none⟩) (fun e => by have := (World.ownsRow.lt HX.out.row C e).1; omega) (.bool true)).alloc (.cells #[.int .i64 (k : Int)] 3)
            rw [hnl] at ho3
            have HO3 := Lib.hid ho3
            clear ho3
            have HCl : Hid (C < wr.heap.size) := Lib.hid HX.out.marks.lt
            go_wp2_with (at_builtin; refine wpList_append_fresh rfl (.tmp 60) (.tmp 62) 28 rfl (C + 1) 3 i0 _ 1 8 Try.underlying28 hi0 hz0 hz1 hz2 (by decide) (.slice va o.length vc) o.length (numsV (nodesV o)) rfl HO3.out ⟨wr.heap.size, 0, none⟩ 1 [.int .i64 (k : Int)] rfl rfl (news_at _ _ _ _ (by simp)) (one_int _) (by unfold maxLen; omega) (by omega) (by have := HCl.out; simp; omega) ?_; intro g' cap' w5 hown hgrow hfr; have HP := Lib.hid (HX.out.push (g' := g') (cap' := cap') hk (by rw [hnl]; exact hown) hgrow); clear hown hgrow hfr)
            rw [hnl] at HP
            go_roundg (N - (o.length + 1))
            case measure => omega
            case rel => exact ⟨o ++ [k], by simp; omega, HP, HSQ⟩
    · have hoN : o.length = N := by omega
      have HO := Lib.hid HX.out.row
      go_wp2_with fail
      go_ret2
      exact ⟨HX.out.box.below, .inl ⟨_, o, rfl, ⟨HS.out, hoN⟩, owns_rebase HX.out.row (by have := HX.out.lt; omega)⟩⟩
end Go.Proofs.Ytgoegkajfhhcjaa

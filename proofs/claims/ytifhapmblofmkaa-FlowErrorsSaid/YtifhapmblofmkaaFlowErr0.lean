/- The walk of the law on errors of package flow. -/
import Derived.Test.YtifhapmblofmkaaFlowSpec
import Derived.LoopTactic
namespace Go.Proofs.Ytifhapmblofmkaa
open Go.RowKit

variable {len cap m c : Nat} {l : List Pi} {w wr w2 : World} {n s t : Int} {a b : Option Addr} {xs : List Int}
/-- What the law has in memory. -/
structure ErrF (w wr : World) (n : Int) (a : Option Addr) (len cap : Nat) (l : List Pi) (b : Option Addr) (m : Nat) (xs : List Int) : Prop where
  box : NBox w wr w.heap.size n a len cap
  pipes : IsPipes wr.heap.size wr a len l
  nums : IsNums wr.heap.size wr b m xs
theorem ErrF.later (h : ErrF w wr n a len cap l b m xs) (hb : Below wr.heap.size wr w2) : ErrF w w2 n a len cap l b m xs := ⟨h.box.later hb, (h.pipes.later hb).mono hb.size, (h.nums.later hb).mono hb.size⟩
theorem ErrF.make (w : World) (n : Int) (cap : Nat) (hl : IsPipes w.heap.size w a len l) (hi : IsNums w.heap.size w b m xs) : ErrF w (w.alloc (.cells #[.int .i64 n, .slice a len cap] 26)) n a len cap l b m xs := by
  have hb := (Below.refl w.heap.size w).alloc (Nat.le_refl _) (.cells #[.int .i64 n, .slice a len cap] 26)
  exact ⟨NBox.make (Below.refl _ w) n a len cap, (hl.later hb).mono hb.size, (hi.later hb).mono hb.size⟩
theorem all_stepF {k : Nat} {x : Pi} (hx : l[k]? = some x) : (l.take (k + 1)).all (okP n) = ((l.take k).all (okP n) && okP n x) := by
  rw [List.take_add_one, hx, List.all_append]
  simp
theorem rightV_bad (h : endsP n l s t ≠ 0) : rightV n l xs s t = (0, false) := by
  unfold rightV
  rw [if_neg (fun e => h e.1)]
set_option maxRecDepth 100000 in
theorem law_early (hawake : ∀ w, Calls Try.prog 8 #[] w fun e w' => e = .returned (.bool true) ∧ Below w.heap.size w w') (h : (30 : Int) < (len : Int) ∨ (20 < n ∧ n ≤ 1000)) (a b : Option Addr) (cap : Nat) (w : World) :
    Calls Try.prog 6 #[.agg #[.int .i64 n, .slice a len cap], .int .i64 s, .int .i64 t, .slice b m c] w fun e w' => e = .returned (.bool true) ∧ Below w.heap.size w w' := by
  have HG := Lib.hid (NBox.make (Below.refl _ w) n a len cap)
  by_cases h1 : (30 : Int) < (len : Int)
  · clear h
    go_enter Try.func6, Try.ntmps6
    go_wp2_with (go_at_call 8; refine (hawake _).mono ?_; rintro e w1 ⟨rfl, hb1⟩; have HG1 := Lib.hid (HG.out.later hb1); have x0 := HG1.out.c0; have x1 := HG1.out.c1; clear hb1)
    go_ret
    exact ⟨rfl, HG1.out.below⟩
  · obtain ⟨h2, h3⟩ : 20 < n ∧ n ≤ 1000 := by omega
    clear h
    go_enter Try.func6, Try.ntmps6
    go_wp2_with (go_at_call 8; refine (hawake _).mono ?_; rintro e w1 ⟨rfl, hb1⟩; have HG1 := Lib.hid (HG.out.later hb1); have x0 := HG1.out.c0; have x1 := HG1.out.c1; clear hb1)
    go_ret
    exact ⟨rfl, HG1.out.below⟩
end Go.Proofs.Ytifhapmblofmkaa

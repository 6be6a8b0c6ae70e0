/- Package graph: Joined. -/
import Derived.Test.YtgoegkajfhhcjaaCheck
namespace Go.Proofs.Ytgoegkajfhhcjaa
open Go.RowKit

/-- The slice's elements are these numbers; they lay there already when the heap had B blocks. -/
def IsInts (B : Nat) (w : World) (a : Option Addr) (len : Nat) (ws : List Int) : Prop := ws.length = len ∧ (len = 0 ∨ ∃ b off, a = some ⟨b, off, none⟩ ∧ b < B ∧ ∀ (j : Nat) (x : Int), ws[j]? = some x → w.cell? ⟨b, off + j, none⟩ = some (.int .i64 x))
variable {w wr w2 : World} {a : Option Addr} {len cap B B2 g : Nat} {l : List Ar} {n : Int} {k : Nat} {x : Ar} {ws : List Int}
theorem IsInts.later (h : IsInts B w a len ws) (hb : Below B w w2) : IsInts B w2 a len ws := ⟨h.1, by
  rcases h.2 with h | ⟨b, off, e, h1, h2⟩
  · exact .inl h
  · exact .inr ⟨b, off, e, h1, fun j x hx => (hb.cell (p := ⟨b, off + j, none⟩) h1).trans (h2 j x hx)⟩⟩
theorem IsInts.at_ (h : IsInts B w a len ws) {j : Nat} (hj : j < len) : ∃ b off x, a = some ⟨b, off, none⟩ ∧ ws[j]? = some x ∧ w.cell? ⟨b, off + j, none⟩ = some (.int .i64 x) := by
  obtain ⟨h1, h2⟩ := h
  subst h1
  rcases h2 with h2 | ⟨b, off, e, hb, hr⟩
  · omega
  · exact ⟨b, off, _, e, List.getElem?_eq_getElem hj, hr j _ (List.getElem?_eq_getElem hj)⟩

/-- The arc of a number. -/
def arcNo (l : List Ar) (k : Int) : Option Ar := if 0 ≤ k then l[k.toNat]? else none
/-- Where one comes by these arcs, one behind the other, and what they weigh; or they don't join so. -/
def joinO (l : List Ar) : List Int → Int → Int → Option (Int × Int)
  | [], at_, s => some (at_, s)
  | k :: r, at_, s => match arcNo l k with
    | some x => if x.1 = at_ then joinO l r x.2.1 (wrap64 (s + x.2.2)) else none
    | none => none
/-- What Joined answers. -/
def joinV (o : Option (Int × Int)) (to : Int) : Value := match o with
  | some (p, s) => if p = to then .tuple #[.int .i64 s, .bool true] else .tuple #[.int .i64 0, .bool false]
  | none => .tuple #[.int .i64 0, .bool false]
theorem join_on {F : Option (Int × Int)} {j : Nat} {k at_ s : Int} (h : joinO l (ws.drop j) at_ s = F) (hj : ws[j]? = some k) (hx : arcNo l k = some x) (hf : x.1 = at_) : joinO l (ws.drop (j + 1)) x.2.1 (wrap64 (s + x.2.2)) = F := by
  obtain ⟨hl, rfl⟩ := List.getElem?_eq_some_iff.1 hj
  rw [List.drop_eq_getElem_cons hl, joinO, hx] at h
  simpa [hf] using h
theorem join_off {F : Option (Int × Int)} {j : Nat} {k at_ s : Int} (h : joinO l (ws.drop j) at_ s = F) (hj : ws[j]? = some k) (hx : ∀ x, arcNo l k = some x → x.1 ≠ at_) : F = none := by
  obtain ⟨hl, rfl⟩ := List.getElem?_eq_some_iff.1 hj
  rw [List.drop_eq_getElem_cons hl, joinO] at h
  rw [← h]
  cases hq : arcNo l ws[j] with
  | none => rfl
  | some x => simp [hx x hq]
theorem join_end {F : Option (Int × Int)} {j : Nat} {at_ s : Int} (h : joinO l (ws.drop j) at_ s = F) (hj : ws.length ≤ j) : F = some (at_, s) := by
  rw [List.drop_of_length_le hj, joinO] at h
  exact h.symm
theorem ret_val {p q : Value} (h : p = q) : Ending.returned p = .returned q := by rw [h]

set_option maxHeartbeats 1000000 in
set_option maxRecDepth 100000 in
theorem joined_any (n : Int) (cap : Nat) (a : Option Addr) (aw : Option Addr) (lw cw : Nat) (src to : Int) (w : World) (hl : IsArcs w.heap.size w a len l) (hw : IsInts w.heap.size w aw lw ws) (hbig : lw ≤ 9223372036854775807) :
    Calls Try.prog 14 #[.agg #[.int .i64 n, .slice a len cap], .slice aw lw cw, .int .i64 src, .int .i64 to] w fun e w' => e = .returned (joinV (joinO l ws src 0) to) ∧ Below w.heap.size w w' := by
  obtain ⟨F, hF⟩ : ∃ F, joinO l ws src 0 = F := ⟨_, rfl⟩
  rw [hF]
  have HG := Lib.hid (Box.make (Below.refl _ w) n a len cap)
  have HL := Lib.hid (HG.out.arcs hl)
  have HW := Lib.hid (hw.later HG.out.below)
  have HJ0 : Hid (joinO l (ws.drop 0) src 0 = F) := Lib.hid hF
  have HLn : Hid (l.length = len) := Lib.hid hl.1
  have HWn : Hid (ws.length = lw) := Lib.hid hw.1
  clear hl hw hF
  have b0 := HG.out.c0
  have b1 := HG.out.c1
  go_enter Try.func14, Try.ntmps14
  go_wp2_with fail
  go_loop [10, 11, 17] (fun s p i => ∃ (j : Nat) (at_ sum : Int), i = .int .i64 j ∧ p = .int .i64 at_ ∧ s = .int .i64 sum ∧ j ≤ lw ∧ Hid (joinO l (ws.drop j) at_ sum = F)) (fun _ _ i => lw - (intOf i).toNat)
  case atStart => exact ⟨0, src, 0, rfl, rfl, rfl, Nat.zero_le _, HJ0⟩
  case round =>
    obtain ⟨j, at_, sum, rfl, rfl, rfl, hj, HJ⟩ := hrel
    clear HJ0
    by_cases hlt : j < lw
    · obtain ⟨bw, ow, k, rfl, hk, ek⟩ := HW.out.at_ hlt
      have HK := Lib.hid hk; clear hk
      by_cases hk0 : k < 0
      · have HN := Lib.hid (join_off HJ.out HK.out (fun x hx => by simp [arcNo, show ¬ 0 ≤ k by omega] at hx))
        go_wp2_with fail
        go_ret2
        exact ⟨ret_val (by rw [HN.out]; rfl), HG.out.below⟩
      · obtain ⟨q, rfl⟩ : ∃ q : Nat, k = (q : Int) := ⟨k.toNat, by omega⟩
        clear hk0
        by_cases hq : q < len
        · obtain ⟨b, off, x, rfl, hb, hx, e0, e1, e2⟩ := HL.out.at_ hq
          have HX : Hid (arcNo l (q : Int) = some x) := Lib.hid (by simp [arcNo, hx])
          clear hx hb
          obtain ⟨f, t, c⟩ := x
          simp only at e0 e1 e2
          by_cases hf : f = at_
          · have HN := Lib.hid (join_on HJ.out HK.out HX.out hf)
            clear HJ
            subst hf
            go_wp2_with fail
            go_round
            case rel => exact ⟨j + 1, _, _, by go_num, rfl, rfl, by omega, HN⟩
            case measure => simp [intOf]; omega
          · have HN := Lib.hid (join_off HJ.out HK.out (fun x hx => by rw [HX.out] at hx; cases hx; exact hf))
            have hf2 : (f != at_) = true := by simpa using hf
            clear hf
            go_wp2_with fail
            go_ret2
            exact ⟨ret_val (by rw [HN.out]; rfl), HG.out.below⟩
        · have HN := Lib.hid (join_off HJ.out HK.out (fun x hx => by have := HLn.out; simp [arcNo, List.getElem?_eq_none (show l.length ≤ q by omega)] at hx))
          go_wp2_with fail
          go_ret2
          exact ⟨ret_val (by rw [HN.out]; rfl), HG.out.below⟩
    · have HE := Lib.hid (join_end HJ.out (by have := HWn.out; omega))
      by_cases ht : at_ = to
      · have HR : Hid (joinV F to = .tuple #[.int .i64 sum, .bool true]) := Lib.hid (by rw [HE.out]; simp [joinV, ht])
        clear HE HJ
        go_wp2_with fail
        go_ret2
        exact ⟨ret_val HR.out.symm, HG.out.below⟩
      · have HR : Hid (joinV F to = .tuple #[.int .i64 0, .bool false]) := Lib.hid (by rw [HE.out]; simp [joinV, ht])
        clear HE HJ
        go_wp2_with fail
        go_ret2
        exact ⟨ret_val HR.out.symm, HG.out.below⟩
end Go.Proofs.Ytgoegkajfhhcjaa

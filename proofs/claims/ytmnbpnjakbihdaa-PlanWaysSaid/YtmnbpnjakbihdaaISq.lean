/- The law's own square of numbers: rows of rows of the call's own. -/
import Derived.Test.YtmnbpnjakbihdaaInstT
import Derived.Deep.LoopGhost
import Derived.LoopTactic
namespace Go.Proofs.Ytmnbpnjakbihdaa
open Go.RowKit

variable {w wr w2 w4 : World} {B n N g i k len : Nat} {v : Value} {V : Nat → Nat} {L : Nat → Nat → Int} {a : Option Addr} {zs : List Int}
/-- The slice's elements are these small numbers (uint8). -/
def IsU8 (B : Nat) (w : World) (a : Option Addr) (len : Nat) (ws : List Int) : Prop := ws.length = len ∧ (∀ x ∈ ws, 0 ≤ x ∧ x ≤ 255) ∧ (len = 0 ∨ ∃ b off, a = some ⟨b, off, none⟩ ∧ b < B ∧ ∀ (j : Nat) (x : Int), ws[j]? = some x → w.cell? ⟨b, off + j, none⟩ = some (.int .u8 x))
theorem IsU8.later (h : IsU8 B w a len zs) (hb : Below B w w2) : IsU8 B w2 a len zs := ⟨h.1, h.2.1, by
  rcases h.2.2 with h | ⟨b, off, e, h1, h2⟩
  · exact .inl h
  · exact .inr ⟨b, off, e, h1, fun j x hx => (hb.cell (p := ⟨b, off + j, none⟩) h1).trans (h2 j x hx)⟩⟩
theorem IsU8.mono {B2 : Nat} (h : IsU8 B w a len zs) (hb : B ≤ B2) : IsU8 B2 w a len zs := ⟨h.1, h.2.1, by
  rcases h.2.2 with h | ⟨b, off, e, h1, h2⟩
  · exact .inl h
  · exact .inr ⟨b, off, e, by omega, h2⟩⟩
theorem IsU8.at_ (h : IsU8 B w a len zs) (hk : k < len) : ∃ b off x, a = some ⟨b, off, none⟩ ∧ zs[k]? = some x ∧ (0 ≤ x ∧ x ≤ 255) ∧ w.cell? ⟨b, off + k, none⟩ = some (.int .u8 x) := by
  obtain ⟨h1, h3, h2⟩ := h
  subst h1
  rcases h2 with h2 | ⟨b, off, e, hb, hr⟩
  · omega
  · exact ⟨b, off, _, e, List.getElem?_eq_getElem hk, h3 _ (List.getElem_mem hk), hr k _ (List.getElem?_eq_getElem hk)⟩
/-- Rows of the call's own: n rows of N numbers each, each in a block of its own, the outer row in another one. -/
structure OwnSq (B : Nat) (w : World) (v : Value) (n N : Nat) (V : Nat → Nat) (L : Nat → Nat → Int) : Prop where
  outer : w.ownsRow B 60 1 v n ((List.range n).map (fun i => .slice (some ⟨V i, 0, none⟩) N N))
  row : ∀ i, i < n → w.rowIs (V i) 2 N (fun k => .int .i64 (L i k)) ∧ B ≤ V i
  inj : ∀ i j, i < n → j < n → V i = V j → i = j
  out : ∀ i, i < n → ¬ v.ownBlock = some (V i)
theorem OwnSq.later (h : OwnSq B w v n N V L) (hb : Below w.heap.size w w2) : OwnSq B w2 v n N V L :=
  ⟨owns_below h.outer hb, fun i hi => ⟨rowIs_below (h.row i hi).1 hb, (h.row i hi).2⟩, h.inj, h.out⟩
theorem OwnSq.begin_ (B : Nat) (w : World) (N : Nat) (V : Nat → Nat) (L : Nat → Nat → Int) : OwnSq B w (.slice none 0 0) 0 N V L :=
  ⟨⟨rfl, .inl ⟨rfl, rfl⟩⟩, fun i hi => by omega, fun i j hi => by omega, fun i hi => by omega⟩
theorem OwnSq.congr {L2 : Nat → Nat → Int} (h : OwnSq B w v n N V L) (e : ∀ i k, i < n → k < N → L i k = L2 i k) : OwnSq B w v n N V L2 :=
  ⟨h.outer, fun i hi => ⟨(h.row i hi).1.congr (fun k hk => by rw [e i k hi hk]), (h.row i hi).2⟩, h.inj, h.out⟩
/-- One row more. -/
theorem OwnSq.push {cap : Nat} (h : OwnSq B w v n N V L) (hg : w.rowIs g 2 N (fun k => .int .i64 (L n k))) (hB : B ≤ g) (hn : ∀ i, i < n → V i ≠ g) (ho : ¬ v.ownBlock = some g) {g4 : Nat}
    (hown : w4.ownsRow B 60 1 (.slice (some ⟨g4, 0, none⟩) (n + 1) cap) (n + 1) ((List.range n).map (fun i => .slice (some ⟨V i, 0, none⟩) N N) ++ [.slice (some ⟨g, 0, none⟩) N N])) (hgrow : w.grownBy w4 v.ownBlock) (hfr : v.ownBlock = some g4 ∨ g4 = w.heap.size) :
    OwnSq B w4 (.slice (some ⟨g4, 0, none⟩) (n + 1) cap) (n + 1) N (fun i => if i = n then g else V i) L := by
  have hlt : ∀ i, i < n → V i < w.heap.size := fun i hi => (h.row i hi).1.lt
  have hgl : g < w.heap.size := hg.lt
  have k1 : ∀ b, b < w.heap.size → ¬ v.ownBlock = some b → w4.heap[b]? = w.heap[b]? := fun b hb hv => hgrow.block b hb (fun e => hv e.symm)
  refine ⟨?_, fun i hi => ?_, fun i j hi hj he => ?_, fun i hi => ?_⟩
  · have e : (List.range (n + 1)).map (fun i => Value.slice (some ⟨if i = n then g else V i, 0, none⟩) N N) = (List.range n).map (fun i => Value.slice (some ⟨V i, 0, none⟩) N N) ++ [Value.slice (some ⟨g, 0, none⟩) N N] := by
      rw [List.range_succ, List.map_append]
      congr 1
      · apply List.map_congr_left
        intro i hi
        have := List.mem_range.1 hi
        rw [if_neg (by omega)]
      · simp
    rw [e]
    exact hown
  · by_cases e : i = n
    · subst e
      simp only [if_true]
      exact ⟨hg.of_block (k1 g hgl ho), hB⟩
    · simp only [e, if_false]
      have hin : i < n := by omega
      exact ⟨(h.row i hin).1.of_block (k1 _ (hlt i hin) (h.out i hin)), (h.row i hin).2⟩
  · by_cases e1 : i = n
    · by_cases e2 : j = n
      · omega
      · simp only [e1, e2, if_true, if_false] at he
        exact absurd he.symm (hn j (by omega))
    · by_cases e2 : j = n
      · simp only [e1, e2, if_true, if_false] at he
        exact absurd he (hn i (by omega))
      · simp only [e1, e2, if_false] at he
        exact h.inj i j (by omega) (by omega) he
  · have hob : (Value.slice (some ⟨g4, 0, none⟩) (n + 1) cap).ownBlock = some g4 := rfl
    rw [hob]
    intro he
    injection he with he
    by_cases e : i = n
    · simp only [e, if_true] at he
      rcases hfr with hfr | hfr
      · exact ho (by rw [hfr, he])
      · omega
    · simp only [e, if_false] at he
      have hin : i < n := by omega
      rcases hfr with hfr | hfr
      · exact h.out i hin (by rw [hfr, he])
      · have := hlt i hin
        omega
/-- As rows that came in. -/
theorem OwnSq.rows (h : OwnSq B w v n N V L) (hN : N ≤ 1000) : ∃ a c, v = .slice a n c ∧ IsRows w.heap.size w a n ((List.range n).map (fun i => (List.range N).map (L i))) := by
  obtain ⟨a, c, rfl⟩ := owns_shape h.outer
  refine ⟨a, c, rfl, by simp, ?_⟩
  by_cases h0 : n = 0
  · exact .inl h0
  · obtain ⟨g, cap, e, h1, h2, _⟩ := owns_some h.outer (by omega)
    injection e with e1 _ e3
    subst e1
    refine .inr ⟨g, 0, rfl, h2, fun k r hk => ?_⟩
    have hkn : k < n := by have := (List.getElem?_eq_some_iff.1 hk).1; simpa using this
    simp only [List.getElem?_map, List.getElem?_range hkn, Option.map_some, Option.some.injEq] at hk
    subst hk
    obtain ⟨hr, _⟩ := h.row k hkn
    have hl : ((List.range N).map (L k)).length = N := by simp
    rw [hl]
    refine ⟨by omega, some ⟨V k, 0, none⟩, N, ?_, by simp, .inr ⟨V k, 0, rfl, hr.lt, fun j x hx => ?_⟩⟩
    · rw [Nat.zero_add, World.ownsRow.cellAt h.outer k (by omega)]
      simp [hkn]
    · have hj : j < N := by have := (List.getElem?_eq_some_iff.1 hx).1; simpa using this
      simp [hj] at hx
      subst hx
      rw [Nat.zero_add]
      exact hr.cell hj
/-- How many numbers were used ahead of row i, column j. -/
def kAt (zs : List Int) (N i j : Nat) : Nat := if zs.length = 0 then 0 else i * (N - 1) + (if i < j then j - 1 else j)
/-- The number in row i, column j. -/
def sqE (zs : List Int) (N i j : Nat) : Int := if i = j ∨ zs.length = 0 then 0 else (zs.getD (kAt zs N i j % zs.length) 0) % 30
theorem kAt_zero (zs : List Int) (N : Nat) : kAt zs N 0 0 = 0 := by simp [kAt]
theorem kAt_next (zs : List Int) {N i : Nat} (h : i < N) : kAt zs N i N = kAt zs N (i + 1) 0 := by
  unfold kAt
  by_cases h0 : zs.length = 0
  · rw [if_pos h0, if_pos h0]
  · rw [if_neg h0, if_neg h0, if_pos h, if_neg (by omega), Nat.succ_mul]
    omega
theorem kAt_diag (zs : List Int) (N i : Nat) : kAt zs N i (i + 1) = kAt zs N i i := by
  unfold kAt
  by_cases h0 : zs.length = 0
  · rw [if_pos h0, if_pos h0]
  · rw [if_neg h0, if_neg h0, if_pos (by omega), if_neg (by omega)]
    omega
theorem kAt_step (zs : List Int) {N i j : Nat} (h : i ≠ j) (h0 : zs.length ≠ 0) : kAt zs N i (j + 1) = kAt zs N i j + 1 := by
  unfold kAt
  rw [if_neg h0, if_neg h0]
  by_cases h1 : i < j
  · rw [if_pos (by omega), if_pos h1]; omega
  · rw [if_neg (by omega), if_neg h1]; omega
theorem kAt_none (zs : List Int) {N i j i2 j2 : Nat} (h0 : zs.length = 0) : kAt zs N i j = kAt zs N i2 j2 := by
  unfold kAt
  rw [if_pos h0, if_pos h0]
theorem kAt_le (zs : List Int) {N i j : Nat} (hN : N ≤ 100) (hi : i ≤ N) (hj : j ≤ N) : kAt zs N i j ≤ 20000 := by
  unfold kAt
  have h1 : i * (N - 1) ≤ 100 * 100 := Nat.mul_le_mul (by omega) (by omega)
  split
  · omega
  · split <;> omega
/-- A row on its way: j of its numbers are there. -/
def rowJ (zs : List Int) (N i j : Nat) (c : Nat) : Int := if c < j then sqE zs N i c else 0
theorem rowJ_zero (zs : List Int) (N i : Nat) : rowJ zs N i 0 = fun _ => 0 := by funext c; simp [rowJ]
theorem rowJ_skip {zs : List Int} {N i j : Nat} (h : i = j ∨ zs.length = 0) : rowJ zs N i (j + 1) = rowJ zs N i j := by
  funext c
  unfold rowJ
  by_cases e : c = j
  · subst e
    rw [if_pos (by omega), if_neg (by omega), sqE, if_pos h]
  · by_cases e2 : c < j
    · rw [if_pos (by omega), if_pos e2]
    · rw [if_neg (by omega), if_neg e2]
theorem rowJ_step {zs : List Int} {N i j : Nat} (z : Int) (h : sqE zs N i j = z) : rowJ zs N i (j + 1) = fun c => if c = j then z else rowJ zs N i j c := by
  funext c
  unfold rowJ
  by_cases e : c = j
  · subst e
    rw [if_pos (by omega), if_pos rfl, h]
  · rw [if_neg e]
    by_cases e2 : c < j
    · rw [if_pos (by omega), if_pos e2]
    · rw [if_neg (by omega), if_neg e2]
theorem infoLongS : (Try.prog.info? 2).map (fun i => (i.zero, i.size, i.bytes)) = some (some (.int .i64 0), 1, 8) := by kernel_rfl
theorem infoLongsS : (Try.prog.info? 60).map (fun i => (i.zero, i.size, i.bytes)) = some (some (.slice none 0 0), 1, 24) := by kernel_rfl
set_option maxHeartbeats 4000000 in
set_option maxRecDepth 100000 in
theorem sq_any (zs : List Int) (len c : Nat) (a : Option Addr) (N : Nat) (w : World) (hN : N ≤ 100) (hi : IsU8 w.heap.size w a len zs) :
    Calls Try.prog 30 #[.slice a len c, .int .i64 (N : Int)] w fun e w' => ∃ v V, e = .returned v ∧ OwnSq w.heap.size w' v N N V (sqE zs N) ∧ Below w.heap.size w w' := by
  have hmk := run_make_row' (P := Try.prog) 60 2 (.int .i64 0) 8 Try.underlying60 infoLongS rfl .i64 .i64 N (by omega) (by omega)
  obtain ⟨i0, hi0, hz0, hz1, hz2⟩ := info_parts infoLongsS
  have HI := Lib.hid hi
  clear hi
  have HS0 : Hid (OwnSq w.heap.size w (.slice none 0 0) 0 N (fun _ => 0) (sqE zs N)) := Lib.hid (OwnSq.begin_ _ _ _ _ _)
  go_enter Try.func30, Try.ntmps30
  go_wp2_with fail
  go_loopw [5, 6, 11] (fun ov kv iv wr => ∃ (i : Nat) (V : Nat → Nat), iv = .int .i64 (i : Int) ∧ kv = .int .i64 (kAt zs N i 0 : Int) ∧ i ≤ N ∧ Hid (OwnSq w.heap.size wr ov i N V (sqE zs N)) ∧ Hid (Below w.heap.size w wr)) (fun _ _ iv _ => N - (intOf iv).toNat)
  case atStart => exact ⟨0, _, rfl, by rw [kAt_zero]; rfl, Nat.zero_le _, HS0, Lib.hid (Below.refl _ _)⟩
  case round =>
    obtain ⟨i, V, rfl, rfl, hi, HS, HB⟩ := hrel
    clear HS0
    obtain ⟨oa, oc, hov⟩ := owns_shape HS.out.outer
    subst hov
    by_cases hlt : i < N
    · obtain ⟨w1, hw1⟩ : ∃ w1, w1 = wr := ⟨_, rfl⟩
      subst hw1
      have HR0 : Hid (Below w1.heap.size w1 (w1.alloc (.cells (madeCells #[.int .i64 0] N) 2)) ∧ (w1.alloc (.cells (madeCells #[.int .i64 0] N) 2)).rowIs w1.heap.size 2 N (fun c => .int .i64 (rowJ zs N i 0 c))) := Lib.hid ⟨(Below.refl _ _).alloc (Nat.le_refl _) _, by rw [rowJ_zero]; exact World.rowIs_made _ _ _ _⟩
      go_wp2_with fail
      obtain ⟨g, hg⟩ : ∃ g, w1.heap.size = g := ⟨_, rfl⟩
      have HGS := Lib.hid hg
      rw [hg] at HR0 ⊢
      clear hg
      go_loopw [6, 18] (fun kv jv wr => ∃ j : Nat, jv = .int .i64 (j : Int) ∧ kv = .int .i64 (kAt zs N i j : Int) ∧ j ≤ N ∧ Hid (Below g w1 wr ∧ wr.rowIs g 2 N (fun c => .int .i64 (rowJ zs N i j c)))) (fun _ jv _ => N - (intOf jv).toNat)
      case atStart => exact ⟨0, rfl, rfl, Nat.zero_le _, HR0⟩
      case round =>
        obtain ⟨j, rfl, rfl, hj, HR⟩ := hrel
        clear HR0
        by_cases hlj : j < N
        · by_cases hij : i = j
          · have hd : ((i : Int) != (j : Int)) = false := by simp; omega
            have HR2 : Hid (Below g w1 wr ∧ wr.rowIs g 2 N (fun c => .int .i64 (rowJ zs N i (j + 1) c))) := Lib.hid (by rw [rowJ_skip (.inl hij)]; exact HR.out)
            have HK2 : Hid (kAt zs N i j = kAt zs N i (j + 1)) := Lib.hid (by subst hij; exact (kAt_diag zs N i).symm)
            clear hij
            go_wp2_with fail
            go_roundw
            case rel => exact ⟨j + 1, by go_num, by rw [HK2.out], by omega, HR2⟩
            case measure => simp [intOf]; omega
          · have hd : ((i : Int) != (j : Int)) = true := by simp; omega
            have hzl := HI.out.1
            by_cases h0 : len = 0
            · have hd0 : decide ((0 : Int) < (len : Int)) = false := by simp; omega
              have HR2 : Hid (Below g w1 wr ∧ wr.rowIs g 2 N (fun c => .int .i64 (rowJ zs N i (j + 1) c))) := Lib.hid (by rw [rowJ_skip (.inr (by omega))]; exact HR.out)
              have HK2 : Hid (kAt zs N i j = kAt zs N i (j + 1)) := Lib.hid (kAt_none zs (by omega))
              clear hij hzl
              go_wp2_with fail
              go_roundw
              case rel => exact ⟨j + 1, by go_num, by rw [HK2.out], by omega, HR2⟩
              case measure => simp [intOf]; omega
            · have hd0 : decide ((0 : Int) < (len : Int)) = true := by simp; omega
              have hlp : (0 : Int) < (len : Int) := by omega
              have hln : ¬ (len : Int) = 0 := by omega
              have hlb : ((len : Int) == 0) = false := by simp; omega
              have hkl := kAt_le zs (i := i) (j := j) hN (by omega) (by omega)
              have HK2 : Hid (kAt zs N i (j + 1) = kAt zs N i j + 1) := Lib.hid (kAt_step zs hij (by omega))
              have hnn : ¬ (i = j ∨ zs.length = 0) := by omega
              have hsq : sqE zs N i j = (zs.getD (kAt zs N i j % zs.length) 0) % 30 := by rw [sqE, if_neg hnn]
              obtain ⟨K, hK⟩ : ∃ K, kAt zs N i j = K := ⟨_, rfl⟩
              rw [hK] at hkl HK2 hsq ⊢
              obtain ⟨q, hq⟩ : ∃ q, K % len = q := ⟨_, rfl⟩
              have hql : q < len := by rw [← hq]; exact Nat.mod_lt _ (by omega)
              have hqi : (K : Int) % (len : Int) = (q : Int) := by rw [← hq]; exact (Int.natCast_emod K len).symm
              obtain ⟨b, off, z, rfl, hz, hzb, q0⟩ := (HI.out.later (HB.out.trans (HR.out.1.mono (Nat.le_trans HB.out.size (Nat.le_of_eq HGS.out))))).at_ hql
              rw [hzl, hq] at hsq
              have hzd : zs.getD q 0 = z := by simp [List.getD, hz]
              rw [hzd] at hsq
              have q1 := HR.out.2.cell hlj
              have q2 := HR.out.2.frozen j
              obtain ⟨hzb1, hzb2⟩ := hzb
              have HR2 : Hid (Below g w1 (wr.setCell ⟨g, j, none⟩ (.int .i64 (z % 30))) ∧ (wr.setCell ⟨g, j, none⟩ (.int .i64 (z % 30))).rowIs g 2 N (fun c => .int .i64 (rowJ zs N i (j + 1) c))) := Lib.hid ⟨HR.out.1.setCell (p := ⟨g, j, none⟩) (Nat.le_refl _) _, (HR.out.2.set j (.int .i64 (z % 30))).congr (fun c _ => by
                rw [rowJ_step _ hsq]
                by_cases e : c = j <;> simp [e])⟩
              clear hij hzl hnn hK hq hz hzd hsq
              go_wp2_with fail
              go_roundw
              case rel => exact ⟨j + 1, by go_num, by rw [HK2.out]; go_num, by omega, HR2⟩
              case measure => simp [intOf]; omega
        · obtain rfl : N = j := by omega
          have hHB : Below w1.heap.size w1 wr := by rw [HGS.out]; exact HR.out.1
          have hbs := HB.out.size
          have HSr := HS.out.later hHB
          have HA := (Below.refl wr.heap.size wr).alloc (Nat.le_refl _) (.cells #[.slice (some ⟨g, 0, none⟩) N N] 60)
          have HS5 := Lib.hid (HSr.later HA)
          have HG5 := Lib.hid (rowIs_below (HR.out.2.congr (g := fun c => .int .i64 (sqE zs N i c)) (fun c hc => by rw [rowJ, if_pos hc])) HA)
          have HB5 := Lib.hid ((HB.out.trans (hHB.mono hbs)).trans (HA.mono (Nat.le_trans hbs hHB.size)))
          have hbase : w.heap.size ≤ (wr.alloc (.cells #[.slice (some ⟨g, 0, none⟩) N N] 60)).heap.size := HB5.out.size
          have HKN : Hid (kAt zs N i N = kAt zs N (i + 1) 0) := Lib.hid (kAt_next zs hlt)
          clear hHB HSr HA
          go_wp2_with (at_builtin; refine wpList_append_fresh rfl (.tmp 44) (.tmp 46) 35 rfl w.heap.size 60 i0 _ 1 24 Try.underlying35 hi0 hz0 hz1 hz2 (by decide) (.slice oa i oc) i _ rfl HS5.out.outer ⟨wr.heap.size, 0, none⟩ 1 [.slice (some ⟨g, 0, none⟩) N N] rfl rfl (news_at _ _ _ _ rfl) (by intro u hu; simp at hu; subst hu; rfl) (by unfold maxLen; omega) (by omega) hbase ?_; intro g4 cap4 w6 hown hgrow hfr; have HO6 := Lib.hid hown; have HW6 := Lib.hid hgrow; have HF6 := Lib.hid hfr; clear hown hgrow hfr)
          go_roundw
          case rel => exact ⟨i + 1, _, by go_num, by rw [HKN.out], by omega, Lib.hid (HS5.out.push HG5.out (by have := HGS.out; omega) (fun i' hi' e => by have := (HS.out.row i' hi').1.lt; have := HGS.out; omega) (fun e => by have := (World.ownsRow.lt HS.out.outer g e).2; have := HGS.out; omega) HO6.out HW6.out HF6.out), Lib.hid (((Mod.of_below (fun k => w.heap.size ≤ k) HB5.out).grown HW6.out (fun k hk => .inl (World.ownsRow.lt HS.out.outer k hk).1)).below (Nat.le_refl _) (fun k hk => hk))⟩
          case measure => simp [intOf]; omega
    · obtain rfl : i = N := by omega
      go_wp2_with fail
      go_ret
      exact ⟨_, V, rfl, HS.out, HB.out⟩
end Go.Proofs.Ytmnbpnjakbihdaa

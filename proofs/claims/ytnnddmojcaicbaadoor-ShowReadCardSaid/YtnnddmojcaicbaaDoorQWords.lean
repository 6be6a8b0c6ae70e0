/- Joined: QText, QBack. -/
import Derived.Test.YtnnddmojcaicbaaDoorQProg
import Derived.Test.YtnnddmojcaicbaaDoorJoin
import Derived.Lib.ItoaNum
import Derived.Test.YtnnddmojcaicbaaDoorQParse
import Derived.Test.YtnnddmojcaicbaaDoorIMakeOk
section
/- An instance's text: its words; read again; cut. No Go in sight. -/
namespace Go.Proofs.YtnnddmojcaicbaaDoor
open Go.Lib

/-! ### Words of a text with one blank between them -/
def spW (l : List (List UInt8)) : List UInt8 := l.flatMap (fun t => 32 :: t)
theorem spW_nil : spW [] = [] := rfl
theorem spW_cons (t : List UInt8) (l : List (List UInt8)) : spW (t :: l) = 32 :: (t ++ spW l) := by simp [spW]
theorem spW_append (l m : List (List UInt8)) : spW (l ++ m) = spW l ++ spW m := by simp [spW]
/-- A word as it may be. -/
def GoodW (t : List UInt8) : Prop := t ≠ [] ∧ (∀ b ∈ t, sepB b = false) ∧ ∀ b ∈ t, badB b = false
theorem sp_join : ∀ (l : List (List UInt8)) (w e : List UInt8), w ++ spW (l ++ [e]) = joinL ((w :: l).map (fun t => (t, 0))) (fun _ => [32]) ++ e
  | [], w, e => by simp [spW, joinL]
  | y :: l, w, e => by
    have h := sp_join l y e
    simp only [List.cons_append, spW_cons]
    simp only [List.map_cons, joinL] at h ⊢
    rw [h]
    simp
theorem cut_last (w : List UInt8) (i : Nat) (hw : w ≠ []) (hs : ∀ b ∈ w, sepB b = false) : cutL w i = [(w, i)] := by
  match w, hw with
  | b :: v, _ =>
    have hb := hs b (by simp)
    have hb' : blankB b = false ∧ (b == 35) = false := by
      simp [sepB] at hb
      simp [blankB, hb]
    have hv : ∀ x ∈ v, sepB x = false := fun x hx => hs x (by simp [hx])
    have hn : toN sepB v = v.length := toN_none hv
    rw [cutL_cons, if_neg (by simp [hb'.1]), if_neg (by simp [hb'.2]), hn]
    simp [cutL_nil]
theorem cut_joinE : ∀ (l : List WJ) (g : Nat → List UInt8) (e : List UInt8) (i : Nat), (∀ x ∈ l, x.1 ≠ [] ∧ ∀ b ∈ x.1, sepB b = false) → (∀ j, Gap (g j)) → e ≠ [] → (∀ b ∈ e, sepB b = false) → (cutL (joinL l g ++ e) i).map Prod.fst = l.map Prod.fst ++ [e]
  | [], g, e, i, _, _, h1, h2 => by simp [joinL, cut_last e i h1 h2]
  | x :: l, g, e, i, hx, hg, h1, h2 => by
    have h := hx x (by simp)
    rw [joinL, show x.1 ++ (g 0 ++ joinL l (fun i => g (i + 1))) ++ e = x.1 ++ (g 0 ++ (joinL l (fun i => g (i + 1)) ++ e)) by simp, cut_piece x.1 (g 0) _ i h.1 h.2 (hg 0).sep, (hg 0).over]
    simp only [List.map_cons, List.cons_append]
    rw [cut_joinE l (fun j => g (j + 1)) e _ (fun y hy => hx y (by simp [hy])) (fun j => hg (j + 1)) h1 h2]
/-- Some first bytes of words, each with a blank behind it. -/
theorem cut_take : ∀ (l : List WJ) (k i : Nat), (∀ x ∈ l, x.1 ≠ [] ∧ ∀ b ∈ x.1, sepB b = false) →
    (cutL ((joinL l (fun _ => [32])).take k) i).length ≤ l.length ∧ ∀ (j : Nat) (t : List UInt8) (a : Nat), j + 1 < (cutL ((joinL l (fun _ => [32])).take k) i).length → (cutL ((joinL l (fun _ => [32])).take k) i)[j]? = some (t, a) → (l.map Prod.fst)[j]? = some t
  | [], k, i, _ => by simp [joinL, cutL_nil]
  | x :: l, k, i, hx => by
    obtain ⟨h1, h2⟩ := hx x (by simp)
    by_cases hk : k ≤ x.1.length
    · have e : (joinL (x :: l) (fun _ => [32])).take k = x.1.take k := by rw [joinL, List.take_append_of_le_length hk]
      rw [e]
      by_cases h0 : k = 0
      · subst h0
        simp [cutL_nil]
      · have hne : x.1.take k ≠ [] := by
          intro e
          have h3 : min k x.1.length = 0 := by
            have h := congrArg List.length e
            rw [List.length_take] at h
            exact h
          have : x.1.length ≠ 0 := fun q => h1 (List.length_eq_zero_iff.1 q)
          omega
        rw [cut_last _ i hne (fun b hb => h2 b (List.mem_of_mem_take hb))]
        simp
    · have e : (joinL (x :: l) (fun _ => [32])).take k = x.1 ++ ([32] ++ (joinL l (fun _ => [32])).take (k - x.1.length - 1)) := by
        rw [joinL, List.take_append, List.take_of_length_le (by omega)]
        congr 1
        rw [List.take_append, List.take_of_length_le (by simp; omega)]
        simp
      rw [e, cut_piece x.1 [32] _ i h1 h2 ⟨_, _, rfl, rfl⟩, gap_blank.over]
      have ih := cut_take l (k - x.1.length - 1) (i + x.1.length + [32].length) (fun y hy => hx y (by simp [hy]))
      generalize cutL ((joinL l fun _ => [32]).take (k - x.1.length - 1)) (i + x.1.length + [32].length) = us at ih ⊢
      obtain ⟨i1, i2⟩ := ih
      refine ⟨by simp only [List.length_cons]; omega, fun j t a hj ht => ?_⟩
      match j, hj, ht with
      | 0, _, ht =>
        simp at ht
        simp [ht.1]
      | j + 1, hj, ht =>
        simp only [List.length_cons] at hj
        simp only [List.getElem?_cons_succ] at ht
        simp only [List.map_cons, List.getElem?_cons_succ]
        exact i2 j t a (by omega) ht

/-! ### Words read, told by what is left -/
def runL : Rp → List (List UInt8) → Option Ins
  | .done x, [] => some x
  | .done _, _ :: _ => none
  | .must t p, w :: r => if w = t then runL p r else none
  | .must _ _, [] => none
  | .num lo hi f, w :: r => match parseO w with
    | none => none
    | some q => if (q : Int) < lo ∨ hi < (q : Int) then none else runL (f (q : Int)) r
  | .num _ _ _, [] => none
theorem run_of : ∀ (p : Rp) (ws : List W) (k : Nat) (x : Ins), k ≤ ws.length → runL p ((ws.drop k).map Prod.fst) = some x → runR ws p k = .ok x ws.length
  | .done y, ws, k, x, hk, h => by
    cases hd : (ws.drop k).map Prod.fst with
    | nil =>
      rw [hd] at h
      simp only [runL] at h
      cases h
      have : ws.drop k = [] := by simpa using hd
      have hl := congrArg List.length this
      simp at hl
      obtain rfl : k = ws.length := by omega
      rfl
    | cons a r =>
      rw [hd] at h
      simp [runL] at h
  | .must t p, ws, k, x, hk, h => by
    by_cases hl : k < ws.length
    · have hd : ws.drop k = ws[k] :: ws.drop (k + 1) := List.drop_eq_getElem_cons hl
      rw [hd, List.map_cons, runL] at h
      split at h
      · rename_i ht
        have hm : mustK ws k t = true := by simp [mustK, List.getElem?_eq_getElem hl, ht]
        rw [runR, if_pos hm]
        exact run_of p ws (k + 1) x hl h
      · cases h
    · rw [List.drop_eq_nil_of_le (by omega)] at h
      simp [runL] at h
  | .num lo hi f, ws, k, x, hk, h => by
    by_cases hl : k < ws.length
    · have hd : ws.drop k = ws[k] :: ws.drop (k + 1) := List.drop_eq_getElem_cons hl
      rw [hd, List.map_cons, runL] at h
      split at h
      · cases h
      · rename_i q hq
        split at h
        · cases h
        · rename_i hb
          have hm : numK ws k lo hi = .inl (q : Int) := by simp [numK, List.getElem?_eq_getElem hl, hq, hb]
          rw [runR, hm]
          exact run_of (f q) ws (k + 1) x hl h
    · rw [List.drop_eq_nil_of_le (by omega)] at h
      simp [runL] at h
theorem dig_good {b : UInt8} (h : isDig b = true) : sepB b = false ∧ badB b = false := by
  have hb : 48 ≤ b.toNat ∧ b.toNat ≤ 57 := by simpa [isDig] using h
  have n10 : b ≠ 10 := fun e => by subst e; have : (10 : UInt8).toNat = 10 := rfl; omega
  have n32 : b ≠ 32 := fun e => by subst e; have : (32 : UInt8).toNat = 32 := rfl; omega
  have n35 : b ≠ 35 := fun e => by subst e; have : (35 : UInt8).toNat = 35 := rfl; omega
  constructor
  · simp [sepB, n10, n32, n35]
  · simp [badB, standB]
    exact fun _ => ⟨by omega, by omega⟩
theorem itoa_dec {q : Int} (h : 0 ≤ q) : itoa q = decDigits q.toNat := by rw [itoa, if_neg (by omega)]
theorem itoa_good {q : Int} (h : 0 ≤ q) : GoodW (itoa q) := by
  rw [itoa_dec h]
  have ha := dec_all q.toNat
  rw [List.all_eq_true] at ha
  exact ⟨dec_ne _, fun b hb => (dig_good (ha b hb)).1, fun b hb => (dig_good (ha b hb)).2⟩
theorem itoa_parse {q : Int} (h : 0 ≤ q) (h2 : q ≤ 1000000000) : parseO (itoa q) = some q.toNat := by
  rw [itoa_dec h]
  have hv := dec_val q.toNat
  rw [parse_yes _ (dec_all _) (by rw [hv]; omega) (by rw [hv]), hv]
theorem itoa_short {q : Int} (h : 0 ≤ q) (h2 : q ≤ 1000000000) : (itoa q).length ≤ 10 := by
  rw [itoa_dec h]
  exact nDigits_le _ 10 (by omega) (by omega)
variable {lo hi q : Int} {f : Int → Rp} {r : List (List UInt8)} {x : Ins}
theorem runL_num (h0 : 0 ≤ q) (h1 : lo ≤ q) (h2 : q ≤ hi) (h3 : q ≤ 1000000000) : runL (.num lo hi f) (itoa q :: r) = runL (f q) r := by
  have e : ((q.toNat : Nat) : Int) = q := Int.toNat_of_nonneg h0
  rw [runL, itoa_parse h0 h3]
  simp only [e]
  rw [if_neg (by omega)]
theorem runL_must {t : List UInt8} {p : Rp} : runL (.must t p) (t :: r) = runL p r := by rw [runL, if_pos rfl]
/-! ### An instance's words -/
def satW (s : Int × Int) : List (List UInt8) := [itoa s.1, itoa s.2]
def cusW (c : Pi) : List (List UInt8) := [itoa c.1, itoa c.2.1, itoa c.2.2.1, itoa c.2.2.2]
def rowW (r : List Int) : List (List UInt8) := r.map itoa
def headW (x : Ins) : List (List UInt8) := [itoa x.en, tTrucks, itoa x.tm, itoa x.tr, tBikes, itoa x.bm, itoa x.br, tSatellites, itoa x.sats.length]
def midW (x : Ins) : List (List UInt8) := headW x ++ (x.sats.flatMap satW ++ ([tCustomers, itoa x.cus.length] ++ (x.cus.flatMap cusW ++ (tCost :: (x.cost.flatMap rowW ++ (tTime :: x.time.flatMap rowW))))))
def insW (x : Ins) : List (List UInt8) := tWharfage :: (midW x ++ [tEnd])
def textB (x : Ins) : List UInt8 := tWharfage ++ spW (midW x ++ [tEnd])
theorem satsP_run {K : List (Int × Int) → Rp} : ∀ (l acc : List (Int × Int)) (r : List (List UInt8)), (∀ x ∈ l, satB x = true) → runL (satsP l.length acc K) (l.flatMap satW ++ r) = runL (K (acc ++ l)) r
  | [], acc, r, _ => by simp [satsP]
  | (a, b) :: l, acc, r, h => by
    have hb := h (a, b) (by simp)
    simp [satB, inB_] at hb
    simp only [List.length_cons, satsP, List.flatMap_cons, satW, List.cons_append, List.nil_append]
    rw [runL_num (by omega) (by omega) (by omega) (by omega), runL_num (by omega) (by omega) (by omega) (by omega), satsP_run l _ r (fun y hy => h y (by simp [hy]))]
    simp
theorem cusP_run {K : List Pi → Rp} : ∀ (l acc : List Pi) (r : List (List UInt8)), (∀ x ∈ l, cusB x = true) → runL (cusP l.length acc K) (l.flatMap cusW ++ r) = runL (K (acc ++ l)) r
  | [], acc, r, _ => by simp [cusP]
  | (a, b, c, d) :: l, acc, r, h => by
    have hb := h (a, b, c, d) (by simp)
    simp [cusB, inB_] at hb
    simp only [List.length_cons, cusP, List.flatMap_cons, cusW, List.cons_append, List.nil_append]
    rw [runL_num (by omega) (by omega) (by omega) (by omega), runL_num (by omega) (by omega) (by omega) (by omega), runL_num (by omega) (by omega) (by omega) (by omega), runL_num (by omega) (by omega) (by omega) (by omega), cusP_run l _ r (fun y hy => h y (by simp [hy]))]
    simp
theorem rowP_run {i : Nat} {K : List Int → Rp} : ∀ (l acc : List Int) (r : List (List UInt8)), (∀ (k : Nat) (v : Int), l[k]? = some v → elB i (acc.length + k) v = true) → runL (rowP i l.length acc K) (rowW l ++ r) = runL (K (acc ++ l)) r
  | [], acc, r, _ => by simp [rowP, rowW]
  | a :: l, acc, r, h => by
    have hb := h 0 a (by simp)
    simp [elB, inB_] at hb
    simp only [List.length_cons, rowP, rowW, List.map_cons, List.cons_append]
    rw [runL_num (by omega) (by omega) (by
      by_cases e : acc.length = i
      · rw [if_pos e]
        omega
      · rw [if_neg e]
        omega) (by omega)]
    have ih := rowP_run (K := K) (i := i) l (acc ++ [a]) r (fun k v hk => by
      have := h (k + 1) v (by simpa using hk)
      rw [show (acc ++ [a]).length + k = acc.length + (k + 1) by simp; omega]
      exact this)
    rw [rowW] at ih
    rw [ih]
    simp
theorem rowsP_run {N : Nat} {K : List (List Int) → Rp} : ∀ (l acc : List (List Int)) (r : List (List UInt8)), (∀ (k : Nat) (u : List Int), l[k]? = some u → u.length = N ∧ rowG (acc.length + k) u) → runL (rowsP N l.length acc K) (l.flatMap rowW ++ r) = runL (K (acc ++ l)) r
  | [], acc, r, _ => by simp [rowsP]
  | u :: l, acc, r, h => by
    obtain ⟨h1, h2⟩ := h 0 u (by simp)
    have ih := rowsP_run (K := K) (N := N) l (acc ++ [u]) r (fun k v hk => by
      have := h (k + 1) v (by simpa using hk)
      rw [show (acc ++ [u]).length + k = acc.length + (k + 1) by simp; omega]
      exact this)
    simp only [List.length_cons, rowsP, List.flatMap_cons, List.append_assoc]
    have hr := rowP_run (i := acc.length) (K := fun r => rowsP N l.length (acc ++ [r]) K) u [] (l.flatMap rowW ++ r) (fun k v hk => by
      have := h2 k v hk
      simpa using this)
    rw [h1] at hr
    rw [hr]
    simp only [List.nil_append]
    rw [ih]
    simp
/-- What is known of an instance that may be. -/
structure May (x : Ins) : Prop where
  en : 0 ≤ x.en ∧ x.en ≤ 1000000000
  tm : 1 ≤ x.tm ∧ x.tm ≤ 60
  tr : 0 ≤ x.tr ∧ x.tr ≤ 1000000000
  bm : 1 ≤ x.bm ∧ x.bm ≤ 60
  br : 0 ≤ x.br ∧ x.br ≤ 1000000000
  ns : 1 ≤ x.sats.length ∧ x.sats.length ≤ 12
  nc : 1 ≤ x.cus.length ∧ x.cus.length ≤ 48
  sats : ∀ s ∈ x.sats, satB s = true
  cus : ∀ s ∈ x.cus, cusB s = true
  lc : x.cost.length = x.nodes
  lt : x.time.length = x.nodes
  cost : ∀ (k : Nat) (u : List Int), x.cost[k]? = some u → u.length = x.nodes ∧ rowG k u
  time : ∀ (k : Nat) (u : List Int), x.time[k]? = some u → u.length = x.nodes ∧ rowG k u
theorem rows_of {N : Nat} {l : List (List Int)} (h : sqB N l = true) (hr : rowsB l = true) : l.length = N ∧ ∀ (k : Nat) (u : List Int), l[k]? = some u → u.length = N ∧ rowG k u := by
  simp only [sqB, Bool.and_eq_true, decide_eq_true_eq, allR_true] at h
  simp only [rowsB, allR_true] at hr
  refine ⟨h.1, fun k u hk => ?_⟩
  have hl : k < l.length := (List.getElem?_eq_some_iff.1 hk).1
  have hg : l.getD k [] = u := by simp [List.getD, hk]
  have h1 := h.2 k hl
  have h2 := hr k hl
  rw [hg] at h1 h2
  refine ⟨by simpa [lenB] using h1, fun j v hj => ?_⟩
  simp only [rowB, allR_true] at h2
  have h3 := h2 j (List.getElem?_eq_some_iff.1 hj).1
  rwa [show u.getD j 0 = v by simp [List.getD, hj]] at h3
theorem getD_all {α : Type} {l : List α} {p : α → Bool} {d : α} (h : allR l.length (fun i => p (l.getD i d)) = true) : ∀ x ∈ l, p x = true := by
  rw [allR_true] at h
  intro x hx
  obtain ⟨i, hi, e⟩ := List.getElem_of_mem hx
  have := h i hi
  rwa [show l.getD i d = x by simp [List.getD, List.getElem?_eq_getElem hi, e]] at this
theorem May.of_err (h : instErr x = 0) : May x := by
  unfold instErr at h
  split at h
  · rename_i hc
    split at h
    · rename_i hs
      split at h
      · rename_i hg
        simp only [Ins.count, Bool.and_eq_true, decide_eq_true_eq] at hc
        simp only [Ins.size, Bool.and_eq_true] at hs
        simp only [Ins.good, Bool.and_eq_true] at hg
        obtain ⟨⟨⟨⟨⟨⟨g1, g2⟩, g3⟩, g4⟩, g5⟩, g6⟩, g7⟩ := hg
        obtain ⟨k1, k2⟩ := rows_of hs.1 g1
        obtain ⟨k3, k4⟩ := rows_of hs.2 g2
        simp [inB_] at g3 g4 g5
        exact ⟨g3, hc.1.1.1, g4, hc.1.1.2, g5, hc.1.2, hc.2, getD_all g6, getD_all g7, k1, k3, k2, k4⟩
      · cases h
    · cases h
  · cases h
theorem runL_ins (h : May x) : runL instP (insW x) = some x := by
  obtain ⟨en, tm, tr, bm, br, sats, cus, cost, time⟩ := x
  have e1 := h.en
  have e2 := h.tm
  have e3 := h.tr
  have e4 := h.bm
  have e5 := h.br
  have e6 := h.ns
  have e7 := h.nc
  have lc := h.lc
  have lt := h.lt
  simp only [Ins.nodes] at e1 e2 e3 e4 e5 e6 e7 lc lt
  have e8 : ∀ (k : Nat) (u : List Int), cost[k]? = some u → u.length = 1 + sats.length + cus.length ∧ rowG k u := h.cost
  have e9 : ∀ (k : Nat) (u : List Int), time[k]? = some u → u.length = 1 + sats.length + cus.length ∧ rowG k u := h.time
  unfold insW instP midW headW
  simp only [List.cons_append, List.nil_append, List.append_assoc]
  rw [runL_must, runL_num (by omega) (by omega) (by omega) (by omega), runL_must, runL_num (by omega) (by omega) (by omega) (by omega), runL_num (by omega) (by omega) (by omega) (by omega), runL_must, runL_num (by omega) (by omega) (by omega) (by omega), runL_num (by omega) (by omega) (by omega) (by omega)]
  unfold satsQ
  rw [runL_must, runL_num (by omega) (by omega) (by omega) (by omega), Int.toNat_natCast, satsP_run sats [] _ h.sats]
  unfold cusQ
  rw [runL_must, runL_num (by omega) (by omega) (by omega) (by omega), Int.toNat_natCast, cusP_run cus [] _ h.cus]
  unfold costP
  simp only [List.nil_append]
  rw [runL_must]
  have hc := rowsP_run (N := 1 + sats.length + cus.length) (K := timeP en tm tr bm br sats cus) cost [] (tTime :: (time.flatMap rowW ++ [tEnd])) (fun k u hk => by simpa using e8 k u hk)
  rw [lc] at hc
  rw [hc]
  unfold timeP
  simp only [List.nil_append]
  rw [runL_must]
  have ht := rowsP_run (N := 1 + sats.length + cus.length) (K := fun time => Rp.must tEnd (Rp.done ⟨en, tm, tr, bm, br, sats, cus, cost, time⟩)) time [] [tEnd] (fun k u hk => by simpa using e9 k u hk)
  rw [lt] at ht
  rw [ht, runL_must]
  rfl
theorem run_ins (h : May x) {ws : List W} (hw : ws.map Prod.fst = insW x) : runR ws instP 0 = .ok x ws.length :=
  run_of instP ws 0 x (Nat.zero_le _) (by rw [List.drop_zero, hw]; exact runL_ins h)
end Go.Proofs.YtnnddmojcaicbaaDoor
end
section
/- An instance's text: its words, read back, however they stand; no beginning of it is one. No Go in sight. -/
namespace Go.Proofs.YtnnddmojcaicbaaDoor
open Go.Lib

variable {x : Ins} {l : List UInt8} {ws : List W}
theorem may_make {s : Sm} (h : SmOk s) : May (makeI s) := May.of_err (makeI_ok h)
theorem letters_good : GoodW tWharfage ∧ GoodW tTrucks ∧ GoodW tBikes ∧ GoodW tSatellites ∧ GoodW tCustomers ∧ GoodW tCost ∧ GoodW tTime ∧ GoodW tEnd := by
  unfold GoodW
  decide
/-- A word as it may be, and short. -/
def FineW (t : List UInt8) : Prop := GoodW t ∧ t.length ≤ 10
theorem fine_num {q : Int} (h : 0 ≤ q) (h2 : q ≤ 1000000000) : FineW (itoa q) := ⟨itoa_good h, itoa_short h h2⟩
theorem fine_row {i : Nat} {r : List Int} (h : rowG i r) : ∀ t ∈ rowW r, FineW t := by
  intro t ht
  unfold rowW at ht
  obtain ⟨v, hv, rfl⟩ := List.mem_map.1 ht
  obtain ⟨j, hj, e⟩ := List.getElem_of_mem hv
  have := h j v (by rw [List.getElem?_eq_getElem hj, e])
  simp [elB, inB_] at this
  exact fine_num (by omega) (by omega)
theorem fine_rows {N : Nat} {L : List (List Int)} (h : ∀ (k : Nat) (u : List Int), L[k]? = some u → u.length = N ∧ rowG k u) : ∀ t ∈ L.flatMap rowW, FineW t := by
  intro t ht
  obtain ⟨u, hu, ht⟩ := List.mem_flatMap.1 ht
  obtain ⟨j, hj, e⟩ := List.getElem_of_mem hu
  exact fine_row (h j u (by rw [List.getElem?_eq_getElem hj, e])).2 t ht
theorem fine_ins (h : May x) : ∀ t ∈ insW x, FineW t := by
  obtain ⟨g1, g2, g3, g4, g5, g6, g7, g8⟩ := letters_good
  have h1 := h.en
  have h2 := h.tm
  have h3 := h.tr
  have h4 := h.bm
  have h5 := h.br
  have h6 := h.ns
  have h7 := h.nc
  have f1 : FineW tWharfage := ⟨g1, by decide⟩
  have f2 : FineW tTrucks := ⟨g2, by decide⟩
  have f3 : FineW tBikes := ⟨g3, by decide⟩
  have f4 : FineW tSatellites := ⟨g4, by decide⟩
  have f5 : FineW tCustomers := ⟨g5, by decide⟩
  have f6 : FineW tCost := ⟨g6, by decide⟩
  have f7 : FineW tTime := ⟨g7, by decide⟩
  have f8 : FineW tEnd := ⟨g8, by decide⟩
  intro t ht
  simp only [insW, midW, headW, List.mem_cons, List.mem_append, List.not_mem_nil, or_false] at ht
  rcases ht with rfl | (((rfl | rfl | rfl | rfl | rfl | rfl | rfl | rfl | rfl) | ht | (rfl | rfl) | ht | rfl | ht | rfl | ht) | rfl)
  · exact f1
  · exact fine_num (by omega) (by omega)
  · exact f2
  · exact fine_num (by omega) (by omega)
  · exact fine_num (by omega) (by omega)
  · exact f3
  · exact fine_num (by omega) (by omega)
  · exact fine_num (by omega) (by omega)
  · exact f4
  · exact fine_num (by omega) (by omega)
  · obtain ⟨s, hs, ht⟩ := List.mem_flatMap.1 ht
    have := h.sats s hs
    simp [satB, inB_] at this
    simp [satW] at ht
    rcases ht with rfl | rfl <;> exact fine_num (by omega) (by omega)
  · exact f5
  · exact fine_num (by omega) (by omega)
  · obtain ⟨s, hs, ht⟩ := List.mem_flatMap.1 ht
    have := h.cus s hs
    simp [cusB, inB_] at this
    simp [cusW] at ht
    rcases ht with rfl | rfl | rfl | rfl <;> exact fine_num (by omega) (by omega)
  · exact f6
  · exact fine_rows h.cost t ht
  · exact f7
  · exact fine_rows h.time t ht
  · exact f8
theorem spW_len : ∀ (l : List (List UInt8)), (∀ t ∈ l, t.length ≤ 10) → (spW l).length ≤ 11 * l.length
  | [], _ => by simp [spW]
  | t :: l, h => by
    have ih := spW_len l (fun u hu => h u (by simp [hu]))
    have := h t (by simp)
    rw [spW_cons]
    simp only [List.length_cons, List.length_append]
    omega
theorem flat_len {n : Nat} : ∀ (L : List (List Int)), (∀ r ∈ L, r.length ≤ n) → (L.flatMap rowW).length ≤ L.length * n
  | [], _ => by simp
  | r :: L, h => by
    have ih := flat_len L (fun u hu => h u (by simp [hu]))
    have h2 := h r (by simp)
    have h3 : (rowW r).length = r.length := by unfold rowW; rw [List.length_map]
    rw [List.flatMap_cons, List.length_append, List.length_cons, Nat.succ_mul, h3]
    omega
theorem sat_len : ∀ (l : List (Int × Int)), (l.flatMap satW).length = 2 * l.length
  | [] => rfl
  | s :: l => by
    have := sat_len l
    simp only [List.flatMap_cons, List.length_append, List.length_cons, this]
    simp only [satW, List.length_cons, List.length_nil]
    omega
theorem cus_len : ∀ (l : List Pi), (l.flatMap cusW).length = 4 * l.length
  | [] => rfl
  | s :: l => by
    have := cus_len l
    simp only [List.flatMap_cons, List.length_append, List.length_cons, this]
    simp only [cusW, List.length_cons, List.length_nil]
    omega
theorem rows_le {N n : Nat} {L : List (List Int)} (hL : L.length = N) (hn : N ≤ n) (h : ∀ (k : Nat) (u : List Int), L[k]? = some u → u.length = N ∧ rowG k u) : (L.flatMap rowW).length ≤ n * n := by
  have h1 := flat_len (n := n) L (fun r hr => by
    obtain ⟨j, hj, e⟩ := List.getElem_of_mem hr
    have := (h j r (by rw [List.getElem?_eq_getElem hj, e])).1
    omega)
  rw [hL] at h1
  exact Nat.le_trans h1 (Nat.mul_le_mul_right n hn)
theorem ins_len (h : May x) {n : Nat} (hn : x.nodes ≤ n) : (insW x).length ≤ 15 + 2 * x.sats.length + 4 * x.cus.length + 2 * (n * n) := by
  have h1 := rows_le h.lc hn h.cost
  have h2 := rows_le h.lt hn h.time
  simp only [insW, midW, headW, List.length_cons, List.length_append, List.length_nil, sat_len, cus_len]
  omega
theorem nodes_61 (h : May x) : x.nodes ≤ 61 := by
  have := h.ns
  have := h.nc
  unfold Ins.nodes
  omega
theorem text_len (h : May x) : (textB x).length ≤ 90000 := by
  have h1 := ins_len h (nodes_61 h)
  have h2 := h.ns
  have h3 := h.nc
  have h4 := spW_len (midW x ++ [tEnd]) (fun t ht => (fine_ins h t (by unfold insW; exact List.mem_cons_of_mem _ ht)).2)
  unfold insW at h1
  rw [List.length_cons] at h1
  unfold textB
  rw [List.length_append]
  have h5 : tWharfage.length = 8 := rfl
  omega
theorem make_len {s : Sm} (h : SmOk s) : (insW (makeI s)).length ≤ 300 := by
  have h1 := ins_len (may_make h) (n := 10) (by rw [makeI_nodes]; exact (nodes_le s).2)
  have h2 : (makeI s).sats.length ≤ 3 := (satsOf_le s).2
  have h3 : (makeI s).cus.length ≤ 6 := (cusOf_le s).2
  omega
/-- The words, with no place. -/
def wjW (l : List (List UInt8)) : List WJ := l.map (fun t => (t, 0))
theorem wj_fst (l : List (List UInt8)) : (wjW l).map Prod.fst = l := by
  unfold wjW
  rw [List.map_map]
  exact List.map_id l
theorem text_join (x : Ins) : textB x = joinL (wjW (tWharfage :: midW x)) (fun _ => [32]) ++ tEnd := sp_join (midW x) tWharfage tEnd
theorem text_cut (h : May x) : (cutL (textB x) 0).map Prod.fst = insW x := by
  have hf := fine_ins h
  have g8 := letters_good.2.2.2.2.2.2.2
  rw [text_join, cut_joinE _ _ tEnd 0 (fun y hy => ?_) (fun _ => gap_blank) g8.1 g8.2.1]
  · rw [wj_fst]
    rfl
  · unfold wjW at hy
    obtain ⟨t, ht, rfl⟩ := List.mem_map.1 hy
    have := hf t (by unfold insW; rcases List.mem_cons.1 ht with rfl | ht; · simp
                     · simp [ht])
    exact ⟨this.1.1, this.1.2.1⟩
theorem spW_stands : ∀ (l : List (List UInt8)), (∀ t ∈ l, ∀ b ∈ t, badB b = false) → ∀ b ∈ spW l, badB b = false
  | [], _, b, hb => by simp [spW] at hb
  | t :: l, h, b, hb => by
    rw [spW_cons] at hb
    rcases List.mem_cons.1 hb with rfl | hb
    · decide
    · rcases List.mem_append.1 hb with hb | hb
      · exact h t (by simp) b hb
      · exact spW_stands l (fun u hu => h u (by simp [hu])) b hb
theorem text_stands (h : May x) : ∀ b ∈ textB x, badB b = false := by
  intro b hb
  unfold textB at hb
  rcases List.mem_append.1 hb with hb | hb
  · exact letters_good.1.2.2 b hb
  · exact spW_stands _ (fun t ht => (fine_ins h t (by unfold insW; exact List.mem_cons_of_mem _ ht)).1.2.2) b hb
/-- Words that are an instance's are read as it. -/
theorem read_words (h : May x) (hs : ∀ b ∈ l, badB b = false) (hw : (cutL l 0).map Prod.fst = insW x) : textI l = x ∧ textAt l = 0 ∧ textC l = 0 := by
  have hb : ¬ toN badB l < l.length := by rw [toN_none hs]; omega
  have hr := run_ins h hw
  rw [textI, textAt, textC, if_neg hb, if_neg hb, if_neg hb, hr]
  simp [ansI, ansAt, ansC]
/-- No beginning of an instance's text is one that ends ahead of its last word. -/
theorem text_cuts (h : May x) {k : Nat} (hk : k < (textB x).length - 2) : textI ((textB x).take k) = zeroI ∧ textAt ((textB x).take k) ≤ k ∧ textC ((textB x).take k) ≠ 0 := by
  have hj := text_join x
  have hl : (textB x).length = (joinL (wjW (tWharfage :: midW x)) (fun _ => [32])).length + 3 := by rw [hj, List.length_append]; rfl
  have ht : (textB x).take k = (joinL (wjW (tWharfage :: midW x)) (fun _ => [32])).take k := by rw [hj, List.take_append_of_le_length (by omega)]
  have hgood : ∀ y ∈ wjW (tWharfage :: midW x), y.1 ≠ [] ∧ ∀ b ∈ y.1, sepB b = false := fun y hy => by
    unfold wjW at hy
    obtain ⟨t, ht, rfl⟩ := List.mem_map.1 hy
    have := fine_ins h t (by unfold insW; rcases List.mem_cons.1 ht with rfl | ht; · simp
                             · simp [ht])
    exact ⟨this.1.1, this.1.2.1⟩
  obtain ⟨c1, c2⟩ := cut_take (wjW (tWharfage :: midW x)) k 0 hgood
  rw [← ht] at c1 c2
  have hlen : (wjW (tWharfage :: midW x)).length + 1 = (insW x).length := by simp [wjW, insW]
  have hfst : (wjW (tWharfage :: midW x)).map Prod.fst = tWharfage :: midW x := wj_fst _
  have hwl : (cutL (textB x) 0).length = (insW x).length := by rw [← text_cut h, List.length_map]
  have hrun := run_ins h (text_cut h)
  have hin : ∀ b ∈ (textB x).take k, badB b = false := fun b hb => text_stands h b (List.mem_of_mem_take hb)
  have hmem : ∀ (j : Nat) (t : List UInt8) (a : Nat), (cutL ((textB x).take k) 0)[j]? = some (t, a) → a ≤ ((textB x).take k).length := fun j t a hj => by
    obtain ⟨_, _, _, h4, _⟩ := cutL_mem _ ((textB x).take k) 0 (Nat.le_refl _) t a (List.mem_of_getElem? hj)
    omega
  have h2 : 2 ≤ (insW x).length := by simp [insW]
  have htk : ((textB x).take k).length ≤ k := by rw [List.length_take]; omega
  generalize (textB x).take k = u at *
  have hcut := run_cut (us := cutL u 0) (ws := cutL (textB x) 0) (m := (cutL u 0).length - 1) (by omega) (fun j hj => by
    cases hu : (cutL u 0)[j]? with
    | none => exact .inl rfl
    | some y =>
      obtain ⟨t, a⟩ := y
      have h3 := c2 j t a (by omega) hu
      rw [hfst] at h3
      have h4 : (insW x)[j]? = some t := by
        unfold insW
        have hl3 := (List.getElem?_eq_some_iff.1 h3).1
        rw [← List.cons_append, List.getElem?_append_left hl3]
        exact h3
      rw [← text_cut h, List.getElem?_map] at h4
      obtain ⟨⟨t', b⟩, h5, h6⟩ := Option.map_eq_some_iff.1 h4
      obtain rfl : t' = t := h6
      exact .inr ⟨t', a, b, rfl, h5⟩) instP 0 x (cutL (textB x) 0).length instP_ends (by omega) hrun (by omega)
  obtain ⟨j, c, hc, hcc⟩ := hcut
  have hb : ¬ toN badB u < u.length := by rw [toN_none hin]; omega
  rw [textI, textAt, textC, if_neg hb, if_neg hb, if_neg hb, hc]
  refine ⟨rfl, ?_, ?_⟩
  · simp only [ansAt, placeK]
    cases hu : (cutL u 0)[j]? with
    | none => exact htk
    | some y => exact Nat.le_trans (hmem j y.1 y.2 hu) htk
  · simp only [ansC]
    omega
end Go.Proofs.YtnnddmojcaicbaaDoor
end

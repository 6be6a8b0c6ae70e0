/- An instance read word by word: what is asked for, and what comes of it. No Go in sight. -/
import Derived.Test.YtnnddmojcaicbaaDoorPlA
import Derived.Test.YtnnddmojcaicbaaDoorRdA
import Derived.Test.YtnnddmojcaicbaaDoorInstT
namespace Go.Proofs.YtnnddmojcaicbaaDoor

/-- What is to be read: nothing more; a word; a number from one to another one. -/
inductive Rp where
  | done (x : Ins)
  | must (t : List UInt8) (p : Rp)
  | num (lo hi : Int) (f : Int → Rp)
/-- What comes of it: the instance, and how many words were read; or where it can't go on, and why. -/
inductive Rr where
  | ok (x : Ins) (k : Nat)
  | no (k : Nat) (c : Int)
def mustK (ws : List W) (k : Nat) (t : List UInt8) : Bool := match ws[k]? with | some x => decide (x.1 = t) | none => false
def numK (ws : List W) (k : Nat) (lo hi : Int) : Int ⊕ Int :=
  match ws[k]? with
  | none => .inr 3
  | some x => match parseO x.1 with
    | none => .inr 3
    | some q => if (q : Int) < lo ∨ hi < (q : Int) then .inr 2 else .inl (q : Int)
def runR (ws : List W) : Rp → Nat → Rr
  | .done x, k => .ok x k
  | .must t p, k => if mustK ws k t = true then runR ws p (k + 1) else .no k 5
  | .num lo hi f, k => match numK ws k lo hi with
    | .inl q => runR ws (f q) (k + 1)
    | .inr c => .no k c
variable {ws : List W} {k : Nat} {t : List UInt8} {lo hi q c : Int}
theorem numK_in (h : numK ws k lo hi = .inl q) : lo ≤ q ∧ q ≤ hi ∧ 0 ≤ q := by
  unfold numK at h
  split at h
  · cases h
  · split at h
    · cases h
    · split at h
      · cases h
      · cases h
        omega
theorem numK_code (h : numK ws k lo hi = .inr c) : c = 2 ∨ c = 3 := by
  unfold numK at h
  split at h
  · cases h; exact .inr rfl
  · split at h
    · cases h; exact .inr rfl
    · split at h
      · cases h; exact .inl rfl
      · cases h
/-- So many satellites; customers; the numbers of a row; rows. -/
def satsP : Nat → List (Int × Int) → (List (Int × Int) → Rp) → Rp
  | 0, acc, K => K acc
  | m + 1, acc, K => .num 0 1000000000 fun a => .num 0 1000000000 fun b => satsP m (acc ++ [(a, b)]) K
def cusP : Nat → List Pi → (List Pi → Rp) → Rp
  | 0, acc, K => K acc
  | m + 1, acc, K => .num 1 1000000000 fun a => .num 0 1000000000 fun b => .num b 1000000000 fun c => .num 0 1000000000 fun d => cusP m (acc ++ [(a, b, c, d)]) K
def rowP (i : Nat) : Nat → List Int → (List Int → Rp) → Rp
  | 0, acc, K => K acc
  | m + 1, acc, K => .num 0 (if acc.length = i then 0 else 1000000000) fun a => rowP i m (acc ++ [a]) K
def rowsP (N : Nat) : Nat → List (List Int) → (List (List Int) → Rp) → Rp
  | 0, acc, K => K acc
  | m + 1, acc, K => rowP acc.length N [] fun r => rowsP N m (acc ++ [r]) K
def tWharfage : List UInt8 := [119, 104, 97, 114, 102, 97, 103, 101]
def tTrucks : List UInt8 := [116, 114, 117, 99, 107, 115]
def tBikes : List UInt8 := [98, 105, 107, 101, 115]
def tSatellites : List UInt8 := [115, 97, 116, 101, 108, 108, 105, 116, 101, 115]
def tCustomers : List UInt8 := [99, 117, 115, 116, 111, 109, 101, 114, 115]
def tCost : List UInt8 := [99, 111, 115, 116]
def tTime : List UInt8 := [116, 105, 109, 101]
def tEnd : List UInt8 := [101, 110, 100]
/-- An instance's text, from its time on; from its cost, its customers, its satellites on; all of it. -/
def timeP (en tm tr bm br : Int) (sats : List (Int × Int)) (cus : List Pi) (cost : List (List Int)) : Rp :=
  .must tTime <| rowsP (1 + sats.length + cus.length) (1 + sats.length + cus.length) [] fun time => .must tEnd <| .done ⟨en, tm, tr, bm, br, sats, cus, cost, time⟩
def costP (en tm tr bm br : Int) (sats : List (Int × Int)) (cus : List Pi) : Rp := .must tCost <| rowsP (1 + sats.length + cus.length) (1 + sats.length + cus.length) [] (timeP en tm tr bm br sats cus)
def cusQ (en tm tr bm br : Int) (sats : List (Int × Int)) : Rp := .must tCustomers <| .num 1 48 fun nc => cusP nc.toNat [] (costP en tm tr bm br sats)
def satsQ (en tm tr bm br : Int) : Rp := .must tSatellites <| .num 1 12 fun ns => satsP ns.toNat [] (cusQ en tm tr bm br)
def instP : Rp :=
  .must tWharfage <| .num 0 1000000000 fun en => .must tTrucks <| .num 1 60 fun tm => .num 0 1000000000 fun tr => .must tBikes <| .num 1 60 fun bm => .num 0 1000000000 fun br => satsQ en tm tr bm br
/-- What Parse answers: the instance, where, why. -/
def zeroI : Ins := ⟨0, 0, 0, 0, 0, [], [], [], []⟩
def placeK (ws : List W) (n k : Nat) : Nat := match ws[k]? with | some x => x.2 | none => n
def ansI (ws : List W) : Rr → Ins
  | .ok x k => if k < ws.length then zeroI else x
  | .no _ _ => zeroI
def ansAt (ws : List W) (n : Nat) : Rr → Nat
  | .ok _ k => if k < ws.length then placeK ws n k else 0
  | .no k _ => placeK ws n k
def ansC (ws : List W) : Rr → Int
  | .ok _ k => if k < ws.length then 6 else 0
  | .no _ c => c

/-! ### Whatever is read may be -/
/-- Whatever comes at its end has P. -/
def AllD (P : Ins → Prop) : Rp → Prop
  | .done x => P x
  | .must _ p => AllD P p
  | .num lo hi f => ∀ v, lo ≤ v → v ≤ hi → AllD P (f v)
theorem AllD.run {P : Ins → Prop} : ∀ (p : Rp) (k : Nat) (x : Ins) (j : Nat), AllD P p → runR ws p k = .ok x j → P x
  | .done y, k, x, j, h, e => by
    simp only [runR] at e
    cases e
    exact h
  | .must t p, k, x, j, h, e => by
    simp only [runR] at e
    split at e
    · exact AllD.run p _ x j h e
    · cases e
  | .num lo hi f, k, x, j, h, e => by
    simp only [runR] at e
    split at e
    · rename_i q hq
      obtain ⟨h1, h2, _⟩ := numK_in hq
      exact AllD.run (f q) _ x j (h q h1 h2) e
    · cases e
theorem satsP_all {P : Ins → Prop} (M : Nat) {K : List (Int × Int) → Rp} (hK : ∀ l, l.length = M → (∀ x ∈ l, satB x = true) → AllD P (K l)) :
    ∀ (m : Nat) (acc : List (Int × Int)), acc.length + m = M → (∀ x ∈ acc, satB x = true) → AllD P (satsP m acc K)
  | 0, acc, h, ha => hK acc (by omega) ha
  | m + 1, acc, h, ha => fun a a1 a2 b b1 b2 => satsP_all M hK m _ (by simp; omega) (by
      intro x hx
      rcases List.mem_append.1 hx with hx | hx
      · exact ha x hx
      · simp at hx
        subst hx
        simp [satB, inB_]
        omega)
theorem cusP_all {P : Ins → Prop} (M : Nat) {K : List Pi → Rp} (hK : ∀ l, l.length = M → (∀ x ∈ l, cusB x = true) → AllD P (K l)) :
    ∀ (m : Nat) (acc : List Pi), acc.length + m = M → (∀ x ∈ acc, cusB x = true) → AllD P (cusP m acc K)
  | 0, acc, h, ha => hK acc (by omega) ha
  | m + 1, acc, h, ha => fun a a1 a2 b b1 b2 c c1 c2 d d1 d2 => cusP_all M hK m _ (by simp; omega) (by
      intro x hx
      rcases List.mem_append.1 hx with hx | hx
      · exact ha x hx
      · simp at hx
        subst hx
        simp [cusB, inB_]
        omega)
/-- The numbers of row i are good. -/
def rowG (i : Nat) (r : List Int) : Prop := ∀ (k : Nat) (v : Int), r[k]? = some v → elB i k v = true
theorem rowG.snoc {i : Nat} {r : List Int} {v : Int} (h : rowG i r) (hv : elB i r.length v = true) : rowG i (r ++ [v]) := by
  intro k u hk
  by_cases hl : k < r.length
  · rw [List.getElem?_append_left hl] at hk
    exact h k u hk
  · rw [List.getElem?_append_right (by omega)] at hk
    by_cases h0 : k - r.length = 0
    · simp [h0] at hk
      subst hk
      obtain rfl : k = r.length := by omega
      exact hv
    · have : (k - r.length) = (k - r.length - 1) + 1 := by omega
      rw [this] at hk
      simp at hk
theorem rowP_all {P : Ins → Prop} (i M : Nat) {K : List Int → Rp} (hK : ∀ l, l.length = M → rowG i l → AllD P (K l)) :
    ∀ (m : Nat) (acc : List Int), acc.length + m = M → rowG i acc → AllD P (rowP i m acc K)
  | 0, acc, h, ha => hK acc (by omega) ha
  | m + 1, acc, h, ha => fun a a1 a2 => rowP_all i M hK m _ (by simp; omega) (ha.snoc (by
      unfold elB inB_
      by_cases e : acc.length = i
      · rw [if_pos e] at a2
        simp
        omega
      · rw [if_neg e] at a2
        simp
        omega))
theorem rowsP_all {P : Ins → Prop} (N M : Nat) {K : List (List Int) → Rp} (hK : ∀ l, l.length = M → (∀ (k : Nat) (r : List Int), l[k]? = some r → r.length = N ∧ rowG k r) → AllD P (K l)) :
    ∀ (m : Nat) (acc : List (List Int)), acc.length + m = M → (∀ (k : Nat) (r : List Int), acc[k]? = some r → r.length = N ∧ rowG k r) → AllD P (rowsP N m acc K)
  | 0, acc, h, ha => hK acc (by omega) ha
  | m + 1, acc, h, ha => by
    rw [rowsP]
    refine rowP_all acc.length N (fun r hr hg => rowsP_all N M hK m _ (by simp; omega) (fun k u hk => ?_)) N [] (by simp) (fun k v hk => by simp at hk)
    by_cases hl : k < acc.length
    · rw [List.getElem?_append_left hl] at hk
      exact ha k u hk
    · rw [List.getElem?_append_right (by omega)] at hk
      by_cases h0 : k - acc.length = 0
      · simp [h0] at hk
        subst hk
        obtain rfl : k = acc.length := by omega
        exact ⟨hr, hg⟩
      · have : (k - acc.length) = (k - acc.length - 1) + 1 := by omega
        rw [this] at hk
        simp at hk
theorem sq_of {N : Nat} {l : List (List Int)} (h : l.length = N) (ha : ∀ (k : Nat) (r : List Int), l[k]? = some r → r.length = N ∧ rowG k r) : sqB N l = true ∧ rowsB l = true := by
  have hg : ∀ i, i < l.length → ∃ r, l[i]? = some r ∧ l.getD i [] = r := fun i hi => ⟨l[i], List.getElem?_eq_getElem hi, by simp [List.getD, List.getElem?_eq_getElem hi]⟩
  constructor
  · simp only [sqB, Bool.and_eq_true, decide_eq_true_eq, allR_true]
    refine ⟨h, fun i hi => ?_⟩
    obtain ⟨r, h1, h2⟩ := hg i hi
    rw [h2]
    simp [lenB, (ha i r h1).1]
  · simp only [rowsB, allR_true]
    intro i hi
    obtain ⟨r, h1, h2⟩ := hg i hi
    rw [h2]
    simp only [rowB, allR_true]
    intro j hj
    exact (ha i r h1).2 j _ (by simp [List.getD, List.getElem?_eq_getElem hj])
theorem all_getD {α : Type} {l : List α} {p : α → Bool} {d : α} (h : ∀ x ∈ l, p x = true) : allR l.length (fun i => p (l.getD i d)) = true := by
  rw [allR_true]
  intro i hi
  rw [List.getD, List.getElem?_eq_getElem hi]
  exact h _ (List.getElem_mem hi)
/-- What is known of what is read. -/
structure ReadOk (x : Ins) : Prop where
  err : instErr x = 0
  sats : x.sats.length ≤ 12
  cus : x.cus.length ≤ 48
  cost : x.cost.length ≤ 61
  time : x.time.length ≤ 61
  rc : ∀ r ∈ x.cost, r.length ≤ 61
  rt : ∀ r ∈ x.time, r.length ≤ 61
theorem instP_all : AllD ReadOk instP := by
  unfold instP
  intro en e1 e2 tm t1 t2 tr r1 r2 bm b1 b2 br p1 p2
  unfold satsQ
  intro ns n1 n2
  refine satsP_all ns.toNat (fun sats hs hsg => ?_) _ [] (by simp) (fun x hx => by simp at hx)
  unfold cusQ
  intro nc c1 c2
  refine cusP_all nc.toNat (fun cus hc hcg => ?_) _ [] (by simp) (fun x hx => by simp at hx)
  unfold costP
  refine rowsP_all (1 + sats.length + cus.length) (1 + sats.length + cus.length) (fun cost hk hkg => ?_) _ [] (by simp) (fun k r hx => by simp at hx)
  unfold timeP
  refine rowsP_all (1 + sats.length + cus.length) (1 + sats.length + cus.length) (fun time ht htg => ?_) _ [] (by simp) (fun k r hx => by simp at hx)
  have mem : ∀ {l : List (List Int)}, (∀ (k : Nat) (r : List Int), l[k]? = some r → r.length = 1 + sats.length + cus.length ∧ rowG k r) → ∀ r ∈ l, r.length ≤ 61 := by
    intro l h r hr
    obtain ⟨i, hi, e⟩ := List.getElem_of_mem hr
    have := (h i r (by rw [List.getElem?_eq_getElem hi, e])).1
    omega
  refine ⟨?_, by simp; omega, by simp; omega, by simp; omega, by simp; omega, mem hkg, mem htg⟩
  obtain ⟨k1, k2⟩ := sq_of hk hkg
  obtain ⟨g1, g2⟩ := sq_of ht htg
  have h1 : (Ins.mk en tm tr bm br sats cus cost time).count = true := by
    simp [Ins.count]
    omega
  have h2 : (Ins.mk en tm tr bm br sats cus cost time).size = true := by
    simp only [Ins.size, Ins.nodes, k1, g1, Bool.and_self]
  have h3 : (Ins.mk en tm tr bm br sats cus cost time).good = true := by
    simp only [Ins.good, k2, g2, all_getD hsg, all_getD hcg, Bool.and_true, Bool.true_and]
    simp [inB_]
    omega
  rw [instErr, if_pos h1, if_pos h2, if_pos h3]
theorem read_ok {x : Ins} {j : Nat} (h : runR ws instP 0 = .ok x j) : ReadOk x := AllD.run instP 0 x j instP_all h
theorem ReadOk.light {x : Ins} (h : ReadOk x) : x.light = true := by
  have h1 := h.sats
  have h2 := h.cus
  have h3 := h.cost
  have h4 := h.time
  simp only [Ins.light, Bool.and_eq_true, decide_eq_true_eq, List.all_eq_true]
  exact ⟨⟨⟨⟨⟨by omega, by omega⟩, by omega⟩, by omega⟩, fun r hr => by have := h.rc r hr; omega⟩, fun r hr => by have := h.rt r hr; omega⟩
theorem zeroI_light : zeroI.light = true := by decide
theorem ansI_light : (ansI ws (runR ws instP 0)).light = true := by
  cases h : runR ws instP 0 with
  | ok x k =>
    simp only [ansI]
    split
    · exact zeroI_light
    · exact (read_ok h).light
  | no k c => exact zeroI_light
/-! ### A word that is not there -/
/-- What comes last is a word. -/
def Ends : Rp → Prop
  | .done _ => False
  | .must _ (.done _) => True
  | .must _ p => Ends p
  | .num _ _ f => ∀ v, Ends (f v)
theorem Ends.must {t : List UInt8} {p : Rp} (h : Ends p) : Ends (.must t p) := by
  cases p with
  | done _ => exact h.elim
  | must _ _ => exact h
  | num _ _ _ => exact h
theorem satsP_ends {K : List (Int × Int) → Rp} (hK : ∀ l, Ends (K l)) : ∀ (m : Nat) (acc : List (Int × Int)), Ends (satsP m acc K)
  | 0, acc => hK acc
  | m + 1, _ => fun _ _ => satsP_ends hK m _
theorem cusP_ends {K : List Pi → Rp} (hK : ∀ l, Ends (K l)) : ∀ (m : Nat) (acc : List Pi), Ends (cusP m acc K)
  | 0, acc => hK acc
  | m + 1, _ => fun _ _ _ _ => cusP_ends hK m _
theorem rowP_ends {i : Nat} {K : List Int → Rp} (hK : ∀ l, Ends (K l)) : ∀ (m : Nat) (acc : List Int), Ends (rowP i m acc K)
  | 0, acc => hK acc
  | m + 1, _ => fun _ => rowP_ends hK m _
theorem rowsP_ends {N : Nat} {K : List (List Int) → Rp} (hK : ∀ l, Ends (K l)) : ∀ (m : Nat) (acc : List (List Int)), Ends (rowsP N m acc K)
  | 0, acc => hK acc
  | m + 1, _ => rowP_ends (fun _ => rowsP_ends hK m _) N []
theorem instP_ends : Ends instP := by
  unfold instP
  refine Ends.must fun en => Ends.must fun tm tr => Ends.must fun bm br => ?_
  unfold satsQ
  refine Ends.must fun _ => ?_
  refine satsP_ends (fun sats => ?_) _ _
  unfold cusQ
  refine Ends.must fun _ => ?_
  refine cusP_ends (fun cus => ?_) _ _
  unfold costP
  refine Ends.must ?_
  refine rowsP_ends (fun cost => ?_) _ _
  unfold timeP
  refine Ends.must ?_
  refine rowsP_ends (fun time => ?_) _ _
  exact trivial
/-- Behind the last word nothing is read. -/
theorem run_end : ∀ (p : Rp) (k : Nat), Ends p → ws.length ≤ k → ∃ j c, runR ws p k = .no j c ∧ (c = 2 ∨ c = 3 ∨ c = 5)
  | .done _, k, h, _ => h.elim
  | .must t p, k, _, hk => by
    have : mustK ws k t = false := by simp [mustK, List.getElem?_eq_none hk]
    exact ⟨k, 5, by simp [runR, this], by simp⟩
  | .num lo hi f, k, _, hk => by
    have : numK ws k lo hi = .inr 3 := by simp [numK, List.getElem?_eq_none hk]
    exact ⟨k, 3, by simp [runR, this], by simp⟩
theorem run_codes : ∀ (p : Rp) (k : Nat) (j : Nat) (c : Int), runR ws p k = .no j c → c = 2 ∨ c = 3 ∨ c = 5
  | .done _, k, j, c, e => by simp only [runR] at e; cases e
  | .must t p, k, j, c, e => by
    simp only [runR] at e
    split at e
    · exact run_codes p _ _ _ e
    · cases e; simp
  | .num lo hi f, k, j, c, e => by
    simp only [runR] at e
    split at e
    · exact run_codes _ _ _ _ e
    · rename_i c' hc
      cases e
      rcases numK_code hc with h | h <;> simp [h]
/-- Of words that are read as an instance some first ones, and a part of the next one: they aren't. -/
theorem run_cut {us : List W} {m : Nat} (hus : us.length ≤ m + 1) (hsame : ∀ j, j < m → us[j]? = none ∨ ∃ t a b, us[j]? = some (t, a) ∧ ws[j]? = some (t, b)) :
    ∀ (p : Rp) (k : Nat) (x : Ins) (N : Nat), Ends p → k ≤ m + 1 → runR ws p k = .ok x N → m + 1 < N → ∃ j c, runR us p k = .no j c ∧ (c = 2 ∨ c = 3 ∨ c = 5)
  | .done y, k, x, N, hp, hk, e, hN => hp.elim
  | .must t p, k, x, N, hp, hk, e, hN => by
    simp only [runR] at e
    split at e
    · rename_i hm
      by_cases hd : ∃ y, p = .done y
      · obtain ⟨y, rfl⟩ := hd
        simp only [runR] at e
        injection e with e1 e2
        have h0 : us.length ≤ k := by omega
        exact run_end (.must t (.done y)) k (by simp [Ends]) h0
      · have hp' : Ends p := by
          cases p with
          | done y => exact absurd ⟨y, rfl⟩ hd
          | must _ _ => exact hp
          | num _ _ _ => exact hp
        by_cases hu : mustK us k t = true
        · simp only [runR, hu, if_true]
          by_cases hkm : k < m
          · exact run_cut hus hsame p (k + 1) x N hp' (by omega) e hN
          · exact run_end p (k + 1) hp' (by omega)
        · exact ⟨k, 5, by simp [runR, hu], by simp⟩
    · cases e
  | .num lo hi f, k, x, N, hp, hk, e, hN => by
    simp only [runR] at e
    split at e
    · rename_i q hq
      cases hu : numK us k lo hi with
      | inl q' =>
        simp only [runR, hu]
        by_cases hkm : k < m
        · have hqq : q' = q := by
            rcases hsame k hkm with h | ⟨t, a, b, h1, h2⟩
            · simp [numK, h] at hu
            · have e3 : numK us k lo hi = numK ws k lo hi := by simp only [numK, h1, h2]
              rw [e3, hq] at hu
              injection hu with hu
              exact hu.symm
          subst hqq
          exact run_cut hus hsame (f q') (k + 1) x N (hp q') (by omega) e hN
        · exact run_end (f q') (k + 1) (hp q') (by omega)
      | inr c => exact ⟨k, c, by simp [runR, hu], by rcases numK_code hu with h | h <;> simp [h]⟩
    · cases e
end Go.Proofs.YtnnddmojcaicbaaDoor

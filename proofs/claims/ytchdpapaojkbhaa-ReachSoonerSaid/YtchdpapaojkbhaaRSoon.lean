/- A later end, a later close, more room: who may be served then. -/
import Derived.Test.YtchdpapaojkbhaaRSp
import Derived.Test.YtchdpapaojkbhaaISetA
namespace Go.Proofs.Ytchdpapaojkbhaa
open Go.RowKit

variable {m : Ins} {k s c : Nat} {p : Pi} {z : Int}
structure Low2 (m : Ins) : Prop where
  br : 0 ≤ m.br ∧ m.br ≤ 10000
  close : ∀ q ∈ m.cus, q.2.2.1 ≤ 10000
theorem makeI_low2 {s : Sm} (h : SmOk s) : Low2 (makeI s) := by
  have hw := s.wide_le
  have hb := h.ok.br
  unfold sm8 at hb
  refine ⟨?_, ?_⟩
  · have := wide_in s.wide (s.br % 20) 19 hw (by omega) (by omega)
    show 0 ≤ 3 + s.wide * (s.br % 20) ∧ 3 + s.wide * (s.br % 20) ≤ 10000
    omega
  · intro q hq
    change q ∈ cusOf s at hq
    unfold cusOf at hq
    split at hq
    · simp at hq
      subst hq
      decide
    · unfold cusTo at hq
      rw [List.mem_map] at hq
      obtain ⟨y, hy, rfl⟩ := hq
      have hc := h.whos y (List.mem_of_mem_take (List.mem_of_mem_take hy))
      unfold sm8 at hc
      have := wide_in s.wide y.2.2.1 255 hw (by omega) (by omega)
      unfold whoOf
      simp only
      omega
/-- The instance with more of it. -/
def moreI (m : Ins) (k : Nat) (p : Pi) (z : Int) : Ins := { m with en := m.en + z, br := m.br + z, cus := m.cus.set k (p.1, p.2.1, p.2.2.1 + z, p.2.2.2) }
theorem moreI_nodes : (moreI m k p z).nodes = m.nodes := by simp [moreI, Ins.nodes]
theorem moreI_len : (moreI m k p z).cus.length = m.cus.length := by simp [moreI]
theorem moreI_may (hm : May m) (hl : Low m) (h2 : Low2 m) (hp : m.cus[k]? = some p) (hz : 0 ≤ z ∧ z ≤ 255) : May (moreI m k p z) := by
  have hn := moreI_nodes (m := m) (k := k) (p := p) (z := z)
  refine ⟨?_, hm.tm, hm.tr, hm.bm, ?_, hm.ns, ?_, hm.sats, ?_, by rw [hn]; exact hm.lc, by rw [hn]; exact hm.lt, fun j u hj => by rw [hn]; exact hm.cost j u hj, fun j u hj => by rw [hn]; exact hm.time j u hj⟩
  · have := hl.en
    show 0 ≤ m.en + z ∧ m.en + z ≤ 1000000000
    omega
  · have := h2.br
    show 0 ≤ m.br + z ∧ m.br + z ≤ 1000000000
    omega
  · rw [moreI_len]
    exact hm.nc
  · intro q hq
    rcases List.mem_or_eq_of_mem_set hq with e | rfl
    · exact hm.cus q e
    · have hc := hm.cus p (List.mem_of_getElem? hp)
      have h3 := h2.close p (List.mem_of_getElem? hp)
      unfold cusB inB_ at hc ⊢
      simp only [Bool.and_eq_true, decide_eq_true_eq] at hc ⊢
      omega
theorem moreI_at (hp : m.cus[k]? = some p) (c : Nat) : ((moreI m k p z).cus.getD c (0, 0, 0, 0)).1 = (m.cus.getD c (0, 0, 0, 0)).1 ∧ ((moreI m k p z).cus.getD c (0, 0, 0, 0)).2.1 = (m.cus.getD c (0, 0, 0, 0)).2.1 ∧ ((moreI m k p z).cus.getD c (0, 0, 0, 0)).2.2.2 = (m.cus.getD c (0, 0, 0, 0)).2.2.2 ∧ ((moreI m k p z).cus.getD c (0, 0, 0, 0)).2.2.1 = (m.cus.getD c (0, 0, 0, 0)).2.2.1 + (if c = k then z else 0) := by
  have hkl := (List.getElem?_eq_some_iff.1 hp).1
  have e : (moreI m k p z).cus = m.cus.set k (p.1, p.2.1, p.2.2.1 + z, p.2.2.2) := rfl
  rw [e]
  by_cases h : c = k
  · subst h
    obtain ⟨_, hpe⟩ := List.getElem?_eq_some_iff.1 hp
    simp [List.getD, hkl, hpe]
  · simp [List.getD, h, Ne.symm h]
theorem moreI_sty (hp : m.cus[k]? = some p) : styI (moreI m k p z) = styI m := by
  funext i
  unfold styI
  have h := (moreI_at (z := z) hp (i - (1 + m.sats.length))).2.2.1
  rw [← h]
  rfl
theorem moreI_ready {l : List Int} (h : ReadyOf m l) : ReadyOf (moreI m k p z) l := ⟨h.1, fun s hs => by
  have e : arcS (moreI m k p z) = arcS m := by
    unfold arcS
    rw [moreI_nodes]
    rfl
  rw [e]
  exact h.2 s hs⟩
theorem moreI_arcC (hp : m.cus[k]? = some p) : arcC (moreI m k p z) s = arcC m s := by
  unfold arcC
  rw [moreI_nodes, moreI_sty hp]
  rfl
theorem moreI_out {l : List Int} (hp : m.cus[k]? = some p) (h : OutOf m s l) : OutOf (moreI m k p z) s l := ⟨by rw [moreI_len]; exact h.1, fun c hc => by
  rw [moreI_len] at hc
  rw [moreI_arcC hp]
  exact h.2 c hc⟩
theorem moreI_back {l : List Int} (hp : m.cus[k]? = some p) (h : BackOf m s l) : BackOf (moreI m k p z) s l := ⟨by rw [moreI_len]; exact h.1, fun c hc => by
  rw [moreI_len] at hc
  rw [moreI_arcC hp]
  exact h.2 c hc⟩
/-- Who may be served may be then, too. -/
theorem moreI_mono {P Q : Nat → Nat → Bool} (hp : m.cus[k]? = some p) (hz : 0 ≤ z) (h : MayOf m P) (h2 : MayOf (moreI m k p z) Q) (hs : s < m.sats.length) (hc : c < m.cus.length) (ht : P s c = true) : Q s c = true := by
  obtain ⟨rd, hr, h1⟩ := h
  obtain ⟨ou, ba, ho, hb, he⟩ := h1 s hs
  obtain ⟨rd2, hr2, h3⟩ := h2
  obtain ⟨ou2, ba2, ho2, hb2, he2⟩ := h3 s hs
  have e1 := hr2.unique (moreI_ready hr)
  have e2 := ho2.unique (moreI_out hp ho)
  have e3 := hb2.unique (moreI_back hp hb)
  subst e1 e2 e3
  rw [he2 c (by rw [moreI_len]; exact hc)]
  rw [he c hc] at ht
  obtain ⟨a1, a2, _, a3⟩ := moreI_at (z := z) hp c
  unfold mayI at ht ⊢
  rw [a1, a2, a3]
  have b1 : (moreI m k p z).br = m.br + z := rfl
  have b2 : (moreI m k p z).en = m.en + z := rfl
  have b3 : (moreI m k p z).sats = m.sats := rfl
  rw [b1, b2, b3]
  simp only [Bool.and_eq_true, decide_eq_true_eq] at ht ⊢
  have b4 : (0 : Int) ≤ if c = k then z else 0 := by split <;> omega
  omega
/-- No one less, as sets. -/
theorem moreI_less {zs ys : List Nat} {a b : Nat} (hp : m.cus[k]? = some p) (hz : 0 ≤ z) (h : SetsOf m zs) (h2 : SetsOf (moreI m k p z) ys) (hs : s < m.sats.length) (ha : zs[s]? = some a) (hb : ys[s]? = some b) : ∀ c, c < 64 → a.testBit c = true → b.testBit c = true := by
  intro c hc ht
  obtain ⟨_, P, h3, h4⟩ := h
  obtain ⟨_, Q, h5, h6⟩ := h2
  rw [h4 s a ha c hc] at ht
  rw [h6 s b hb c hc]
  simp only [Bool.and_eq_true, decide_eq_true_eq] at ht ⊢
  exact ⟨by rw [moreI_len]; exact ht.1, moreI_mono hp hz h3 h5 hs ht.1 ht.2⟩
theorem Fresh.cus_geR {wr : World} {gx B N C D g : Nat} {A : InA} {x : Ins} {VK VT : Nat → Nat} {LK LT : Nat → Nat → Int} (h : Fresh wr gx B A x N C D VK VT LK LT) (e : A.ca = some ⟨g, 0, none⟩) : B ≤ g := by
  have hs := h.own.cus
  rw [e] at hs
  exact (World.ownsRow.lt hs g rfl).1
end Go.Proofs.Ytchdpapaojkbhaa

/- The library's Push and Pop over a pile's items. -/
import Derived.Test.YtgoegkajfhhcjaaPDown
import Derived.Test.YtgoegkajfhhcjaaPPop
namespace Go.Proofs.Ytgoegkajfhhcjaa
open Go.RowKit
open Go.Sort (swp size_swp swp_get HoldsK putRowK flatK)

/-- One more is in the pile, which is a heap again. -/
def Put (w : World) (base b : Nat) (v : Value) (d : Array It) (x : It) (w' : World) : Prop :=
  ∃ g cap dk, PileW w' base b (.slice (some ⟨g, 0, none⟩) (d.size + 1) cap) dk ∧ dk.size = d.size + 1 ∧ HeapB dk.size dk ∧ dk.toList.Perm (x :: d.toList) ∧ Mod (pileS b v) w w' ∧ (v.ownBlock = some g ∨ w.heap.size ≤ g)
/-- The least isn't there any more. -/
def Taken (w : World) (base b g n cap : Nat) (d : Array It) (w' : World) : Prop :=
  ∃ dk, PileW w' base b (.slice (some ⟨g, 0, none⟩) n cap) dk ∧ dk.size = n ∧ HeapB dk.size dk ∧ d.toList.Perm (d[0]! :: dk.toList) ∧ Mod (pileS b (.slice (some ⟨g, 0, none⟩) n cap)) w w'

theorem PileW.put {w : World} {base b g n cap q : Nat} {d dk : Array It} (h : PileW w base b (.slice (some ⟨g, 0, none⟩) n cap) d) (hs : dk.size = d.size) : PileW (putRowK encIt 2 (Sort.ahead w q) g 0 dk) base b (.slice (some ⟨g, 0, none⟩) n cap) dk :=
  ⟨((Mod.put w g q dk).block b h.lt (fun e => h.ne (by rw [e]; rfl))).trans h.head, h.row.put hs q, h.ne⟩
theorem PileW.apart {w : World} {base b g n cap : Nat} {d : Array It} (h : PileW w base b (.slice (some ⟨g, 0, none⟩) n cap) d) : b ≠ g := fun e => h.ne (by rw [e]; rfl)

theorem put_of {w w1 w2 : World} {base b g cap : Nat} {v : Value} {d : Array It} {x : It} (hP : PileW w1 base b (.slice (some ⟨g, 0, none⟩) (d.size + 1) cap) (d.push x)) (hM : Mod (pileS b v) w w1) (hf : v.ownBlock = some g ∨ w.heap.size ≤ g)
    (h : ∃ dk, HeapB (d.size + 1) dk ∧ dk.size = (d.push x).size ∧ dk.toList.Perm (d.push x).toList ∧ ∃ q, w2 = putRowK encIt 2 (Sort.ahead w1 q) g 0 dk) : Put w base b v d x w2 := by
  obtain ⟨dk, hh, hs, hp, q, rfl⟩ := h
  have hs' : dk.size = d.size + 1 := by rw [hs, Array.size_push]
  refine ⟨g, cap, dk, hP.put hs, hs', by rw [hs']; exact hh, hp.trans (push_perm d x), ?_, hf⟩
  refine hM.then_ (Mod.put w1 g q dk) (fun i hi e => ?_)
  subst e
  rcases hf with h | h
  · exact .inr h
  · omega

set_option maxHeartbeats 2000000 in
set_option maxRecDepth 100000 in
theorem heapPush_any (b base n : Nat) (v : Value) (d : Array It) (x : It) (w : World) (hn : n = d.size) (hbig : n ≤ 2000) (hP : PileW w base b v d) (hh : HeapB d.size d) (hbase : base ≤ w.heap.size) :
    Calls Try.prog 36 #[.iface 80 (.pointer (some ⟨b, 0, none⟩)), .iface 66 (.agg #[.int .i64 x.1, .int .i64 x.2])] w fun e w' => e = .returned (.tuple #[]) ∧ Put w base b v d x w' := by
  subst hn
  have hm := meth_push ⟨b, 0, none⟩ w
  have HH := Lib.hid hh; clear hh
  have HP := Lib.hid hP; clear hP
  have HB := Lib.hid hbase; clear hbase
  go_enter Try.func36, Try.ntmps36
  go_wp2_with (first
    | (go_at_call 64; refine (push_any b base d.size v d x w rfl (by omega) HP.out HB.out).mono ?_; rintro e w1 ⟨rfl, g, cap, hP1, hM1, hf1⟩; clear hm; have hm1 := meth_len ⟨b, 0, none⟩ w1 _ hP1.cell; have HP1 := Lib.hid hP1; have HM1 := Lib.hid hM1; have HF1 := Lib.hid hf1; clear hP1 hM1 hf1)
    | (go_at_call 60; refine (len_any _ _ _ _).mono ?_; rintro e w2 ⟨rfl, rfl⟩; clear hm1)
    | (go_at_call 41; refine (up_any b g (d.size + 1) cap d.size (d.push x) w1 (by simp) (by omega) (by omega) HP1.out.apart HP1.out.cell HP1.out.row.holds (up_start x HH.out)).mono ?_; rintro e w2 ⟨rfl, h2⟩; have H2 := Lib.hid h2; clear h2))
  go_end0
  exact ⟨rfl, put_of HP1.out HM1.out HF1.out H2.out⟩

theorem downed_any {w w1 : World} {base b g n cap : Nat} {d : Array It} (hP : PileW w base b (.slice (some ⟨g, 0, none⟩) (n + 1) cap) d) (hn : d.size = n + 1) (hh : HeapB d.size d) (hbig : n ≤ 2000)
    (h1 : ∃ q, w1 = putRowK encIt 2 (Sort.ahead w q) g 0 (swp d 0 n)) :
    Calls Try.prog 42 #[.iface 80 (.pointer (some ⟨b, 0, none⟩)), .int .i64 0, .int .i64 n] w1 fun e w' => (∃ r, e = .returned (.bool r)) ∧ Downed w1 g n (swp d 0 n) w' := by
  obtain ⟨q, rfl⟩ := h1
  have hP1 := hP.put (q := q) (dk := swp d 0 n) (size_swp _ _ _)
  exact down_any b g (n + 1) n cap (swp d 0 n) _ (by rw [size_swp, hn]) (by omega) (by omega) hP1.apart hP1.cell hP1.row.holds (down_start hn (by rw [hn] at hh; exact hh))

theorem taken_of {w w1 w2 : World} {base b g n cap : Nat} {d : Array It} (hP : PileW w base b (.slice (some ⟨g, 0, none⟩) (n + 1) cap) d) (hn : d.size = n + 1)
    (h1 : ∃ q, w1 = putRowK encIt 2 (Sort.ahead w q) g 0 (swp d 0 n)) (h2 : Downed w1 g n (swp d 0 n) w2) :
    ∃ dk, PileW w2 base b (.slice (some ⟨g, 0, none⟩) (n + 1) cap) dk ∧ dk.size = n + 1 ∧ dk[n]! = d[0]! ∧ (∀ w3, Popped w2 base b g n cap dk w3 → Taken w base b g n cap d w3) := by
  obtain ⟨q1, rfl⟩ := h1
  obtain ⟨dk, hh, hs, hp, hl, q2, rfl⟩ := h2
  have hs' : dk.size = n + 1 := by rw [hs, size_swp, hn]
  have hg := swp_get d (i := 0) (j := n) (by omega) (by omega)
  have hl' : dk[n]! = d[0]! := by rw [hl, hg, if_pos rfl]
  refine ⟨dk, (hP.put (dk := swp d 0 n) (size_swp _ _ _)).put hs, hs', hl', ?_⟩
  rintro w3 ⟨hP3, hM3⟩
  have hps : dk.pop.size = n := by simp [hs']
  refine ⟨dk.pop, hP3, hps, ?_, ?_, ?_⟩
  · rw [hps]
    exact heap_congr hh (fun k hk => get_pop dk k (by omega))
  · have h4 := pop_perm dk n hs'
    rw [hl'] at h4
    exact ((swp_perm d 0 n (by omega) (by omega)).symm.trans hp.symm).trans h4
  · have ha : Mod (· = g) w _ := (Mod.put w g q1 (swp d 0 n)).trans (Mod.put _ g q2 dk)
    exact (ha.mono fun k _ e => .inr (by rw [e]; rfl)).trans hM3

set_option maxHeartbeats 2000000 in
set_option maxRecDepth 100000 in
theorem heapPop_any (b base g n cap : Nat) (d : Array It) (w : World) (hn : d.size = n + 1) (hbig : n ≤ 2000) (hP : PileW w base b (.slice (some ⟨g, 0, none⟩) (n + 1) cap) d) (hh : HeapB d.size d) :
    Calls Try.prog 38 #[.iface 80 (.pointer (some ⟨b, 0, none⟩))] w fun e w' => e = .returned (.iface 66 (.agg #[.int .i64 d[0]!.1, .int .i64 d[0]!.2])) ∧ Taken w base b g n cap d w' := by
  have hm := meth_len ⟨b, 0, none⟩ w _ hP.cell
  have hm2 := meth_swap ⟨b, 0, none⟩ w _ hP.cell
  have HH := Lib.hid hh; clear hh
  have HP := Lib.hid hP; clear hP
  have HN := Lib.hid hn; clear hn
  have HS : Hid (Calls Try.prog 62 #[.slice (some ⟨g, 0, none⟩) (n + 1) cap, .int .i64 0, .int .i64 n] w fun e w' => e = .returned (.tuple #[]) ∧ ∃ q, w' = putRowK encIt 2 (Sort.ahead w q) g 0 (swp d 0 n)) :=
    Lib.hid (swap_any g (n + 1) cap 0 n d w HN.out.symm (by omega) (by omega) HP.out.row.holds)
  go_enter Try.func38, Try.ntmps38
  go_wp2_with (first
    | (go_at_call 60; refine (len_any _ _ _ _).mono ?_; rintro e w2 ⟨rfl, rfl⟩; clear hm)
    | (go_at_call 62; refine HS.out.mono ?_; rintro e w1 ⟨rfl, h1⟩; have H1 := Lib.hid h1; clear h1 hm2 HS)
    | (go_at_call 42; refine (downed_any HP.out HN.out HH.out (by omega) H1.out).mono ?_; rintro e w2 ⟨⟨r, rfl⟩, h2⟩; obtain ⟨dk, hP2, hs2, hl2, hT⟩ := taken_of HP.out HN.out H1.out h2; have hm3 := meth_pop ⟨b, 0, none⟩ w2; have HP2 := Lib.hid hP2; have HS2 := Lib.hid hs2; have HL2 := Lib.hid hl2; have HT := Lib.hid hT; clear hP2 hs2 hl2 hT h2)
    | (go_at_call 63; refine (pop_any b base g n cap dk _ HS2.out (by omega) HP2.out).mono ?_; rintro e w3 ⟨rfl, h3⟩; have H3 := Lib.hid h3; clear h3 hm3))
  go_ret
  exact ⟨by rw [HL2.out]; rfl, HT.out _ H3.out⟩
end Go.Proofs.Ytgoegkajfhhcjaa

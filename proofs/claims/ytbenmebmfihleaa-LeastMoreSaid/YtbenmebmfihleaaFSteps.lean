/- Package flow: steps: by how few open lanes one comes to nodes. -/
import Derived.Test.YtbenmebmfihleaaMFlowT
import Derived.Test.YtbenmebmfihleaaMWk
import Derived.Test.YtbenmebmfihleaaMRep
import Derived.Deep.LoopGhost
import Derived.BigRegion
import Derived.RegionTactic
namespace Go.Proofs.Ytbenmebmfihleaa
open Go.RowKit

variable {w w0 wr w2 w4 : World} {N s lb G : Nat} {V : Nat → Value} {L : Nat → List La} {op : La → Bool} {far far2 : Nat → Int}
structure StW (w0 wr : World) (G N : Nat) (far : Nat → Int) : Prop where
  below : Below w0.heap.size w0 wr
  row : wr.rowIs G 3 N (fun i => .int .i64 (far i))
  ge : w0.heap.size ≤ G
theorem StW.later (h : StW w0 wr G N far) (hb : Below wr.heap.size wr w2) : StW w0 w2 G N far := ⟨h.below.trans (hb.mono h.below.size), rowIs_below h.row hb, h.ge⟩
theorem StW.set_ (h : StW w0 wr G N far) (i : Nat) (z : Int) : StW w0 (wr.setCell ⟨G, i, none⟩ (.int .i64 z)) G N (fun j => if j = i then z else far j) :=
  ⟨h.below.setCell h.ge _, (h.row.set i _).congr (fun j _ => by split <;> rfl), h.ge⟩
theorem StW.mod {g : Nat} (h : StW w0 wr G N far) (hm : Mod (fun b => b = g) wr w2) (hg : G < g) : StW w0 w2 G N far :=
  ⟨((Mod.of_below (fun b => b = g) h.below).trans hm).below (Nat.le_refl _) (fun k hk => by have := h.ge; omega), h.row.of_block (hm.block G h.row.lt (by omega)), h.ge⟩
theorem start_blk (w2 : World) (G s : Nat) : ((w2.setCell ⟨G, s, none⟩ (.int .i64 0)).alloc (.cells #[.int .i64 (s : Int)] 3)).heap[w2.heap.size]? = some (.cells #[.int .i64 (s : Int)] 3 (0, 0)) := by
  have h := heap_alloc_new (w2.setCell ⟨G, s, none⟩ (.int .i64 0)) (.cells #[.int .i64 (s : Int)] 3)
  have e : (w2.setCell ⟨G, s, none⟩ (.int .i64 0)).heap.size = w2.heap.size := by simp [World.setCell]
  rw [e] at h
  exact h
/-- The slice of nodes to be done. -/
def Fnd (w : World) (base : Nat) (fa : Option Addr) (n cap : Nat) (q : List Nat) : Prop := (n = 0 ∧ q = []) ∨ ∃ g off, fa = some ⟨g, off, none⟩ ∧ Win w base g off n cap q
theorem Fnd.below {base n cap : Nat} {fa : Option Addr} {q : List Nat} (h : Fnd w base fa n cap q) (hb : Below w.heap.size w w2) : Fnd w2 base fa n cap q := by
  rcases h with h | ⟨g, off, e, h⟩
  · exact .inl h
  · exact .inr ⟨g, off, e, h.below hb⟩
theorem Fnd.len {base n cap : Nat} {fa : Option Addr} {q : List Nat} (h : Fnd w base fa n cap q) : q.length = n := by
  rcases h with ⟨h1, h2⟩ | ⟨g, off, e, h⟩
  · subst h1 h2; rfl
  · exact h.len
set_option maxHeartbeats 4000000 in
set_option maxRecDepth 100000 in
theorem steps_any (N s : Nat) (hN1 : 1 ≤ N) (hN : N ≤ 1000) (hs : s < N) (w : World) (hL : Lanes w.heap.size w lb N V L) (hLn : ∀ i, (L i).length ≤ 40000) (hLt : ∀ u, u < N → ∀ a ∈ L u, a.2.1 < N) (op : La → Bool) (F : Nat) (cs : Array Value)
    (HF : ∀ (args : Array Value) (W : World), (callFunc F args).run Try.prog W = .ok (.enter F args) W)
    (HO : ∀ W, Below w.heap.size w W → ∀ u, u < N → ∀ k v b, (k, v, b) ∈ L u → Calls Try.prog F (#[.agg #[.int .i64 (k : Int), .int .i64 (v : Int), .bool b]] ++ cs) W fun e w' => e = .returned (.bool (op (k, v, b))) ∧ Below W.heap.size W w') :
    Calls Try.prog 46 #[.slice (some ⟨lb, 0, none⟩) N N, .int .i64 (s : Int), .func (.func F) #[] cs] w fun e w' => ∃ G far, e = .returned (.slice (some ⟨G, 0, none⟩) N N) ∧ w'.rowIs G 3 N (fun i => .int .i64 (far i)) ∧ w.heap.size ≤ G ∧ Below w.heap.size w w' ∧ FarOk L op N s far := by
  have HLA := Lib.hid hL
  have HLN := Lib.hid hLn
  have HLT := Lib.hid hLt
  have HOO := Lib.hid HO
  have HBE := Lib.hid (Bfs.begin_ L op hs)
  clear hL hLn hLt HO
  go_enter Try.func46, Try.ntmps46
  go_wp2_with (go_at_call 56; refine (repIntsO (-1) N w.heap.size _ hN1 hN (by simp)).mono ?_; rintro e w2 ⟨G, rfl, hrow, hge, hb2⟩; have HS0 : Hid (StW w w2 G N (fun _ => -1)) := Lib.hid ⟨((Below.refl _ w).alloc (Nat.le_refl _) _).trans (hb2.mono (by simp)), hrow, by simp at hge; omega⟩; have c0 := hrow.cell hs; have f0 := hrow.frozen s; clear hrow hge hb2)
  have HSz : Hid (G < w2.heap.size) := Lib.hid HS0.out.row.lt
  have HS1 : Hid (StW w ((w2.setCell ⟨G, s, none⟩ (.int .i64 0)).alloc (.cells #[.int .i64 (s : Int)] 3)) G N (fun i => if i = s then 0 else -1)) := Lib.hid ((HS0.out.set_ s 0).later ((Below.refl _ _).alloc (Nat.le_refl _) _))
  have HF1 : Hid (Fnd ((w2.setCell ⟨G, s, none⟩ (.int .i64 0)).alloc (.cells #[.int .i64 (s : Int)] 3)) (G + 1) (some ⟨w2.heap.size, 0, none⟩) 1 1 [s]) := Lib.hid (.inr ⟨w2.heap.size, 0, rfl, rfl, by have := HSz.out; omega, Nat.le_refl _, by unfold maxLen; omega, _, (start_blk w2 G s), rfl, fun j i hj => by
    match j, hj with
    | 0, hj => simp at hj; subst hj; simp
    | j + 1, hj => simp at hj⟩)
  obtain ⟨W1, hW1⟩ : ∃ W1, (w2.setCell ⟨G, s, none⟩ (.int .i64 0)).alloc (.cells #[.int .i64 (s : Int)] 3) = W1 := ⟨_, rfl⟩
  obtain ⟨g1, hg1⟩ : ∃ g1, w2.heap.size = g1 := ⟨_, rfl⟩
  rw [hW1] at HS1 HF1
  rw [hg1] at HF1
  rw [hW1, hg1]
  clear hW1 hg1 c0 f0 HS0 HSz
  go_loopg [8] N (fun gn fv wr => ∃ (far : Nat → Int) (P q : List Nat) (fa : Option Addr) (n cap : Nat), fv = .slice fa n cap ∧ P.length + gn = N ∧ Hid (StW w wr G N far) ∧ Hid (Fnd wr (G + 1) fa n cap q) ∧ Hid (Bfs L op N s far P q 0))
  case atStart => exact ⟨_, [], [s], _, 1, 1, rfl, by simp, HS1, HF1, HBE⟩
  case round =>
    obtain ⟨far, P, q, fa, n, cap, rfl, hPg, HS, HFd, HB⟩ := hrel
    clear HS1 HF1 HBE
    match q, HFd, HB with
    | [], HFd, HB =>
      have hn0 : 0 = n := HFd.out.len
      subst hn0
      go_wp2_with fail
      go_ret
      exact ⟨G, far, rfl, HS.out.row, HS.out.ge, HS.out.below, HB.out.done⟩
    | c :: q2, HFd, HB =>
      have hlen := HB.out.len
      simp only [List.length_cons] at hlen
      obtain ⟨g, off, hfa, hwin⟩ : ∃ g off, fa = some ⟨g, off, none⟩ ∧ Win wr (G + 1) g off n cap (c :: q2) := by
        rcases HFd.out with ⟨_, h⟩ | h
        · cases h
        · exact h
      subst hfa
      obtain ⟨m, rfl⟩ : ∃ m, n = m + 1 := ⟨q2.length, by have := hwin.len; simp at this; omega⟩
      have hcN : c < N := HB.out.lt c (by simp)
      have hnm : m + 1 ≤ 1000 := by have h1 := hwin.len; simp at h1; omega
      have c0 : wr.cell? ⟨g, off, none⟩ = some (.int .i64 (c : Int)) := hwin.cell (j := 0) rfl
      have HLW := Lib.hid (HLA.out.later HS.out.below)
      obtain ⟨va, vc, hv, hil⟩ := HLA.out.row c hcN
      obtain ⟨M, hM⟩ : ∃ M, (L c).length = M := ⟨_, rfl⟩
      have hMb : M ≤ 40000 := by have := HLN.out c; omega
      rw [hM] at hv hil
      have HMM := Lib.hid hM
      have r0 := HLW.out.out.cell hcN
      rw [hv] at r0
      have HIL := Lib.hid hil
      have HWI := Lib.hid hwin
      have hcp := hwin.le
      have hcm := hwin.cm
      unfold maxLen at hcm
      clear hM hv hil hwin HFd
      go_wp2_with fail
      clear c0 r0
      go_loopw [8, 34] (fun fv i w3 => ∃ (r : Nat) (far : Nat → Int) (q3 : List Nat) (g off n cap : Nat), fv = .slice (some ⟨g, off, none⟩) n cap ∧ i = .int .i64 r ∧ r ≤ M ∧ Hid (StW w w3 G N far) ∧ Hid (Win w3 (G + 1) g off n cap (c :: q3)) ∧ Hid (Bfs L op N s far P (c :: q3) r)) (fun _ i _ => M - (intOf i).toNat)
      case atStart => exact ⟨0, far, q2, g, off, m + 1, cap, rfl, rfl, Nat.zero_le _, HS, HWI, HB⟩
      case round =>
        clear HS HWI HB hlen hnm hcp hcm
        obtain ⟨r, far, q3, g, off, n, cap, rfl, rfl, hr, HS, HW, HB⟩ := hrel
        by_cases hlt : r < M
        · obtain ⟨lb2, loff, ⟨k, v, b⟩, rfl, hlbC, hj, e0, e1, e2⟩ := (HIL.out.later HS.out.below).at_ hlt
          simp only at e0 e1 e2
          have hmem := List.mem_of_getElem? hj
          have hvN : v < N := HLT.out c hcN _ hmem
          have HJ := Lib.hid hj
          have HS1 := Lib.hid (HS.out.later ((Below.refl wr.heap.size wr).alloc (Nat.le_refl _) (.cells #[.int .i64 (k : Int), .int .i64 (v : Int), .bool b] 81)))
          have HW1 := Lib.hid (HW.out.below ((Below.refl wr.heap.size wr).alloc (Nat.le_refl _) (.cells #[.int .i64 (k : Int), .int .i64 (v : Int), .bool b] 81)))
          have HOP := Lib.hid (HOO.out _ HS1.out.below c hcN k v b hmem)
          have HBX : Hid ((wr.alloc (.cells #[.int .i64 (k : Int), .int .i64 (v : Int), .bool b] 81)).cell? ⟨wr.heap.size, 1, none⟩ = some (.int .i64 (v : Int))) := Lib.hid (by simp)
          have HGL : Hid (wr.heap.size < (wr.alloc (.cells #[.int .i64 (k : Int), .int .i64 (v : Int), .bool b] 81)).heap.size) := Lib.hid (by simp)
          have HGG : Hid (G < wr.heap.size) := Lib.hid HS.out.row.lt
          have r1 := HS1.out.row.cell hvN
          obtain ⟨fv, hfv⟩ : ∃ z, far v = z := ⟨_, rfl⟩
          have HFV := Lib.hid hfv
          rw [hfv] at r1
          have hlen := HB.out.len
          simp only [List.length_cons] at hlen
          have hnl := HW.out.len
          simp only [List.length_cons] at hnl
          have hn1000 : n ≤ 1000 := by omega
          clear hj hmem hlbC hfv
          by_cases hneg : fv < 0
          · cases hop : op (k, v, b) with
            | false =>
              have HN := Lib.hid (HB.out.skip rfl HJ.out hvN (.inr hop))
              rw [hop] at HOP
              clear hop
              go_wp2_with (refine HOP.out.mono ?_; rintro e w5 ⟨rfl, hb5⟩; have HS5 := Lib.hid (HS1.out.later hb5); have HW5 := Lib.hid (HW1.out.below hb5); clear hb5)
              go_roundw
              case rel => exact ⟨r + 1, far, q3, g, off, n, cap, rfl, by go_num, by omega, HS5, HW5, HN⟩
              case measure => simp [intOf]; omega
            | true =>
              have HN := Lib.hid (HB.out.found rfl HJ.out hvN (by rw [HFV.out]; exact hneg) hop)
              rw [hop] at HOP
              clear hop
              go_wp2_with (refine HOP.out.mono ?_; rintro e w5 ⟨rfl, hb5⟩; have HS5 := Lib.hid (HS1.out.later hb5); have HW5 := Lib.hid (HW1.out.below hb5); have x1 : w5.cell? ⟨wr.heap.size, 1, none⟩ = some (.int .i64 (v : Int)) := (hb5.cell (p := ⟨wr.heap.size, 1, none⟩) HGL.out).trans HBX.out; have rc := HS5.out.row.cell hcN; have rv := HS5.out.row.cell hvN; have rf := HS5.out.row.frozen v; clear hb5)
              obtain ⟨fc, hfc⟩ : ∃ z, far c = z := ⟨_, rfl⟩
              have HFC := Lib.hid hfc
              have hfb : -1 ≤ fc ∧ fc ≤ 1000 := by
                have h1 := HB.out.idx P.length c (by simp)
                rcases HB.out.mem c hcN with ⟨_, m⟩ | ⟨m, _⟩
                · exact absurd (by simp) m
                · omega
              rw [hfc] at rc HN
              have ew : IntKind.i64.wrap (fc + 1) = fc + 1 := by rw [IntKind.wrap_i64]; omega
              have HS6 := Lib.hid ((HS5.out.set_ v (fc + 1)).later (Below.refl _ _).drew)
              have HW6 : Hid (Win ((w5.setCell ⟨G, v, none⟩ (.int .i64 (fc + 1))).drew) (G + 1) g off n cap (c :: q3)) := Lib.hid (HW5.out.of_block (heap_setCell_other _ _ _ _ (fun e => by have h1 : g = G := e; have := HW5.out.ge; omega)))
              have HX6 : Hid (((w5.setCell ⟨G, v, none⟩ (.int .i64 (fc + 1))).drew).cell? ⟨wr.heap.size, 1, none⟩ = some (.int .i64 (v : Int))) := Lib.hid ((World.cell?_of_block (heap_setCell_other _ _ _ _ (fun e => by have h1 : wr.heap.size = G := e; have := HGG.out; omega))).trans x1)
              clear hfc hfb
              go_region
              obtain ⟨w6, hw6⟩ : ∃ w6, (w5.setCell ⟨G, v, none⟩ (.int .i64 (fc + 1))).drew = w6 := ⟨_, rfl⟩
              rw [hw6] at HS6 HW6 HX6 ⊢
              clear hw6 x1 rc rv rf r1 e0 e1 e2
              have x6 := HX6.out
              have HWA := Lib.hid (HW6.out.below ((Below.refl w6.heap.size w6).alloc (Nat.le_refl _) (.cells #[.int .i64 (v : Int)] 3)))
              have HGS : Hid (G + 1 ≤ (w6.alloc (.cells #[.int .i64 (v : Int)] 3)).heap.size) := Lib.hid (by have := HS6.out.row.lt; simp; omega)
              have HS7a := Lib.hid (HS6.out.later ((Below.refl w6.heap.size w6).alloc (Nat.le_refl _) (.cells #[.int .i64 (v : Int)] 3)))
              have HGL2 : Hid (G < g) := Lib.hid (by have := HW6.out.ge; omega)
              clear hlen hnl
              go_wp2_with (at_builtin; refine wpList_append_win rfl (.tmp 58) (.tmp 61) rfl HWA.out hn1000 HGS.out rfl ⟨w6.heap.size, 0, none⟩ 1 v rfl (news_at _ _ _ _ rfl) ?_; intro g2 off2 cap2 w7 hw7 hm7; have HS7 := Lib.hid (HS7a.out.mod hm7 HGL2.out); have HW7 := Lib.hid hw7; clear hw7 hm7)
              go_roundw
              case rel => exact ⟨r + 1, _, q3 ++ [v], g2, off2, n + 1, cap2, rfl, by go_num, by omega, HS7, HW7, HN⟩
              case measure => simp [intOf]; omega
          · have HN := Lib.hid (HB.out.skip rfl HJ.out hvN (.inl (by rw [HFV.out]; show (0:Int) ≤ fv; omega)))
            go_wp2_with fail
            go_roundw
            case rel => exact ⟨r + 1, far, q3, g, off, n, cap, rfl, by go_num, by omega, HS1, HW1, HN⟩
            case measure => simp [intOf]; omega
        · have HN := Lib.hid (HB.out.next rfl (by have := HMM.out; omega))
          have hlen := HB.out.len
          simp only [List.length_cons] at hlen
          obtain ⟨n, rfl⟩ : ∃ m, n = m + 1 := ⟨q3.length, by have := HW.out.len; simp at this; omega⟩
          obtain ⟨cap, rfl⟩ : ∃ m, cap = m + 1 := ⟨cap - 1, by have := HW.out.le; omega⟩
          have hcm := HW.out.cm
          unfold maxLen at hcm
          have hcn : n ≤ cap := by have := HW.out.le; omega
          have h1 : ¬ (n : Int) + 1 < 1 := by omega
          by_cases hc0 : cap = 0
          · subst hc0
            obtain rfl : n = 0 := by omega
            have hq3 : q3 = [] := List.eq_nil_of_length_eq_zero (by have := HW.out.len; simpa using this)
            subst hq3
            go_wp2_with fail
            go_roundg (gk - 1)
            case measure => omega
            case rel => exact ⟨far, P ++ [c], [], _, 0, _, rfl, by simp; omega, HS, Lib.hid (.inl ⟨rfl, rfl⟩), HN⟩
          · have hc1 : ¬ cap + 1 = 1 := by omega
            have HWT := Lib.hid (HW.out.tail rfl)
            go_wp2_with fail
            go_roundg (gk - 1)
            case measure => omega
            case rel => exact ⟨far, P ++ [c], q3, some ⟨g, off + 1, none⟩, n, cap, by simp, by simp; omega, HS, Lib.hid (.inr ⟨g, off + 1, rfl, HWT.out⟩), HN⟩
end Go.Proofs.Ytbenmebmfihleaa

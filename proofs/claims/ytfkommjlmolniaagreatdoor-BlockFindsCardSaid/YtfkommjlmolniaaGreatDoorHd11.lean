/- Joined: PPush, PPop, PHeap, Pile, Have. -/
import Derived.Test.YtfkommjlmolniaaGreatDoorHd10
import Derived.Test.YtfkommjlmolniaaGreatDoorHd1
import Derived.ArgAppend
import Derived.RegionTactic
import Derived.BigRegion
import Derived.StillTailTactics
import Derived.Laws.StructEq
set_option linter.unusedVariables false
section

namespace Go.Proofs.YtfkommjlmolniaaGreatDoor
set_option maxHeartbeats 16000000
set_option maxRecDepth 100000
open Go.Lib (hid)
open Go.RowKit
open Go.Sort (swp size_swp HoldsK putRowK flatK)
theorem Zo7 : (Tryz.prog.info? 154).map (fun i => (i.zero,i.size,i.bytes)) = some (some (.agg #[.int .i64 0,.int .i64 0]),2,16) := by kernel_rfl
theorem Zc6 {P : Program} {t : TypeId} {z : Value} {s b : Nat} (h : (P.info? t).map (fun i => (i.zero,i.size,i.bytes)) = some (some z,s,b)) : ∃ i,P.info? t = some i ∧ i.zero = some z ∧ i.size = s ∧ i.bytes = b := by
 cases hi : P.info? t with
 | none => simp [hi] at h
 | some i =>
  simp only [hi,Option.map_some,Option.some.injEq,Prod.mk.injEq] at h
  exact ⟨i,rfl,h.1,h.2.1,h.2.2⟩
structure PileW (w : World) (base b : Nat) (v : Value) (d : Array It) : Prop where
 head : w.heap[b]? = some (.cells #[v] 179 (0,0))
 row : RowW w base v d
 ne : v.ownBlock ≠ some b
def pileS (b : Nat) (v : Value) (k : Nat) : Prop := k = b ∨ v.ownBlock = some k
theorem PileW.lt {w : World} {base b : Nat} {v : Value} {d : Array It} (h : PileW w base b v d) : b < w.heap.size := (Array.getElem?_eq_some_iff.1 h.head).1
theorem PileW.cell {w : World} {base b : Nat} {v : Value} {d : Array It} (h : PileW w base b v d) : w.cell? ⟨b,0,none⟩ = some v := cell_of_one h.head
theorem PileW.free {w : World} {base b : Nat} {v : Value} {d : Array It} (h : PileW w base b v d) : w.frozen? ⟨b,0,none⟩ = false := free_of_one h.head
theorem PileW.kept {w w' : World} {base b : Nat} {v : Value} {d : Array It} {S : Nat → Prop} (h : PileW w base b v d) (hm : Mod S w w') (hb : ¬ S b) (hs : ∀ k,v.ownBlock = some k → ¬ S k) : PileW w' base b v d :=
 ⟨(hm.block b h.lt hb).trans h.head,h.row.kept hm hs,h.ne⟩
theorem PileW.set_ {w : World} {base b : Nat} {v v' : Value} {d' : Array It} (hd : w.heap[b]? = some (.cells #[v] 179 (0,0))) (hr : RowW w base v' d') (hn : v'.ownBlock ≠ some b) : PileW (w.setCell ⟨b,0,none⟩ v') base b v' d' := by
 refine ⟨?_,?_,hn⟩
 ·simp [World.setCell,Array.getElem?_modify,hd]
 ·exact hr.kept ((Mod.refl (fun k => k = b) w).setCell (p := ⟨b,0,none⟩) (.inr rfl) v') (fun k hk e => hn (by rw [hk,e]))
def Zmd (w : World) (base b : Nat) (v : Value) (d : Array It) (x : It) (w' : World) : Prop :=
 ∃ g cap,PileW w' base b (.slice (some ⟨g,0,none⟩) (d.size + 1) cap) (d.push x) ∧ Mod (pileS b v) w w' ∧ (v.ownBlock = some g ∨ w.heap.size ≤ g)
theorem Zih {w w1 w2 w' : World} {base b n g cap : Nat} {v : Value} {d : Array It} {x : It} (hP : PileW w1 base b v d) (hM : Mod (pileS b v) w w1) (hA : Mod (fun _ => False) w1 w2)
  (hown : w'.ownsRow base 154 2 (.slice (some ⟨g,0,none⟩) (n + 1) cap) (n + 1) (flatI d ++ [.int .i64 x.1,.int .i64 x.2])) (hgrow : w2.grownBy w' v.ownBlock) (hfr : v.ownBlock = some g ∨ g = w2.heap.size) (hn : n = d.size) :
  Zmd w base b v d x (w'.setCell ⟨b,0,none⟩ (.slice (some ⟨g,0,none⟩) (n + 1) cap)) := by
 subst hn; have hb := hP.lt; have h2 := hA.size; have hhead : w'.heap[b]? = some (.cells #[v] 179 (0,0)) := by
  rw [hgrow.block b (by omega) (fun e => hP.ne e.symm),hA.block b hb (fun h => h)]
  exact hP.head
 have hgb : g ≠ b := by
  rcases hfr with h | h
  ·intro e; subst e; exact hP.ne h
  ·omega
 have hrow : RowW w' base (.slice (some ⟨g,0,none⟩) (d.size + 1) cap) (d.push x) := by
  unfold RowW; rw [Array.size_push,Z7q]; exact hown
 refine ⟨g,cap,PileW.set_ hhead hrow (fun e => hgb (by injection e)),?_,?_⟩
 ·exact ((hM.trans (hA.mono fun _ _ h => h.elim)).grown hgrow (fun k e => .inr (.inr e))).setCell (.inr (.inl rfl)) _
 ·have := hM.size
  exact hfr.imp id (fun h => by omega)
theorem Zar (v : Value) (w : World) : (Instr.typeAssert (.iface 154 v) 20 154 true).run Tryz.prog w = .ok (.tuple #[v,.bool true]) w := by
 simp [Instr.typeAssert,run_underlying Tryz.underlying154]
theorem Zlf (b base n : Nat) (v : Value) (d : Array It) (x : It) (w : World) (hn : n = d.size) (hbig : n ≤ 60000) (hP : PileW w base b v d) (hbase : base ≤ w.heap.size) :
  Calls Tryz.prog 162 #[.pointer (some ⟨b,0,none⟩),.iface 154 (.agg #[.int .i64 x.1,.int .i64 x.2])] w fun e w' => e = .returned (.tuple #[]) ∧ Zmd w base b v d x w' := by
 obtain ⟨i0,hi,hz0,hz1,hz2⟩ := Zc6 Zo7; have HP := hid hP; clear hP; have HN := hid hn; clear hn; have HB := hid hbase; clear hbase; go_enter Tryz.func162,Tryz.ntmps162
 have hta := Zar (.agg #[.int .i64 x.1,.int .i64 x.2]) w; go_wp2_with fail
 clear hta; have HP1 : Hid (PileW (w.alloc (.cells #[.int .i64 x.1,.int .i64 x.2] 154)) base b v d) := hid (HP.out.kept ((Mod.refl (fun _ => False) w).alloc _) (fun h => h) (fun _ _ h => h)); have HM1 : Hid (Mod (pileS b v) w (w.alloc (.cells #[.int .i64 x.1,.int .i64 x.2] 154))) := hid ((Mod.refl _ w).alloc _); have c1 : (w.alloc (.cells #[.int .i64 x.1,.int .i64 x.2] 154)).cell? ⟨w.heap.size,0,none⟩ = some (.int .i64 x.1) := by simp
 have c2 : (w.alloc (.cells #[.int .i64 x.1,.int .i64 x.2] 154)).cell? ⟨w.heap.size,1,none⟩ = some (.int .i64 x.2) := by simp
 have HB1 : Hid (w.heap.size ≤ (w.alloc (.cells #[.int .i64 x.1,.int .i64 x.2] 154)).heap.size) := hid (by simp)
 generalize w.alloc (.cells #[.int .i64 x.1,.int .i64 x.2] 154) = w1 at HP1 HM1 c1 c2 HB1 ⊢; generalize w.heap.size = z at *; have hc := HP1.out.cell; have hf := HP1.out.free; have hb := HP1.out.lt; go_region_law (refine Z01 rfl (.tmp 15) (.tmp 17) 177 rfl base 154 i0 _ 2 16 Tryz.underlying177 hi hz0 hz1 hz2 (by decide) v n (flatI d) rfl (by rw [HN.out]; exact HP1.out.row.alloc _) ⟨_,0,none⟩ 1 [.int .i64 x.1,.int .i64 x.2] rfl rfl (by intro j u hj; match j,hj with | 0,hj => simp at hj; subst hj; simp [Addr.add] | 1,hj => simp at hj; subst hj; simp [Addr.add]) (by intro u hu; simp at hu; rcases hu with rfl | rfl <;> rfl) (by unfold maxLen; omega) (by omega) (by have := HB.out; have := HB1.out; simp; omega) ?_; intro g cap w' hown hgrow hfr; have hc2 : w'.cell? ⟨b,0,none⟩ = some v := hgrow.cell (a := ⟨b,0,none⟩) ((World.cell?_alloc_past _ _ _ hb).trans hc) (fun e => HP1.out.ne e.symm); have hf2 : w'.frozen? ⟨b,0,none⟩ = false := (World.frozen?_of_block (hgrow.block b (by simp; omega) (fun e => HP1.out.ne e.symm))).trans ((World.frozen?_alloc_past _ _ _ hb).trans hf))
 all_goals
  go_end0
  exact ⟨rfl,Zih HP1.out HM1.out ((Mod.refl _ w1).alloc _).drew hown hgrow hfr HN.out⟩
end Go.Proofs.YtfkommjlmolniaaGreatDoor
end
section

namespace Go.Proofs.YtfkommjlmolniaaGreatDoor
set_option maxHeartbeats 16000000
set_option maxRecDepth 100000
open Go.Lib (hid)
open Go.RowKit
open Go.Sort (swp size_swp HoldsK putRowK flatK)
def Zif (w : World) (base b g n cap : Nat) (d : Array It) (w' : World) : Prop :=
 PileW w' base b (.slice (some ⟨g,0,none⟩) n cap) d.pop ∧ Mod (pileS b (.slice (some ⟨g,0,none⟩) n cap)) w w'
theorem Zig {w w1 : World} {base b g n cap : Nat} {d : Array It} (hP : PileW w1 base b (.slice (some ⟨g,0,none⟩) (n + 1) cap) d) (hM : Mod (fun _ => False) w w1) (hn : d.size = n + 1) :
  Zif w base b g n cap d (w1.setCell ⟨b,0,none⟩ (.slice (some ⟨g,0,none⟩) n cap)) :=
 ⟨PileW.set_ hP.head (hP.row.pop hn) hP.ne,(hM.mono fun _ _ h => h.elim).setCell (.inr (.inl rfl)) _⟩
theorem Zng (b base g n cap : Nat) (d : Array It) (w : World) (hn : d.size = n + 1) (hbig : n ≤ 60000) (hP : PileW w base b (.slice (some ⟨g,0,none⟩) (n + 1) cap) d) :
  Calls Tryz.prog 161 #[.pointer (some ⟨b,0,none⟩)] w fun e w' => e = .returned (.iface 154 (.agg #[.int .i64 d[n]!.1,.int .i64 d[n]!.2])) ∧ Zif w base b g n cap d w' := by
 have hc := hP.cell; have hf := hP.free; have hb := hP.lt; have H := hP.row.holds; have c1 := Z4h H (i := n) (by omega)
 have c2 := Z6b H (i := n) (by omega)
 obtain ⟨g',cap',he,_,hg,hcap⟩ := hP.row.some_ (by omega)
 injection he with he1 he2 he3
 injection he1 with he1
 injection he1 with he1
 subst he1 he3; rw [hn] at hcap; clear he2 H; have HP := hid hP; clear hP; have HN := hid hn; clear hn; generalize d[n]! = x at *; go_enter Tryz.func161,Tryz.ntmps161
 go_wp2_with fail
 go_ret
 refine ⟨rfl,?_⟩; have h := Zig HP.out (Mod.refl _ w) HN.out; exact ⟨h.1.kept ((Mod.refl (fun _ => False) _).alloc _) (fun h => h) (fun _ _ h => h),h.2.alloc _⟩
end Go.Proofs.YtfkommjlmolniaaGreatDoor
end
section

namespace Go.Proofs.YtfkommjlmolniaaGreatDoor
set_option maxHeartbeats 16000000
set_option maxRecDepth 100000
open Go.Lib (hid)
open Go.RowKit
open Go.Sort (swp size_swp swp_get HoldsK putRowK flatK)
def Put (w : World) (base b : Nat) (v : Value) (d : Array It) (x : It) (w' : World) : Prop :=
 ∃ g cap dk,PileW w' base b (.slice (some ⟨g,0,none⟩) (d.size + 1) cap) dk ∧ dk.size = d.size + 1 ∧ HeapB dk.size dk ∧ dk.toList.Perm (x :: d.toList) ∧ Mod (pileS b v) w w' ∧ (v.ownBlock = some g ∨ w.heap.size ≤ g)
def Taken (w : World) (base b g n cap : Nat) (d : Array It) (w' : World) : Prop :=
 ∃ dk,PileW w' base b (.slice (some ⟨g,0,none⟩) n cap) dk ∧ dk.size = n ∧ HeapB dk.size dk ∧ d.toList.Perm (d[0]! :: dk.toList) ∧ Mod (pileS b (.slice (some ⟨g,0,none⟩) n cap)) w w'
theorem PileW.put {w : World} {base b g n cap q : Nat} {d dk : Array It} (h : PileW w base b (.slice (some ⟨g,0,none⟩) n cap) d) (hs : dk.size = d.size) : PileW (putRowK encIt 2 (Sort.ahead w q) g 0 dk) base b (.slice (some ⟨g,0,none⟩) n cap) dk :=
 ⟨((Mod.put w g q dk).block b h.lt (fun e => h.ne (by rw [e]; rfl))).trans h.head,h.row.put hs q,h.ne⟩
theorem PileW.apart {w : World} {base b g n cap : Nat} {d : Array It} (h : PileW w base b (.slice (some ⟨g,0,none⟩) n cap) d) : b ≠ g := fun e => h.ne (by rw [e]; rfl)
theorem Zo6 {w w1 w2 : World} {base b g cap : Nat} {v : Value} {d : Array It} {x : It} (hP : PileW w1 base b (.slice (some ⟨g,0,none⟩) (d.size + 1) cap) (d.push x)) (hM : Mod (pileS b v) w w1) (hf : v.ownBlock = some g ∨ w.heap.size ≤ g)
  (h : ∃ dk,HeapB (d.size + 1) dk ∧ dk.size = (d.push x).size ∧ dk.toList.Perm (d.push x).toList ∧ ∃ q,w2 = putRowK encIt 2 (Sort.ahead w1 q) g 0 dk) : Put w base b v d x w2 := by
 obtain ⟨dk,hh,hs,hp,q,rfl⟩ := h; have hs' : dk.size = d.size + 1 := by rw [hs,Array.size_push]
 refine ⟨g,cap,dk,hP.put hs,hs',by rw [hs']; exact hh,hp.trans (Zht d x),?_,hf⟩
 refine hM.then_ (Mod.put w1 g q dk) (fun i hi e => ?_); subst e; rcases hf with h | h
 ·exact .inr h
 ·omega
theorem Zaq (b base n : Nat) (v : Value) (d : Array It) (x : It) (w : World) (hn : n = d.size) (hbig : n ≤ 50000) (hP : PileW w base b v d) (hh : HeapB d.size d) (hbase : base ≤ w.heap.size) :
  Calls Tryz.prog 119 #[.iface 181 (.pointer (some ⟨b,0,none⟩)),.iface 154 (.agg #[.int .i64 x.1,.int .i64 x.2])] w fun e w' => e = .returned (.tuple #[]) ∧ Put w base b v d x w' := by
 subst hn; have hm := Zie ⟨b,0,none⟩ w; have HH := hid hh; clear hh; have HP := hid hP; clear hP; have HB := hid hbase; clear hbase; go_enter Tryz.func119,Tryz.ntmps119
 go_wp2_with (first
  | (go_at_call 162; refine (Zlf b base d.size v d x w rfl (by omega) HP.out HB.out).mono ?_; rintro e w1 ⟨rfl,g,cap,hP1,hM1,hf1⟩; clear hm; have hm1 := Zdr ⟨b,0,none⟩ w1 _ hP1.cell; have HP1 := hid hP1; have HM1 := hid hM1; have HF1 := hid hf1; clear hP1 hM1 hf1)
  | (go_at_call 158; refine (Z7p _ _ _ _).mono ?_; rintro e w2 ⟨rfl,rfl⟩; clear hm1)
  | (go_at_call 135; refine (Zo8 b g (d.size + 1) cap d.size (d.push x) w1 (by simp) (by omega) (by omega) HP1.out.apart HP1.out.cell HP1.out.row.holds (Zki x HH.out)).mono ?_; rintro e w2 ⟨rfl,h2⟩; have H2 := hid h2; clear h2))
 go_end0
 exact ⟨rfl,Zo6 HP1.out HM1.out HF1.out H2.out⟩
theorem Zfv {w w1 : World} {base b g n cap : Nat} {d : Array It} (hP : PileW w base b (.slice (some ⟨g,0,none⟩) (n + 1) cap) d) (hn : d.size = n + 1) (hh : HeapB d.size d) (hbig : n ≤ 50000)
  (h1 : ∃ q,w1 = putRowK encIt 2 (Sort.ahead w q) g 0 (swp d 0 n)) :
  Calls Tryz.prog 136 #[.iface 181 (.pointer (some ⟨b,0,none⟩)),.int .i64 0,.int .i64 n] w1 fun e w' => (∃ r,e = .returned (.bool r)) ∧ Zap w1 g n (swp d 0 n) w' := by
 obtain ⟨q,rfl⟩ := h1; have hP1 := hP.put (q := q) (dk := swp d 0 n) (size_swp _ _ _); exact Zla b g (n + 1) n cap (swp d 0 n) _ (by rw [size_swp,hn]) (by omega) (by omega) hP1.apart hP1.cell hP1.row.holds (Zf3 hn (by rw [hn] at hh; exact hh))
theorem Zlb {w w1 w2 : World} {base b g n cap : Nat} {d : Array It} (hP : PileW w base b (.slice (some ⟨g,0,none⟩) (n + 1) cap) d) (hn : d.size = n + 1)
  (h1 : ∃ q,w1 = putRowK encIt 2 (Sort.ahead w q) g 0 (swp d 0 n)) (h2 : Zap w1 g n (swp d 0 n) w2) :
  ∃ dk,PileW w2 base b (.slice (some ⟨g,0,none⟩) (n + 1) cap) dk ∧ dk.size = n + 1 ∧ dk[n]! = d[0]! ∧ (∀ w3,Zif w2 base b g n cap dk w3 → Taken w base b g n cap d w3) := by
 obtain ⟨q1,rfl⟩ := h1; obtain ⟨dk,hh,hs,hp,hl,q2,rfl⟩ := h2; have hs' : dk.size = n + 1 := by rw [hs,size_swp,hn]
 have hg := swp_get d (i := 0) (j := n) (by omega) (by omega)
 have hl' : dk[n]! = d[0]! := by rw [hl,hg,if_pos rfl]
 refine ⟨dk,(hP.put (dk := swp d 0 n) (size_swp _ _ _)).put hs,hs',hl',?_⟩; rintro w3 ⟨hP3,hM3⟩; have hps : dk.pop.size = n := by simp [hs']
 refine ⟨dk.pop,hP3,hps,?_,?_,?_⟩
 ·rw [hps]
  exact Zf2 hh (fun k hk => Zn2 dk k (by omega))
 ·have h4 := Zkj dk n hs'
  rw [hl'] at h4; exact ((Z8i d 0 n (by omega) (by omega)).symm.trans hp.symm).trans h4
 ·have ha : Mod (· = g) w _ := (Mod.put w g q1 (swp d 0 n)).trans (Mod.put _ g q2 dk)
  exact (ha.mono fun k _ e => .inr (by rw [e]; rfl)).trans hM3
theorem Zc4 (b base g n cap : Nat) (d : Array It) (w : World) (hn : d.size = n + 1) (hbig : n ≤ 50000) (hP : PileW w base b (.slice (some ⟨g,0,none⟩) (n + 1) cap) d) (hh : HeapB d.size d) :
  Calls Tryz.prog 121 #[.iface 181 (.pointer (some ⟨b,0,none⟩))] w fun e w' => e = .returned (.iface 154 (.agg #[.int .i64 d[0]!.1,.int .i64 d[0]!.2])) ∧ Taken w base b g n cap d w' := by
 have hm := Zdr ⟨b,0,none⟩ w _ hP.cell; have hm2 := Z3e ⟨b,0,none⟩ w _ hP.cell; have HH := hid hh; clear hh; have HP := hid hP; clear hP; have HN := hid hn; clear hn; have HS : Hid (Calls Tryz.prog 160 #[.slice (some ⟨g,0,none⟩) (n + 1) cap,.int .i64 0,.int .i64 n] w fun e w' => e = .returned (.tuple #[]) ∧ ∃ q,w' = putRowK encIt 2 (Sort.ahead w q) g 0 (swp d 0 n)) :=
  hid (Z8r g (n + 1) cap 0 n d w HN.out.symm (by omega) (by omega) HP.out.row.holds)
 go_enter Tryz.func121,Tryz.ntmps121
 go_wp2_with (first
  | (go_at_call 158; refine (Z7p _ _ _ _).mono ?_; rintro e w2 ⟨rfl,rfl⟩; clear hm)
  | (go_at_call 160; refine HS.out.mono ?_; rintro e w1 ⟨rfl,h1⟩; have H1 := hid h1; clear h1 hm2 HS)
  | (go_at_call 136; refine (Zfv HP.out HN.out HH.out (by omega) H1.out).mono ?_; rintro e w2 ⟨⟨r,rfl⟩,h2⟩; obtain ⟨dk,hP2,hs2,hl2,hT⟩ := Zlb HP.out HN.out H1.out h2; have hm3 := Zle ⟨b,0,none⟩ w2; have HP2 := hid hP2; have HS2 := hid hs2; have HL2 := hid hl2; have HT := hid hT; clear hP2 hs2 hl2 hT h2)
  | (go_at_call 161; refine (Zng b base g n cap dk _ HS2.out (by omega) HP2.out).mono ?_; rintro e w3 ⟨rfl,h3⟩; have H3 := hid h3; clear h3 hm3))
 go_ret
 exact ⟨by rw [HL2.out]; rfl,HT.out _ H3.out⟩
end Go.Proofs.YtfkommjlmolniaaGreatDoor
end
section

namespace Go.Proofs.YtfkommjlmolniaaGreatDoor
set_option maxHeartbeats 16000000
set_option maxRecDepth 100000
open Go.Lib (hid)
open Go.RowKit
open Go.Sort (swp size_swp swp_get HoldsK putRowK flatK)
theorem Znh (w : World) : Calls Tryz.prog 90 #[] w fun e w' => e = .returned (.pointer (some ⟨w.heap.size,0,none⟩)) ∧ w' = w.alloc (.cells #[.slice none 0 0] 179) := by
 go_enter Tryz.func90,Tryz.ntmps90
 go_wp2_with fail
 go_ret
 exact ⟨rfl,rfl⟩
theorem PileW.new (w : World) (base : Nat) : PileW (w.alloc (.cells #[.slice none 0 0] 179)) base w.heap.size (.slice none 0 0) #[] :=
 ⟨heap_alloc_new w _,RowW.nil _ _,by simp [Value.ownBlock]⟩
theorem Zdt {w : World} {base b : Nat} {v : Value} {d : Array It} (hP : PileW w base b v d) :
  Calls Tryz.prog 120 #[.pointer (some ⟨b,0,none⟩)] w fun e w' => e = .returned (.int .i64 d.size) ∧ w = w' := by
 have hc := hP.cell; obtain ⟨a,cap,rfl⟩ := hP.row.shape; clear hP; go_enter Tryz.func120,Tryz.ntmps120
 go_wp2_with fail
 go_ret
 exact ⟨rfl,rfl⟩
theorem Put.later {w w1 w2 : World} {base b : Nat} {v : Value} {d : Array It} {x : It} (hM : Mod (fun _ => False) w w1) (h : Put w1 base b v d x w2) : Put w base b v d x w2 := by
 obtain ⟨g,cap,dk,h1,h2,h3,h4,h5,h6⟩ := h; exact ⟨g,cap,dk,h1,h2,h3,h4,(hM.mono fun _ _ h => h.elim).trans h5,h6.imp id (fun h => Nat.le_trans hM.size h)⟩
theorem Zni (b base : Nat) (v : Value) (d : Array It) (x : It) (w : World) (hbig : d.size ≤ 50000) (hP : PileW w base b v d) (hh : HeapB d.size d) (hbase : base ≤ w.heap.size) :
  Calls Tryz.prog 91 #[.pointer (some ⟨b,0,none⟩),.agg #[.int .i64 x.1,.int .i64 x.2]] w fun e w' => e = .returned (.tuple #[]) ∧ Put w base b v d x w' := by
 have HH := hid hh; clear hh; have HP := hid hP; clear hP; have HB := hid hbase; clear hbase; go_enter Tryz.func91,Tryz.ntmps91
 go_wp2_with fail
 have HP1 : Hid (PileW (w.alloc (.cells #[.int .i64 x.1,.int .i64 x.2] 154)) base b v d) := hid (HP.out.kept ((Mod.refl (fun _ => False) w).alloc _) (fun h => h) (fun _ _ h => h)); have HM1 : Hid (Mod (fun _ => False) w (w.alloc (.cells #[.int .i64 x.1,.int .i64 x.2] 154))) := hid ((Mod.refl _ w).alloc _); have c1 : (w.alloc (.cells #[.int .i64 x.1,.int .i64 x.2] 154)).cell? ⟨w.heap.size,0,none⟩ = some (.int .i64 x.1) := by simp
 have c2 : (w.alloc (.cells #[.int .i64 x.1,.int .i64 x.2] 154)).cell? ⟨w.heap.size,1,none⟩ = some (.int .i64 x.2) := by simp
 generalize w.alloc (.cells #[.int .i64 x.1,.int .i64 x.2] 154) = w1 at HP1 HM1 c1 c2 ⊢; go_region_with (go_at_call 119; refine (Zaq b base d.size v d x w1.drew rfl hbig (HP1.out.kept (Mod.refl (fun _ => False) w1).drew (fun h => h) (fun _ _ h => h)) HH.out (Nat.le_trans HB.out HM1.out.size)).mono ?_; rintro e w2 ⟨rfl,h2⟩)
 all_goals
  go_end0
  exact ⟨rfl,Put.later HM1.out.drew h2⟩
def Took (w : World) (base b : Nat) (v : Value) (d : Array It) (w' : World) : Prop :=
 ∃ v' dk,PileW w' base b v' dk ∧ dk.size + 1 = d.size ∧ HeapB dk.size dk ∧ d.toList.Perm (d[0]! :: dk.toList) ∧ Mod (pileS b v) w w' ∧ v'.ownBlock = v.ownBlock
theorem Zc9 {w w2 : World} {base b g n cap : Nat} {d : Array It} (hb : b < w.heap.size) (hg : g < w.heap.size) (h : Taken (w.alloc (.cells #[.int .i64 0,.int .i64 0] 154)) base b g n cap d w2) :
  w2.cell? ⟨w.heap.size,0,none⟩ = some (.int .i64 0) ∧ w2.cell? ⟨w.heap.size,1,none⟩ = some (.int .i64 0) ∧ w2.frozen? ⟨w.heap.size,0,none⟩ = false ∧ w2.frozen? ⟨w.heap.size,1,none⟩ = false ∧ w.heap.size < w2.heap.size := by
 obtain ⟨dk,_,_,_,_,hM⟩ := h; have hs : ¬ pileS b (.slice (some ⟨g,0,none⟩) n cap) w.heap.size := by
  rintro (h | h)
  ·omega
  ·injection h with h; exact absurd h (by simp; omega)
 refine ⟨(hM.cell (p := ⟨w.heap.size,0,none⟩) (by simp) hs).trans (by simp),(hM.cell (p := ⟨w.heap.size,1,none⟩) (by simp) hs).trans (by simp),(hM.frozen (p := ⟨w.heap.size,0,none⟩) (by simp) hs).trans (by simp),(hM.frozen (p := ⟨w.heap.size,1,none⟩) (by simp) hs).trans (by simp),by have := hM.size; simp at this; omega⟩
theorem Znj {w w2 : World} {base b g n cap m cap' : Nat} {d : Array It} (hP : PileW w base b (.slice (some ⟨g,0,none⟩) m cap') d) (hd : d.size = n + 1) (h : Taken (w.alloc (.cells #[.int .i64 0,.int .i64 0] 154)) base b g n cap d w2) (x y : Value) (o : Obj) (k : Nat) :
  Took w base b (.slice (some ⟨g,0,none⟩) k cap') d (((w2.setCell ⟨w.heap.size,0,none⟩ x).setCell ⟨w.heap.size,1,none⟩ y).alloc o) := by
 obtain ⟨dk,hP2,hs,hh,hp,hM⟩ := h; have hb := hP.lt; have hg : g < w.heap.size := by
  rcases hP.row.2 with ⟨e,_⟩ | ⟨g',_,_,e,_,hg,_⟩
  ·cases e
  ·injection e with e1
   injection e1 with e1
   injection e1 with e1
   subst e1; exact (Array.getElem?_eq_some_iff.1 hg).1
 have hM2 : Mod (fun k => k = w.heap.size) w2 (((w2.setCell ⟨w.heap.size,0,none⟩ x).setCell ⟨w.heap.size,1,none⟩ y).alloc o) := (((Mod.refl (fun k => k = w.heap.size) w2).setCell (p := ⟨w.heap.size,0,none⟩) (.inr rfl) x).setCell (p := ⟨w.heap.size,1,none⟩) (.inr rfl) y).alloc o; refine ⟨.slice (some ⟨g,0,none⟩) n cap,dk,hP2.kept hM2 (by omega) (fun k hk e => by injection hk with hk; simp only at hk; omega),by omega,hh,hp,?_,rfl⟩
 have h1 : Mod (pileS b (.slice (some ⟨g,0,none⟩) k cap')) w w2 := ((Mod.refl _ w).alloc _).trans hM; exact ((h1.setCell (p := ⟨w.heap.size,0,none⟩) (.inl (Nat.le_refl _)) x).setCell (p := ⟨w.heap.size,1,none⟩) (.inl (Nat.le_refl _)) y).alloc o
theorem Zik (b base : Nat) (v : Value) (w : World) (d : Array It) (hd : d.size = 0) (hP : PileW w base b v d) :
  Calls Tryz.prog 92 #[.pointer (some ⟨b,0,none⟩)] w fun e w' => e = .returned (.tuple #[.agg #[.int .i64 0,.int .i64 0],.bool false]) ∧ Below w.heap.size w w' := by
 have HP1 : Hid (PileW (w.alloc (.cells #[.int .i64 0,.int .i64 0] 154)) base b v d) := hid (hP.kept ((Mod.refl (fun _ => False) w).alloc _) (fun h => h) (fun _ _ h => h)); have HL : Hid (Calls Tryz.prog 120 #[.pointer (some ⟨b,0,none⟩)] (w.alloc (.cells #[.int .i64 0,.int .i64 0] 154)) fun e w' => e = .returned (.int .i64 0) ∧ w.alloc (.cells #[.int .i64 0,.int .i64 0] 154) = w') := hid (by have := Zdt HP1.out; rw [hd] at this; exact this)
 clear hd hP; go_enter Tryz.func92,Tryz.ntmps92
 go_wp2_with (go_at_call 120; refine HL.out.mono ?_; rintro e w' ⟨rfl,rfl⟩)
 refine bodyPost_ret (v := .tuple #[.agg #[.int .i64 0,.int .i64 0],.bool false]) (by simp [results,Tryz.results92,go_sem]) rfl ⟨rfl,?_⟩
 exact (Below.refl _ _).alloc (Nat.le_refl _) _
theorem Zil (b base n : Nat) (v : Value) (w : World) (d : Array It) (hd : d.size = n + 1) (hbig : n ≤ 50000) (hP : PileW w base b v d) (hh : HeapB d.size d) :
  Calls Tryz.prog 92 #[.pointer (some ⟨b,0,none⟩)] w fun e w' => e = .returned (.tuple #[.agg #[.int .i64 d[0]!.1,.int .i64 d[0]!.2],.bool true]) ∧ Took w base b v d w' := by
 obtain ⟨g,cap,rfl,_,hg,hcap⟩ := hP.row.some_ (by omega)
 rw [hd] at hP; have HP1 : Hid (PileW (w.alloc (.cells #[.int .i64 0,.int .i64 0] 154)) base b (.slice (some ⟨g,0,none⟩) (n + 1) cap) d) := hid (hP.kept ((Mod.refl (fun _ => False) w).alloc _) (fun h => h) (fun _ _ h => h)); have HL : Hid (Calls Tryz.prog 120 #[.pointer (some ⟨b,0,none⟩)] (w.alloc (.cells #[.int .i64 0,.int .i64 0] 154)) fun e w' => e = .returned (.int .i64 ((n : Int) + 1)) ∧ w.alloc (.cells #[.int .i64 0,.int .i64 0] 154) = w') := hid (by have := Zdt HP1.out; rw [hd] at this; exact this)
 have hne : ((n : Int) + 1 == 0) = false := by simp; omega
 have HHP := hid (Zc4 b base g n cap d _ hd hbig HP1.out hh); have HD := hid hd; clear hd; have HP := hid hP; clear hP hh; have hb := HP.out.lt; have hta : ∀ w,(Instr.typeAssert (.iface 154 (.agg #[.int .i64 d[0]!.1,.int .i64 d[0]!.2])) 20 154 true).run Tryz.prog w = .ok (.tuple #[.agg #[.int .i64 d[0]!.1,.int .i64 d[0]!.2],.bool true]) w := fun w => Zar _ w; obtain ⟨x,hx⟩ : ∃ x,d[0]! = x := ⟨_,rfl⟩; have HX := hid hx; rw [hx] at HHP hta ⊢; clear hx; go_enter Tryz.func92,Tryz.ntmps92
 go_wp2_with (first
  | (go_at_call 120; refine HL.out.mono ?_; rintro e w' ⟨rfl,rfl⟩)
  | (go_at_call 121; refine HHP.out.mono ?_; rintro e w2 ⟨rfl,h2⟩; obtain ⟨c1,c2,f1,f2,z2⟩ := Zc9 hb hg h2; have H2 := hid h2; clear h2 hb hg))
 refine bodyPost_ret (v := .tuple #[.agg #[.int .i64 x.1,.int .i64 x.2],.bool true]) (by simp [results,Tryz.results92,go_sem,c1,c2,z2]) rfl ⟨rfl,?_⟩
 exact Znj HP.out HD.out H2.out _ _ _ _
end Go.Proofs.YtfkommjlmolniaaGreatDoor
end
section

namespace Go.Proofs.YtfkommjlmolniaaGreatDoor
open Go.RowKit
open Go.Sort (swp HoldsK putRowK flatK)
structure Have (w0 : World) (b : Nat) (v : Value) (l : List It) (W : World) : Prop where
 all : ∃ d,PileW W w0.heap.size b v d ∧ HeapB d.size d ∧ d.toList.Perm l
 below : Below w0.heap.size w0 W
 from_ : w0.heap.size ≤ b
structure Turned (b : Nat) (v v' : Value) (W W' : World) : Prop where
 mod : Mod (pileS b v) W W'
 fresh : v'.ownBlock = v.ownBlock ∨ ∃ g,v'.ownBlock = some g ∧ W.heap.size ≤ g
theorem Have.lt {w0 W : World} {b : Nat} {v : Value} {l : List It} (h : Have w0 b v l W) : b < W.heap.size := by
 obtain ⟨⟨d,hP,_⟩,_⟩ := h; exact hP.lt
theorem Have.own {w0 W : World} {b : Nat} {v : Value} {l : List It} (h : Have w0 b v l W) : ∀ k,v.ownBlock = some k → w0.heap.size ≤ k ∧ k < W.heap.size := by
 obtain ⟨⟨d,hP,_⟩,_⟩ := h; exact World.ownsRow.lt hP.row
theorem Have.kept {w0 W W' : World} {b : Nat} {v : Value} {l : List It} {S : Nat → Prop} (h : Have w0 b v l W) (hm : Mod S W W') (hb : ¬ S b) (hs : ∀ k,v.ownBlock = some k → ¬ S k) (h0 : ∀ k,S k → w0.heap.size ≤ k) : Have w0 b v l W' := by
 obtain ⟨⟨d,hP,r⟩,hB,hf⟩ := h; exact ⟨⟨d,hP.kept hm hb hs,r⟩,hB.trans (hm.below hB.size h0),hf⟩
theorem Have.later {w0 W W' : World} {b : Nat} {v : Value} {l : List It} (h : Have w0 b v l W) (hm : Below W.heap.size W W') : Have w0 b v l W' :=
 h.kept (Mod.of_below (fun _ => False) hm) (fun h => h) (fun _ _ h => h) (fun _ h => h.elim)
theorem Have.new {w0 W : World} (h : Below w0.heap.size w0 W) : Have w0 W.heap.size (.slice none 0 0) [] (W.alloc (.cells #[.slice none 0 0] 179)) :=
 ⟨⟨#[],PileW.new W _,Zkh _,List.Perm.refl _⟩,h.alloc h.size _,h.size⟩
theorem Zd8 {w0 W : World} {b : Nat} {v : Value} {l : List It} (x : It) (h : Have w0 b v l W) (hl : l.length ≤ 50000) :
  Calls Tryz.prog 91 #[.pointer (some ⟨b,0,none⟩),.agg #[.int .i64 x.1,.int .i64 x.2]] W fun e W' => e = .returned (.tuple #[]) ∧ ∃ v',Have w0 b v' (x :: l) W' ∧ Turned b v v' W W' := by
 have hown := h.own; obtain ⟨⟨d,hP,hh,hp⟩,hB,hf⟩ := h; have hs : d.size = l.length := by simpa using hp.length_eq
 refine (Zni b w0.heap.size v d x W (by omega) hP hh hB.size).mono ?_
 rintro e W' ⟨rfl,g,cap,dk,hP',hs',hh',hp',hM,hfr⟩; refine ⟨rfl,_,⟨⟨dk,hP',hh',hp'.trans (hp.cons x)⟩,hB.trans (hM.below hB.size ?_),hf⟩,⟨hM,?_⟩⟩
 ·rintro k (hk | hk)
  ·omega
  ·exact (hown k hk).1
 ·rcases hfr with h | h
  ·exact .inl h.symm
  ·exact .inr ⟨g,rfl,h⟩
theorem Zhr {w0 W : World} {b : Nat} {v : Value} {l : List It} (h : Have w0 b v l W) (h0 : 0 < l.length) (hl : l.length ≤ 50000) :
  Calls Tryz.prog 92 #[.pointer (some ⟨b,0,none⟩)] W fun e W' => ∃ x : It,∃ l',e = .returned (.tuple #[.agg #[.int .i64 x.1,.int .i64 x.2],.bool true]) ∧ l.Perm (x :: l') ∧ (∀ y ∈ l,Le x y) ∧ ∃ v',Have w0 b v' l' W' ∧ Turned b v v' W W' := by
 have hown := h.own; obtain ⟨⟨d,hP,hh,hp⟩,hB,hf⟩ := h; have hs : d.size = l.length := by simpa using hp.length_eq
 refine (Zil b w0.heap.size (d.size - 1) v W d (by omega) (by omega) hP hh).mono ?_
 rintro e W' ⟨rfl,v',dk,hP',hs',hh',hp',hM,hfr⟩; refine ⟨d[0]!,dk.toList,rfl,hp.symm.trans hp',fun y hy => Zf5 hh y (hp.mem_iff.2 hy),v',⟨⟨dk,hP',hh',List.Perm.refl _⟩,hB.trans (hM.below hB.size ?_),hf⟩,⟨hM,.inl hfr⟩⟩; rintro k (hk | hk)
 ·omega
 ·exact (hown k hk).1
theorem Zf1 {w0 W : World} {b : Nat} {v : Value} (h : Have w0 b v [] W) :
  Calls Tryz.prog 92 #[.pointer (some ⟨b,0,none⟩)] W fun e W' => e = .returned (.tuple #[.agg #[.int .i64 0,.int .i64 0],.bool false]) ∧ Below W.heap.size W W' := by
 obtain ⟨⟨d,hP,hh,hp⟩,hB,hf⟩ := h; have hs : d.size = 0 := by simpa using hp.length_eq
 exact Zik b w0.heap.size v W d hs hP
/-! ### Are two things the same? -/
end Go.Proofs.YtfkommjlmolniaaGreatDoor
end

/- Joined: RRow, CloneN. -/
import Derived.Test.YtfkommjlmolniaaGreatDoorHd1
import Derived.Test.YtfkommjlmolniaaGreatDoorHd2
import Derived.Lib.Hide
import Derived.IntWalk
import Derived.Laws.AppendOwn
import Derived.Deep.LoopGhost
import Derived.LoopTactic
set_option linter.unusedVariables false
section

namespace Go.Proofs.YtfkommjlmolniaaGreatDoor
open Go.RowKit
variable {w w2 wr : World} {B B2 go N n i k g : Nat} {V C : Nat → Nat} {D T : Nat → Nat → Int} {M : Nat → Bool} {a : Option Addr} {len : Nat}
def IsBools (B : Nat) (w : World) (a : Option Addr) (len : Nat) (M : Nat → Bool) : Prop := len = 0 ∨ ∃ b off,a = some ⟨b,off,none⟩ ∧ b < B ∧ ∀ j,j < len → w.cell? ⟨b,off + j,none⟩ = some (.bool (M j))
theorem IsBools.later (h : IsBools B w a len M) (hb : Below B w w2) : IsBools B w2 a len M := by
 rcases h with h | ⟨b,off,e,h1,h2⟩
 ·exact .inl h
 ·exact .inr ⟨b,off,e,h1,fun j hj => (hb.cell (p := ⟨b,off + j,none⟩) h1).trans (h2 j hj)⟩
theorem IsBools.mono (h : IsBools B w a len M) (hb : B ≤ B2) : IsBools B2 w a len M := by
 rcases h with h | ⟨b,off,e,h1,h2⟩
 ·exact .inl h
 ·exact .inr ⟨b,off,e,by omega,h2⟩
theorem IsBools.made (h : w.rowIs g 4 N (fun j => .bool (M j))) : IsBools w.heap.size w (some ⟨g,0,none⟩) N M :=
 .inr ⟨g,0,rfl,h.lt,fun j hj => by rw [Nat.zero_add]; exact h.cell hj⟩
structure DRs (w : World) (B go N : Nat) (V C : Nat → Nat) (D : Nat → Nat → Int) (n : Nat) : Prop where
 outer : w.rowIs go 56 N (fun i => if i < n then .slice (some ⟨V i,0,none⟩) N (C i) else .slice none 0 0)
 row : ∀ i,i < n → LongRow w B (.slice (some ⟨V i,0,none⟩) N (C i)) N (D i)
 inj : ∀ i j,i < n → j < n → V i = V j → i = j
 geo : B ≤ go
theorem LongRow.blk {cap : Nat} {f : Nat → Int} (h : LongRow w B (.slice (some ⟨g,0,none⟩) N cap) N f) : ∃ cur,w.heap[g]? = some (.cells cur 2 (0,0)) := by
 rcases h.2 with ⟨h1,_⟩ | ⟨g2,c2,cur,e,_,hg,_⟩
 ·cases h1
 ·injection e with e1 _ _
  injection e1 with e1
  injection e1 with e1
  subst e1; exact ⟨cur,hg⟩
theorem DRs.ne (h : DRs w B go N V C D n) (hi : i < n) : go ≠ V i := by
 obtain ⟨c1,h1,_⟩ := h.outer; obtain ⟨c2,h2⟩ := (h.row i hi).blk; intro e; rw [e,h2] at h1; injection h1 with h1
 injection h1 with _ h1
 exact absurd h1 (by decide)
theorem DRs.later (h : DRs w B go N V C D n) (hb : Below w.heap.size w w2) : DRs w2 B go N V C D n :=
 ⟨h.outer.of_block (hb.block _ h.outer.lt),fun i hi => (h.row i hi).below hb,h.inj,h.geo⟩
theorem DRs.nil (h : w.rowIs go 56 N (fun _ => .slice none 0 0)) (hg : B ≤ go) : DRs w B go N V C D 0 :=
 ⟨h.congr (fun i _ => by simp),fun i hi => absurd hi (by omega),fun i j hi => absurd hi (by omega),hg⟩
theorem DRs.at_ (h : DRs w B go N V C D n) (hi : i < n) (hN : n ≤ N) : w.cell? ⟨go,i,none⟩ = some (.slice (some ⟨V i,0,none⟩) N (C i)) := by
 rw [h.outer.cell (by omega),if_pos hi]
theorem DRs.get (h : DRs w B go N V C D n) (hi : i < n) (hk : k < N) : w.cell? ⟨V i,k,none⟩ = some (.int .i64 (D i k)) := (h.row i hi).cell hk
theorem DRs.froz (h : DRs w B go N V C D n) (hi : i < n) (k : Nat) : w.frozen? ⟨V i,k,none⟩ = false := (h.row i hi).frozen k
theorem DRs.put (h : DRs w B go N V C D n) (hi : i < n) (hk : k < N) (z : Int) : DRs (w.setCell ⟨V i,k,none⟩ (.int .i64 z)) B go N V C (putD D i k z) n := by
 refine ⟨h.outer.setOther (a := ⟨V i,k,none⟩) (h.ne hi) _,fun j hj => ?_,h.inj,h.geo⟩; by_cases e : j = i
 ·subst e
  refine ((h.row j hj).set_ hk z).congr (fun t _ => ?_); unfold putD; by_cases e2 : t = k
  ·simp [e2]
  ·simp [e2]
 ·refine (show LongRow _ _ _ _ (D j) from ownsRow_setCell_other (a := ⟨V i,k,none⟩) (h.row j hj) (fun e2 => e (h.inj j i hj hi (by simpa [Value.ownBlock] using e2))) _).congr (fun t _ => ?_)
  simp [putD,e]
theorem DRs.more {c : Nat} {f : Nat → Int} (h : DRs w B go N V C D n) (hn : n < N) (hB : B ≤ w.heap.size) (hb : Below w.heap.size w w2) (hr : LongRow w2 w.heap.size (.slice (some ⟨g,0,none⟩) N c) N f) :
  DRs (w2.setCell ⟨go,n,none⟩ (.slice (some ⟨g,0,none⟩) N c)) B go N (fun i => if i = n then g else V i) (fun i => if i = n then c else C i) (fun i => if i = n then f else D i) (n + 1) := by
 have h2 := h.later hb; have hg := hr.base_; have hgo := h.outer.lt; have hlt : ∀ i,i < n → V i < w.heap.size := fun i hi => ((h.row i hi).base_).2; refine ⟨(h2.outer.set n (.slice (some ⟨g,0,none⟩) N c)).congr (fun i _ => ?_),fun i hi => ?_,fun i j hi hj e => ?_,h.geo⟩
 ·by_cases e : i = n
  ·subst e; simp
  ·by_cases e2 : i < n
   ·simp [e,e2,show i < n + 1 by omega]
   ·simp [e,e2,show ¬ i < n + 1 by omega]
 ·by_cases e : i = n
  ·subst e
   simp only [if_true]
   refine ownsRow_setCell_other (a := ⟨go,i,none⟩) (hr.rebase hB) (fun e2 => ?_) _; have : g = go := by simpa [Value.ownBlock] using e2
   omega
  ·simp only [e,if_false]
   have hin : i < n := by omega
   exact ownsRow_setCell_other (a := ⟨go,n,none⟩) (h2.row i hin) (fun e2 => h2.ne hin (Eq.symm (show V i = go by simpa [Value.ownBlock] using e2))) _
 ·by_cases e1 : i = n
  ·by_cases e2 : j = n
   ·omega
   ·simp only [e1,e2,if_true,if_false] at e
    have := hlt j (by omega)
    omega
  ·by_cases e2 : j = n
   ·simp only [e1,e2,if_true,if_false] at e
    have := hlt i (by omega)
    omega
   ·simp only [e1,e2,if_false] at e
    exact h.inj i j (by omega) (by omega) e
end Go.Proofs.YtfkommjlmolniaaGreatDoor
end
section

namespace Go.Proofs.YtfkommjlmolniaaGreatDoor
set_option maxHeartbeats 16000000
set_option maxRecDepth 100000
open Go.Lib (hid)
open Go.RowKit
variable {w wr w2 : World} {a : Option Addr} {n c sz B g k : Nat} {vals : List Value} {v : Value}
structure Src (w : World) (a : Option Addr) (n sz : Nat) (vals : List Value) : Prop where
 len : vals.length = n * sz
 one : ∀ u ∈ vals,u.oneCell' = true
 nil_ : a = none → n = 0
 at_ : ∀ ad,a = some ad → ∀ j u,vals[j]? = some u → w.cell? (ad.add j) = some u
 lt_ : ∀ ad,a = some ad → n = 0 ∨ ad.block < w.heap.size
theorem Src.later (h : Src w a n sz vals) (hb : Below w.heap.size w w2) : Src w2 a n sz vals := ⟨h.len,h.one,h.nil_,fun ad e j u hj => by
 rcases h.lt_ ad e with h0 | h0
 ·have := h.len
  rw [h0,Nat.zero_mul] at this; rw [List.eq_nil_of_length_eq_zero this] at hj; cases hj
 ·exact (hb.cell (p := ad.add j) (by unfold Addr.add; split <;> exact h0)).trans (h.at_ ad e j u hj),fun ad e => by
 rcases h.lt_ ad e with h0 | h0
 ·exact .inl h0
 ·exact .inr (Nat.lt_of_lt_of_le h0 hb.size)⟩
theorem IsNums.src {l : List Int} (h : IsNums w.heap.size w a n l) : Src w a n 1 (numsV l) := by
 obtain ⟨h1,h2⟩ := h; subst h1; refine ⟨by simp [numsV],fun u hu => ?_,fun e => ?_,fun ad e j u hj => ?_,fun ad e => ?_⟩
 ·simp only [numsV,List.mem_map] at hu
  obtain ⟨i,_,rfl⟩ := hu; rfl
 ·rcases h2 with h2 | ⟨b,off,e2,_⟩
  ·exact h2
  ·rw [e] at e2; cases e2
 ·simp only [numsV,List.getElem?_map,Option.map_eq_some_iff] at hj
  obtain ⟨z,hz,rfl⟩ := hj; rcases h2 with h2 | ⟨b,off,e2,_,hr⟩
  ·have := (List.getElem?_eq_some_iff.1 hz).1; omega
  ·rw [e] at e2; injection e2 with e2; subst e2
   rw [Addr.add_lit]; exact hr j z hz
 ·rcases h2 with h2 | ⟨b,off,e2,hb,_⟩
  ·exact .inl h2
  ·rw [e] at e2; injection e2 with e2; subst e2; exact .inr hb
theorem Zh9 (w : World) (T : TypeId) (sz : Nat) : (w.alloc (.cells #[] T)).ownsRow w.heap.size T sz (.slice (some ⟨w.heap.size,0,none⟩) 0 0) 0 [] :=
 ⟨by simp,.inr ⟨w.heap.size,0,#[],rfl,Nat.le_refl _,heap_alloc_new _ _,Nat.le_refl _,Nat.zero_le _,by simp,by simp⟩⟩
theorem Zev : (Tryz.prog.info? 2).map (fun i => (i.zero,i.size,i.bytes)) = some (some (.int .i64 0),1,8) := by kernel_rfl
theorem Zha (a : Option Addr) (n c : Nat) (vals : List Value) (w : World) (hn : n ≤ 1000000) (hi : Src w a n 1 vals) :
  Calls Tryz.prog 72 #[.slice a n c] w fun e w' => Below w.heap.size w w' ∧ ∃ v,e = .returned v ∧ w'.ownsRow w.heap.size 2 1 v n vals := by
 cases a with
 | none =>
  obtain rfl : n = 0 := hi.nil_ rfl; have hv : vals = [] := List.eq_nil_of_length_eq_zero (by have := hi.len; omega)
  have hnil : ∀ w,(binOp .eql 56 (.slice none 0 c) (.slice none 0 0)).run Tryz.prog w = .ok (.bool true) w := fun w => by kernel_rfl
  go_enter Tryz.func72,Tryz.ntmps72
  go_wp2_with fail
  go_ret
  subst hv; exact ⟨Below.refl _ _,_,rfl,by simp,.inl ⟨rfl,rfl⟩⟩
 | some ad =>
  have hnil : ∀ w,(binOp .eql 56 (.slice (some ad) n c) (.slice none 0 0)).run Tryz.prog w = .ok (.bool false) w := fun w => by kernel_rfl
  go_enter Tryz.func72,Tryz.ntmps72
  obtain ⟨i0,hi0,hz0,hz1,hz2⟩ := info_parts Zev; have hl := hi.len; have hone := hi.one; have HS := hid ((hi.later ((Below.refl _ w).alloc (Nat.le_refl _) (.cells #[] 2))).at_ ad rfl); have HRW := hid (Zh9 w 2 1); have hsz : w.heap.size ≤ (w.alloc (.cells #[] 2)).heap.size := by simp
  clear hi; go_wp2_with (at_builtin; refine wpList_append_own _ rfl (.tmp 5) (.tmp 6) 56 rfl w.heap.size 2 i0 _ 1 8 Tryz.underlying56 hi0 hz0 hz1 hz2 (by decide) (by decide) (.slice (some ⟨w.heap.size,0,none⟩) 0 0) 0 [] rfl HRW.out ad n c vals rfl hl HS.out hone (by unfold maxLen; omega) (by omega) hsz ?_; intro v' w' hown hgrow _; have HOW := hid hown; have HGR := hid hgrow; clear hown hgrow)
  go_ret
  have h1 := HOW.out; rw [List.nil_append,Nat.zero_add] at h1; exact ⟨((((Mod.refl (fun k => w.heap.size ≤ k) w).alloc (.cells #[] 2)).grown HGR.out (fun k hk => .inl (by have e : w.heap.size = k := (by simpa [Value.ownBlock] using hk); omega)))).below (Nat.le_refl _) (fun k hk => hk),_,rfl,h1⟩
end Go.Proofs.YtfkommjlmolniaaGreatDoor
end

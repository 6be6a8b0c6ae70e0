/- Joined: ISq, IMakeT, IMakeW. -/
import Derived.Test.YtfkommjlmolniaaGreatDoorHd1
import Derived.Deep.LoopGhost
import Derived.LoopTactic
set_option linter.unusedVariables false
section

namespace Go.Proofs.YtfkommjlmolniaaGreatDoor
set_option maxHeartbeats 16000000
set_option maxRecDepth 100000
open Go.Lib (hid)
open Go.RowKit
variable {w wr w2 w4 : World} {B n N g i k len : Nat} {v : Value} {V : Nat → Nat} {L : Nat → Nat → Int} {a : Option Addr} {zs : List Int}
def IsU8 (B : Nat) (w : World) (a : Option Addr) (len : Nat) (ws : List Int) : Prop := ws.length = len ∧ (∀ x ∈ ws,0 ≤ x ∧ x ≤ 255) ∧ (len = 0 ∨ ∃ b off,a = some ⟨b,off,none⟩ ∧ b < B ∧ ∀ (j : Nat) (x : Int),ws[j]? = some x → w.cell? ⟨b,off + j,none⟩ = some (.int .u8 x))
theorem IsU8.later (h : IsU8 B w a len zs) (hb : Below B w w2) : IsU8 B w2 a len zs := ⟨h.1,h.2.1,by
 rcases h.2.2 with h | ⟨b,off,e,h1,h2⟩
 ·exact .inl h
 ·exact .inr ⟨b,off,e,h1,fun j x hx => (hb.cell (p := ⟨b,off + j,none⟩) h1).trans (h2 j x hx)⟩⟩
theorem IsU8.mono {B2 : Nat} (h : IsU8 B w a len zs) (hb : B ≤ B2) : IsU8 B2 w a len zs := ⟨h.1,h.2.1,by
 rcases h.2.2 with h | ⟨b,off,e,h1,h2⟩
 ·exact .inl h
 ·exact .inr ⟨b,off,e,by omega,h2⟩⟩
theorem IsU8.at_ (h : IsU8 B w a len zs) (hk : k < len) : ∃ b off x,a = some ⟨b,off,none⟩ ∧ zs[k]? = some x ∧ (0 ≤ x ∧ x ≤ 255) ∧ w.cell? ⟨b,off + k,none⟩ = some (.int .u8 x) := by
 obtain ⟨h1,h3,h2⟩ := h; subst h1; rcases h2 with h2 | ⟨b,off,e,hb,hr⟩
 ·omega
 ·exact ⟨b,off,_,e,List.getElem?_eq_getElem hk,h3 _ (List.getElem_mem hk),hr k _ (List.getElem?_eq_getElem hk)⟩
structure OwnSq (B : Nat) (w : World) (v : Value) (n N : Nat) (V : Nat → Nat) (L : Nat → Nat → Int) : Prop where
 outer : w.ownsRow B 56 1 v n ((List.range n).map (fun i => .slice (some ⟨V i,0,none⟩) N N))
 row : ∀ i,i < n → w.rowIs (V i) 2 N (fun k => .int .i64 (L i k)) ∧ B ≤ V i
 inj : ∀ i j,i < n → j < n → V i = V j → i = j
 out : ∀ i,i < n → ¬ v.ownBlock = some (V i)
theorem OwnSq.later (h : OwnSq B w v n N V L) (hb : Below w.heap.size w w2) : OwnSq B w2 v n N V L :=
 ⟨Z06 h.outer hb,fun i hi => ⟨Z0a (h.row i hi).1 hb,(h.row i hi).2⟩,h.inj,h.out⟩
theorem OwnSq.begin_ (B : Nat) (w : World) (N : Nat) (V : Nat → Nat) (L : Nat → Nat → Int) : OwnSq B w (.slice none 0 0) 0 N V L :=
 ⟨⟨rfl,.inl ⟨rfl,rfl⟩⟩,fun i hi => by omega,fun i j hi => by omega,fun i hi => by omega⟩
theorem OwnSq.congr {L2 : Nat → Nat → Int} (h : OwnSq B w v n N V L) (e : ∀ i k,i < n → k < N → L i k = L2 i k) : OwnSq B w v n N V L2 :=
 ⟨h.outer,fun i hi => ⟨(h.row i hi).1.congr (fun k hk => by rw [e i k hi hk]),(h.row i hi).2⟩,h.inj,h.out⟩
theorem OwnSq.push {cap : Nat} (h : OwnSq B w v n N V L) (hg : w.rowIs g 2 N (fun k => .int .i64 (L n k))) (hB : B ≤ g) (hn : ∀ i,i < n → V i ≠ g) (ho : ¬ v.ownBlock = some g) {g4 : Nat}
  (hown : w4.ownsRow B 56 1 (.slice (some ⟨g4,0,none⟩) (n + 1) cap) (n + 1) ((List.range n).map (fun i => .slice (some ⟨V i,0,none⟩) N N) ++ [.slice (some ⟨g,0,none⟩) N N])) (hgrow : w.grownBy w4 v.ownBlock) (hfr : v.ownBlock = some g4 ∨ g4 = w.heap.size) :
  OwnSq B w4 (.slice (some ⟨g4,0,none⟩) (n + 1) cap) (n + 1) N (fun i => if i = n then g else V i) L := by
 have hlt : ∀ i,i < n → V i < w.heap.size := fun i hi => (h.row i hi).1.lt; have hgl : g < w.heap.size := hg.lt; have k1 : ∀ b,b < w.heap.size → ¬ v.ownBlock = some b → w4.heap[b]? = w.heap[b]? := fun b hb hv => hgrow.block b hb (fun e => hv e.symm); refine ⟨?_,fun i hi => ?_,fun i j hi hj he => ?_,fun i hi => ?_⟩
 ·have e : (List.range (n + 1)).map (fun i => Value.slice (some ⟨if i = n then g else V i,0,none⟩) N N) = (List.range n).map (fun i => Value.slice (some ⟨V i,0,none⟩) N N) ++ [Value.slice (some ⟨g,0,none⟩) N N] := by
   rw [List.range_succ,List.map_append]; congr 1
   ·apply List.map_congr_left
    intro i hi; have := List.mem_range.1 hi; rw [if_neg (by omega)]
   ·simp
  rw [e]; exact hown
 ·by_cases e : i = n
  ·subst e
   simp only [if_true]
   exact ⟨hg.of_block (k1 g hgl ho),hB⟩
  ·simp only [e,if_false]
   have hin : i < n := by omega
   exact ⟨(h.row i hin).1.of_block (k1 _ (hlt i hin) (h.out i hin)),(h.row i hin).2⟩
 ·by_cases e1 : i = n
  ·by_cases e2 : j = n
   ·omega
   ·simp only [e1,e2,if_true,if_false] at he
    exact absurd he.symm (hn j (by omega))
  ·by_cases e2 : j = n
   ·simp only [e1,e2,if_true,if_false] at he
    exact absurd he (hn i (by omega))
   ·simp only [e1,e2,if_false] at he
    exact h.inj i j (by omega) (by omega) he
 ·have hob : (Value.slice (some ⟨g4,0,none⟩) (n + 1) cap).ownBlock = some g4 := rfl
  rw [hob]; intro he; injection he with he
  by_cases e : i = n
  ·simp only [e,if_true] at he
   rcases hfr with hfr | hfr
   ·exact ho (by rw [hfr,he])
   ·omega
  ·simp only [e,if_false] at he
   have hin : i < n := by omega
   rcases hfr with hfr | hfr
   ·exact h.out i hin (by rw [hfr,he])
   ·have := hlt i hin
    omega
theorem OwnSq.rows (h : OwnSq B w v n N V L) (hN : N ≤ 1000) : ∃ a c,v = .slice a n c ∧ IsRows w.heap.size w a n ((List.range n).map (fun i => (List.range N).map (L i))) := by
 obtain ⟨a,c,rfl⟩ := Z04 h.outer; refine ⟨a,c,rfl,by simp,?_⟩
 by_cases h0 : n = 0
 ·exact .inl h0
 ·obtain ⟨g,cap,e,h1,h2,_⟩ := Z0x h.outer (by omega)
  injection e with e1 _ e3
  subst e1; refine .inr ⟨g,0,rfl,h2,fun k r hk => ?_⟩; have hkn : k < n := by have := (List.getElem?_eq_some_iff.1 hk).1; simpa using this
  simp only [List.getElem?_map,List.getElem?_range hkn,Option.map_some,Option.some.injEq] at hk
  subst hk; obtain ⟨hr,_⟩ := h.row k hkn; have hl : ((List.range N).map (L k)).length = N := by simp
  rw [hl]; refine ⟨by omega,some ⟨V k,0,none⟩,N,?_,by simp,.inr ⟨V k,0,rfl,hr.lt,fun j x hx => ?_⟩⟩
  ·rw [Nat.zero_add,World.ownsRow.cellAt h.outer k (by omega)]
   simp [hkn]
  ·have hj : j < N := by have := (List.getElem?_eq_some_iff.1 hx).1; simpa using this
   simp [hj] at hx
   subst hx; rw [Nat.zero_add]; exact hr.cell hj
def kAt (zs : List Int) (N i j : Nat) : Nat := if zs.length = 0 then 0 else i * (N - 1) + (if i < j then j - 1 else j)
def sqE (zs : List Int) (N i j : Nat) : Int := if i = j ∨ zs.length = 0 then 0 else (zs.getD (kAt zs N i j % zs.length) 0) % 30
theorem Zl0 (zs : List Int) (N : Nat) : kAt zs N 0 0 = 0 := by simp [kAt]
theorem Zl1 (zs : List Int) {N i : Nat} (h : i < N) : kAt zs N i N = kAt zs N (i + 1) 0 := by
 unfold kAt; by_cases h0 : zs.length = 0
 ·rw [if_pos h0,if_pos h0]
 ·rw [if_neg h0,if_neg h0,if_pos h,if_neg (by omega),Nat.succ_mul]
  omega
theorem Zl2 (zs : List Int) (N i : Nat) : kAt zs N i (i + 1) = kAt zs N i i := by
 unfold kAt; by_cases h0 : zs.length = 0
 ·rw [if_pos h0,if_pos h0]
 ·rw [if_neg h0,if_neg h0,if_pos (by omega),if_neg (by omega)]
  omega
theorem Zl3 (zs : List Int) {N i j : Nat} (h : i ≠ j) (h0 : zs.length ≠ 0) : kAt zs N i (j + 1) = kAt zs N i j + 1 := by
 unfold kAt; rw [if_neg h0,if_neg h0]; by_cases h1 : i < j
 ·rw [if_pos (by omega),if_pos h1]; omega
 ·rw [if_neg (by omega),if_neg h1]; omega
theorem Zl4 (zs : List Int) {N i j i2 j2 : Nat} (h0 : zs.length = 0) : kAt zs N i j = kAt zs N i2 j2 := by
 unfold kAt; rw [if_pos h0,if_pos h0]
theorem Zo0 (zs : List Int) {N i j : Nat} (hN : N ≤ 100) (hi : i ≤ N) (hj : j ≤ N) : kAt zs N i j ≤ 20000 := by
 unfold kAt; have h1 : i * (N - 1) ≤ 100 * 100 := Nat.mul_le_mul (by omega) (by omega)
 split
 ·omega
 ·split <;> omega
def rowJ (zs : List Int) (N i j : Nat) (c : Nat) : Int := if c < j then sqE zs N i c else 0
theorem Zi6 (zs : List Int) (N i : Nat) : rowJ zs N i 0 = fun _ => 0 := by funext c; simp [rowJ]
theorem Zak {zs : List Int} {N i j : Nat} (h : i = j ∨ zs.length = 0) : rowJ zs N i (j + 1) = rowJ zs N i j := by
 funext c
 unfold rowJ; by_cases e : c = j
 ·subst e
  rw [if_pos (by omega),if_neg (by omega),sqE,if_pos h]
 ·by_cases e2 : c < j
  ·rw [if_pos (by omega),if_pos e2]
  ·rw [if_neg (by omega),if_neg e2]
theorem Zi7 {zs : List Int} {N i j : Nat} (z : Int) (h : sqE zs N i j = z) : rowJ zs N i (j + 1) = fun c => if c = j then z else rowJ zs N i j c := by
 funext c
 unfold rowJ; by_cases e : c = j
 ·subst e
  rw [if_pos (by omega),if_pos rfl,h]
 ·rw [if_neg e]
  by_cases e2 : c < j
  ·rw [if_pos (by omega),if_pos e2]
  ·rw [if_neg (by omega),if_neg e2]
theorem Zi8 : (Tryz.prog.info? 2).map (fun i => (i.zero,i.size,i.bytes)) = some (some (.int .i64 0),1,8) := by kernel_rfl
theorem Zfl : (Tryz.prog.info? 56).map (fun i => (i.zero,i.size,i.bytes)) = some (some (.slice none 0 0),1,24) := by kernel_rfl
theorem Zmb (zs : List Int) (len c : Nat) (a : Option Addr) (N : Nat) (w : World) (hN : N ≤ 100) (hi : IsU8 w.heap.size w a len zs) :
  Calls Tryz.prog 18 #[.slice a len c,.int .i64 (N : Int)] w fun e w' => ∃ v V,e = .returned v ∧ OwnSq w.heap.size w' v N N V (sqE zs N) ∧ Below w.heap.size w w' := by
 have hmk := run_make_row' (P := Tryz.prog) 56 2 (.int .i64 0) 8 Tryz.underlying56 Zi8 rfl .i64 .i64 N (by omega) (by omega)
 obtain ⟨i0,hi0,hz0,hz1,hz2⟩ := info_parts Zfl; have HI := hid hi; clear hi; have HS0 : Hid (OwnSq w.heap.size w (.slice none 0 0) 0 N (fun _ => 0) (sqE zs N)) := hid (OwnSq.begin_ _ _ _ _ _); go_enter Tryz.func18,Tryz.ntmps18
 go_wp2_with fail
 go_loopw [5,6,11] (fun ov kv iv wr => ∃ (i : Nat) (V : Nat → Nat),iv = .int .i64 (i : Int) ∧ kv = .int .i64 (kAt zs N i 0 : Int) ∧ i ≤ N ∧ Hid (OwnSq w.heap.size wr ov i N V (sqE zs N)) ∧ Hid (Below w.heap.size w wr)) (fun _ _ iv _ => N - (intOf iv).toNat)
 case atStart => exact ⟨0,_,rfl,by rw [Zl0]; rfl,Nat.zero_le _,HS0,hid (Below.refl _ _)⟩
 case round =>
  obtain ⟨i,V,rfl,rfl,hi,HS,HB⟩ := hrel; clear HS0; obtain ⟨oa,oc,hov⟩ := Z04 HS.out.outer; subst hov; by_cases hlt : i < N
  ·obtain ⟨w1,hw1⟩ : ∃ w1,w1 = wr := ⟨_,rfl⟩
   subst hw1; have HR0 : Hid (Below w1.heap.size w1 (w1.alloc (.cells (madeCells #[.int .i64 0] N) 2)) ∧ (w1.alloc (.cells (madeCells #[.int .i64 0] N) 2)).rowIs w1.heap.size 2 N (fun c => .int .i64 (rowJ zs N i 0 c))) := hid ⟨(Below.refl _ _).alloc (Nat.le_refl _) _,by rw [Zi6]; exact World.rowIs_made _ _ _ _⟩
   go_wp2_with fail
   obtain ⟨g,hg⟩ : ∃ g,w1.heap.size = g := ⟨_,rfl⟩; have HGS := hid hg; rw [hg] at HR0 ⊢; clear hg; go_loopw [6,18] (fun kv jv wr => ∃ j : Nat,jv = .int .i64 (j : Int) ∧ kv = .int .i64 (kAt zs N i j : Int) ∧ j ≤ N ∧ Hid (Below g w1 wr ∧ wr.rowIs g 2 N (fun c => .int .i64 (rowJ zs N i j c)))) (fun _ jv _ => N - (intOf jv).toNat)
   case atStart => exact ⟨0,rfl,rfl,Nat.zero_le _,HR0⟩
   case round =>
    obtain ⟨j,rfl,rfl,hj,HR⟩ := hrel; clear HR0; by_cases hlj : j < N
    ·by_cases hij : i = j
     ·have hd : ((i : Int) != (j : Int)) = false := by simp; omega
      have HR2 : Hid (Below g w1 wr ∧ wr.rowIs g 2 N (fun c => .int .i64 (rowJ zs N i (j + 1) c))) := hid (by rw [Zak (.inl hij)]; exact HR.out)
      have HK2 : Hid (kAt zs N i j = kAt zs N i (j + 1)) := hid (by subst hij; exact (Zl2 zs N i).symm)
      clear hij; go_wp2_with fail
      go_roundw
      case rel => exact ⟨j + 1,by go_num,by rw [HK2.out],by omega,HR2⟩
      case measure => simp [intOf]; omega
     ·have hd : ((i : Int) != (j : Int)) = true := by simp; omega
      have hzl := HI.out.1; by_cases h0 : len = 0
      ·have hd0 : decide ((0 : Int) < (len : Int)) = false := by simp; omega
       have HR2 : Hid (Below g w1 wr ∧ wr.rowIs g 2 N (fun c => .int .i64 (rowJ zs N i (j + 1) c))) := hid (by rw [Zak (.inr (by omega))]; exact HR.out)
       have HK2 : Hid (kAt zs N i j = kAt zs N i (j + 1)) := hid (Zl4 zs (by omega))
       clear hij hzl; go_wp2_with fail
       go_roundw
       case rel => exact ⟨j + 1,by go_num,by rw [HK2.out],by omega,HR2⟩
       case measure => simp [intOf]; omega
      ·have hd0 : decide ((0 : Int) < (len : Int)) = true := by simp; omega
       have hlp : (0 : Int) < (len : Int) := by omega
       have hln : ¬ (len : Int) = 0 := by omega
       have hlb : ((len : Int) == 0) = false := by simp; omega
       have hkl := Zo0 zs (i := i) (j := j) hN (by omega) (by omega)
       have HK2 : Hid (kAt zs N i (j + 1) = kAt zs N i j + 1) := hid (Zl3 zs hij (by omega))
       have hnn : ¬ (i = j ∨ zs.length = 0) := by omega
       have hsq : sqE zs N i j = (zs.getD (kAt zs N i j % zs.length) 0) % 30 := by rw [sqE,if_neg hnn]
       obtain ⟨K,hK⟩ : ∃ K,kAt zs N i j = K := ⟨_,rfl⟩; rw [hK] at hkl HK2 hsq ⊢; obtain ⟨q,hq⟩ : ∃ q,K % len = q := ⟨_,rfl⟩; have hql : q < len := by rw [← hq]; exact Nat.mod_lt _ (by omega)
       have hqi : (K : Int) % (len : Int) = (q : Int) := by rw [← hq]; exact (Int.natCast_emod K len).symm
       obtain ⟨b,off,z,rfl,hz,hzb,q0⟩ := (HI.out.later (HB.out.trans (HR.out.1.mono (Nat.le_trans HB.out.size (Nat.le_of_eq HGS.out))))).at_ hql; rw [hzl,hq] at hsq; have hzd : zs.getD q 0 = z := by simp [List.getD,hz]
       rw [hzd] at hsq; have q1 := HR.out.2.cell hlj; have q2 := HR.out.2.frozen j; obtain ⟨hzb1,hzb2⟩ := hzb; have HR2 : Hid (Below g w1 (wr.setCell ⟨g,j,none⟩ (.int .i64 (z % 30))) ∧ (wr.setCell ⟨g,j,none⟩ (.int .i64 (z % 30))).rowIs g 2 N (fun c => .int .i64 (rowJ zs N i (j + 1) c))) := hid ⟨HR.out.1.setCell (p := ⟨g,j,none⟩) (Nat.le_refl _) _,(HR.out.2.set j (.int .i64 (z % 30))).congr (fun c _ => by
        rw [Zi7 _ hsq]; by_cases e : c = j <;> simp [e])⟩
       clear hij hzl hnn hK hq hz hzd hsq; go_wp2_with fail
       go_roundw
       case rel => exact ⟨j + 1,by go_num,by rw [HK2.out]; go_num,by omega,HR2⟩
       case measure => simp [intOf]; omega
    ·obtain rfl : N = j := by omega
     have hHB : Below w1.heap.size w1 wr := by rw [HGS.out]; exact HR.out.1
     have hbs := HB.out.size; have HSr := HS.out.later hHB; have HA := (Below.refl wr.heap.size wr).alloc (Nat.le_refl _) (.cells #[.slice (some ⟨g,0,none⟩) N N] 56); have HS5 := hid (HSr.later HA); have HG5 := hid (Z0a (HR.out.2.congr (g := fun c => .int .i64 (sqE zs N i c)) (fun c hc => by rw [rowJ,if_pos hc])) HA)
     have HB5 := hid ((HB.out.trans (hHB.mono hbs)).trans (HA.mono (Nat.le_trans hbs hHB.size))); have hbase : w.heap.size ≤ (wr.alloc (.cells #[.slice (some ⟨g,0,none⟩) N N] 56)).heap.size := HB5.out.size; have HKN : Hid (kAt zs N i N = kAt zs N (i + 1) 0) := hid (Zl1 zs hlt); clear hHB HSr HA; go_wp2_with (at_builtin; refine Z16 rfl (.tmp 44) (.tmp 46) 32 rfl w.heap.size 56 i0 _ 1 24 Tryz.underlying32 hi0 hz0 hz1 hz2 (by decide) (.slice oa i oc) i _ rfl HS5.out.outer ⟨wr.heap.size,0,none⟩ 1 [.slice (some ⟨g,0,none⟩) N N] rfl rfl (Z1b _ _ _ _ rfl) (by intro u hu; simp at hu; subst hu; rfl) (by unfold maxLen; omega) (by omega) hbase ?_; intro g4 cap4 w6 hown hgrow hfr; have HO6 := hid hown; have HW6 := hid hgrow; have HF6 := hid hfr; clear hown hgrow hfr)
     go_roundw
     case rel => exact ⟨i + 1,_,by go_num,by rw [HKN.out],by omega,hid (HS5.out.push HG5.out (by have := HGS.out; omega) (fun i' hi' e => by have := (HS.out.row i' hi').1.lt; have := HGS.out; omega) (fun e => by have := (World.ownsRow.lt HS.out.outer g e).2; have := HGS.out; omega) HO6.out HW6.out HF6.out),hid (((Mod.of_below (fun k => w.heap.size ≤ k) HB5.out).grown HW6.out (fun k hk => .inl (World.ownsRow.lt HS.out.outer k hk).1)).below (Nat.le_refl _) (fun k hk => hk))⟩
     case measure => simp [intOf]; omega
  ·obtain rfl : i = N := by omega
   go_wp2_with fail
   go_ret
   exact ⟨_,V,rfl,HS.out,HB.out⟩
end Go.Proofs.YtfkommjlmolniaaGreatDoor
end
section

namespace Go.Proofs.YtfkommjlmolniaaGreatDoor
open Go.RowKit
structure Sm where
 (e t tr b br : Int)
 sats : List (Int × Int)
 whos : List Pi
 cost : List Int
 time : List Int
 tight : Bool
 loose : Bool
def sm8 (z : Int) : Prop := 0 ≤ z ∧ z ≤ 255
structure Sm.Ok (s : Sm) : Prop where
 e : sm8 s.e
 t : sm8 s.t
 tr : sm8 s.tr
 b : sm8 s.b
 br : sm8 s.br
def Sm.wide (s : Sm) : Int := if s.loose = true then 9 else 1
theorem Sm.wide_le (s : Sm) : 1 ≤ s.wide ∧ s.wide ≤ 9 := by unfold Sm.wide; split <;> omega
def satOf (wd : Int) (p : Int × Int) : Int × Int := (4 + wd * (p.1 % 40),p.2 % 12)
def Z3x (tight : Bool) (z : Int) : Int := if tight = true then 1 + z % 6 + z / 32 else 1 + z % 6
def whoOf (wd : Int) (tight : Bool) (c : Pi) : Pi := (Z3x tight c.1,c.2.1 % 50,c.2.1 % 50 + wd * c.2.2.1,c.2.2.2 % 8)
def Z0z (s : Sm) (k : Nat) : List (Int × Int) := ((s.sats.take 3).take k).map (satOf s.wide)
def cusTo (s : Sm) (k : Nat) : List Pi := ((s.whos.take 6).take k).map (whoOf s.wide s.tight)
def Z10 (s : Sm) : List (Int × Int) := if Z0z s s.sats.length = [] then [(60,2)] else Z0z s s.sats.length
def cusOf (s : Sm) : List Pi := if cusTo s s.whos.length = [] then [(2,5,90,1)] else cusTo s s.whos.length
def Z08 (s : Sm) : Nat := 1 + (Z10 s).length + (cusOf s).length
def Z2i (zs : List Int) (N : Nat) : List (List Int) := (List.range N).map (fun i => (List.range N).map (sqE zs N i))
def makeI (s : Sm) : Ins := ⟨40 + s.e * s.wide,1 + s.t % 4,5 + s.wide * (s.tr % 40),1 + s.b % 6,3 + s.wide * (s.br % 20),Z10 s,cusOf s,Z2i s.cost (Z08 s),Z2i s.time (Z08 s)⟩
variable {w wr w2 w4 : World} {B k len g : Nat} {a : Option Addr} {s : Sm} {p : Int × Int} {c : Pi} {l : List (Int × Int)} {v : Value}
theorem Zhz (hx : s.sats[k]? = some p) (hk : k < 3) : Z0z s (k + 1) = Z0z s k ++ [satOf s.wide p] := by
 have : (s.sats.take 3)[k]? = some p := by rw [List.getElem?_take,if_pos hk,hx]
 rw [Z0z,List.take_add_one,this,List.map_append]; rfl
theorem Zfd (hk : 3 ≤ k) : Z0z s (k + 1) = Z0z s k := by
 have e : ∀ j,3 ≤ j → (s.sats.take 3).take j = s.sats.take 3 := fun j hj => List.take_of_length_le (by rw [List.length_take]; omega)
 rw [Z0z,Z0z,e k hk,e (k + 1) (by omega)]
theorem Z3r (hk : k ≤ s.sats.length) : (Z0z s k).length = min k 3 := by
 rw [Z0z,List.length_map,List.length_take,List.length_take]; omega
theorem Zkv (hx : s.whos[k]? = some c) (hk : k < 6) : cusTo s (k + 1) = cusTo s k ++ [whoOf s.wide s.tight c] := by
 have : (s.whos.take 6)[k]? = some c := by rw [List.getElem?_take,if_pos hk,hx]
 rw [cusTo,List.take_add_one,this,List.map_append]; rfl
theorem Zi0 (hk : 6 ≤ k) : cusTo s (k + 1) = cusTo s k := by
 have e : ∀ j,6 ≤ j → (s.whos.take 6).take j = s.whos.take 6 := fun j hj => List.take_of_length_le (by rw [List.length_take]; omega)
 rw [cusTo,cusTo,e k hk,e (k + 1) (by omega)]
theorem Z4e (hk : k ≤ s.whos.length) : (cusTo s k).length = min k 6 := by
 rw [cusTo,List.length_map,List.length_take,List.length_take]; omega
/-! ### In memory -/
def PairU (w : World) (b off : Nat) (l : List (Int × Int)) : Prop := ∀ (k : Nat) (x : Int × Int),l[k]? = some x → w.cell? ⟨b,off + k * 2,none⟩ = some (.int .u8 x.1) ∧ w.cell? ⟨b,off + k * 2 + 1,none⟩ = some (.int .u8 x.2)
def IsSatU (B : Nat) (w : World) (a : Option Addr) (len : Nat) (l : List (Int × Int)) : Prop := l.length = len ∧ (∀ x ∈ l,sm8 x.1 ∧ sm8 x.2) ∧ (len = 0 ∨ ∃ b off,a = some ⟨b,off,none⟩ ∧ b < B ∧ PairU w b off l)
def QuadU (w : World) (b off : Nat) (l : List Pi) : Prop := ∀ (k : Nat) (x : Pi),l[k]? = some x →
 w.cell? ⟨b,off + k * 4,none⟩ = some (.int .u8 x.1) ∧ w.cell? ⟨b,off + k * 4 + 1,none⟩ = some (.int .u8 x.2.1) ∧ w.cell? ⟨b,off + k * 4 + 2,none⟩ = some (.int .u8 x.2.2.1) ∧ w.cell? ⟨b,off + k * 4 + 3,none⟩ = some (.int .u8 x.2.2.2)
def IsWhoU (B : Nat) (w : World) (a : Option Addr) (len : Nat) (l : List Pi) : Prop := l.length = len ∧ (∀ x ∈ l,sm8 x.1 ∧ sm8 x.2.1 ∧ sm8 x.2.2.1 ∧ sm8 x.2.2.2) ∧ (len = 0 ∨ ∃ b off,a = some ⟨b,off,none⟩ ∧ b < B ∧ QuadU w b off l)
theorem IsSatU.later (h : IsSatU B w a len l) (hb : Below B w w2) : IsSatU B w2 a len l := ⟨h.1,h.2.1,by
 rcases h.2.2 with h | ⟨b,off,e,h1,h2⟩
 ·exact .inl h
 ·exact .inr ⟨b,off,e,h1,fun k x hk => ⟨(hb.cell (p := ⟨b,off + k * 2,none⟩) h1).trans (h2 k x hk).1,(hb.cell (p := ⟨b,off + k * 2 + 1,none⟩) h1).trans (h2 k x hk).2⟩⟩⟩
theorem IsSatU.at_ (h : IsSatU B w a len l) (hk : k < len) : ∃ b off x,a = some ⟨b,off,none⟩ ∧ l[k]? = some x ∧ (sm8 x.1 ∧ sm8 x.2) ∧ w.cell? ⟨b,off + k * 2,none⟩ = some (.int .u8 x.1) ∧ w.cell? ⟨b,off + k * 2 + 1,none⟩ = some (.int .u8 x.2) := by
 obtain ⟨h1,h3,h2⟩ := h; subst h1; rcases h2 with h2 | ⟨b,off,e,hb,hr⟩
 ·omega
 ·exact ⟨b,off,_,e,List.getElem?_eq_getElem hk,h3 _ (List.getElem_mem hk),hr k _ (List.getElem?_eq_getElem hk)⟩
theorem IsWhoU.later {l : List Pi} (h : IsWhoU B w a len l) (hb : Below B w w2) : IsWhoU B w2 a len l := ⟨h.1,h.2.1,by
 rcases h.2.2 with h | ⟨b,off,e,h1,h2⟩
 ·exact .inl h
 ·exact .inr ⟨b,off,e,h1,fun k x hk => ⟨(hb.cell (p := ⟨b,off + k * 4,none⟩) h1).trans (h2 k x hk).1,(hb.cell (p := ⟨b,off + k * 4 + 1,none⟩) h1).trans (h2 k x hk).2.1,(hb.cell (p := ⟨b,off + k * 4 + 2,none⟩) h1).trans (h2 k x hk).2.2.1,(hb.cell (p := ⟨b,off + k * 4 + 3,none⟩) h1).trans (h2 k x hk).2.2.2⟩⟩⟩
theorem IsWhoU.at_ {l : List Pi} (h : IsWhoU B w a len l) (hk : k < len) : ∃ b off x,a = some ⟨b,off,none⟩ ∧ l[k]? = some x ∧ (sm8 x.1 ∧ sm8 x.2.1 ∧ sm8 x.2.2.1 ∧ sm8 x.2.2.2) ∧
  w.cell? ⟨b,off + k * 4,none⟩ = some (.int .u8 x.1) ∧ w.cell? ⟨b,off + k * 4 + 1,none⟩ = some (.int .u8 x.2.1) ∧ w.cell? ⟨b,off + k * 4 + 2,none⟩ = some (.int .u8 x.2.2.1) ∧ w.cell? ⟨b,off + k * 4 + 3,none⟩ = some (.int .u8 x.2.2.2) := by
 obtain ⟨h1,h3,h2⟩ := h; subst h1; rcases h2 with h2 | ⟨b,off,e,hb,hr⟩
 ·omega
 ·exact ⟨b,off,_,e,List.getElem?_eq_getElem hk,h3 _ (List.getElem_mem hk),hr k _ (List.getElem?_eq_getElem hk)⟩
structure SmA where
 (sa : Option Addr) (sc : Nat) (wa : Option Addr) (wc : Nat) (ca : Option Addr) (cn cc : Nat) (ta : Option Addr) (tn tc : Nat)
structure IsSm (B : Nat) (w : World) (A : SmA) (s : Sm) : Prop where
 sats : IsSatU B w A.sa s.sats.length s.sats
 whos : IsWhoU B w A.wa s.whos.length s.whos
 cost : IsU8 B w A.ca A.cn s.cost
 time : IsU8 B w A.ta A.tn s.time
 ok : s.Ok
 sl : s.sats.length ≤ 9223372036854775807
 wl : s.whos.length ≤ 9223372036854775807
abbrev smC (A : SmA) (s : Sm) : Array Value := #[.int .u8 s.e,.int .u8 s.t,.int .u8 s.tr,.int .u8 s.b,.int .u8 s.br,.slice A.sa s.sats.length A.sc,.slice A.wa s.whos.length A.wc,.slice A.ca A.cn A.cc,.slice A.ta A.tn A.tc,.bool s.tight,.bool s.loose]
theorem IsSm.later {A : SmA} (h : IsSm B w A s) (hb : Below B w w2) : IsSm B w2 A s := ⟨h.sats.later hb,h.whos.later hb,h.cost.later hb,h.time.later hb,h.ok,h.sl,h.wl⟩
def encS (x : Int × Int) : List Value := [.int .i64 x.1,.int .i64 x.2]
def flatS (l : List (Int × Int)) : List Value := l.flatMap encS
def flatC (l : List Pi) : List Value := l.flatMap encP
theorem Zfe (l : List (Int × Int)) (x : Int × Int) : flatS (l ++ [x]) = flatS l ++ encS x := by simp [flatS]
theorem Zff (l : List Pi) (x : Pi) : flatC (l ++ [x]) = flatC l ++ encP x := by simp [flatC]
theorem Z4f : ∀ (l : List (Int × Int)) (k : Nat) (x : Int × Int),l[k]? = some x → (flatS l)[k * 2]? = some (.int .i64 x.1) ∧ (flatS l)[k * 2 + 1]? = some (.int .i64 x.2)
 | [],k,x,h => by simp at h
 | y :: r,0,x,h => by
  simp at h
  subst h; exact ⟨rfl,rfl⟩
 | y :: r,k + 1,x,h => by
  have ih := Z4f r k x (by simpa using h)
  unfold flatS at ih ⊢; rw [List.flatMap_cons]; have e1 : (k + 1) * 2 = (k * 2) + 1 + 1 := by omega
  rw [e1]; exact ih
theorem Zad : ∀ (l : List Pi) (k : Nat) (x : Pi),l[k]? = some x → (flatC l)[k * 4]? = some (.int .i64 x.1) ∧ (flatC l)[k * 4 + 1]? = some (.int .i64 x.2.1) ∧ (flatC l)[k * 4 + 2]? = some (.int .i64 x.2.2.1) ∧ (flatC l)[k * 4 + 3]? = some (.int .i64 x.2.2.2)
 | [],k,x,h => by simp at h
 | y :: r,0,x,h => by
  simp at h
  subst h; exact ⟨rfl,rfl,rfl,rfl⟩
 | y :: r,k + 1,x,h => by
  have ih := Zad r k x (by simpa using h)
  unfold flatC at ih ⊢; rw [List.flatMap_cons]; have e1 : (k + 1) * 4 = (k * 4) + 1 + 1 + 1 + 1 := by omega
  rw [e1]; exact ih
theorem Zi1 {n cap : Nat} (h : w.ownsRow B 51 2 (.slice a n cap) n (flatS l)) (hn : l.length = n) : IsPairs w.heap.size w a n l := by
 rcases h.2 with ⟨e,h0⟩ | ⟨g,cap',cur,hv,hb,hg,_⟩
 ·exact ⟨hn,.inl h0⟩
 ·have hh := h
  injection hv with e1 e2 e3
  subst e1; refine ⟨hn,.inr ⟨g,0,rfl,(Array.getElem?_eq_some_iff.1 hg).1,fun k x hk => ?_⟩⟩; obtain ⟨q0,q1⟩ := Z4f l k x hk; have c0 := World.ownsRow.cells hh (g := g) rfl _ _ q0; have c1 := World.ownsRow.cells hh (g := g) rfl _ _ q1; simp only [Addr.add_lit,Nat.zero_add] at c0 c1
  simp only [Nat.zero_add]
  exact ⟨c0,c1⟩
theorem Zkw {n cap : Nat} {l : List Pi} (h : w.ownsRow B 53 4 (.slice a n cap) n (flatC l)) (hn : l.length = n) : IsPipes w.heap.size w a n l := by
 rcases h.2 with ⟨e,h0⟩ | ⟨g,cap',cur,hv,hb,hg,_⟩
 ·exact ⟨hn,.inl h0⟩
 ·have hh := h
  injection hv with e1 e2 e3
  subst e1; refine ⟨hn,.inr ⟨g,0,rfl,(Array.getElem?_eq_some_iff.1 hg).1,fun k x hk => ?_⟩⟩; obtain ⟨q0,q1,q2,q3⟩ := Zad l k x hk; have c0 := World.ownsRow.cells hh (g := g) rfl _ _ q0; have c1 := World.ownsRow.cells hh (g := g) rfl _ _ q1; have c2 := World.ownsRow.cells hh (g := g) rfl _ _ q2; have c3 := World.ownsRow.cells hh (g := g) rfl _ _ q3; simp only [Addr.add_lit,Nat.zero_add] at c0 c1 c2 c3
  simp only [Nat.zero_add]
  exact ⟨c0,c1,c2,c3⟩
end Go.Proofs.YtfkommjlmolniaaGreatDoor
end
section

namespace Go.Proofs.YtfkommjlmolniaaGreatDoor
open Go.RowKit
variable {w wr w2 w4 : World} {A : SmA} {s : Sm} {sv cv : Value} {ns nc g4 cap : Nat} {l1 : List (Int × Int)} {l2 : List Pi} {x : Int × Int} {c : Pi}
structure MkW (w wr : World) (A : SmA) (s : Sm) (sv cv : Value) (ns nc : Nat) (l1 : List (Int × Int)) (l2 : List Pi) : Prop where
 below : Below w.heap.size w wr
 sm : wr.heap[w.heap.size]? = some (.cells (smC A s) 26 (0,0))
 res : wr.heap[w.heap.size + 1]? = some (.cells #[.int .i64 0,.int .i64 0,.int .i64 0,.int .i64 0,.int .i64 0,.slice none 0 0,.slice none 0 0,.slice none 0 0,.slice none 0 0] 34 (0,0))
 y : wr.heap[w.heap.size + 2]? = some (.cells #[.int .i64 (40 + s.e * s.wide),.int .i64 (1 + s.t % 4),.int .i64 (5 + s.wide * (s.tr % 40)),.int .i64 (1 + s.b % 6),.int .i64 (3 + s.wide * (s.br % 20)),sv,cv,.slice none 0 0,.slice none 0 0] 34 (0,0))
 sats : wr.ownsRow (w.heap.size + 3) 51 2 sv ns (flatS l1)
 nsl : l1.length = ns
 cus : wr.ownsRow (w.heap.size + 3) 53 4 cv nc (flatC l2)
 ncl : l2.length = nc
 ap : ∀ g,sv.ownBlock = some g → ¬ cv.ownBlock = some g
theorem MkW.lt (h : MkW w wr A s sv cv ns nc l1 l2) : w.heap.size + 2 < wr.heap.size := (Array.getElem?_eq_some_iff.1 h.y).1
theorem MkW.later (h : MkW w wr A s sv cv ns nc l1 l2) (hb : Below wr.heap.size wr w2) : MkW w w2 A s sv cv ns nc l1 l2 := by
 have hl := h.lt; exact ⟨h.below.trans (hb.mono h.below.size),(hb.block _ (by omega)).trans h.sm,(hb.block _ (by omega)).trans h.res,(hb.block _ hl).trans h.y,Z06 h.sats hb,h.nsl,Z06 h.cus hb,h.ncl,h.ap⟩
theorem MkW.cells (h : MkW w wr A s sv cv ns nc l1 l2) : wr.cell? ⟨w.heap.size + 2,5,none⟩ = some sv ∧ wr.cell? ⟨w.heap.size + 2,6,none⟩ = some cv ∧ ∀ k,wr.frozen? ⟨w.heap.size + 2,k,none⟩ = false :=
 ⟨by simp [World.cell?,h.y],by simp [World.cell?,h.y],fun k => by simp [World.frozen?,h.y]⟩
theorem MkW.small (h : MkW w wr A s sv cv ns nc l1 l2) : wr.cell? ⟨w.heap.size,5,none⟩ = some (.slice A.sa s.sats.length A.sc) ∧ wr.cell? ⟨w.heap.size,6,none⟩ = some (.slice A.wa s.whos.length A.wc) ∧ wr.cell? ⟨w.heap.size,7,none⟩ = some (.slice A.ca A.cn A.cc) ∧ wr.cell? ⟨w.heap.size,8,none⟩ = some (.slice A.ta A.tn A.tc) ∧ wr.cell? ⟨w.heap.size,9,none⟩ = some (.bool s.tight) ∧ wr.cell? ⟨w.heap.size,10,none⟩ = some (.bool s.loose) := by
 simp [World.cell?,h.sm]
theorem Zae {T : TypeId} {sz B : Nat} : ∀ {w : World},w.ownsRow B T sz (.slice none 0 0) 0 [] := ⟨by simp,.inl ⟨rfl,rfl⟩⟩
theorem MkW.pushS (h : MkW w wr A s sv cv ns nc l1 l2) (hown : w4.ownsRow (w.heap.size + 3) 51 2 (.slice (some ⟨g4,0,none⟩) (ns + 1) cap) (ns + 1) (flatS l1 ++ encS x)) (hgrow : wr.grownBy w4 sv.ownBlock) (hfr : sv.ownBlock = some g4 ∨ g4 = wr.heap.size) :
  MkW w (w4.setCell ⟨w.heap.size + 2,5,none⟩ (.slice (some ⟨g4,0,none⟩) (ns + 1) cap)) A s (.slice (some ⟨g4,0,none⟩) (ns + 1) cap) cv (ns + 1) nc (l1 ++ [x]) l2 ∧ w4.cell? ⟨w.heap.size + 2,5,none⟩ = some sv ∧ w4.frozen? ⟨w.heap.size + 2,5,none⟩ = false := by
 have hl := h.lt; have hsl : ∀ k,sv.ownBlock = some k → w.heap.size + 3 ≤ k := fun k hk => (World.ownsRow.lt h.sats k hk).1; have hM : Mod (fun k => sv.ownBlock = some k) wr w4 := (Mod.refl _ _).grown hgrow (fun k hk => .inr hk); have k1 : ∀ b,b < wr.heap.size → ¬ sv.ownBlock = some b → w4.heap[b]? = wr.heap[b]? := fun b hb hv => hM.block b hb hv; have hy : w4.heap[w.heap.size + 2]? = _ := (k1 _ hl (fun e => by have := hsl _ e; omega)).trans h.y
 have hB : Below w.heap.size w w4 := h.below.trans (hM.below h.below.size (fun k hk => by have := hsl k hk; omega))
 refine ⟨⟨hB.setCell (p := ⟨w.heap.size + 2,5,none⟩) (by simp) _,?_,?_,heap_setCell_same _ _ _ _ _ _ hy,?_,by simp [h.nsl],?_,h.ncl,fun g he hc => ?_⟩,by simp [World.cell?,hy],by simp [World.frozen?,hy]⟩
 ·exact (heap_setCell_other _ _ _ _ (fun e => by have e2 : w.heap.size = w.heap.size + 2 := e; omega)).trans ((k1 _ (by omega) (fun e => by have := hsl _ e; omega)).trans h.sm)
 ·exact (heap_setCell_other _ _ _ _ (fun e => by have e2 : w.heap.size + 1 = w.heap.size + 2 := e; omega)).trans ((k1 _ (by omega) (fun e => by have := hsl _ e; omega)).trans h.res)
 ·rw [Zfe]
  exact ownsRow_setCell_other hown (fun e => by have h9 : w.heap.size + 3 ≤ w.heap.size + 2 := (World.ownsRow.lt hown _ e).1; omega) _
 ·exact ownsRow_setCell_other (Z1a h.cus hM (fun k hk hs => h.ap k hs hk)) (fun e => by have h9 : w.heap.size + 3 ≤ w.heap.size + 2 := (World.ownsRow.lt h.cus _ e).1; omega) _
 ·have e2 : g4 = g := by injection he
  subst e2; rcases hfr with hfr | hfr
  ·exact h.ap g4 hfr hc
  ·have := (World.ownsRow.lt h.cus g4 hc).2
   omega
theorem MkW.pushC (h : MkW w wr A s sv cv ns nc l1 l2) (hown : w4.ownsRow (w.heap.size + 3) 53 4 (.slice (some ⟨g4,0,none⟩) (nc + 1) cap) (nc + 1) (flatC l2 ++ encP c)) (hgrow : wr.grownBy w4 cv.ownBlock) (hfr : cv.ownBlock = some g4 ∨ g4 = wr.heap.size) :
  MkW w (w4.setCell ⟨w.heap.size + 2,6,none⟩ (.slice (some ⟨g4,0,none⟩) (nc + 1) cap)) A s sv (.slice (some ⟨g4,0,none⟩) (nc + 1) cap) ns (nc + 1) l1 (l2 ++ [c]) ∧ w4.cell? ⟨w.heap.size + 2,6,none⟩ = some cv ∧ w4.frozen? ⟨w.heap.size + 2,6,none⟩ = false := by
 have hl := h.lt; have hsl : ∀ k,cv.ownBlock = some k → w.heap.size + 3 ≤ k := fun k hk => (World.ownsRow.lt h.cus k hk).1; have hM : Mod (fun k => cv.ownBlock = some k) wr w4 := (Mod.refl _ _).grown hgrow (fun k hk => .inr hk); have k1 : ∀ b,b < wr.heap.size → ¬ cv.ownBlock = some b → w4.heap[b]? = wr.heap[b]? := fun b hb hv => hM.block b hb hv; have hy : w4.heap[w.heap.size + 2]? = _ := (k1 _ hl (fun e => by have := hsl _ e; omega)).trans h.y
 have hB : Below w.heap.size w w4 := h.below.trans (hM.below h.below.size (fun k hk => by have := hsl k hk; omega))
 refine ⟨⟨hB.setCell (p := ⟨w.heap.size + 2,6,none⟩) (by simp) _,?_,?_,heap_setCell_same _ _ _ _ _ _ hy,?_,h.nsl,?_,by simp [h.ncl],fun g he hc => ?_⟩,by simp [World.cell?,hy],by simp [World.frozen?,hy]⟩
 ·exact (heap_setCell_other _ _ _ _ (fun e => by have e2 : w.heap.size = w.heap.size + 2 := e; omega)).trans ((k1 _ (by omega) (fun e => by have := hsl _ e; omega)).trans h.sm)
 ·exact (heap_setCell_other _ _ _ _ (fun e => by have e2 : w.heap.size + 1 = w.heap.size + 2 := e; omega)).trans ((k1 _ (by omega) (fun e => by have := hsl _ e; omega)).trans h.res)
 ·exact ownsRow_setCell_other (Z1a h.sats hM (fun k hk hs => h.ap k hk hs)) (fun e => by have h9 : w.heap.size + 3 ≤ w.heap.size + 2 := (World.ownsRow.lt h.sats _ e).1; omega) _
 ·rw [Zff]
  exact ownsRow_setCell_other hown (fun e => by have h9 : w.heap.size + 3 ≤ w.heap.size + 2 := (World.ownsRow.lt hown _ e).1; omega) _
 ·have e2 : g4 = g := by injection hc
  subst e2; rcases hfr with hfr | hfr
  ·exact h.ap g4 he hfr
  ·have := (World.ownsRow.lt h.sats g4 he).2
   omega
theorem MkW.oneS (h : MkW w wr A s sv cv ns nc l1 l2) (x : Int × Int) : MkW w ((wr.alloc (.cells #[.int .i64 x.1,.int .i64 x.2] 51)).setCell ⟨w.heap.size + 2,5,none⟩ (.slice (some ⟨wr.heap.size,0,none⟩) 1 1)) A s (.slice (some ⟨wr.heap.size,0,none⟩) 1 1) cv 1 nc [x] l2 := by
 have hl := h.lt; have hA := h.later ((Below.refl wr.heap.size wr).alloc (Nat.le_refl _) (.cells #[.int .i64 x.1,.int .i64 x.2] 51)); have hy := hA.y; have hob : (Value.slice (some ⟨wr.heap.size,0,none⟩) 1 1).ownBlock = some wr.heap.size := rfl; have hrow : (wr.alloc (.cells #[.int .i64 x.1,.int .i64 x.2] 51)).ownsRow (w.heap.size + 3) 51 2 (.slice (some ⟨wr.heap.size,0,none⟩) 1 1) 1 (flatS [x]) :=
  ⟨rfl,.inr ⟨wr.heap.size,1,_,rfl,hl,heap_alloc_new _ _,Nat.le_refl _,by unfold maxLen; omega,rfl,rfl⟩⟩
 exact ⟨hA.below.setCell (p := ⟨w.heap.size + 2,5,none⟩) (by simp) _,(heap_setCell_other _ _ _ _ (fun e => by have e2 : w.heap.size = w.heap.size + 2 := e; omega)).trans hA.sm,(heap_setCell_other _ _ _ _ (fun e => by have e2 : w.heap.size + 1 = w.heap.size + 2 := e; omega)).trans hA.res,heap_setCell_same _ _ _ _ _ _ hy,
  ownsRow_setCell_other hrow (fun e => by have h9 : w.heap.size + 3 ≤ w.heap.size + 2 := (World.ownsRow.lt hrow _ e).1; omega) _,rfl,ownsRow_setCell_other hA.cus (fun e => by have h9 : w.heap.size + 3 ≤ w.heap.size + 2 := (World.ownsRow.lt hA.cus _ e).1; omega) _,h.ncl,
  fun g he hc => by rw [hob] at he; injection he with he; subst he; have := (World.ownsRow.lt h.cus _ hc).2; omega⟩
theorem MkW.oneC (h : MkW w wr A s sv cv ns nc l1 l2) (x : Pi) : MkW w ((wr.alloc (.cells #[.int .i64 x.1,.int .i64 x.2.1,.int .i64 x.2.2.1,.int .i64 x.2.2.2] 53)).setCell ⟨w.heap.size + 2,6,none⟩ (.slice (some ⟨wr.heap.size,0,none⟩) 1 1)) A s sv (.slice (some ⟨wr.heap.size,0,none⟩) 1 1) ns 1 l1 [x] := by
 have hl := h.lt; have hA := h.later ((Below.refl wr.heap.size wr).alloc (Nat.le_refl _) (.cells #[.int .i64 x.1,.int .i64 x.2.1,.int .i64 x.2.2.1,.int .i64 x.2.2.2] 53)); have hy := hA.y; have hob : (Value.slice (some ⟨wr.heap.size,0,none⟩) 1 1).ownBlock = some wr.heap.size := rfl; have hrow : (wr.alloc (.cells #[.int .i64 x.1,.int .i64 x.2.1,.int .i64 x.2.2.1,.int .i64 x.2.2.2] 53)).ownsRow (w.heap.size + 3) 53 4 (.slice (some ⟨wr.heap.size,0,none⟩) 1 1) 1 (flatC [x]) :=
  ⟨rfl,.inr ⟨wr.heap.size,1,_,rfl,hl,heap_alloc_new _ _,Nat.le_refl _,by unfold maxLen; omega,rfl,rfl⟩⟩
 exact ⟨hA.below.setCell (p := ⟨w.heap.size + 2,6,none⟩) (by simp) _,(heap_setCell_other _ _ _ _ (fun e => by have e2 : w.heap.size = w.heap.size + 2 := e; omega)).trans hA.sm,(heap_setCell_other _ _ _ _ (fun e => by have e2 : w.heap.size + 1 = w.heap.size + 2 := e; omega)).trans hA.res,heap_setCell_same _ _ _ _ _ _ hy,
  ownsRow_setCell_other hA.sats (fun e => by have h9 : w.heap.size + 3 ≤ w.heap.size + 2 := (World.ownsRow.lt hA.sats _ e).1; omega) _,h.nsl,ownsRow_setCell_other hrow (fun e => by have h9 : w.heap.size + 3 ≤ w.heap.size + 2 := (World.ownsRow.lt hrow _ e).1; omega) _,rfl,
  fun g he hc => by rw [hob] at hc; injection hc with hc; subst hc; have := (World.ownsRow.lt h.sats _ he).2; omega⟩
theorem MkW.inst (h : MkW w wr A s sv cv ns nc l1 l2) : wr.cell? ⟨w.heap.size + 2,0,none⟩ = some (.int .i64 (40 + s.e * s.wide)) ∧ wr.cell? ⟨w.heap.size + 2,1,none⟩ = some (.int .i64 (1 + s.t % 4)) ∧ wr.cell? ⟨w.heap.size + 2,2,none⟩ = some (.int .i64 (5 + s.wide * (s.tr % 40))) ∧ wr.cell? ⟨w.heap.size + 2,3,none⟩ = some (.int .i64 (1 + s.b % 6)) ∧
  wr.cell? ⟨w.heap.size + 2,4,none⟩ = some (.int .i64 (3 + s.wide * (s.br % 20))) ∧ wr.cell? ⟨w.heap.size + 2,5,none⟩ = some sv ∧ wr.cell? ⟨w.heap.size + 2,6,none⟩ = some cv ∧ wr.cell? ⟨w.heap.size + 2,7,none⟩ = some (.slice none 0 0) ∧ wr.cell? ⟨w.heap.size + 2,8,none⟩ = some (.slice none 0 0) := by
 simp [World.cell?,h.y]
structure OwnIns (B : Nat) (w : World) (A : InA) (x : Ins) (N C D : Nat) (VK VT : Nat → Nat) (LK LT : Nat → Nat → Int) : Prop where
 sats : w.ownsRow B 51 2 (.slice A.sa x.sats.length A.sc) x.sats.length (flatS x.sats)
 cus : w.ownsRow B 53 4 (.slice A.ca x.cus.length A.cc) x.cus.length (flatC x.cus)
 cost : OwnSq C w (.slice A.ka N A.kc) N N VK LK
 time : OwnSq D w (.slice A.ta N A.tc) N N VT LT
 ck : x.cost = (List.range N).map (fun i => (List.range N).map (LK i))
 tk : x.time = (List.range N).map (fun i => (List.range N).map (LT i))
 nl : N ≤ 1000
 ap : ∀ g,(Value.slice A.sa x.sats.length A.sc).ownBlock = some g → ¬ (Value.slice A.ca x.cus.length A.cc).ownBlock = some g
 sb : ∀ g,(Value.slice A.sa x.sats.length A.sc).ownBlock = some g ∨ (Value.slice A.ca x.cus.length A.cc).ownBlock = some g → g < C
 kb : ∀ g,(Value.slice A.ka N A.kc).ownBlock = some g ∨ (∃ i,i < N ∧ VK i = g) → g < D
 bc : B ≤ C
 cd : C ≤ D
theorem OwnIns.is_ {B N C D : Nat} {A : InA} {x : Ins} {VK VT : Nat → Nat} {LK LT : Nat → Nat → Int} (h : OwnIns B w A x N C D VK VT LK LT) : IsIns w.heap.size w A x := by
 have h1 : x.cost.length = N := by rw [h.ck]; simp
 have h2 : x.time.length = N := by rw [h.tk]; simp
 refine ⟨Zi1 h.sats rfl,Zkw h.cus rfl,?_,?_⟩
 ·obtain ⟨a,c,e,hr⟩ := h.cost.rows h.nl
  injection e with e1 _ e3
  subst e1; rw [h1,h.ck]; exact hr
 ·obtain ⟨a,c,e,hr⟩ := h.time.rows h.nl
  injection e with e1 _ e3
  subst e1; rw [h2,h.tk]; exact hr
theorem MkW.two (h : MkW w wr A s sv cv ns nc l1 l2) (u : Value) : (∀ k,wr.frozen? ⟨w.heap.size + 2,k,none⟩ = false) ∧ (wr.setCell ⟨w.heap.size + 2,7,none⟩ u).cell? ⟨w.heap.size + 2,8,none⟩ = some (.slice none 0 0) ∧ ∀ k,(wr.setCell ⟨w.heap.size + 2,7,none⟩ u).frozen? ⟨w.heap.size + 2,k,none⟩ = false := by
 have h1 := heap_setCell_same wr (w.heap.size + 2) 7 _ _ u h.y; exact ⟨h.cells.2.2,by simp [World.cell?,h1],fun k => by simp [World.frozen?,h1]⟩
structure MadeW (w wr : World) (A : SmA) (s : Sm) (saa : Option Addr) (sac : Nat) (caa : Option Addr) (cac : Nat) (ka : Option Addr) (kc : Nat) (ta : Option Addr) (tc : Nat) (C D : Nat) (VK VT : Nat → Nat) : Prop where
 below : Below w.heap.size w wr
 res : wr.heap[w.heap.size + 1]? = some (.cells #[.int .i64 0,.int .i64 0,.int .i64 0,.int .i64 0,.int .i64 0,.slice none 0 0,.slice none 0 0,.slice none 0 0,.slice none 0 0] 34 (0,0))
 y : wr.heap[w.heap.size + 2]? = some (.cells (insC ⟨saa,sac,caa,cac,ka,kc,ta,tc⟩ (makeI s)) 34 (0,0))
 own : OwnIns (w.heap.size + 3) wr ⟨saa,sac,caa,cac,ka,kc,ta,tc⟩ (makeI s) (Z08 s) C D VK VT (sqE s.cost (Z08 s)) (sqE s.time (Z08 s))
theorem Z7d (zs : List Int) (N : Nat) : (Z2i zs N).length = N := by simp [Z2i]
theorem OwnSq.set_ {B n N b i : Nat} {v u : Value} {V : Nat → Nat} {L : Nat → Nat → Int} (h : OwnSq B wr v n N V L) (hb : b < B) : OwnSq B (wr.setCell ⟨b,i,none⟩ u) v n N V L :=
 ⟨ownsRow_setCell_other h.outer (fun e => by have h9 : B ≤ b := (World.ownsRow.lt h.outer _ e).1; omega) _,fun k hk => ⟨(h.row k hk).1.of_block (heap_setCell_other _ _ _ _ (fun e => by have e2 : V k = b := e; have := (h.row k hk).2; omega)),(h.row k hk).2⟩,h.inj,h.out⟩
theorem MkW.made {saa caa ka ta : Option Addr} {sac cac kc tc C D : Nat} {VK VT : Nat → Nat} {w1 w3 : World} (h : MkW w w4 A s (.slice saa (Z10 s).length sac) (.slice caa (cusOf s).length cac) (Z10 s).length (cusOf s).length (Z10 s) (cusOf s))
  (h1 : MkW w w1 A s (.slice saa (Z10 s).length sac) (.slice caa (cusOf s).length cac) (Z10 s).length (cusOf s).length (Z10 s) (cusOf s)) (hC : w1.heap.size = C) (hN : Z08 s ≤ 1000)
  (hk3 : OwnSq C w3 (.slice ka (Z08 s) kc) (Z08 s) (Z08 s) VK (sqE s.cost (Z08 s))) (h34 : Below w3.heap.size w3 w4) (hD : w3.heap.size ≤ D) (hCD : C ≤ D)
  (ht : OwnSq D w4 (.slice ta (Z08 s) tc) (Z08 s) (Z08 s) VT (sqE s.time (Z08 s))) :
  MadeW w ((w4.setCell ⟨w.heap.size + 2,7,none⟩ (.slice ka (Z08 s) kc)).setCell ⟨w.heap.size + 2,8,none⟩ (.slice ta (Z08 s) tc)) A s saa sac caa cac ka kc ta tc C D VK VT := by
 have hl1 := h1.lt; have hY : w.heap.size + 2 < C := by omega
 have y1 := heap_setCell_same w4 (w.heap.size + 2) 7 _ _ (.slice ka (Z08 s) kc) h.y; have y2 := heap_setCell_same _ (w.heap.size + 2) 8 _ _ (.slice ta (Z08 s) tc) y1; have hs1 : ∀ k,(Value.slice saa (Z10 s).length sac).ownBlock = some k → w.heap.size + 3 ≤ k := fun k hk => (World.ownsRow.lt h.sats k hk).1; have hc1 : ∀ k,(Value.slice caa (cusOf s).length cac).ownBlock = some k → w.heap.size + 3 ≤ k := fun k hk => (World.ownsRow.lt h.cus k hk).1; have o2 : ∀ {T : TypeId} {sz n : Nat} {v : Value} {xs : List Value},w4.ownsRow (w.heap.size + 3) T sz v n xs → ((w4.setCell ⟨w.heap.size + 2,7,none⟩ (.slice ka (Z08 s) kc)).setCell ⟨w.heap.size + 2,8,none⟩ (.slice ta (Z08 s) tc)).ownsRow (w.heap.size + 3) T sz v n xs := fun {T sz n v xs} ho => by
  have hlt : ∀ k,v.ownBlock = some k → w.heap.size + 3 ≤ k := fun k hk => (World.ownsRow.lt ho k hk).1; exact ownsRow_setCell_other (ownsRow_setCell_other ho (fun e => by have h9 : w.heap.size + 3 ≤ w.heap.size + 2 := hlt _ e; omega) _) (fun e => by have h9 : w.heap.size + 3 ≤ w.heap.size + 2 := hlt _ e; omega) _
 have e1 : (makeI s).cost.length = Z08 s := Z7d _ _; have e2 : (makeI s).time.length = Z08 s := Z7d _ _; refine ⟨(h.below.setCell (p := ⟨w.heap.size + 2,7,none⟩) (by simp) _).setCell (p := ⟨w.heap.size + 2,8,none⟩) (by simp) _,?_,?_,?_⟩
 ·exact (heap_setCell_other _ _ _ _ (fun e => by have e2 : w.heap.size + 1 = w.heap.size + 2 := e; omega)).trans ((heap_setCell_other _ _ _ _ (fun e => by have e2 : w.heap.size + 1 = w.heap.size + 2 := e; omega)).trans h.res)
 ·rw [y2]
  unfold insC; rw [e1,e2]; rfl
 ·refine ⟨o2 h.sats,o2 h.cus,((hk3.later h34).set_ hY).set_ hY,(ht.set_ (by omega)).set_ (by omega),rfl,rfl,hN,h.ap,fun g hg => ?_,fun g hg => ?_,by omega,hCD⟩
  ·rcases hg with hg | hg
   ·have := (World.ownsRow.lt h1.sats g hg).2; omega
   ·have := (World.ownsRow.lt h1.cus g hg).2; omega
  ·rcases hg with hg | ⟨i,hi,hg⟩
   ·have := (World.ownsRow.lt hk3.outer g hg).2; omega
   ·have := (hk3.row i hi).1.lt; omega
theorem Z8k (h : MkW w wr A s sv cv ns nc l1 l2) (u v : Value) : ((wr.setCell ⟨w.heap.size + 2,7,none⟩ u).cell? ⟨w.heap.size,7,none⟩ = some (.slice A.ca A.cn A.cc) ∧ (wr.setCell ⟨w.heap.size + 2,7,none⟩ u).cell? ⟨w.heap.size,8,none⟩ = some (.slice A.ta A.tn A.tc)) ∧
  (((wr.setCell ⟨w.heap.size + 2,7,none⟩ u).setCell ⟨w.heap.size + 2,8,none⟩ v).cell? ⟨w.heap.size,7,none⟩ = some (.slice A.ca A.cn A.cc) ∧ ((wr.setCell ⟨w.heap.size + 2,7,none⟩ u).setCell ⟨w.heap.size + 2,8,none⟩ v).cell? ⟨w.heap.size,8,none⟩ = some (.slice A.ta A.tn A.tc)) := by
 have h1 : (wr.setCell ⟨w.heap.size + 2,7,none⟩ u).heap[w.heap.size]? = _ := (heap_setCell_other _ _ _ _ (fun e => by have e2 : w.heap.size = w.heap.size + 2 := e; omega)).trans h.sm
 have h2 : ((wr.setCell ⟨w.heap.size + 2,7,none⟩ u).setCell ⟨w.heap.size + 2,8,none⟩ v).heap[w.heap.size]? = _ := (heap_setCell_other _ _ _ _ (fun e => by have e2 : w.heap.size = w.heap.size + 2 := e; omega)).trans h1
 exact ⟨by simp [World.cell?,h1],by simp [World.cell?,h2]⟩
theorem OwnIns.set_ {B N C D b i : Nat} {A : InA} {x : Ins} {VK VT : Nat → Nat} {LK LT : Nat → Nat → Int} {u : Value} (h : OwnIns B w A x N C D VK VT LK LT) (hb : b < B) : OwnIns B (w.setCell ⟨b,i,none⟩ u) A x N C D VK VT LK LT := by
 have h1 := h.bc; have h2 := h.cd; exact ⟨ownsRow_setCell_other h.sats (fun e => by have h9 : B ≤ b := (World.ownsRow.lt h.sats _ e).1; omega) _,ownsRow_setCell_other h.cus (fun e => by have h9 : B ≤ b := (World.ownsRow.lt h.cus _ e).1; omega) _,h.cost.set_ (by omega),h.time.set_ (by omega),h.ck,h.tk,h.nl,h.ap,h.sb,h.kb,h.bc,h.cd⟩
def Z7e (w : World) (r : Nat) (y0 y1 y2 y3 y4 y5 y6 y7 y8 : Value) : World := ((((((((w.setCell ⟨r,0,none⟩ y0).setCell ⟨r,1,none⟩ y1).setCell ⟨r,2,none⟩ y2).setCell ⟨r,3,none⟩ y3).setCell ⟨r,4,none⟩ y4).setCell ⟨r,5,none⟩ y5).setCell ⟨r,6,none⟩ y6).setCell ⟨r,7,none⟩ y7).setCell ⟨r,8,none⟩ y8
variable {y0 y1 y2 y3 y4 y5 y6 y7 y8 u0 u1 u2 u3 u4 u5 u6 u7 u8 : Value} {r : Nat} {T : TypeId}
theorem Z7f (h : w.heap[r]? = some (.cells #[u0,u1,u2,u3,u4,u5,u6,u7,u8] T (0,0))) : (Z7e w r y0 y1 y2 y3 y4 y5 y6 y7 y8).heap[r]? = some (.cells #[y0,y1,y2,y3,y4,y5,y6,y7,y8] T (0,0)) := by
 unfold Z7e; obtain ⟨w0_,e0⟩ : ∃ x,w.setCell ⟨r,0,none⟩ y0 = x := ⟨_,rfl⟩; have h0 : w0_.heap[r]? = some (.cells #[y0,u1,u2,u3,u4,u5,u6,u7,u8] T (0,0)) := by rw [← e0]; exact heap_setCell_same w r 0 _ _ y0 h
 rw [e0]; clear e0; obtain ⟨w1_,e1⟩ : ∃ x,w0_.setCell ⟨r,1,none⟩ y1 = x := ⟨_,rfl⟩; have h1 : w1_.heap[r]? = some (.cells #[y0,y1,u2,u3,u4,u5,u6,u7,u8] T (0,0)) := by rw [← e1]; exact heap_setCell_same w0_ r 1 _ _ y1 h0
 rw [e1]; clear e1; obtain ⟨w2_,e2⟩ : ∃ x,w1_.setCell ⟨r,2,none⟩ y2 = x := ⟨_,rfl⟩; have h2 : w2_.heap[r]? = some (.cells #[y0,y1,y2,u3,u4,u5,u6,u7,u8] T (0,0)) := by rw [← e2]; exact heap_setCell_same w1_ r 2 _ _ y2 h1
 rw [e2]; clear e2; obtain ⟨w3_,e3⟩ : ∃ x,w2_.setCell ⟨r,3,none⟩ y3 = x := ⟨_,rfl⟩; have h3 : w3_.heap[r]? = some (.cells #[y0,y1,y2,y3,u4,u5,u6,u7,u8] T (0,0)) := by rw [← e3]; exact heap_setCell_same w2_ r 3 _ _ y3 h2
 rw [e3]; clear e3; obtain ⟨w4_,e4⟩ : ∃ x,w3_.setCell ⟨r,4,none⟩ y4 = x := ⟨_,rfl⟩; have h4 : w4_.heap[r]? = some (.cells #[y0,y1,y2,y3,y4,u5,u6,u7,u8] T (0,0)) := by rw [← e4]; exact heap_setCell_same w3_ r 4 _ _ y4 h3
 rw [e4]; clear e4; obtain ⟨w5_,e5⟩ : ∃ x,w4_.setCell ⟨r,5,none⟩ y5 = x := ⟨_,rfl⟩; have h5 : w5_.heap[r]? = some (.cells #[y0,y1,y2,y3,y4,y5,u6,u7,u8] T (0,0)) := by rw [← e5]; exact heap_setCell_same w4_ r 5 _ _ y5 h4
 rw [e5]; clear e5; obtain ⟨w6_,e6⟩ : ∃ x,w5_.setCell ⟨r,6,none⟩ y6 = x := ⟨_,rfl⟩; have h6 : w6_.heap[r]? = some (.cells #[y0,y1,y2,y3,y4,y5,y6,u7,u8] T (0,0)) := by rw [← e6]; exact heap_setCell_same w5_ r 6 _ _ y6 h5
 rw [e6]; clear e6; obtain ⟨w7_,e7⟩ : ∃ x,w6_.setCell ⟨r,7,none⟩ y7 = x := ⟨_,rfl⟩; have h7 : w7_.heap[r]? = some (.cells #[y0,y1,y2,y3,y4,y5,y6,y7,u8] T (0,0)) := by rw [← e7]; exact heap_setCell_same w6_ r 7 _ _ y7 h6
 rw [e7]; clear e7; obtain ⟨w8_,e8⟩ : ∃ x,w7_.setCell ⟨r,8,none⟩ y8 = x := ⟨_,rfl⟩; have h8 : w8_.heap[r]? = some (.cells #[y0,y1,y2,y3,y4,y5,y6,y7,y8] T (0,0)) := by rw [← e8]; exact heap_setCell_same w7_ r 8 _ _ y8 h7
 rw [e8]; clear e8; exact h8
theorem Z53 {B : Nat} (h : Below B w wr) (hr : B ≤ r) : Below B w (Z7e wr r y0 y1 y2 y3 y4 y5 y6 y7 y8) :=
 ((((((((h.setCell (p := ⟨r,0,none⟩) hr _).setCell (p := ⟨r,1,none⟩) hr _).setCell (p := ⟨r,2,none⟩) hr _).setCell (p := ⟨r,3,none⟩) hr _).setCell (p := ⟨r,4,none⟩) hr _).setCell (p := ⟨r,5,none⟩) hr _).setCell (p := ⟨r,6,none⟩) hr _).setCell (p := ⟨r,7,none⟩) hr _).setCell (p := ⟨r,8,none⟩) hr _
theorem Z7g {B N C D : Nat} {A : InA} {x : Ins} {VK VT : Nat → Nat} {LK LT : Nat → Nat → Int} (h : OwnIns B w A x N C D VK VT LK LT) (hb : r < B) : OwnIns B (Z7e w r y0 y1 y2 y3 y4 y5 y6 y7 y8) A x N C D VK VT LK LT :=
 ((((((((h.set_ hb).set_ hb).set_ hb).set_ hb).set_ hb).set_ hb).set_ hb).set_ hb).set_ hb
theorem Z1f (h : w.heap[r]? = some (.cells #[y0,y1,y2,y3,y4,y5,y6,y7,y8] T (0,0))) : w.cell? ⟨r,0,none⟩ = some y0 ∧ w.cell? ⟨r,1,none⟩ = some y1 ∧ w.cell? ⟨r,2,none⟩ = some y2 ∧ w.cell? ⟨r,3,none⟩ = some y3 ∧ w.cell? ⟨r,4,none⟩ = some y4 ∧ w.cell? ⟨r,5,none⟩ = some y5 ∧ w.cell? ⟨r,6,none⟩ = some y6 ∧ w.cell? ⟨r,7,none⟩ = some y7 ∧ w.cell? ⟨r,8,none⟩ = some y8 ∧ ∀ k,w.frozen? ⟨r,k,none⟩ = false :=
 ⟨by simp [World.cell?,h],by simp [World.cell?,h],by simp [World.cell?,h],by simp [World.cell?,h],by simp [World.cell?,h],by simp [World.cell?,h],by simp [World.cell?,h],by simp [World.cell?,h],by simp [World.cell?,h],fun k => by simp [World.frozen?,h]⟩
end Go.Proofs.YtfkommjlmolniaaGreatDoor
end

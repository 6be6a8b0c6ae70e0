/- Joined: WBegun. -/
import Derived.Test.YtfkommjlmolniaaGreatDoorHsWMade
import Derived.Deep.Cut
import Derived.Deep.RegionHeld3
import Derived.StillTailTactics
import Derived.Deep.LoopGhost
import Derived.Maps.RangeWalk
import Derived.Test.YtfkommjlmolniaaGreatDoorHd6
set_option linter.unusedVariables false
section

namespace Go.Proofs.YtfkommjlmolniaaGreatDoor
set_option maxHeartbeats 16000000
set_option maxRecDepth 100000
open Go.Lib (hid)
open Go.RowKit
variable {w wr w2 : World} {a : Option Addr} {len cap lb p N s t k v : Nat} {l : List Pi} {far : Nat → Int} {L : Nat → List La} {V : Nat → Value}
theorem Z6o {p : Prop} {F G : World → Nat → Prop} (h1 : (∀ v g0,F v g0 → G v g0) → p) (h2 : ∀ v g0,F v g0 → G v g0) : p := h1 h2
theorem Z4k {p : Prop} {F G : World → Nat → Nat → Prop} (h1 : (∀ v g0 g1,F v g0 g1 → G v g0 g1) → p) (h2 : ∀ v g0 g1,F v g0 g1 → G v g0 g1) : p := h1 h2
theorem BWm.to {w w2 wr : World} {p lb N s t len cap : Nat} {a : Option Addr} {o o2 : Nat → Option Nat} {c c2 : Nat → Value} (h : BWm w w2 wr p lb N s t len cap a o c)
  (ho : ∀ j,o j = o2 j := by intro j; first | rfl | (simp only [putO,putC] <;> (repeat' split) <;> first | rfl | (exfalso; omega)))
  (hc : ∀ j,c j = c2 j := by intro j; first | rfl | (simp only [putO,putC] <;> (repeat' split) <;> first | rfl | (exfalso; omega))) : BWm w w2 wr p lb N s t len cap a o2 c2 := h.congr ho hc
theorem Ze7 {p : Prop} {F G : World → Nat → Nat → Nat → Prop} (h1 : (∀ v g0 g1 g2,F v g0 g1 g2 → G v g0 g1 g2) → p) (h2 : ∀ v g0 g1 g2,F v g0 g1 g2 → G v g0 g1 g2) : p := h1 h2
theorem Zb9 : (Tryz.prog.info? 2).map (fun i => (i.zero,i.size,i.bytes)) = some (some (.int .i64 0),1,8) := by kernel_rfl
theorem Ze8 : (Tryz.prog.info? 3).map (fun i => (i.zero,i.size,i.bytes)) = some (some (.int .i64 0),1,8) := by kernel_rfl
theorem Zjg : (Tryz.prog.info? 37).map (fun i => (i.zero,i.size,i.bytes)) = some (some (.slice none 0 0),1,24) := by kernel_rfl
theorem Z0h {P : Program} {md : Region.Mode} {ops : Array Oper} {Q : Exit → Act → World → Prop} {S : World → Prop} (i : Nat) {oi : Oper} {v : Value} {fuel : Nat} {listed : Array Bool} {a : Act} {w : World} (hS : S w) (h : wpAnyH P md ops Q S fuel (listed.setIfInBounds i true) (a.put oi.dst v) w) (hi : ops[i]? = some oi := by exact rfl) (hs : Region.noSelect ops = true := by kernel_rfl) (hf : Region.free md ops listed i = true := by kernel_rfl) (hr : (Region.ready md ops listed).contains i = true := by kernel_rfl) (hQ : ∀ c a w,Q (.panic c) (a.put oi.dst v) w → Q (.panic c) a w := by exact fun _ _ _ h => h) (hw : Region.wanted oi (yielded ops a.tmps) = true := by rfl) (y : ∀ w,S w → (execOp a.eval oi).run P w = .ok (.value v) w := by intro W0 hW; obtain ⟨hW1,hW2⟩ := hW; go_simp; (try with_reducible rfl)) : wpAnyH P md ops Q S (fuel + 1) listed a w := stpT i hS h hi hs hf hr hQ hw y
theorem Z0b {P : Program} {md : Region.Mode} {ops : Array Oper} {Q : Exit → Act → World → Prop} {S : World → Prop} (i : Nat) {oi : Oper} {v : Value} {fuel : Nat} {listed : Array Bool} {a : Act} {w : World} (hS : S w) (h : wpAnyH P md ops Q S fuel (listed.setIfInBounds i true) (a.put oi.dst v) w) (hi : ops[i]? = some oi := by exact rfl) (hs : Region.noSelect ops = true := by kernel_rfl) (hf : Region.free md ops listed i = true := by kernel_rfl) (hr : (Region.ready md ops listed).contains i = true := by kernel_rfl) (hQ : ∀ c a w,Q (.panic c) (a.put oi.dst v) w → Q (.panic c) a w := by exact fun _ _ _ h => h) (hw : Region.wanted oi (yielded ops a.tmps) = true := by rfl) (y : ∀ w,S w → (execOp a.eval oi).run P w = .ok (.value v) w := by intro W0 hW; go_simp; (try with_reducible rfl)) : wpAnyH P md ops Q S (fuel + 1) listed a w := stpT i hS h hi hs hf hr hQ hw y
theorem Zga (N s t len cap : Nat) (l : List Pi) (a : Option Addr) (w : World) (he : endsP (N : Int) l (s : Int) (t : Int) = 0) (hl : IsPipes w.heap.size w a len l) :
  Calls Tryz.prog 75 #[.agg #[.int .i64 (N : Int),.slice a len cap],.int .i64 (s : Int),.int .i64 (t : Int)] w fun e w' => ∃ E fl hi nx fv Q top,e = .returned (.pointer (some ⟨E.p,0,none⟩)) ∧ E.N = N ∧ E.s = s ∧ E.t = t ∧ E.l = l ∧ E.len = len ∧ E.Net ∧ Below w.heap.size w w' ∧ w.heap.size ≤ E.C ∧
   Wk E fl (exc E fl) hi nx (cnt E.N hi) fv Q top w' ∧ PRE E fl hi nx ∧ Que E (exc E fl) Q top E.N := by
 obtain ⟨hck,hs,ht,hst⟩ := endsP_zero.1 he; obtain ⟨⟨_,hN,hll⟩,hok⟩ := checkP_zero.1 hck; have hN2 : N ≤ 1000 := by omega
 have hlen : len ≤ 20000 := by have := hl.1; omega
 have hsN : s < N := by omega
 have htN : t < N := by omega
 have hmk1 := run_make_row' (P := Tryz.prog) 56 2 (.int .i64 0) 8 Tryz.underlying56 Zb9 rfl .i64 .i64 len (by omega) (by omega)
 have hmk2 := run_make_row' (P := Tryz.prog) 56 2 (.int .i64 0) 8 Tryz.underlying56 Zb9 rfl .i64 .i64 N (by omega) (by omega)
 have hmk3 := run_make_row' (P := Tryz.prog) 37 3 (.int .i64 0) 8 Tryz.underlying37 Ze8 rfl .i64 .i64 N (by omega) (by omega)
 have hmk4 := run_make_row' (P := Tryz.prog) 37 3 (.int .i64 0) 8 Tryz.underlying37 Ze8 rfl .i64 .i64 (2 * N) (by omega) (by omega)
 have hmk5 := run_make_row' (P := Tryz.prog) 135 37 (.slice none 0 0) 24 Tryz.underlying135 Zjg rfl .i64 .i64 (2 * N) (by omega) (by omega)
 have e2N : IntKind.i64.wrap (2 * (N : Int)) = 2 * (N : Int) := by rw [IntKind.wrap_i64]; omega
 have e2N2 : ((2 * N : Nat) : Int) = 2 * (N : Int) := by omega
 rw [e2N2] at hmk4 hmk5; have HN := hid hN2; have HLN := hid hlen; have HBX := hid (NBox.make (Below.refl _ w) (N : Int) a len cap); have HBX1 := hid (HBX.out.later (Below.refl _ _).drew); have HLA := hid (Z79 N hN2 hlen hok a cap _ (HBX1.out.pipesHere hl)); have HL := hid hl; have HOK := hid hok; have HLn : Hid (l.length = len) := hid hl.1; have HLO := hid (Z78 hok); have HST : Hid (s ≠ t) := hid (by omega)
 clear he hck hl hok hll hN hs ht hst; go_enter Tryz.func75,Tryz.ntmps75
 go_wp2_with fail
 refine wp_region_held_drew (S := fun W => W.cell? ⟨w.heap.size,0,none⟩ = some (.int .i64 (N : Int)) ∧ W.cell? ⟨w.heap.size,1,none⟩ = some (.slice a len cap)) (by kernel_rfl) ⟨HBX1.out.c0,HBX1.out.c1⟩ (fun hHeld => ?_)
 refine Z0h 0 hHeld ?_; try simp only [Act.put,layT]
 refine Z0h 1 hHeld ?_; try simp only [Act.put,layT]
 refine Z0h 2 hHeld ?_; try simp only [Act.put,layT]
 refine Z0h 3 hHeld ?_; try simp only [Act.put,layT]
 refine stpR 4 (fun K hK => ?_); go_simp; refine HLA.out.mono ?_; rintro e w2 ⟨Lb,V,rfl,hadj,hb2⟩; have HAD := hid hadj; have HBX2 := hid (HBX1.out.later hb2); clear hadj hb2; go_wp2_with fail; refine hK.out _ _ ?_ (fun hHeld => ?_)
 ·exact ⟨HBX2.out.c0,HBX2.out.c1⟩
 clear hK K; try simp only [Act.put,layT]
 refine Z0h 5 hHeld ?_; try simp only [Act.put,layT]
 refine stpR 6 (fun K hK => ?_); go_simp; have HBX3 := hid (HBX2.out.alloc (.cells #[.int .i64 (N : Int),.slice a len cap,.int .i64 (s : Int),.int .i64 (t : Int),.slice (some ⟨Lb,0,none⟩) N N,.slice none 0 0,.slice none 0 0,.slice none 0 0,.slice none 0 0,.slice none 0 0,.slice none 0 0,.int .i64 0] 137)); refine hK.out _ _ ?_ (fun hHeld => ?_)
 ·exact ⟨HBX3.out.c0,HBX3.out.c1⟩
 clear hK K; try simp only [Act.put,layT]
 refine Z0b 7 hHeld ?_; try simp only [Act.put,layT]
 refine wpAnyH_done (by kernel_rfl) ?_ _
 clear hHeld; have HB0 : Hid (BWm w w2 (w2.alloc (.cells #[.int .i64 (N : Int),.slice a len cap,.int .i64 (s : Int),.int .i64 (t : Int),.slice (some ⟨Lb,0,none⟩) N N,.slice none 0 0,.slice none 0 0,.slice none 0 0,.slice none 0 0,.slice none 0 0,.slice none 0 0,.int .i64 0] 137)) w2.heap.size Lb N s t len cap a (fun _ => none) (fun _ => .slice none 0 0)) := hid ⟨HBX3.out,(Below.refl _ _).alloc (Nat.le_refl _) _,HBX2.out.lt,heap_alloc_new _ _,fun i b h => (nomatch h),fun i j b _ h => (nomatch h)⟩; obtain ⟨p,hp⟩ : ∃ p,w2.heap.size = p := ⟨_,rfl⟩; have HP := hid hp; obtain ⟨w3,hw3⟩ : ∃ w3,w2.alloc (.cells #[.int .i64 (N : Int),.slice a len cap,.int .i64 (s : Int),.int .i64 (t : Int),.slice (some ⟨Lb,0,none⟩) N N,.slice none 0 0,.slice none 0 0,.slice none 0 0,.slice none 0 0,.slice none 0 0,.slice none 0 0,.int .i64 0] 137) = w3 := ⟨_,rfl⟩; rw [hp,hw3] at HB0; rw [hp,hw3]; clear hp hw3 HBX1 HBX2 HBX3 HLA; go_wp2_with fail
 go_cut [] from 13 (fun wx => ∃ fb sb nb,BWm w w2 wx p Lb N s t len cap a (fun j => if j = 0 then some fb else if j = 1 then some sb else if j = 2 then some nb else none) (fun j => if j = 0 then .slice (some ⟨fb,0,none⟩) len len else if j = 1 then .slice (some ⟨sb,0,none⟩) N N else if j = 2 then .slice (some ⟨nb,0,none⟩) N N else .slice none 0 0))
 case first =>
  have HBd := hid HB0.out.drew; refine wp_region_held_drew (S := fun W => W.cell? ⟨w.heap.size,0,none⟩ = some (.int .i64 (N : Int)) ∧ W.cell? ⟨w.heap.size,1,none⟩ = some (.slice a len cap)) (by kernel_rfl) HBd.out.two (fun hHeld => ?_)
  obtain ⟨wz,hwz⟩ : ∃ wz,World.drew w3 = wz := ⟨_,rfl⟩; rw [hwz] at HBd hHeld ⊢; clear hwz; refine Z0h 0 hHeld ?_; try simp only [Act.put,layT]
  refine Z0h 1 hHeld ?_; try simp only [Act.put,layT]
  refine Z0h 2 hHeld ?_; try simp only [Act.put,layT]
  refine Z0h 3 hHeld ?_; try simp only [Act.put,layT]
  refine Z0h 4 hHeld ?_; try simp only [Act.put,layT]
  refine Z0h 5 hHeld ?_; try simp only [Act.put,layT]
  refine Z0h 7 hHeld ?_; try simp only [Act.put,layT]
  refine Z0h 8 hHeld ?_; try simp only [Act.put,layT]
  refine Z0h 10 hHeld ?_; try simp only [Act.put,layT]
  refine Z0h 11 hHeld ?_; try simp only [Act.put,layT]
  apply Ze7 (F := fun v fb sb nb => Hid (BWm w w2 v p Lb N s t len cap a (fun j => if j = 0 then some fb else if j = 1 then some sb else if j = 2 then some nb else none) (fun j => if j = 0 then .slice (some ⟨fb,0,none⟩) len len else if j = 1 then .slice (some ⟨sb,0,none⟩) N N else if j = 2 then .slice (some ⟨nb,0,none⟩) N N else .slice none 0 0)))
  intro T6_9_12_15_18_21; apply Ze7 (F := fun v fb sb nb => Hid (BWm w w2 v p Lb N s t len cap a (fun j => if j = 0 then some fb else if j = 1 then some sb else if j = 2 then some nb else none) (fun j => if j = 0 then .slice (some ⟨fb,0,none⟩) len len else if j = 1 then .slice (some ⟨sb,0,none⟩) N N else .slice none 0 0)))
  intro T6_9_12_15_18; apply Z4k (F := fun v fb sb => Hid (BWm w w2 v p Lb N s t len cap a (fun j => if j = 0 then some fb else if j = 1 then some sb else none) (fun j => if j = 0 then .slice (some ⟨fb,0,none⟩) len len else if j = 1 then .slice (some ⟨sb,0,none⟩) N N else .slice none 0 0)))
  intro T6_9_15_18; apply Ze7 (F := fun v fb sb nb => Hid (BWm w w2 v p Lb N s t len cap a (fun j => if j = 0 then some fb else if j = 1 then some sb else if j = 2 then some nb else none) (fun j => if j = 0 then .slice (some ⟨fb,0,none⟩) len len else .slice none 0 0)))
  intro T6_9_12_15; apply Z4k (F := fun v fb nb => Hid (BWm w w2 v p Lb N s t len cap a (fun j => if j = 0 then some fb else if j = 2 then some nb else none) (fun j => if j = 0 then .slice (some ⟨fb,0,none⟩) len len else .slice none 0 0)))
  intro T6_12_15; apply Z4k (F := fun v fb sb => Hid (BWm w w2 v p Lb N s t len cap a (fun j => if j = 0 then some fb else if j = 1 then some sb else none) (fun j => if j = 0 then .slice (some ⟨fb,0,none⟩) len len else .slice none 0 0)))
  intro T6_9_15; apply Ze7 (F := fun v fb sb nb => Hid (BWm w w2 v p Lb N s t len cap a (fun j => if j = 0 then some fb else if j = 1 then some sb else if j = 2 then some nb else none) (fun _ => .slice none 0 0)))
  intro T6_9_12; apply Z4k (F := fun v sb nb => Hid (BWm w w2 v p Lb N s t len cap a (fun j => if j = 1 then some sb else if j = 2 then some nb else none) (fun _ => .slice none 0 0)))
  intro T9_12; apply Z6o (F := fun v fb => Hid (BWm w w2 v p Lb N s t len cap a (fun j => if j = 0 then some fb else none) (fun j => if j = 0 then .slice (some ⟨fb,0,none⟩) len len else .slice none 0 0)))
  intro T6_15; apply Z4k (F := fun v fb nb => Hid (BWm w w2 v p Lb N s t len cap a (fun j => if j = 0 then some fb else if j = 2 then some nb else none) (fun _ => .slice none 0 0)))
  intro T6_12; apply Z4k (F := fun v fb sb => Hid (BWm w w2 v p Lb N s t len cap a (fun j => if j = 0 then some fb else if j = 1 then some sb else none) (fun _ => .slice none 0 0)))
  intro T6_9; apply Z6o (F := fun v nb => Hid (BWm w w2 v p Lb N s t len cap a (fun j => if j = 2 then some nb else none) (fun _ => .slice none 0 0)))
  intro T12; apply Z6o (F := fun v sb => Hid (BWm w w2 v p Lb N s t len cap a (fun j => if j = 1 then some sb else none) (fun _ => .slice none 0 0)))
  intro T9; apply Z6o (F := fun v fb => Hid (BWm w w2 v p Lb N s t len cap a (fun j => if j = 0 then some fb else none) (fun _ => .slice none 0 0)))
  intro T6; refine wpAnyH_ready (rs := [6,9,12]) (by kernel_rfl) (by simp) ?_
  refine AllReadyH.cons rfl (fun K hK => ?_) (AllReadyH.cons rfl (fun K hK => ?_) (AllReadyH.cons rfl (fun K hK => ?_) AllReadyH.nil))
  ·go_simp
   have HBn : Hid (BWm w w2 (wz.alloc (.cells (madeCells #[.int .i64 0] len) 2)) p Lb N s t len cap a (putO _ 0 wz.heap.size) _) := hid (HBd.out.mk_ 0); refine hK.out _ _ ?_ (fun hHeld => ?_)
   ·exact HBn.out.two
   clear hK K; try simp only [Act.put,layT]
   obtain ⟨fb,hfb⟩ : ∃ b,wz.heap.size = b := ⟨_,rfl⟩; obtain ⟨vn,hvn⟩ : ∃ W9,wz.alloc (.cells (madeCells #[.int .i64 0] len) 2) = W9 := ⟨_,rfl⟩; rw [hfb,hvn] at HBn; rw [hvn] at hHeld; rw [hfb,hvn]; clear hfb hvn; refine Z0b 13 hHeld ?_; try simp only [Act.put,layT]
   refine Z0b 14 hHeld ?_; try simp only [Act.put,layT]
   exact T6 vn fb (hid HBn.out.to)
  ·go_simp
   have HBn : Hid (BWm w w2 (wz.alloc (.cells (madeCells #[.int .i64 0] N) 2)) p Lb N s t len cap a (putO _ 1 wz.heap.size) _) := hid (HBd.out.mk_ 1); refine hK.out _ _ ?_ (fun hHeld => ?_)
   ·exact HBn.out.two
   clear hK K; try simp only [Act.put,layT]
   obtain ⟨sb,hsb⟩ : ∃ b,wz.heap.size = b := ⟨_,rfl⟩; obtain ⟨vn,hvn⟩ : ∃ W9,wz.alloc (.cells (madeCells #[.int .i64 0] N) 2) = W9 := ⟨_,rfl⟩; rw [hsb,hvn] at HBn; rw [hvn] at hHeld; rw [hsb,hvn]; clear hsb hvn; exact T9 vn sb (hid HBn.out.to)
  ·go_simp
   have HBn : Hid (BWm w w2 (wz.alloc (.cells (madeCells #[.int .i64 0] N) 3)) p Lb N s t len cap a (putO _ 2 wz.heap.size) _) := hid (HBd.out.mk_ 2); refine hK.out _ _ ?_ (fun hHeld => ?_)
   ·exact HBn.out.two
   clear hK K; try simp only [Act.put,layT]
   obtain ⟨nb,hnb⟩ : ∃ b,wz.heap.size = b := ⟨_,rfl⟩; obtain ⟨vn,hvn⟩ : ∃ W9,wz.alloc (.cells (madeCells #[.int .i64 0] N) 3) = W9 := ⟨_,rfl⟩; rw [hnb,hvn] at HBn; rw [hvn] at hHeld; rw [hnb,hvn]; clear hnb hvn; exact T12 vn nb (hid HBn.out.to)
  ·rintro v fb HB2
   have hHeld := HB2.out.two; refine wpAnyH_ready (rs := [9,12,15]) (by kernel_rfl) (by simp) ?_
   refine AllReadyH.cons rfl (fun K hK => ?_) (AllReadyH.cons rfl (fun K hK => ?_) (AllReadyH.cons rfl (fun K hK => ?_) AllReadyH.nil))
   ·go_simp
    have HBn : Hid (BWm w w2 (v.alloc (.cells (madeCells #[.int .i64 0] N) 2)) p Lb N s t len cap a (putO _ 1 v.heap.size) _) := hid (HB2.out.mk_ 1); refine hK.out _ _ ?_ (fun hHeld => ?_)
    ·exact HBn.out.two
    clear hK K; try simp only [Act.put,layT]
    obtain ⟨sb,hsb⟩ : ∃ b,v.heap.size = b := ⟨_,rfl⟩; obtain ⟨vn,hvn⟩ : ∃ W9,v.alloc (.cells (madeCells #[.int .i64 0] N) 2) = W9 := ⟨_,rfl⟩; rw [hsb,hvn] at HBn; rw [hvn] at hHeld; rw [hsb,hvn]; clear hsb hvn; exact T6_9 vn fb sb (hid HBn.out.to)
   ·go_simp
    have HBn : Hid (BWm w w2 (v.alloc (.cells (madeCells #[.int .i64 0] N) 3)) p Lb N s t len cap a (putO _ 2 v.heap.size) _) := hid (HB2.out.mk_ 2); refine hK.out _ _ ?_ (fun hHeld => ?_)
    ·exact HBn.out.two
    clear hK K; try simp only [Act.put,layT]
    obtain ⟨nb,hnb⟩ : ∃ b,v.heap.size = b := ⟨_,rfl⟩; obtain ⟨vn,hvn⟩ : ∃ W9,v.alloc (.cells (madeCells #[.int .i64 0] N) 3) = W9 := ⟨_,rfl⟩; rw [hnb,hvn] at HBn; rw [hvn] at hHeld; rw [hnb,hvn]; clear hnb hvn; exact T6_12 vn fb nb (hid HBn.out.to)
   ·obtain ⟨c5,c6,c9,c8,c10,_,f5,f6,f9,f8,f10,_⟩ := HB2.out.cells
    go_simp; clear c5 c6 c9 c8 c10 f5 f6 f9 f8 f10; have HBn := hid (HB2.out.st0 (.slice (some ⟨fb,0,none⟩) len len)); refine hK.out _ _ ?_ (fun hHeld => ?_)
    ·exact HBn.out.two
    clear hK K; try simp only [Act.put,layT]
    obtain ⟨vn,hvn⟩ : ∃ W9,v.setCell ⟨p,5,none⟩ (.slice (some ⟨fb,0,none⟩) len len) = W9 := ⟨_,rfl⟩; rw [hvn] at HBn hHeld ⊢; clear hvn; exact T6_15 vn fb (hid HBn.out.to)
  ·rintro v sb HB2
   have hHeld := HB2.out.two; refine wpAnyH_ready (rs := [6,12]) (by kernel_rfl) (by simp) ?_
   refine AllReadyH.cons rfl (fun K hK => ?_) (AllReadyH.cons rfl (fun K hK => ?_) AllReadyH.nil)
   ·go_simp
    have HBn : Hid (BWm w w2 (v.alloc (.cells (madeCells #[.int .i64 0] len) 2)) p Lb N s t len cap a (putO _ 0 v.heap.size) _) := hid (HB2.out.mk_ 0); refine hK.out _ _ ?_ (fun hHeld => ?_)
    ·exact HBn.out.two
    clear hK K; try simp only [Act.put,layT]
    obtain ⟨fb,hfb⟩ : ∃ b,v.heap.size = b := ⟨_,rfl⟩; obtain ⟨vn,hvn⟩ : ∃ W9,v.alloc (.cells (madeCells #[.int .i64 0] len) 2) = W9 := ⟨_,rfl⟩; rw [hfb,hvn] at HBn; rw [hvn] at hHeld; rw [hfb,hvn]; clear hfb hvn; refine Z0b 13 hHeld ?_; try simp only [Act.put,layT]
    refine Z0b 14 hHeld ?_; try simp only [Act.put,layT]
    exact T6_9 vn fb sb (hid HBn.out.to)
   ·go_simp
    have HBn : Hid (BWm w w2 (v.alloc (.cells (madeCells #[.int .i64 0] N) 3)) p Lb N s t len cap a (putO _ 2 v.heap.size) _) := hid (HB2.out.mk_ 2); refine hK.out _ _ ?_ (fun hHeld => ?_)
    ·exact HBn.out.two
    clear hK K; try simp only [Act.put,layT]
    obtain ⟨nb,hnb⟩ : ∃ b,v.heap.size = b := ⟨_,rfl⟩; obtain ⟨vn,hvn⟩ : ∃ W9,v.alloc (.cells (madeCells #[.int .i64 0] N) 3) = W9 := ⟨_,rfl⟩; rw [hnb,hvn] at HBn; rw [hvn] at hHeld; rw [hnb,hvn]; clear hnb hvn; exact T9_12 vn sb nb (hid HBn.out.to)
  ·rintro v nb HB2
   have hHeld := HB2.out.two; refine wpAnyH_ready (rs := [6,9]) (by kernel_rfl) (by simp) ?_
   refine AllReadyH.cons rfl (fun K hK => ?_) (AllReadyH.cons rfl (fun K hK => ?_) AllReadyH.nil)
   ·go_simp
    have HBn : Hid (BWm w w2 (v.alloc (.cells (madeCells #[.int .i64 0] len) 2)) p Lb N s t len cap a (putO _ 0 v.heap.size) _) := hid (HB2.out.mk_ 0); refine hK.out _ _ ?_ (fun hHeld => ?_)
    ·exact HBn.out.two
    clear hK K; try simp only [Act.put,layT]
    obtain ⟨fb,hfb⟩ : ∃ b,v.heap.size = b := ⟨_,rfl⟩; obtain ⟨vn,hvn⟩ : ∃ W9,v.alloc (.cells (madeCells #[.int .i64 0] len) 2) = W9 := ⟨_,rfl⟩; rw [hfb,hvn] at HBn; rw [hvn] at hHeld; rw [hfb,hvn]; clear hfb hvn; refine Z0b 13 hHeld ?_; try simp only [Act.put,layT]
    refine Z0b 14 hHeld ?_; try simp only [Act.put,layT]
    exact T6_12 vn fb nb (hid HBn.out.to)
   ·go_simp
    have HBn : Hid (BWm w w2 (v.alloc (.cells (madeCells #[.int .i64 0] N) 2)) p Lb N s t len cap a (putO _ 1 v.heap.size) _) := hid (HB2.out.mk_ 1); refine hK.out _ _ ?_ (fun hHeld => ?_)
    ·exact HBn.out.two
    clear hK K; try simp only [Act.put,layT]
    obtain ⟨sb,hsb⟩ : ∃ b,v.heap.size = b := ⟨_,rfl⟩; obtain ⟨vn,hvn⟩ : ∃ W9,v.alloc (.cells (madeCells #[.int .i64 0] N) 2) = W9 := ⟨_,rfl⟩; rw [hsb,hvn] at HBn; rw [hvn] at hHeld; rw [hsb,hvn]; clear hsb hvn; exact T9_12 vn sb nb (hid HBn.out.to)
  ·rintro v fb sb HB2
   have hHeld := HB2.out.two; refine wpAnyH_ready (rs := [12,15]) (by kernel_rfl) (by simp) ?_
   refine AllReadyH.cons rfl (fun K hK => ?_) (AllReadyH.cons rfl (fun K hK => ?_) AllReadyH.nil)
   ·go_simp
    have HBn : Hid (BWm w w2 (v.alloc (.cells (madeCells #[.int .i64 0] N) 3)) p Lb N s t len cap a (putO _ 2 v.heap.size) _) := hid (HB2.out.mk_ 2); refine hK.out _ _ ?_ (fun hHeld => ?_)
    ·exact HBn.out.two
    clear hK K; try simp only [Act.put,layT]
    obtain ⟨nb,hnb⟩ : ∃ b,v.heap.size = b := ⟨_,rfl⟩; obtain ⟨vn,hvn⟩ : ∃ W9,v.alloc (.cells (madeCells #[.int .i64 0] N) 3) = W9 := ⟨_,rfl⟩; rw [hnb,hvn] at HBn; rw [hvn] at hHeld; rw [hnb,hvn]; clear hnb hvn; exact T6_9_12 vn fb sb nb (hid HBn.out.to)
   ·obtain ⟨c5,c6,c9,c8,c10,_,f5,f6,f9,f8,f10,_⟩ := HB2.out.cells
    go_simp; clear c5 c6 c9 c8 c10 f5 f6 f9 f8 f10; have HBn := hid (HB2.out.st0 (.slice (some ⟨fb,0,none⟩) len len)); refine hK.out _ _ ?_ (fun hHeld => ?_)
    ·exact HBn.out.two
    clear hK K; try simp only [Act.put,layT]
    obtain ⟨vn,hvn⟩ : ∃ W9,v.setCell ⟨p,5,none⟩ (.slice (some ⟨fb,0,none⟩) len len) = W9 := ⟨_,rfl⟩; rw [hvn] at HBn hHeld ⊢; clear hvn; refine Z0b 16 hHeld ?_; try simp only [Act.put,layT]
    refine Z0b 17 hHeld ?_; try simp only [Act.put,layT]
    exact T6_9_15 vn fb sb (hid HBn.out.to)
  ·rintro v fb nb HB2
   have hHeld := HB2.out.two; refine wpAnyH_ready (rs := [9,15]) (by kernel_rfl) (by simp) ?_
   refine AllReadyH.cons rfl (fun K hK => ?_) (AllReadyH.cons rfl (fun K hK => ?_) AllReadyH.nil)
   ·go_simp
    have HBn : Hid (BWm w w2 (v.alloc (.cells (madeCells #[.int .i64 0] N) 2)) p Lb N s t len cap a (putO _ 1 v.heap.size) _) := hid (HB2.out.mk_ 1); refine hK.out _ _ ?_ (fun hHeld => ?_)
    ·exact HBn.out.two
    clear hK K; try simp only [Act.put,layT]
    obtain ⟨sb,hsb⟩ : ∃ b,v.heap.size = b := ⟨_,rfl⟩; obtain ⟨vn,hvn⟩ : ∃ W9,v.alloc (.cells (madeCells #[.int .i64 0] N) 2) = W9 := ⟨_,rfl⟩; rw [hsb,hvn] at HBn; rw [hvn] at hHeld; rw [hsb,hvn]; clear hsb hvn; exact T6_9_12 vn fb sb nb (hid HBn.out.to)
   ·obtain ⟨c5,c6,c9,c8,c10,_,f5,f6,f9,f8,f10,_⟩ := HB2.out.cells
    go_simp; clear c5 c6 c9 c8 c10 f5 f6 f9 f8 f10; have HBn := hid (HB2.out.st0 (.slice (some ⟨fb,0,none⟩) len len)); refine hK.out _ _ ?_ (fun hHeld => ?_)
    ·exact HBn.out.two
    clear hK K; try simp only [Act.put,layT]
    obtain ⟨vn,hvn⟩ : ∃ W9,v.setCell ⟨p,5,none⟩ (.slice (some ⟨fb,0,none⟩) len len) = W9 := ⟨_,rfl⟩; rw [hvn] at HBn hHeld ⊢; clear hvn; exact T6_12_15 vn fb nb (hid HBn.out.to)
  ·rintro v fb HB2
   have hHeld := HB2.out.two; refine wpAnyH_ready (rs := [9,12]) (by kernel_rfl) (by simp) ?_
   refine AllReadyH.cons rfl (fun K hK => ?_) (AllReadyH.cons rfl (fun K hK => ?_) AllReadyH.nil)
   ·go_simp
    have HBn : Hid (BWm w w2 (v.alloc (.cells (madeCells #[.int .i64 0] N) 2)) p Lb N s t len cap a (putO _ 1 v.heap.size) _) := hid (HB2.out.mk_ 1); refine hK.out _ _ ?_ (fun hHeld => ?_)
    ·exact HBn.out.two
    clear hK K; try simp only [Act.put,layT]
    obtain ⟨sb,hsb⟩ : ∃ b,v.heap.size = b := ⟨_,rfl⟩; obtain ⟨vn,hvn⟩ : ∃ W9,v.alloc (.cells (madeCells #[.int .i64 0] N) 2) = W9 := ⟨_,rfl⟩; rw [hsb,hvn] at HBn; rw [hvn] at hHeld; rw [hsb,hvn]; clear hsb hvn; refine Z0b 16 hHeld ?_; try simp only [Act.put,layT]
    refine Z0b 17 hHeld ?_; try simp only [Act.put,layT]
    exact T6_9_15 vn fb sb (hid HBn.out.to)
   ·go_simp
    have HBn : Hid (BWm w w2 (v.alloc (.cells (madeCells #[.int .i64 0] N) 3)) p Lb N s t len cap a (putO _ 2 v.heap.size) _) := hid (HB2.out.mk_ 2); refine hK.out _ _ ?_ (fun hHeld => ?_)
    ·exact HBn.out.two
    clear hK K; try simp only [Act.put,layT]
    obtain ⟨nb,hnb⟩ : ∃ b,v.heap.size = b := ⟨_,rfl⟩; obtain ⟨vn,hvn⟩ : ∃ W9,v.alloc (.cells (madeCells #[.int .i64 0] N) 3) = W9 := ⟨_,rfl⟩; rw [hnb,hvn] at HBn; rw [hvn] at hHeld; rw [hnb,hvn]; clear hnb hvn; exact T6_12_15 vn fb nb (hid HBn.out.to)
  ·rintro v sb nb HB2
   have hHeld := HB2.out.two; refine stpR 6 (fun K hK => ?_); go_simp; have HBn : Hid (BWm w w2 (v.alloc (.cells (madeCells #[.int .i64 0] len) 2)) p Lb N s t len cap a (putO _ 0 v.heap.size) _) := hid (HB2.out.mk_ 0); refine hK.out _ _ ?_ (fun hHeld => ?_)
   ·exact HBn.out.two
   clear hK K; try simp only [Act.put,layT]
   obtain ⟨fb,hfb⟩ : ∃ b,v.heap.size = b := ⟨_,rfl⟩; obtain ⟨vn,hvn⟩ : ∃ W9,v.alloc (.cells (madeCells #[.int .i64 0] len) 2) = W9 := ⟨_,rfl⟩; rw [hfb,hvn] at HBn; rw [hvn] at hHeld; rw [hfb,hvn]; clear hfb hvn; refine Z0b 13 hHeld ?_; try simp only [Act.put,layT]
   refine Z0b 14 hHeld ?_; try simp only [Act.put,layT]
   exact T6_9_12 vn fb sb nb (hid HBn.out.to)
  ·rintro v fb sb nb HB2
   have hHeld := HB2.out.two; refine stpR 15 (fun K hK => ?_); obtain ⟨c5,c6,c9,c8,c10,_,f5,f6,f9,f8,f10,_⟩ := HB2.out.cells; go_simp; clear c5 c6 c9 c8 c10 f5 f6 f9 f8 f10; have HBn := hid (HB2.out.st0 (.slice (some ⟨fb,0,none⟩) len len)); refine hK.out _ _ ?_ (fun hHeld => ?_)
   ·exact HBn.out.two
   clear hK K; try simp only [Act.put,layT]
   obtain ⟨vn,hvn⟩ : ∃ W9,v.setCell ⟨p,5,none⟩ (.slice (some ⟨fb,0,none⟩) len len) = W9 := ⟨_,rfl⟩; rw [hvn] at HBn hHeld ⊢; clear hvn; refine Z0b 16 hHeld ?_; try simp only [Act.put,layT]
   refine Z0b 17 hHeld ?_; try simp only [Act.put,layT]
   exact T6_9_12_15 vn fb sb nb (hid HBn.out.to)
  ·rintro v fb sb HB2
   have hHeld := HB2.out.two; refine wpAnyH_ready (rs := [12,18]) (by kernel_rfl) (by simp) ?_
   refine AllReadyH.cons rfl (fun K hK => ?_) (AllReadyH.cons rfl (fun K hK => ?_) AllReadyH.nil)
   ·go_simp
    have HBn : Hid (BWm w w2 (v.alloc (.cells (madeCells #[.int .i64 0] N) 3)) p Lb N s t len cap a (putO _ 2 v.heap.size) _) := hid (HB2.out.mk_ 2); refine hK.out _ _ ?_ (fun hHeld => ?_)
    ·exact HBn.out.two
    clear hK K; try simp only [Act.put,layT]
    obtain ⟨nb,hnb⟩ : ∃ b,v.heap.size = b := ⟨_,rfl⟩; obtain ⟨vn,hvn⟩ : ∃ W9,v.alloc (.cells (madeCells #[.int .i64 0] N) 3) = W9 := ⟨_,rfl⟩; rw [hnb,hvn] at HBn; rw [hvn] at hHeld; rw [hnb,hvn]; clear hnb hvn; exact T6_9_12_15 vn fb sb nb (hid HBn.out.to)
   ·obtain ⟨c5,c6,c9,c8,c10,_,f5,f6,f9,f8,f10,_⟩ := HB2.out.cells
    go_simp; clear c5 c6 c9 c8 c10 f5 f6 f9 f8 f10; have HBn := hid (HB2.out.st1 (.slice (some ⟨sb,0,none⟩) N N)); refine hK.out _ _ ?_ (fun hHeld => ?_)
    ·exact HBn.out.two
    clear hK K; try simp only [Act.put,layT]
    obtain ⟨vn,hvn⟩ : ∃ W9,v.setCell ⟨p,6,none⟩ (.slice (some ⟨sb,0,none⟩) N N) = W9 := ⟨_,rfl⟩; rw [hvn] at HBn hHeld ⊢; clear hvn; exact T6_9_15_18 vn fb sb (hid HBn.out.to)
  ·rintro v fb nb HB2
   have hHeld := HB2.out.two; refine stpR 9 (fun K hK => ?_); go_simp; have HBn : Hid (BWm w w2 (v.alloc (.cells (madeCells #[.int .i64 0] N) 2)) p Lb N s t len cap a (putO _ 1 v.heap.size) _) := hid (HB2.out.mk_ 1); refine hK.out _ _ ?_ (fun hHeld => ?_)
   ·exact HBn.out.two
   clear hK K; try simp only [Act.put,layT]
   obtain ⟨sb,hsb⟩ : ∃ b,v.heap.size = b := ⟨_,rfl⟩; obtain ⟨vn,hvn⟩ : ∃ W9,v.alloc (.cells (madeCells #[.int .i64 0] N) 2) = W9 := ⟨_,rfl⟩; rw [hsb,hvn] at HBn; rw [hvn] at hHeld; rw [hsb,hvn]; clear hsb hvn; refine Z0b 16 hHeld ?_; try simp only [Act.put,layT]
   refine Z0b 17 hHeld ?_; try simp only [Act.put,layT]
   exact T6_9_12_15 vn fb sb nb (hid HBn.out.to)
  ·rintro v fb sb nb HB2
   have hHeld := HB2.out.two; refine stpR 18 (fun K hK => ?_); obtain ⟨c5,c6,c9,c8,c10,_,f5,f6,f9,f8,f10,_⟩ := HB2.out.cells; go_simp; clear c5 c6 c9 c8 c10 f5 f6 f9 f8 f10; have HBn := hid (HB2.out.st1 (.slice (some ⟨sb,0,none⟩) N N)); refine hK.out _ _ ?_ (fun hHeld => ?_)
   ·exact HBn.out.two
   clear hK K; try simp only [Act.put,layT]
   obtain ⟨vn,hvn⟩ : ∃ W9,v.setCell ⟨p,6,none⟩ (.slice (some ⟨sb,0,none⟩) N N) = W9 := ⟨_,rfl⟩; rw [hvn] at HBn hHeld ⊢; clear hvn; refine Z0b 19 hHeld ?_; try simp only [Act.put,layT]
   refine Z0b 20 hHeld ?_; try simp only [Act.put,layT]
   exact T6_9_12_15_18 vn fb sb nb (hid HBn.out.to)
  ·rintro v fb sb HB2
   have hHeld := HB2.out.two; refine stpR 12 (fun K hK => ?_); go_simp; have HBn : Hid (BWm w w2 (v.alloc (.cells (madeCells #[.int .i64 0] N) 3)) p Lb N s t len cap a (putO _ 2 v.heap.size) _) := hid (HB2.out.mk_ 2); refine hK.out _ _ ?_ (fun hHeld => ?_)
   ·exact HBn.out.two
   clear hK K; try simp only [Act.put,layT]
   obtain ⟨nb,hnb⟩ : ∃ b,v.heap.size = b := ⟨_,rfl⟩; obtain ⟨vn,hvn⟩ : ∃ W9,v.alloc (.cells (madeCells #[.int .i64 0] N) 3) = W9 := ⟨_,rfl⟩; rw [hnb,hvn] at HBn; rw [hvn] at hHeld; rw [hnb,hvn]; clear hnb hvn; refine Z0b 19 hHeld ?_; try simp only [Act.put,layT]
   refine Z0b 20 hHeld ?_; try simp only [Act.put,layT]
   exact T6_9_12_15_18 vn fb sb nb (hid HBn.out.to)
  ·rintro v fb sb nb HB2
   have hHeld := HB2.out.two; refine stpR 21 (fun K hK => ?_); obtain ⟨c5,c6,c9,c8,c10,_,f5,f6,f9,f8,f10,_⟩ := HB2.out.cells; go_simp; clear c5 c6 c9 c8 c10 f5 f6 f9 f8 f10; have HBn := hid (HB2.out.st2 (.slice (some ⟨nb,0,none⟩) N N)); refine hK.out _ _ ?_ (fun hHeld => ?_)
   ·exact HBn.out.two
   clear hK K; try simp only [Act.put,layT]
   obtain ⟨vn,hvn⟩ : ∃ W9,v.setCell ⟨p,9,none⟩ (.slice (some ⟨nb,0,none⟩) N N) = W9 := ⟨_,rfl⟩; rw [hvn] at HBn hHeld ⊢; clear hvn; exact T6_9_12_15_18_21 vn fb sb nb (hid HBn.out.to)
  ·rintro v fb sb nb HB2
   have hHeld := HB2.out.two; refine wpAnyH_done (by kernel_rfl) ?_ _
   clear hHeld; go_wp2_with fail
   go_meet
   exact ⟨fb,sb,nb,HB2.out⟩
 case rest =>
  obtain ⟨fb,sb,nb,hB⟩ := hcut; have HB1 := hid hB; clear hB HB0; go_wp2_with fail
  go_cut [] from 13 (fun wx => ∃ mb ub,BWm w w2 wx p Lb N s t len cap a (fun j => if j = 0 then some fb else if j = 1 then some sb else if j = 2 then some nb else if j = 3 then some mb else if j = 4 then some ub else none) (fun j => if j = 0 then .slice (some ⟨fb,0,none⟩) len len else if j = 1 then .slice (some ⟨sb,0,none⟩) N N else if j = 2 then .slice (some ⟨nb,0,none⟩) N N else if j = 3 then .slice (some ⟨mb,0,none⟩) (2 * N) (2 * N) else if j = 4 then .slice (some ⟨ub,0,none⟩) (2 * N) (2 * N) else .slice none 0 0))
  case first =>
   have HBd := hid HB1.out.drew; refine wp_region_held_drew (S := fun W => W.cell? ⟨w.heap.size,0,none⟩ = some (.int .i64 (N : Int)) ∧ W.cell? ⟨w.heap.size,1,none⟩ = some (.slice a len cap)) (by kernel_rfl) HBd.out.two (fun hHeld => ?_)
   obtain ⟨wz,hwz⟩ : ∃ wz,World.drew wc = wz := ⟨_,rfl⟩; rw [hwz] at HBd hHeld ⊢; clear hwz; refine Z0h 0 hHeld ?_; try simp only [Act.put,layT]
   refine Z0h 1 hHeld ?_; try simp only [Act.put,layT]
   refine Z0h 2 hHeld ?_; try simp only [Act.put,layT]
   refine Z0h 3 hHeld ?_; try simp only [Act.put,layT]
   refine Z0h 4 hHeld ?_; try simp only [Act.put,layT]
   refine Z0h 6 hHeld ?_; try simp only [Act.put,layT]
   refine Z0h 7 hHeld ?_; try simp only [Act.put,layT]
   refine Z0h 8 hHeld ?_; try simp only [Act.put,layT]
   apply Z4k (F := fun v mb ub => Hid (BWm w w2 v p Lb N s t len cap a (fun j => if j = 0 then some fb else if j = 1 then some sb else if j = 2 then some nb else if j = 3 then some mb else if j = 4 then some ub else none) (fun j => if j = 0 then .slice (some ⟨fb,0,none⟩) len len else if j = 1 then .slice (some ⟨sb,0,none⟩) N N else if j = 2 then .slice (some ⟨nb,0,none⟩) N N else if j = 3 then .slice (some ⟨mb,0,none⟩) (2 * N) (2 * N) else if j = 4 then .slice (some ⟨ub,0,none⟩) (2 * N) (2 * N) else .slice none 0 0)))
   intro T5_9_12_15; apply Z4k (F := fun v mb ub => Hid (BWm w w2 v p Lb N s t len cap a (fun j => if j = 0 then some fb else if j = 1 then some sb else if j = 2 then some nb else if j = 3 then some mb else if j = 4 then some ub else none) (fun j => if j = 0 then .slice (some ⟨fb,0,none⟩) len len else if j = 1 then .slice (some ⟨sb,0,none⟩) N N else if j = 2 then .slice (some ⟨nb,0,none⟩) N N else if j = 3 then .slice (some ⟨mb,0,none⟩) (2 * N) (2 * N) else .slice none 0 0)))
   intro T5_9_12; apply Z6o (F := fun v mb => Hid (BWm w w2 v p Lb N s t len cap a (fun j => if j = 0 then some fb else if j = 1 then some sb else if j = 2 then some nb else if j = 3 then some mb else none) (fun j => if j = 0 then .slice (some ⟨fb,0,none⟩) len len else if j = 1 then .slice (some ⟨sb,0,none⟩) N N else if j = 2 then .slice (some ⟨nb,0,none⟩) N N else if j = 3 then .slice (some ⟨mb,0,none⟩) (2 * N) (2 * N) else .slice none 0 0)))
   intro T5_12; apply Z4k (F := fun v mb ub => Hid (BWm w w2 v p Lb N s t len cap a (fun j => if j = 0 then some fb else if j = 1 then some sb else if j = 2 then some nb else if j = 3 then some mb else if j = 4 then some ub else none) (fun j => if j = 0 then .slice (some ⟨fb,0,none⟩) len len else if j = 1 then .slice (some ⟨sb,0,none⟩) N N else if j = 2 then .slice (some ⟨nb,0,none⟩) N N else .slice none 0 0)))
   intro T5_9; apply Z6o (F := fun v ub => Hid (BWm w w2 v p Lb N s t len cap a (fun j => if j = 0 then some fb else if j = 1 then some sb else if j = 2 then some nb else if j = 4 then some ub else none) (fun j => if j = 0 then .slice (some ⟨fb,0,none⟩) len len else if j = 1 then .slice (some ⟨sb,0,none⟩) N N else if j = 2 then .slice (some ⟨nb,0,none⟩) N N else .slice none 0 0)))
   intro T9; apply Z6o (F := fun v mb => Hid (BWm w w2 v p Lb N s t len cap a (fun j => if j = 0 then some fb else if j = 1 then some sb else if j = 2 then some nb else if j = 3 then some mb else none) (fun j => if j = 0 then .slice (some ⟨fb,0,none⟩) len len else if j = 1 then .slice (some ⟨sb,0,none⟩) N N else if j = 2 then .slice (some ⟨nb,0,none⟩) N N else .slice none 0 0)))
   intro T5; refine wpAnyH_ready (rs := [5,9]) (by kernel_rfl) (by simp) ?_
   refine AllReadyH.cons rfl (fun K hK => ?_) (AllReadyH.cons rfl (fun K hK => ?_) AllReadyH.nil)
   ·go_simp
    have HBn : Hid (BWm w w2 (wz.alloc (.cells (madeCells #[.int .i64 0] (2 * N)) 3)) p Lb N s t len cap a (putO _ 3 wz.heap.size) _) := hid (HBd.out.mk_ 3); refine hK.out _ _ ?_ (fun hHeld => ?_)
    ·exact HBn.out.two
    clear hK K; try simp only [Act.put,layT]
    obtain ⟨mb,hmb⟩ : ∃ b,wz.heap.size = b := ⟨_,rfl⟩; obtain ⟨vn,hvn⟩ : ∃ W9,wz.alloc (.cells (madeCells #[.int .i64 0] (2 * N)) 3) = W9 := ⟨_,rfl⟩; rw [hmb,hvn] at HBn; rw [hvn] at hHeld; rw [hmb,hvn]; clear hmb hvn; refine Z0b 10 hHeld ?_; try simp only [Act.put,layT]
    refine Z0b 11 hHeld ?_; try simp only [Act.put,layT]
    exact T5 vn mb (hid HBn.out.to)
   ·go_simp
    have HBn : Hid (BWm w w2 (wz.alloc (.cells (madeCells #[.slice none 0 0] (2 * N)) 37)) p Lb N s t len cap a (putO _ 4 wz.heap.size) _) := hid (HBd.out.mk_ 4); refine hK.out _ _ ?_ (fun hHeld => ?_)
    ·exact HBn.out.two
    clear hK K; try simp only [Act.put,layT]
    obtain ⟨ub,hub⟩ : ∃ b,wz.heap.size = b := ⟨_,rfl⟩; obtain ⟨vn,hvn⟩ : ∃ W9,wz.alloc (.cells (madeCells #[.slice none 0 0] (2 * N)) 37) = W9 := ⟨_,rfl⟩; rw [hub,hvn] at HBn; rw [hvn] at hHeld; rw [hub,hvn]; clear hub hvn; exact T9 vn ub (hid HBn.out.to)
   ·rintro v mb HB2
    have hHeld := HB2.out.two; refine wpAnyH_ready (rs := [9,12]) (by kernel_rfl) (by simp) ?_
    refine AllReadyH.cons rfl (fun K hK => ?_) (AllReadyH.cons rfl (fun K hK => ?_) AllReadyH.nil)
    ·go_simp
     have HBn : Hid (BWm w w2 (v.alloc (.cells (madeCells #[.slice none 0 0] (2 * N)) 37)) p Lb N s t len cap a (putO _ 4 v.heap.size) _) := hid (HB2.out.mk_ 4); refine hK.out _ _ ?_ (fun hHeld => ?_)
     ·exact HBn.out.two
     clear hK K; try simp only [Act.put,layT]
     obtain ⟨ub,hub⟩ : ∃ b,v.heap.size = b := ⟨_,rfl⟩; obtain ⟨vn,hvn⟩ : ∃ W9,v.alloc (.cells (madeCells #[.slice none 0 0] (2 * N)) 37) = W9 := ⟨_,rfl⟩; rw [hub,hvn] at HBn; rw [hvn] at hHeld; rw [hub,hvn]; clear hub hvn; exact T5_9 vn mb ub (hid HBn.out.to)
    ·obtain ⟨c5,c6,c9,c8,c10,_,f5,f6,f9,f8,f10,_⟩ := HB2.out.cells
     go_simp; clear c5 c6 c9 c8 c10 f5 f6 f9 f8 f10; have HBn := hid (HB2.out.st3 (.slice (some ⟨mb,0,none⟩) (2 * N) (2 * N))); refine hK.out _ _ ?_ (fun hHeld => ?_)
     ·exact HBn.out.two
     clear hK K; try simp only [Act.put,layT]
     obtain ⟨vn,hvn⟩ : ∃ W9,v.setCell ⟨p,8,none⟩ (.slice (some ⟨mb,0,none⟩) (2 * N) (2 * N)) = W9 := ⟨_,rfl⟩; rw [hvn] at HBn hHeld ⊢; clear hvn; exact T5_12 vn mb (hid HBn.out.to)
   ·rintro v ub HB2
    have hHeld := HB2.out.two; refine stpR 5 (fun K hK => ?_); go_simp; have HBn : Hid (BWm w w2 (v.alloc (.cells (madeCells #[.int .i64 0] (2 * N)) 3)) p Lb N s t len cap a (putO _ 3 v.heap.size) _) := hid (HB2.out.mk_ 3); refine hK.out _ _ ?_ (fun hHeld => ?_)
    ·exact HBn.out.two
    clear hK K; try simp only [Act.put,layT]
    obtain ⟨mb,hmb⟩ : ∃ b,v.heap.size = b := ⟨_,rfl⟩; obtain ⟨vn,hvn⟩ : ∃ W9,v.alloc (.cells (madeCells #[.int .i64 0] (2 * N)) 3) = W9 := ⟨_,rfl⟩; rw [hmb,hvn] at HBn; rw [hvn] at hHeld; rw [hmb,hvn]; clear hmb hvn; refine Z0b 10 hHeld ?_; try simp only [Act.put,layT]
    refine Z0b 11 hHeld ?_; try simp only [Act.put,layT]
    exact T5_9 vn mb ub (hid HBn.out.to)
   ·rintro v mb ub HB2
    have hHeld := HB2.out.two; refine stpR 12 (fun K hK => ?_); obtain ⟨c5,c6,c9,c8,c10,_,f5,f6,f9,f8,f10,_⟩ := HB2.out.cells; go_simp; clear c5 c6 c9 c8 c10 f5 f6 f9 f8 f10; have HBn := hid (HB2.out.st3 (.slice (some ⟨mb,0,none⟩) (2 * N) (2 * N))); refine hK.out _ _ ?_ (fun hHeld => ?_)
    ·exact HBn.out.two
    clear hK K; try simp only [Act.put,layT]
    obtain ⟨vn,hvn⟩ : ∃ W9,v.setCell ⟨p,8,none⟩ (.slice (some ⟨mb,0,none⟩) (2 * N) (2 * N)) = W9 := ⟨_,rfl⟩; rw [hvn] at HBn hHeld ⊢; clear hvn; refine Z0b 13 hHeld ?_; try simp only [Act.put,layT]
    refine Z0b 14 hHeld ?_; try simp only [Act.put,layT]
    exact T5_9_12 vn mb ub (hid HBn.out.to)
   ·rintro v mb HB2
    have hHeld := HB2.out.two; refine stpR 9 (fun K hK => ?_); go_simp; have HBn : Hid (BWm w w2 (v.alloc (.cells (madeCells #[.slice none 0 0] (2 * N)) 37)) p Lb N s t len cap a (putO _ 4 v.heap.size) _) := hid (HB2.out.mk_ 4); refine hK.out _ _ ?_ (fun hHeld => ?_)
    ·exact HBn.out.two
    clear hK K; try simp only [Act.put,layT]
    obtain ⟨ub,hub⟩ : ∃ b,v.heap.size = b := ⟨_,rfl⟩; obtain ⟨vn,hvn⟩ : ∃ W9,v.alloc (.cells (madeCells #[.slice none 0 0] (2 * N)) 37) = W9 := ⟨_,rfl⟩; rw [hub,hvn] at HBn; rw [hvn] at hHeld; rw [hub,hvn]; clear hub hvn; refine Z0b 13 hHeld ?_; try simp only [Act.put,layT]
    refine Z0b 14 hHeld ?_; try simp only [Act.put,layT]
    exact T5_9_12 vn mb ub (hid HBn.out.to)
   ·rintro v mb ub HB2
    have hHeld := HB2.out.two; refine stpR 15 (fun K hK => ?_); obtain ⟨c5,c6,c9,c8,c10,_,f5,f6,f9,f8,f10,_⟩ := HB2.out.cells; go_simp; clear c5 c6 c9 c8 c10 f5 f6 f9 f8 f10; have HBn := hid (HB2.out.st4 (.slice (some ⟨ub,0,none⟩) (2 * N) (2 * N))); refine hK.out _ _ ?_ (fun hHeld => ?_)
    ·exact HBn.out.two
    clear hK K; try simp only [Act.put,layT]
    obtain ⟨vn,hvn⟩ : ∃ W9,v.setCell ⟨p,10,none⟩ (.slice (some ⟨ub,0,none⟩) (2 * N) (2 * N)) = W9 := ⟨_,rfl⟩; rw [hvn] at HBn hHeld ⊢; clear hvn; exact T5_9_12_15 vn mb ub (hid HBn.out.to)
   ·rintro v mb ub HB2
    have hHeld := HB2.out.two; refine wpAnyH_done (by kernel_rfl) ?_ _
    clear hHeld; go_wp2_with fail
    go_meet
    exact ⟨mb,ub,HB2.out⟩
  case rest =>
   obtain ⟨mb,ub,hB⟩ := hcut; have HB2 := hid hB; clear hB HB1 hmk1 hmk2 hmk3 hmk4 hmk5 e2N e2N2; have HBK : Hid (wc.heap[p]? = some (.cells (wsV N s t Lb len cap a (.slice (some ⟨fb,0,none⟩) len len) (.slice (some ⟨sb,0,none⟩) N N) (.slice none 0 0) (.slice (some ⟨mb,0,none⟩) (2 * N) (2 * N)) (.slice (some ⟨nb,0,none⟩) N N) (.slice (some ⟨ub,0,none⟩) (2 * N) (2 * N)) (.int .i64 0)) 137 (0,0))) := hid HB2.out.blk; have HRF : Hid (wc.rowIs fb 2 len (fun _ => .int .i64 0) ∧ p < fb) := hid (HB2.out.rows 0 fb rfl); have HRS : Hid (wc.rowIs sb 2 N (fun _ => .int .i64 0) ∧ p < sb) := hid (HB2.out.rows 1 sb rfl); have HRN : Hid (wc.rowIs nb 3 N (fun _ => .int .i64 0) ∧ p < nb) := hid (HB2.out.rows 2 nb rfl); have HRM : Hid (wc.rowIs mb 3 (2 * N) (fun _ => .int .i64 0) ∧ p < mb) := hid (HB2.out.rows 3 mb rfl); have HRU : Hid (wc.rowIs ub 37 (2 * N) (fun _ => .slice none 0 0) ∧ p < ub) := hid (HB2.out.rows 4 ub rfl); have HNE : Hid (fb ≠ sb ∧ fb ≠ nb ∧ fb ≠ mb ∧ fb ≠ ub ∧ sb ≠ nb ∧ sb ≠ mb ∧ sb ≠ ub ∧ nb ≠ mb ∧ nb ≠ ub ∧ mb ≠ ub) := hid (by
    have h := HB2.out.ne; refine ⟨?_,?_,?_,?_,?_,?_,?_,?_,?_,?_⟩
    ·intro e; exact h 0 1 fb (by omega) rfl (by rw [e]; rfl)
    ·intro e; exact h 0 2 fb (by omega) rfl (by rw [e]; rfl)
    ·intro e; exact h 0 3 fb (by omega) rfl (by rw [e]; rfl)
    ·intro e; exact h 0 4 fb (by omega) rfl (by rw [e]; rfl)
    ·intro e; exact h 1 2 sb (by omega) rfl (by rw [e]; rfl)
    ·intro e; exact h 1 3 sb (by omega) rfl (by rw [e]; rfl)
    ·intro e; exact h 1 4 sb (by omega) rfl (by rw [e]; rfl)
    ·intro e; exact h 2 3 nb (by omega) rfl (by rw [e]; rfl)
    ·intro e; exact h 2 4 nb (by omega) rfl (by rw [e]; rfl)
    ·intro e; exact h 3 4 mb (by omega) rfl (by rw [e]; rfl))
   have HLC : Hid (Lanes p wc Lb N V (fun i => Z0t l i l.length)) := hid (by
    have h := HAD.out.lanes; rw [HP.out] at h; exact h.later HB2.out.since)
   have HPC : Hid (IsPipes p wc a len l) := hid (by
    have h := (HL.out.later HB2.out.box.below).mono (B2 := p) (by have := HB2.out.gp; omega)
    exact h)
   have HPW : Hid (p < wc.heap.size ∧ w.heap.size < p) := hid ⟨HB2.out.lt,HB2.out.gp⟩; have HHT := hid (Zcj (p := p) wc HBK.out (by omega) hN2 hsN htN (HPC.out.mono (by have := HPW.out; omega)) (HLC.out.mono2 (by have := HPW.out; omega)) HLO.out (fun i => by have := Z23 l i l.length; have := HLn.out; omega))
   obtain ⟨c5,c6,c9,c8,c10,c7,f5,f6,f9,f8,f10,f7⟩ := HB2.out.cells; clear c5 c6 c9 c8 c10 f5 f6 f9 f8 f10; go_wp2_with (go_at_call 109; refine HHT.out.mono ?_; rintro e w6 ⟨G,far,rfl,hrow,hge,hb6,hfar⟩; have HRW := hid hrow; have HFR := hid hfar; have HB6 := hid hb6; have HGE := hid hge; have g7 : w6.cell? ⟨p,7,none⟩ = some (.slice none 0 0) := (hb6.cell (p := ⟨p,7,none⟩) HPW.out.1).trans c7; have h7 : w6.frozen? ⟨p,7,none⟩ = false := (World.frozen?_of_block (hb6.block p HPW.out.1)).trans f7; have g7b : (w6.setCell ⟨p,7,none⟩ (.slice (some ⟨G,0,none⟩) N N)).cell? ⟨p,7,none⟩ = some (.slice (some ⟨G,0,none⟩) N N) := World.cell?_setCell_same _ _ _ g7; clear hrow hge hb6 hfar c7 f7)
   have HGG : Hid (G ≠ fb ∧ G ≠ sb ∧ G ≠ nb ∧ G ≠ mb ∧ G ≠ ub ∧ p < G ∧ G < w6.heap.size) := hid (by
    have h1 := HRF.out.1.lt; have h2 := HRS.out.1.lt; have h3 := HRN.out.1.lt; have h4 := HRM.out.1.lt; have h5 := HRU.out.1.lt; have h6 := HGE.out; have h7 := HPW.out; have h8 := HRW.out.lt; omega)
   have HNET : Hid (Env.Net (mkE p Lb fb sb G mb nb ub w6.heap.size N s t len cap a l V)) := hid ⟨HOK.out,by show 2 ≤ N; have := HST.out; omega,hN2,by show l.length ≤ 20000; have := HLn.out; omega,hsN,htN,HST.out,HLO.out,fun i => by show (Z0t l i l.length).length ≤ 40000; have := Z23 l i l.length; have := HLn.out; omega⟩
   have HW0 : Hid (Below w.heap.size w (w6.setCell ⟨p,7,none⟩ (.slice (some ⟨G,0,none⟩) N N)) ∧ Wk (mkE p Lb fb sb G mb nb ub w6.heap.size N s t len cap a l V) (fun _ => 0) (exc (mkE p Lb fb sb G mb nb ub w6.heap.size N s t len cap a l V) (fun _ => 0)) (hi0 N s far) (fun _ => 0) (cnt 0 (hi0 N s far)) (fun _ => .slice none 0 0) (fun _ => []) 0 (w6.setCell ⟨p,7,none⟩ (.slice (some ⟨G,0,none⟩) N N))) := hid (by
    have hpw := HPW.out; have hne := HNE.out; have hgg := HGG.out; have hB7 : Below p wc (w6.setCell ⟨p,7,none⟩ (.slice (some ⟨G,0,none⟩) N N)) := (HB6.out.mono (show p ≤ wc.heap.size by omega)).setCell (p := ⟨p,7,none⟩) (show p ≤ p from Nat.le_refl _) _
    have r1 := HRF.out.2; have r2 := HRS.out.2; have r3 := HRN.out.2; have r4 := HRM.out.2; have r5 := HRU.out.2; have q1 := HRF.out.1.lt; have q2 := HRS.out.1.lt; have q3 := HRN.out.1.lt; have q4 := HRM.out.1.lt; have q5 := HRU.out.1.lt; have hsz := HB6.out.size; refine ⟨HB2.out.box.below.trans (hB7.mono (by omega)),HPC.out.laterC hB7,HLC.out.later hB7,?_,(Z0a HRF.out.1 HB6.out).setOther (show fb ≠ p by omega) _,((Z0a HRS.out.1 HB6.out).setOther (show sb ≠ p by omega) _).congr (fun i _ => by rw [Zm1]),HRW.out.setOther (show G ≠ p by omega) _,(Z0a HRM.out.1 HB6.out).setOther (show mb ≠ p by omega) _,(Z0a HRN.out.1 HB6.out).setOther (show nb ≠ p by omega) _,(Z0a HRU.out.1 HB6.out).setOther (show ub ≠ p by omega) _,fun h _ => World.ownsRow_nil _ _ _ 1,fun h h2 _ _ _ b hb => (nomatch hb),?_,by show w6.heap.size ≤ _; simp [World.setCell]⟩
    ·rw [heap_setCell_same _ _ _ _ _ _ ((HB6.out.block p hpw.1).trans HBK.out)]
     rfl
    ·constructor <;> simp only <;> omega)
   obtain ⟨D,hD⟩ : ∃ D,w6.heap.size = D := ⟨_,rfl⟩; obtain ⟨w7,hw7⟩ : ∃ w7,w6.setCell ⟨p,7,none⟩ (.slice (some ⟨G,0,none⟩) N N) = w7 := ⟨_,rfl⟩; rw [hD] at HNET; rw [hD,hw7] at HW0; rw [hw7]; clear hD hw7 g7 g7b h7 HHT HBK HRF HRS HRN HRM HRU HNE HGG HB2; go_loopw [63] (fun i wr => ∃ k : Nat,i = .int .i64 k ∧ k ≤ N ∧ Hid (Below w.heap.size w wr ∧ Wk (mkE p Lb fb sb G mb nb ub D N s t len cap a l V) (fun _ => 0) (exc (mkE p Lb fb sb G mb nb ub D N s t len cap a l V) (fun _ => 0)) (hi0 N s far) (fun _ => 0) (cnt k (hi0 N s far)) (fun _ => .slice none 0 0) (fun _ => []) 0 wr)) (fun i _ => N - (intOf i).toNat)
   case atStart => exact ⟨0,rfl,Nat.zero_le _,HW0⟩
   case round =>
    obtain ⟨k,rfl,hk,HK⟩ := hrel; clear HW0; by_cases hlt : k < N
    ·have r0 : wr.cell? ⟨G,k,none⟩ = some (.int .i64 (hi0 N s far k : Int)) := HK.out.2.high.cell hlt
     have hhb : hi0 N s far k < 2 * N := by
      have h1 := HFR.out.small k hlt; have h2 := HNET.out.n2; simp only at h2
      unfold hi0; split
      ·omega
      ·split <;> omega
     obtain ⟨h,hh⟩ : ∃ h,hi0 N s far k = h := ⟨_,rfl⟩; have HH := hid hh; rw [hh] at r0 hhb; clear hh; have hhi : (h : Int) < 2 * (N : Int) := by omega
     have r1 : wr.cell? ⟨mb,h,none⟩ = some (.int .i64 (cnt k (hi0 N s far) h)) := HK.out.2.many.cell hhb; have f1 : wr.frozen? ⟨mb,h,none⟩ = false := HK.out.2.many.frozen h; have x8 : wr.cell? ⟨p,8,none⟩ = some (.slice (some ⟨mb,0,none⟩) (2 * N) (2 * N)) := HK.out.2.cellW.2.2.2.2.2.2.2.2.1; obtain ⟨c,hc⟩ : ∃ c,cnt k (hi0 N s far) h = c := ⟨_,rfl⟩; have HC := hid hc; have hcb := Z6g k (hi0 N s far) h; rw [hc] at r1 hcb; clear hc; have ew : IntKind.i64.wrap (c + 1) = c + 1 := by rw [IntKind.wrap_i64]; omega
     have HN2 := hid (And.intro (HK.out.1.setCell (p := ⟨mb,h,none⟩) (by have := HK.out.2.ord.cm; simp only at this; show w.heap.size ≤ mb; have := HPW.out.2; omega) (.int .i64 (c + 1))) ((HK.out.2.setMany h (c + 1)).congrMany (mn2 := cnt (k + 1) (hi0 N s far)) (fun g _ => by
      rw [Zm2,HH.out]; by_cases e : g = h
      ·subst e; rw [if_pos rfl,if_pos rfl,HC.out]
      ·rw [if_neg e,if_neg (fun e2 => e e2.symm)]; omega)))
     go_wp2_with fail
     go_roundw
     case rel => exact ⟨k + 1,by go_num,by omega,HN2⟩
     case measure => simp [intOf]; omega
    ·obtain rfl : k = N := by omega
     have hM0 := Z23 l s l.length; obtain ⟨M,hM⟩ : ∃ M,(Z0t l s l.length).length = M := ⟨_,rfl⟩; have hMb : M ≤ 20000 := by have := HLn.out; omega
     have HMM := hid hM; obtain ⟨va,vc,hv⟩ := HK.out.2.rowV hsN; simp only at hv
     rw [hM] at hv; have HV := hid hv; have x4 : wr.cell? ⟨p,4,none⟩ = some (.slice (some ⟨Lb,0,none⟩) k k) := HK.out.2.cellW.2.2.2.2.1; have r4 : wr.cell? ⟨Lb,s,none⟩ = some (V s) := HK.out.2.lanes.out.cell hsN; rw [hv] at r4; have HK0 : Hid (First (mkE p Lb fb sb G mb nb ub D k s t len cap a l V) (fun _ => 0) 0) := hid (First.begin_ HNET.out); have HQ0 : Hid (Que (mkE p Lb fb sb G mb nb ub D k s t len cap a l V) (exc (mkE p Lb fb sb G mb nb ub D k s t len cap a l V) (fun _ => 0)) (fun _ => []) 0 s) := hid (Que.begin_ HNET.out); clear hv hM hM0; go_wp2_with fail
     clear x4 r4; go_loopw [85] (fun i wr => ∃ (j : Nat) (fl : Nat → Int) (fv : Nat → Value) (Q : Nat → List Nat) (top : Int),i = .int .i64 j ∧ j ≤ M ∧ Hid (Below w.heap.size w wr ∧ Wk (mkE p Lb fb sb G mb nb ub D k s t len cap a l V) fl (exc (mkE p Lb fb sb G mb nb ub D k s t len cap a l V) fl) (hi0 k s far) (fun _ => 0) (cnt k (hi0 k s far)) fv Q top wr) ∧ Hid (First (mkE p Lb fb sb G mb nb ub D k s t len cap a l V) fl j) ∧ Hid (Que (mkE p Lb fb sb G mb nb ub D k s t len cap a l V) (exc (mkE p Lb fb sb G mb nb ub D k s t len cap a l V) fl) Q top s)) (fun i _ => M - (intOf i).toNat)
     case atStart => exact ⟨0,_,_,_,_,rfl,Nat.zero_le _,HK,HK0,HQ0⟩
     case round =>
      clear HK HK0 HQ0; obtain ⟨j,fl,fv,Q,top,rfl,hj,HK,HF,HQ⟩ := hrel; by_cases hlt2 : j < M
      ·obtain ⟨lb2,off,cap2,q,v,bk,hv2,hjj,c0,c1,c2⟩ := HK.out.2.lane (q := j) hsN (by rw [HMM.out]; exact hlt2)
       simp only at hv2 hjj
       rw [HV.out] at hv2; injection hv2 with e1 e2 e3
       clear e2; subst e1 e3; obtain ⟨hq,hvN,huv⟩ := HNET.out.lane HK.out.2 hsN hjj; simp only at hq hvN huv
       have HJ := hid hjj; have hCs : p < wr.heap.size := (Array.getElem?_eq_some_iff.1 HK.out.2.work).1; have HBa := hid ((Below.refl wr.heap.size wr).alloc (Nat.le_refl _) (.cells #[.int .i64 (q : Int),.int .i64 (v : Int),.bool bk] 140)); have HK1 := hid (And.intro (HK.out.1.trans (HBa.out.mono (by have := HPW.out; omega))) (HK.out.2.later HBa.out))
       have HX1 : Hid (LBox (wr.alloc (.cells #[.int .i64 (q : Int),.int .i64 (v : Int),.bool bk] 140)) wr.heap.size q v bk) := hid (heap_alloc_new _ _); obtain ⟨d,hd⟩ : ∃ d,lft l fl (q,v,bk) = d := ⟨_,rfl⟩; have HD := hid hd; have HCP := hid (HF.out.caps HNET.out); have HCL := hid (Z8x HK1.out.2 q v bk hq HCP.out); simp only at HCL
       rw [hd] at HCL; have hhb : hi0 k s far v < 2 * k := by
        have h1 := HFR.out.small v hvN; have h2 := HNET.out.n2; simp only at h2
        unfold hi0; split
        ·omega
        ·split <;> omega
       have HHB := hid hhb; have HVX : Hid (v = s ∨ 0 ≤ exc (mkE p Lb fb sb G mb nb ub D k s t len cap a l V) fl v) := hid (by
        by_cases h : v = s
        ·exact .inl h
        ·exact .inr (HF.out.exc v hvN h))
       clear hjj hd hhb; by_cases hpos : 0 < d
       ·have HFN := hid (HF.out.send HNET.out HJ.out (by simp only; rw [HD.out]; exact hpos))
        simp only at HFN
        rw [HD.out] at HFN; go_wp2_with (first
         | (go_at_call 110; refine HCL.out.mono ?_; rintro e w8 ⟨rfl,hb8⟩; have HK2 := hid (And.intro (HK1.out.1.trans (hb8.mono HK1.out.1.size)) (HK1.out.2.later hb8)); have HX2 : Hid (LBox w8 wr.heap.size q v bk) := hid ((hb8.block _ (Array.getElem?_eq_some_iff.1 HX1.out).1).trans HX1.out); obtain ⟨l0,l1,l2⟩ := HX2.out.cells; clear hb8)
         | (go_at_call 111; refine (Z90 (E := mkE p Lb fb sb G mb nb ub D k s t len cap a l V) HK2.out.2 HNET.out HCP.out hsN bk (List.mem_of_getElem? HJ.out) HHB.out hpos (by simp only; rw [HD.out]; exact Int.le_refl _) HQ.out HVX.out).mono ?_; rintro e w9 ⟨rfl,hb9,fv2,Q2,top2,hk9,hq9,_⟩; have HK3 := hid (And.intro (HK2.out.1.trans (hb9.mono (by have := HPW.out.2; show w.heap.size ≤ p; omega))) hk9); have HQ3 := hid hq9; clear hb9 hk9 hq9))
        go_roundw
        case rel => exact ⟨j + 1,_,fv2,Q2,top2,by go_num,by omega,HK3,HFN,HQ3⟩
        case measure => simp [intOf]; omega
       ·have HFN := hid (HF.out.skip HJ.out (by simp only; rw [HD.out]; omega))
        go_wp2_with (go_at_call 110; refine HCL.out.mono ?_; rintro e w8 ⟨rfl,hb8⟩; have HK2 := hid (And.intro (HK1.out.1.trans (hb8.mono HK1.out.1.size)) (HK1.out.2.later hb8)); clear hb8)
        go_roundw
        case rel => exact ⟨j + 1,fl,fv,Q,top,by go_num,by omega,HK2,HFN,HQ⟩
        case measure => simp [intOf]; omega
      ·go_wp2_with fail
       go_ret
       exact ⟨mkE p Lb fb sb G mb nb ub D k s t len cap a l V,fl,hi0 k s far,fun _ => 0,fv,Q,top,rfl,rfl,rfl,rfl,rfl,rfl,HNET.out,HK.out.1,by have := HPW.out.2; show w.heap.size ≤ p; omega,HK.out.2,HF.out.pr HNET.out (by simp only; rw [HMM.out]; omega) HFR.out (fun _ => rfl),HQ.out.free⟩
end Go.Proofs.YtfkommjlmolniaaGreatDoor
end

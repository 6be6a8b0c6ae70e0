/- Joined: WMove, WPart, WLeft, WLift, Tk, WFill, Que. -/
import Derived.Test.YtfkommjlmolniaaGreatDoorHsWk
import Derived.BigRegion
import Derived.RegionTactic
import Derived.Deep.QuietTactic
import Derived.LoopTactic
import Derived.BigQuiet
import Derived.Deep.RegionWith
import Derived.Test.YtfkommjlmolniaaGreatDoorRows
import Derived.Deep.RegionHeld3
import Derived.Maps.RangeWalk
import Derived.StillTailTactics
set_option linter.unusedVariables false
section

namespace Go.Proofs.YtfkommjlmolniaaGreatDoor
set_option maxHeartbeats 16000000
set_option maxRecDepth 100000
open Go.Lib (hid)
open Go.RowKit
variable {w wr w2 w4 : World} {E : Env} {fl st : Nat → Int} {hi nx : Nat → Nat} {mn mn2 : Nat → Int} {fv : Nat → Value} {Q : Nat → List Nat} {top : Int}
theorem Wk.congrMany (h : Wk E fl st hi nx mn fv Q top wr) (e : ∀ g,g < 2 * E.N → mn g = mn2 g) : Wk E fl st hi nx mn2 fv Q top wr :=
 ⟨h.pipes,h.lanes,h.work,h.flow,h.stays,h.high,h.many.congr (fun g hg => by rw [e g hg]),h.next,h.full,h.rows,h.apart,h.ord,h.size⟩
theorem Wk.drew (h : Wk E fl st hi nx mn fv Q top wr) : Wk E fl st hi nx mn fv Q top wr.drew := h.later (Below.refl _ _).drew
theorem Ze9 (H : Wk E fl st hi nx (cnt E.N hi) fv Q top wr) (hN : E.N ≤ 1000) (u h : Nat) (hu : u < E.N) (h1 : hi u < 2 * E.N) (h2 : h < 2 * E.N) :
  Calls Tryz.prog 132 #[.pointer (some ⟨E.p,0,none⟩),.int .i64 (u : Int),.int .i64 (h : Int)] wr fun e w' => e = .returned (.tuple #[]) ∧ Below E.C wr w' ∧ Wk E fl st (Z0o hi u h) (Z0o nx u 0) (cnt E.N (Z0o hi u h)) fv Q top w' := by
 obtain ⟨k,hk⟩ : ∃ k,hi u = k := ⟨_,rfl⟩; rw [hk] at h1; obtain ⟨_,_,_,_,_,_,_,a7,a8,a9,_,_⟩ := H.cellW; have r0 := H.high.cell hu; rw [hk] at r0; have r1 := H.many.cell h1; have f1 := H.many.frozen k; obtain ⟨q1,hq1⟩ := (show 0 ≤ cnt E.N hi k ∧ cnt E.N hi k ≤ (E.N : Int) from Z6g _ _ _)
 obtain ⟨c1,hc1⟩ : ∃ c,cnt E.N hi k = c := ⟨_,rfl⟩; have e1 : IntKind.i64.wrap (c1 - 1) = c1 - 1 := by rw [IntKind.wrap_i64]; omega
 have HA1 := H.setMany k (c1 - 1); have HA := HA1.drew; rw [hc1] at r1; obtain ⟨_,_,_,_,_,_,_,x7,x8,x9,_,_⟩ := HA.cellW; have r2 := HA.many.cell h2; have f2 := HA.many.frozen h; obtain ⟨c2,hc2⟩ : ∃ c,(if h = k then c1 - 1 else cnt E.N hi h) = c := ⟨_,rfl⟩
 rw [hc2] at r2; have hb2 : -1 ≤ c2 ∧ c2 ≤ (E.N : Int) := by have := Z6g E.N hi h; split at hc2 <;> omega
 have e2 : IntKind.i64.wrap (c2 + 1) = c2 + 1 := by rw [IntKind.wrap_i64]; omega
 have HB1 := HA1.setMany h (c2 + 1); have HB := HB1.drew; obtain ⟨_,_,_,_,_,_,_,y7,y8,y9,_,_⟩ := HB.cellW; have f3 := HB.high.frozen u; have r3 := HB.high.cell hu; have HC1 := HB1.setHigh u (z := (h : Int)) (m := h) rfl; have HC := HC1.drew; obtain ⟨_,_,_,_,_,_,_,z7,z8,z9,_,_⟩ := HC.cellW; have f4 := HC.next.frozen u; have r4 := HC.next.cell hu; have HD := hid ((HC1.setNext u (z := 0) (m := 0) rfl).drew.congrMany (mn2 := cnt E.N (Z0o hi u h)) (fun g _ => by
  rw [Zfw hu,hk]; subst hc2; by_cases e3 : g = h
  ·subst e3
   by_cases e4 : g = k
   ·subst e4; simp only [if_true]; omega
   ·simp only [e4,if_false,if_true]
    rw [if_neg (fun e => e4 e.symm)]; omega
  ·by_cases e4 : g = k
   ·subst e4; simp only [e3,if_false,if_true]
    rw [if_neg (fun e => e3 e.symm)]; omega
   ·simp only [e3,e4,if_false]
    rw [if_neg (fun e => e4 e.symm),if_neg (fun e => e3 e.symm)]; omega))
 have o := H.ord; have HZ : Hid (Below E.C wr ((((wr.setCell ⟨E.mb,k,none⟩ (.int .i64 (c1 - 1))).setCell ⟨E.mb,h,none⟩ (.int .i64 (c2 + 1))).setCell ⟨E.hb,u,none⟩ (.int .i64 (h : Int))).setCell ⟨E.nb,u,none⟩ (.int .i64 0)).drew) := Lib.hid
  (((((Below.refl E.C wr).setCell (p := ⟨E.mb,k,none⟩) o.cm _).setCell (p := ⟨E.mb,h,none⟩) o.cm _).setCell (p := ⟨E.hb,u,none⟩) o.ch _).setCell (p := ⟨E.nb,u,none⟩) o.cn _).drew
 clear H HA HB HC HA1 HB1 HC1 hq1 q1 hc1 hc2 hb2 o hk; go_enter Tryz.func132,Tryz.ntmps132
 go_wp2_with fail
 go_region
 go_wp2_with fail
 go_end0
 exact ⟨rfl,HZ.out,HD.out⟩
end Go.Proofs.YtfkommjlmolniaaGreatDoor
end
section

namespace Go.Proofs.YtfkommjlmolniaaGreatDoor
set_option maxHeartbeats 16000000
set_option maxRecDepth 100000
open Go.Lib (hid)
open Go.RowKit
variable {w wr w2 w4 : World} {E : Env} {fl st : Nat → Int} {hi nx : Nat → Nat} {mn mn2 : Nat → Int} {fv : Nat → Value} {Q : Nat → List Nat} {top : Int} {N g c : Nat}
theorem Zck : Z1d N g 0 hi = hi := by funext i; simp [Z1d]
theorem Z8y : Z18 N g 0 hi nx = nx := by funext i; simp [Z18]
theorem Zba : Z1d N g c hi c = hi c := by simp [Z1d]
theorem Zcl (h : g < hi c ∧ hi c < N) : Z0o (Z1d N g c hi) c (N + 1) = Z1d N g (c + 1) hi := by
 funext i
 unfold Z0o Z1d; by_cases e : i = c
 ·subst e; rw [if_pos rfl,if_pos (by omega)]
 ·rw [if_neg e]
  by_cases e2 : i < c ∧ g < hi i ∧ hi i < N
  ·rw [if_pos e2,if_pos (by omega)]
  ·rw [if_neg e2,if_neg (by omega)]
theorem Z8z (h : g < hi c ∧ hi c < N) : Z0o (Z18 N g c hi nx) c 0 = Z18 N g (c + 1) hi nx := by
 funext i
 unfold Z0o Z18; by_cases e : i = c
 ·subst e; rw [if_pos rfl,if_pos (by omega)]
 ·rw [if_neg e]
  by_cases e2 : i < c ∧ g < hi i ∧ hi i < N
  ·rw [if_pos e2,if_pos (by omega)]
  ·rw [if_neg e2,if_neg (by omega)]
theorem Z6p (h : ¬ (g < hi c ∧ hi c < N)) : Z1d N g c hi = Z1d N g (c + 1) hi := by
 funext i
 unfold Z1d; by_cases e2 : i < c ∧ g < hi i ∧ hi i < N
 ·rw [if_pos e2,if_pos (by omega)]
 ·rw [if_neg e2,if_neg (fun h3 => by
   by_cases e : i = c
   ·subst e; exact h ⟨h3.2.1,h3.2.2⟩
   ·omega)]
theorem Z4l (h : ¬ (g < hi c ∧ hi c < N)) : Z18 N g c hi nx = Z18 N g (c + 1) hi nx := by
 funext i
 unfold Z18; by_cases e2 : i < c ∧ g < hi i ∧ hi i < N
 ·rw [if_pos e2,if_pos (by omega)]
 ·rw [if_neg e2,if_neg (fun h3 => by
   by_cases e : i = c
   ·subst e; exact h ⟨h3.2.1,h3.2.2⟩
   ·omega)]
theorem Zm3 (H : Wk E fl st hi nx (cnt E.N hi) fv Q top wr) (hN2 : 2 ≤ E.N) (hN : E.N ≤ 1000) (hb : ∀ i,i < E.N → hi i < 2 * E.N) (g : Nat) :
  Calls Tryz.prog 133 #[.pointer (some ⟨E.p,0,none⟩),.int .i64 (g : Int)] wr fun e w' => e = .returned (.tuple #[]) ∧ Below E.C wr w' ∧ Wk E fl st (Z1d E.N g E.N hi) (Z18 E.N g E.N hi nx) (cnt E.N (Z1d E.N g E.N hi)) fv Q top w' := by
 obtain ⟨w0,hw0⟩ : ∃ w0,w0 = wr := ⟨_,rfl⟩; rw [← hw0] at H ⊢; clear hw0; obtain ⟨_,_,_,_,_,_,_,a7,_⟩ := H.cellW; have HB := hid hb; clear hb; have H0 : Hid (Below E.C w0 w0 ∧ Wk E fl st (Z1d E.N g 0 hi) (Z18 E.N g 0 hi nx) (cnt E.N (Z1d E.N g 0 hi)) fv Q top w0) := hid ⟨Below.refl _ _,by rw [Zck,Z8y]; exact H⟩
 clear H; go_enter Tryz.func133,Tryz.ntmps133
 go_wp2_with fail
 clear a7; go_loopw [11] (fun i wr => ∃ c : Nat,i = .int .i64 c ∧ c ≤ E.N ∧ Hid (Below E.C w0 wr ∧ Wk E fl st (Z1d E.N g c hi) (Z18 E.N g c hi nx) (cnt E.N (Z1d E.N g c hi)) fv Q top wr)) (fun i _ => E.N - (intOf i).toNat)
 case atStart => exact ⟨0,rfl,Nat.zero_le _,H0⟩
 case round =>
  obtain ⟨c,rfl,hc,HX⟩ := hrel; clear H0; by_cases hlt : c < E.N
  ·obtain ⟨a0,_⟩ := HX.out.2.cellW
   have r0 := HX.out.2.high.cell hlt; rw [Zba] at r0; have hm := HB.out c hlt; obtain ⟨m,hm2⟩ : ∃ m,hi c = m := ⟨_,rfl⟩; have HM := hid hm2; rw [hm2] at r0 hm; clear hm2; by_cases h1 : g < m
   ·by_cases h2 : m < E.N
    ·go_wp2_with (go_at_call 132; refine (Ze9 HX.out.2 hN c (E.N + 1) hlt (by rw [Zba,HM.out]; exact hm) (by omega)).mono ?_; rintro e w2 ⟨rfl,hb2,hk2⟩; have HY := hid hk2; have HZ := hid (HX.out.1.trans hb2); clear hb2 hk2)
     go_roundw
     case rel => exact ⟨c + 1,by go_num,by omega,hid ⟨HZ.out,by have := HY.out; rw [Zcl (by rw [HM.out]; exact ⟨h1,h2⟩),Z8z (by rw [HM.out]; exact ⟨h1,h2⟩)] at this; exact this⟩⟩
     case measure => simp [intOf]; omega
    ·go_wp2_with fail
     go_roundw
     case rel => exact ⟨c + 1,by go_num,by omega,hid (by have := HX.out; rw [Z6p (by rw [HM.out]; omega),Z4l (by rw [HM.out]; omega)] at this; exact this)⟩
     case measure => simp [intOf]; omega
   ·go_wp2_with fail
    go_roundw
    case rel => exact ⟨c + 1,by go_num,by omega,hid (by have := HX.out; rw [Z6p (by rw [HM.out]; omega),Z4l (by rw [HM.out]; omega)] at this; exact this)⟩
    case measure => simp [intOf]; omega
  ·obtain rfl : c = E.N := by omega
   go_wp2_with fail
   go_end0
   exact ⟨rfl,HX.out.1,HX.out.2⟩
end Go.Proofs.YtfkommjlmolniaaGreatDoor
end
section

namespace Go.Proofs.YtfkommjlmolniaaGreatDoor
set_option maxHeartbeats 16000000
set_option maxRecDepth 100000
open Go.Lib (hid)
open Go.RowKit
variable {w wr w2 w4 : World} {E : Env} {fl st : Nat → Int} {hi nx : Nat → Nat} {mn : Nat → Int} {fv : Nat → Value} {Q : Nat → List Nat} {top : Int}
theorem Z8x (H : Wk E fl st hi nx mn fv Q top wr) (k v : Nat) (b : Bool) (hk : k < E.len) (hcap : ∀ (k : Nat) (x : Pi),E.l[k]? = some x → 0 ≤ fl k ∧ fl k ≤ x.2.2.1 ∧ x.2.2.1 ≤ 1099511627776) :
  Calls Tryz.prog 110 #[.pointer (some ⟨E.p,0,none⟩),.agg #[.int .i64 (k : Int),.int .i64 (v : Int),.bool b]] wr fun e w' => e = .returned (.int .i64 (lft E.l fl (k,v,b))) ∧ Below wr.heap.size wr w' := by
 have HB := hid ((Below.refl wr.heap.size wr).alloc (Nat.le_refl _) (.cells #[.int .i64 (k : Int),.int .i64 (v : Int),.bool b] 140)); have H1 := H.later HB.out; obtain ⟨_,c1,_,_,_,c5,_⟩ := H1.cellW; have r := H1.flow.cell hk; obtain ⟨pb,off,x,ha,_,hx,e0,e1,e2,e3⟩ := H1.pipes.at_ hk; have hc := hcap k x hx; rw [ha] at c1; have hs : IntKind.i64.wrap (x.2.2.1 - fl k) = x.2.2.1 - fl k := by rw [IntKind.wrap_i64]; omega
 have hlf : lft E.l fl (k,v,b) = if b = true then fl k else x.2.2.1 - fl k := by simp [lft,Z3f hx]
 rw [hlf]; clear hlf hcap H1 H hx ha; cases b with
 | true =>
  go_enter Tryz.func110,Tryz.ntmps110
  go_wp2_with fail
  go_quiet (fail)
  go_wp2_with fail
  go_ret
  exact ⟨rfl,Z03 HB.out _⟩
 | false =>
  go_enter Tryz.func110,Tryz.ntmps110
  go_wp2_with fail
  go_quiet (fail)
  go_wp2_with fail
  go_ret
  exact ⟨rfl,Z03 HB.out _⟩
end Go.Proofs.YtfkommjlmolniaaGreatDoor
end
section

namespace Go.Proofs.YtfkommjlmolniaaGreatDoor
set_option maxHeartbeats 16000000
set_option maxRecDepth 100000
open Go.Lib (hid)
open Go.RowKit
variable {w wr w2 w4 : World} {E : Env} {fl st : Nat → Int} {hi nx hi2 nx2 : Nat → Nat} {mn mn2 : Nat → Int} {fv : Nat → Value} {Q : Nat → List Nat} {top : Int} {N g c : Nat}
def Caps (E : Env) (fl : Nat → Int) : Prop := ∀ (k : Nat) (x : Pi),E.l[k]? = some x → 0 ≤ fl k ∧ fl k ≤ x.2.2.1 ∧ x.2.2.1 ≤ 1099511627776
abbrev PRE (E : Env) (fl : Nat → Int) (hi nx : Nat → Nat) : Prop := PR E.l E.N E.L E.s E.t fl hi nx
abbrev measE (E : Env) (fl : Nat → Int) (hi nx : Nat → Nat) : Nat := meas E.l E.N E.L fl hi nx
theorem Zjj (h : PRE E fl hi nx) (hn : E.Net) : Caps E fl := fun k x hx => by
 have := h.cap k x hx; have := okP_true.1 (hn.ok x (List.mem_of_getElem? hx)); omega
theorem Wk.lane (H : Wk E fl st hi nx mn fv Q top wr) {u q : Nat} (hu : u < E.N) (hq : q < (E.L u).length) : ∃ b off cap k v bk,E.V u = .slice (some ⟨b,off,none⟩) (E.L u).length cap ∧ (E.L u)[q]? = some (k,v,bk) ∧
  wr.cell? ⟨b,off + q * 3,none⟩ = some (.int .i64 (k : Int)) ∧ wr.cell? ⟨b,off + q * 3 + 1,none⟩ = some (.int .i64 (v : Int)) ∧ wr.cell? ⟨b,off + q * 3 + 2,none⟩ = some (.bool bk) := by
 obtain ⟨a,cap,e,hl⟩ := H.lanes.row u hu; obtain ⟨b,off,⟨k,v,bk⟩,ha,_,hx,c0,c1,c2⟩ := hl.at_ hq; subst ha; exact ⟨b,off,cap,k,v,bk,e,hx,c0,c1,c2⟩
theorem Wk.rowV (H : Wk E fl st hi nx mn fv Q top wr) {u : Nat} (hu : u < E.N) : ∃ a cap,E.V u = .slice a (E.L u).length cap := by
 obtain ⟨a,cap,e,_⟩ := H.lanes.row u hu; exact ⟨a,cap,e⟩
theorem Env.Net.lane (hn : E.Net) (H : Wk E fl st hi nx mn fv Q top wr) {u q k v : Nat} {b : Bool} (hu : u < E.N) (hq : (E.L u)[q]? = some (k,v,b)) : k < E.len ∧ v < E.N ∧ u ≠ v := by
 obtain ⟨x,hx,h1,h2,h3,_⟩ := Z2z hn.lanes hu (List.mem_of_getElem? hq); have := H.pipes.1; exact ⟨by simp only at h3; omega,h2,h1⟩
theorem Zm0 (H : Wk E fl st hi nx (cnt E.N hi) fv Q top wr) (hn : E.Net) (hp : PRE E fl hi nx) (u : Nat) (hu : u < E.N) (hus : u ≠ E.s) (hut : u ≠ E.t) (hx : nx u = (E.L u).length) (hpos : 0 < netTo E.l fl (u : Int) E.l.length) :
  Calls Tryz.prog 112 #[.pointer (some ⟨E.p,0,none⟩),.int .i64 (u : Int)] wr fun e w' => e = .returned (.tuple #[]) ∧ Below E.C wr w' ∧
   ∃ hi2 nx2,Wk E fl st hi2 nx2 (cnt E.N hi2) fv Q top w' ∧ PRE E fl hi2 nx2 ∧ measE E fl hi2 nx2 < measE E fl hi nx := by
 obtain ⟨w0,hw0⟩ : ∃ w0,w0 = wr := ⟨_,rfl⟩; rw [← hw0] at H ⊢; clear hw0; have hN := hn.nm; have hN2 := hn.n2; obtain ⟨m,hm⟩ : ∃ m,hi u = m := ⟨_,rfl⟩; have HM := hid hm; have hmb : m < 2 * E.N := by have := hp.bound u hu; omega
 obtain ⟨M,hM⟩ : ∃ M,(E.L u).length = M := ⟨_,rfl⟩; have hMb : M ≤ 40000 := by have := hn.many u; omega
 have HMM := hid hM; obtain ⟨va,vc,hv⟩ := H.rowV hu; rw [hM] at hv; have HV := hid hv; obtain ⟨a0,_,_,_,a4,_,_,a7,a8,_,_,_⟩ := H.cellW; have r0 := H.high.cell hu; rw [hm] at r0; have r1 := H.lanes.out.cell hu; rw [hv] at r1; have e2N : IntKind.i64.wrap (2 * (E.N : Int)) = 2 * (E.N : Int) := by rw [IntKind.wrap_i64]; omega
 have HN := hid hn; have HP := hid hp; have HX := hid hx; have HPS := hid hpos; have HUS := hid hus; have HUT := hid hut; have H0 := hid H; have HL0 := hid (LowP.begin_ E.l E.N fl hi); clear hm hM hv hn hp hx hpos hus hut; go_enter Tryz.func112,Tryz.ntmps112
 go_wp2_with fail
 go_quiet (fail)
 go_wp2_with fail
 clear r0 r1 a0 a4 a7 a8 H; have H0 := hid (H0.out.later (Z03 (Below.refl w0.heap.size w0) nq)); have HB0 := hid (Z03 (Below.refl E.C w0) nq); go_loopw [5,29] (fun lv i wr => ∃ (q low : Nat),lv = .int .i64 (low : Int) ∧ i = .int .i64 (q : Int) ∧ q ≤ M ∧ Hid (Below E.C w0 wr ∧ Wk E fl st hi nx (cnt E.N hi) fv Q top wr) ∧ Hid (LowP E.l E.N fl hi ((E.L u).take q) low)) (fun _ i _ => M - (intOf i).toNat)
 case atStart => exact ⟨0,2 * E.N,congrArg (Value.int .i64) (by omega),rfl,Nat.zero_le _,hid ⟨HB0.out,H0.out⟩,HL0⟩
 case round =>
  obtain ⟨q,low,rfl,rfl,hq,HW,HL⟩ := hrel; clear H0 HB0 HL0; by_cases hlt : q < M
  ·obtain ⟨b,off,cap,k,v,bk,hv2,hj,c0,c1,c2⟩ := HW.out.2.lane (q := q) hu (by rw [HMM.out]; exact hlt)
   rw [HV.out] at hv2; injection hv2 with e1 e2 e3
   clear e2; subst e1 e3; obtain ⟨hk,hvN,huv⟩ := HN.out.lane HW.out.2 hu hj; have HJ := hid hj; have HW1 := hid (HW.out.2.later ((Below.refl wr.heap.size wr).alloc (Nat.le_refl _) (.cells #[.int .i64 (k : Int),.int .i64 (v : Int),.bool bk] 140))); have HC := hid (Zjj HP.out HN.out); have HS : Hid (E.C ≤ wr.heap.size) := hid (by have := HW.out.2.size; have := HW.out.2.ord.dp; have := HW.out.2.ord.cp; omega)
   have hlb := HL.out.le; have hvb : hi v < 2 * E.N := HP.out.bound v hvN; obtain ⟨hv1,hhv⟩ : ∃ z,hi v = z := ⟨_,rfl⟩; have HHV := hid hhv; rw [hhv] at hvb; obtain ⟨d,hd⟩ : ∃ d,lft E.l fl (k,v,bk) = d := ⟨_,rfl⟩; have HD := hid hd; have HCL := hid (Z8x HW1.out k v bk hk HC.out); rw [hd] at HCL; clear hj hd hhv; have HTK : Hid ((E.L u).take (q + 1) = (E.L u).take q ++ [(k,v,bk)]) := hid (by rw [List.take_add_one,HJ.out]; rfl)
   by_cases hpos : 0 < d
   ·have HLN := hid (HL.out.take (k,v,bk) (by rw [HD.out]; exact hpos) (by rw [HHV.out]; exact hvb))
    go_wp2_with (go_at_call 110; refine HCL.out.mono ?_; rintro e w2 ⟨rfl,hb2⟩; have HW2 := hid (HW1.out.later hb2); have x7 := HW2.out.cellW.2.2.2.2.2.2.2.1; have x1 : w2.cell? ⟨wr.heap.size,1,none⟩ = some (.int .i64 (v : Int)) := (hb2.cell (p := ⟨wr.heap.size,1,none⟩) (by simp)).trans (by simp); have rv := HW2.out.high.cell hvN; rw [HHV.out] at rv; have HB2 := hid ((HW.out.1.alloc HS.out _).trans (hb2.mono (by have := HS.out; simp; omega))); clear hb2)
    go_region
    go_wp2_with fail
    go_roundw
    case rel => exact ⟨q + 1,min low hv1,congrArg (Value.int .i64) (by split <;> omega),by go_num,by omega,hid ⟨HB2.out.drew,HW2.out.drew⟩,hid (by have := HLN.out; rw [HHV.out] at this; rw [HTK.out]; exact this)⟩
    case measure => simp [intOf]; omega
   ·have HLN := hid (HL.out.skip (k,v,bk) (by rw [HD.out]; exact hpos))
    go_wp2_with (go_at_call 110; refine HCL.out.mono ?_; rintro e w2 ⟨rfl,hb2⟩; have HW2 := hid (HW1.out.later hb2); have HB2 := hid ((HW.out.1.alloc HS.out _).trans (hb2.mono (by have := HS.out; simp; omega))); clear hb2)
    go_roundw
    case rel => exact ⟨q + 1,low,rfl,by go_num,by omega,hid ⟨HB2.out,HW2.out⟩,hid (by rw [HTK.out]; exact HLN.out)⟩
    case measure => simp [intOf]; omega
  ·have hql : (E.L u).take q = E.L u := List.take_of_length_le (by have := HMM.out; omega)
   rw [hql] at HL; obtain ⟨hpr,hup,hlo⟩ := HP.out.lift HN.out.lanes HN.out.ok HN.out.sN hu HUS.out HUT.out HX.out HPS.out HL.out; have HPR := hid hpr; have HUP := hid hup; clear hpr hup hql; have hlw : IntKind.i64.wrap ((low : Int) + 1) = (low : Int) + 1 := by rw [IntKind.wrap_i64]; omega
   obtain ⟨h,hh⟩ : ∃ h,h = low + 1 := ⟨_,rfl⟩; have hh2 : (low : Int) + 1 = (h : Int) := by omega
   rw [← hh] at HPR HUP hlo; have HMV := hid (Ze9 HW.out.2 hN u h hu (by rw [HM.out]; exact hmb) hlo)
   have HLE : Hid (∀ i,i < E.N → hi i ≤ Z0o hi u h i) := hid (fun i _ => by
    unfold Z0o; split
    ·rename_i e; subst e; have := HUP.out; omega
    ·omega)
   have HLT : Hid (hi u < Z0o hi u h u) := hid (by have := HUP.out; simp only [Z0o,if_true]; omega)
   clear hh; obtain ⟨cw,hcw⟩ : ∃ cw,cnt E.N (Z0o hi u h) m = cw := ⟨_,rfl⟩; have HCW := hid hcw; by_cases hz : cw = 0
   ·have hzb : (cw == 0) = true := by simp [hz]
    have HG := hid (Zli (hcw.trans hz)); clear hz hcw; by_cases hmn : m < E.N
    ·go_wp2_with (first
      | (go_at_call 132; (try rw [hh2]); refine HMV.out.mono ?_; rintro e w2 ⟨rfl,hb2,hk2⟩; have HY := hid hk2; have HZ := hid (HW.out.1.trans hb2); have y0 := hk2.cellW.1; have y8 := hk2.cellW.2.2.2.2.2.2.2.2.1; have ym := hk2.many.cell hmb; rw [HCW.out] at ym; clear hb2 hk2)
      | (go_at_call 133; refine (Zm3 HY.out hN2 hN HPR.out.bound m).mono ?_; rintro e w3 ⟨rfl,hb3,hk3⟩; have HY3 := hid hk3; have HZ3 := hid (HZ.out.trans hb3); clear hb3 hk3))
     go_end0
     have hp3 := HPR.out.part HN.out.lanes HN.out.n2 HG.out; refine ⟨rfl,HZ3.out,_,_,HY3.out,hp3,Z6f HP.out hp3 HN.out.ok hu ?_ (fun i hi3 => ?_)⟩
     ·have h1 := HLT.out
      have h2 := HP.out.bound u hu; unfold Z1d; split <;> omega
     ·have h1 := HLE.out i hi3
      unfold Z1d; split <;> omega
    ·go_wp2_with (go_at_call 132; (try rw [hh2]); refine HMV.out.mono ?_; rintro e w2 ⟨rfl,hb2,hk2⟩; have HY := hid hk2; have HZ := hid (HW.out.1.trans hb2); have y0 := hk2.cellW.1; have y8 := hk2.cellW.2.2.2.2.2.2.2.2.1; have ym := hk2.many.cell hmb; rw [HCW.out] at ym; clear hb2 hk2)
     go_end0
     exact ⟨rfl,HZ.out,_,_,HY.out,HPR.out,Z6f HP.out HPR.out HN.out.ok hu HLT.out HLE.out⟩
   ·have hzb : (cw == 0) = false := by simp [hz]
    clear hz hcw; go_wp2_with (go_at_call 132; (try rw [hh2]); refine HMV.out.mono ?_; rintro e w2 ⟨rfl,hb2,hk2⟩; have HY := hid hk2; have HZ := hid (HW.out.1.trans hb2); have y0 := hk2.cellW.1; have y8 := hk2.cellW.2.2.2.2.2.2.2.2.1; have ym := hk2.many.cell hmb; rw [HCW.out] at ym; clear hb2 hk2)
    go_end0
    exact ⟨rfl,HZ.out,_,_,HY.out,HPR.out,Z6f HP.out HPR.out HN.out.ok hu HLT.out HLE.out⟩
end Go.Proofs.YtfkommjlmolniaaGreatDoor
end
section
/- Moves of a region's walk, by shorter names. -/
namespace Go.Proofs.YtfkommjlmolniaaGreatDoor
open Go.RowKit

variable {P : Program} {md : Region.Mode} {ops : Array Oper} {Q : Exit → Act → World → Prop} {S : World → Prop}
/-- What only reads, first. -/
theorem stpT (i : Nat) {oi : Oper} {v : Value} {fuel : Nat} {listed : Array Bool} {a : Act} {w : World} (hS : S w)
    (h : wpAnyH P md ops Q S fuel (listed.setIfInBounds i true) (a.put oi.dst v) w)
    (hi : ops[i]? = some oi := by exact rfl)
    (hs : Region.noSelect ops = true := by kernel_rfl) (hf : Region.free md ops listed i = true := by kernel_rfl) (hr : (Region.ready md ops listed).contains i = true := by kernel_rfl)
    (hQ : ∀ c a w, Q (.panic c) (a.put oi.dst v) w → Q (.panic c) a w := by exact fun _ _ _ h => h)
    (hw : Region.wanted oi (yielded ops a.tmps) = true := by rfl)
    (y : ∀ w, S w → (execOp a.eval oi).run P w = .ok (.value v) w) : wpAnyH P md ops Q S (fuel + 1) listed a w :=
  wpAnyH_take hi hs hf hr hQ (Or.inl ⟨hw, y⟩) hS h
/-- The one that is ready. -/
theorem stpR (i : Nat) {oi : Oper} {fuel : Nat} {listed : Array Bool} {a : Act} {w : World}
    (h : ∀ K' : Act → World → Prop, Shut (∀ a w, S w → (S w → wpAnyH P md ops Q S fuel (listed.setIfInBounds i true) a w) → K' a w) → if Region.wanted oi (yielded ops a.tmps) = true then Oper.wp P oi a w K' Q else K' (a.put oi.dst undef) w)
    (hi : ops[i]? = some oi := by exact rfl) (hr : Region.ready md ops listed = [i] := by kernel_rfl) : wpAnyH P md ops Q S (fuel + 1) listed a w :=
  wpAnyH_ready hr (by simp) (AllReadyH.cons hi h AllReadyH.nil)
end Go.Proofs.YtfkommjlmolniaaGreatDoor
end
section

namespace Go.Proofs.YtfkommjlmolniaaGreatDoor
set_option maxHeartbeats 16000000
set_option maxRecDepth 100000
open Go.Lib (hid)
open Go.RowKit
variable {w wr w2 w4 : World} {E : Env} {fl st : Nat → Int} {hi nx hi2 nx2 : Nat → Nat} {mn mn2 : Nat → Int} {fv : Nat → Value} {Q : Nat → List Nat} {top : Int} {N g c : Nat}
theorem Zlx : (Tryz.prog.info? 3).map (fun i => (i.zero,i.size,i.bytes)) = some (some (.int .i64 0),1,8) := by kernel_rfl
theorem Zns (H : Wk E fl st hi nx mn fv Q top wr) (u : Nat) (h : u = E.s ∨ u = E.t) :
  Calls Tryz.prog 131 #[.pointer (some ⟨E.p,0,none⟩),.int .i64 (u : Int)] wr fun e w' => e = .returned (.tuple #[]) ∧ Below wr.heap.size wr w' := by
 obtain ⟨_,_,a2,a3,_⟩ := H.cellW; by_cases h1 : u = E.s
 ·have hd1 : ((u : Int) != (E.s : Int)) = false := by simp [h1]
  clear h h1; go_enter Tryz.func131,Tryz.ntmps131
  go_wp2_with fail
  go_end0
  exact ⟨rfl,Below.refl _ _⟩
 ·have hd1 : ((u : Int) != (E.s : Int)) = true := by simp; omega
  have hd2 : ((u : Int) != (E.t : Int)) = false := by simp; omega
  clear h h1; go_enter Tryz.func131,Tryz.ntmps131
  go_wp2_with fail
  go_end0
  exact ⟨rfl,Below.refl _ _⟩
def Aside (E : Env) (w w2 : World) (v : Value) : Prop := ∀ b,E.D ≤ b → b < w.heap.size → v.ownBlock ≠ some b → w2.heap[b]? = w.heap[b]?
def FillS (E : Env) (u k : Nat) (W : World) : Prop := W.cell? ⟨E.p,10,none⟩ = some (.slice (some ⟨E.ub,0,none⟩) (2 * E.N) (2 * E.N)) ∧ W.cell? ⟨E.p,7,none⟩ = some (.slice (some ⟨E.hb,0,none⟩) E.N E.N) ∧ W.cell? ⟨E.hb,u,none⟩ = some (.int .i64 (k : Int)) ∧ (E.Ok ∧ E.D ≤ W.heap.size)
theorem FillS.mod {S : Nat → Prop} {u k : Nat} (h : FillS E u k w) (hm : Mod S w w2) (h1 : ¬ S E.p) (h2 : ¬ S E.hb) : FillS E u k w2 := by
 obtain ⟨a,b,c,o,d⟩ := h; have d1 := o.dp; have d2 := o.dh; exact ⟨(hm.cell (p := ⟨E.p,10,none⟩) (Nat.lt_of_lt_of_le d1 d) h1).trans a,(hm.cell (p := ⟨E.p,7,none⟩) (Nat.lt_of_lt_of_le d1 d) h1).trans b,(hm.cell (p := ⟨E.hb,u,none⟩) (Nat.lt_of_lt_of_le d2 d) h2).trans c,o,Nat.le_trans d hm.size⟩
theorem Z0i {P : Program} {md : Region.Mode} {ops : Array Oper} {Q : Exit → Act → World → Prop} {S : World → Prop} (i : Nat) {oi : Oper} {v : Value} {fuel : Nat} {listed : Array Bool} {a : Act} {w : World} (hS : S w) (h : wpAnyH P md ops Q S fuel (listed.setIfInBounds i true) (a.put oi.dst v) w) (hi : ops[i]? = some oi := by exact rfl) (hs : Region.noSelect ops = true := by kernel_rfl) (hf : Region.free md ops listed i = true := by kernel_rfl) (hr : (Region.ready md ops listed).contains i = true := by kernel_rfl) (hQ : ∀ c a w,Q (.panic c) (a.put oi.dst v) w → Q (.panic c) a w := by exact fun _ _ _ h => h) (hw : Region.wanted oi (yielded ops a.tmps) = true := by rfl) (y : ∀ w,S w → (execOp a.eval oi).run P w = .ok (.value v) w := by intro W0 hW; obtain ⟨hW1,hW2,hW3,hW4⟩ := hW; go_simp; (try with_reducible rfl)) : wpAnyH P md ops Q S (fuel + 1) listed a w := stpT i hS h hi hs hf hr hQ hw y
theorem Zly (H : Wk E fl st hi nx mn fv Q top wr) (u : Nat) (hu : u < E.N) (hb : hi u < 2 * E.N) (_hN : E.N ≤ 1000) (h1 : u ≠ E.s) (h2 : u ≠ E.t) (hq : (Q (hi u)).length ≤ 1000) :
  Calls Tryz.prog 131 #[.pointer (some ⟨E.p,0,none⟩),.int .i64 (u : Int)] wr fun e w' => e = .returned (.tuple #[]) ∧ Below E.C wr w' ∧
   (∃ fv2,Wk E fl st hi nx mn fv2 (fun j => if j = hi u then Q (hi u) ++ [u] else Q j) (max top (hi u : Int)) w') ∧ Aside E wr w' (fv (hi u)) := by
 obtain ⟨i0,hi0,hz0,hz1,hz2⟩ := info_parts Zlx; have hd1 : ((u : Int) != (E.s : Int)) = true := by simp; omega
 have hd2 : ((u : Int) != (E.t : Int)) = true := by simp; omega
 clear h1 h2; obtain ⟨k,hk⟩ : ∃ k,hi u = k := ⟨_,rfl⟩; have HK := hid hk; rw [hk] at hb hq ⊢; have hbi : (k : Int) < 2 * (E.N : Int) := by omega
 obtain ⟨n,hn⟩ : ∃ n,(Q k).length = n := ⟨_,rfl⟩; rw [hn] at hq; obtain ⟨va,vc,hv⟩ := Z04 (H.rows k hb); rw [hn] at hv; have H1 := H.later (((Below.refl wr.heap.size wr).drew).alloc (Nat.le_refl _) (.cells #[.int .i64 (u : Int)] 3)); obtain ⟨_,_,a2,a3,_,_,_,a7,_,_,a10,a11,_⟩ := H.cellW; have r0 := H.high.cell hu; rw [hk] at r0; have r1 := H.full.cell hb; have s1 := H1.full.cell hb; rw [hv] at r1 s1; have s2 : (wr.alloc (.cells #[.int .i64 (u : Int)] 3)).cell? ⟨E.ub,k,none⟩ = some (.slice va n vc) := s1; have HSZ := hid H1.size; have HO1 := hid H.ord; have HVK := hid hv; have HF0 : Hid (FillS E u k wr.drew) := hid ⟨a10,a7,r0,H.ord,H.size⟩; have HO : Hid ((wr.drew.alloc (.cells #[.int .i64 (u : Int)] 3)).ownsRow E.D 3 1 (.slice va n vc) n (nodeV (Q k))) := hid (by have := H1.rows k hb; rw [hv,hn] at this; exact this)
 have HPU : Hid (∀ G cp w4,w4.ownsRow E.D 3 1 (.slice (some ⟨G,0,none⟩) (n + 1) cp) (n + 1) (nodeV (Q k) ++ [.int .i64 (u : Int)]) → (wr.drew.alloc (.cells #[.int .i64 (u : Int)] 3)).grownBy w4 (Value.slice va n vc).ownBlock → ((Value.slice va n vc).ownBlock = some G ∨ G = (wr.drew.alloc (.cells #[.int .i64 (u : Int)] 3)).heap.size) →
   Wk E fl st hi nx mn (fun j => if j = k then .slice (some ⟨G,0,none⟩) (n + 1) cp else fv j) (fun j => if j = k then Q k ++ [u] else Q j) top (w4.setCell ⟨E.ub,k,none⟩ (.slice (some ⟨G,0,none⟩) (n + 1) cp)) ∧
   w4.cell? ⟨E.ub,k,none⟩ = some (.slice va n vc) ∧ w4.frozen? ⟨E.ub,k,none⟩ = false ∧ FillS E u k w4 ∧ Below E.C wr w4 ∧ Aside E wr w4 (.slice va n vc)) := hid (fun G cp w4 hown hgrow hfr => by
  have o := H.ord; have hlt := World.ownsRow.lt (H1.rows k hb); rw [hv] at hlt; have hfx : ∀ b,b < E.D → ¬ (Value.slice va n vc).ownBlock = some b := fun b h1 h2 => by have := (hlt b h2).1; omega
  subst hn; rw [← hv] at hgrow hfr ⊢; obtain ⟨p1,p2,p3⟩ := H1.pushQ hb hown hgrow hfr; rw [hv] at hgrow; have hsz := H1.size; refine ⟨p1,p2,p3,HF0.out.mod (((Mod.refl (fun b => (Value.slice va (Q k).length vc).ownBlock = some b) _).alloc _).grown hgrow (fun b hb2 => .inr hb2)) (hfx _ o.dp) (hfx _ o.dh),?_,fun b hb1 hb2 hb3 => (hgrow.block b (by simp; omega) (fun e => by rw [hv] at hb3; exact hb3 e.symm)).trans (RowKit.Below.heap_alloc wr.drew _ b hb2)⟩
  exact (((Below.refl E.C wr).drew).alloc (by have := H.size; have := o.cp; have := o.dp; exact Nat.le_trans (by omega : E.C ≤ E.D) H.size) _).grown hgrow (Nat.le_trans (by have := o.cp; have := o.dp; omega) hsz) (fun b hb2 => by have := (hlt b hb2).1; have := o.cp; have := o.dp; omega))
 clear H H1 hn hv hk; go_enter Tryz.func131,Tryz.ntmps131
 go_wp2_with fail
 refine wp_region_held_drew (S := FillS E u k) (by kernel_rfl) HF0.out (fun hHeld => ?_)
 refine Z0i 0 hHeld ?_; try go_frame
 refine Z0i 1 hHeld ?_; try go_frame
 refine Z0i 2 hHeld ?_; try go_frame
 refine Z0i 3 hHeld ?_; try go_frame
 refine Z0i 4 hHeld ?_; try go_frame
 refine Z0i 5 hHeld ?_; try go_frame
 refine Z0i 6 hHeld ?_; try go_frame
 refine Z0i 7 hHeld ?_; try go_frame
 refine Z0i 8 hHeld ?_; try go_frame
 refine Z0i 9 hHeld ?_; try go_frame
 refine Z0i 10 hHeld ?_; try go_frame
 refine Z0i 11 hHeld ?_; try go_frame
 refine Z0i 12 hHeld ?_; try go_frame
 refine Z0i 13 hHeld ?_; try go_frame
 refine Z0i 14 hHeld ?_; try go_frame
 refine Z0i 15 hHeld ?_; try go_frame
 refine Z0i 16 hHeld ?_; try go_frame
 refine Z0i 17 hHeld ?_; try go_frame
 refine Z0i 18 hHeld ?_; try go_frame
 refine Z0i 19 hHeld ?_; try go_frame
 refine Z0i 20 hHeld ?_; try go_frame
 refine Z0i 21 hHeld ?_; try go_frame
 refine Z0i 22 hHeld ?_; try go_frame
 refine Z0i 24 hHeld ?_; try go_frame
 refine wpAnyH_ready (rs := [23,25]) (by kernel_rfl) (by simp) ?_
 refine AllReadyH.cons rfl (fun K hK => ?_) (AllReadyH.cons rfl (fun K hK => ?_) AllReadyH.nil)
 ·go_simp
  refine hK.out _ _ ?_ (fun hHeld => ?_)
  ·exact hHeld
  clear hK K; try go_frame
  refine stpR 25 (fun K hK => ?_); go_simp; refine hK.out _ _ ?_ (fun hHeld => ?_)
  ·exact hHeld.mod ((Mod.refl (fun _ => False) _).alloc _) (fun h => h) (fun h => h)
  clear hK K; try go_frame
  refine stpR 26 (fun K hK => ?_); refine Z01 rfl (.tmp 41) (.tmp 43) 37 rfl E.D 3 i0 _ 1 8 Tryz.underlying37 hi0 hz0 hz1 hz2 (by decide) (.slice va n vc) n (nodeV (Q k)) rfl HO.out ⟨wr.heap.size,0,none⟩ 1 [.int .i64 (u : Int)] rfl rfl (Z1b _ _ _ _ rfl) (Z2y _) (by unfold maxLen; omega) (by omega) HSZ.out ?_
  intro G cp w4 hown hgrow hfr; obtain ⟨hpq,r4,f4,x4,hB4,has⟩ := HPU.out G cp w4 hown hgrow hfr; have HAS := hid has; clear hown hgrow hfr has; refine hK.out _ _ ?_ (fun hHeld => ?_)
  ·exact x4
  clear hK K; try go_frame
  refine Z0i 27 hHeld ?_; try go_frame
  refine stpR 28 (fun K hK => ?_); go_simp; refine hK.out _ _ ?_ (fun hHeld => ?_)
  ·exact x4.mod ((Mod.refl (fun b => b = E.ub) _).setCell (p := ⟨E.ub,k,none⟩) (.inr rfl) _) HO1.out.pu HO1.out.hu
  clear hK K; try go_frame
  refine wpAnyH_done (by kernel_rfl) ?_ _
  clear hHeld; obtain ⟨_,_,_,_,_,_,_,x7,_,_,_,x11,x12⟩ := hpq.cellW; have x0 := hpq.high.cell hu; rw [HK.out] at x0; by_cases hmx : top < (k : Int)
  ·have HP := hid (hpq.setTop (k : Int)).drew
   have HB : Hid (Below E.C wr ((w4.setCell ⟨E.ub,k,none⟩ (.slice (some ⟨G,0,none⟩) (n + 1) cp)).setCell ⟨E.p,11,none⟩ (.int .i64 (k : Int))).drew) := hid ((hB4.setCell (p := ⟨E.ub,k,none⟩) HO1.out.cu _).setCell (p := ⟨E.p,11,none⟩) HO1.out.cp _).drew; have HMX : Hid (max top (k : Int) = (k : Int)) := hid (by omega)
   clear hpq hB4; go_wp2_with fail
   go_region
   go_wp2_with fail
   go_end0
   exact ⟨rfl,HB.out,⟨_,by rw [HMX.out]; exact HP.out⟩,fun b h1 h2 h3 => ((heap_setCell_other _ _ _ _ (fun e => by have h4 : b = E.p := e; have := HO1.out.dp; omega)).trans (heap_setCell_other _ _ _ _ (fun e => by have h4 : b = E.ub := e; have := HO1.out.du; omega))).trans (HAS.out b h1 h2 (by rw [HVK.out] at h3; exact h3))⟩
  ·have HP := hid (hpq.setTop top).drew
   have HB : Hid (Below E.C wr ((w4.setCell ⟨E.ub,k,none⟩ (.slice (some ⟨G,0,none⟩) (n + 1) cp)).setCell ⟨E.p,11,none⟩ (.int .i64 top)).drew) := hid ((hB4.setCell (p := ⟨E.ub,k,none⟩) HO1.out.cu _).setCell (p := ⟨E.p,11,none⟩) HO1.out.cp _).drew; have HMX : Hid (max top (k : Int) = top) := hid (by omega)
   clear hpq hB4; go_wp2_with fail
   go_region
   go_wp2_with fail
   go_end0
   exact ⟨rfl,HB.out,⟨_,by rw [HMX.out]; exact HP.out⟩,fun b h1 h2 h3 => ((heap_setCell_other _ _ _ _ (fun e => by have h4 : b = E.p := e; have := HO1.out.dp; omega)).trans (heap_setCell_other _ _ _ _ (fun e => by have h4 : b = E.ub := e; have := HO1.out.du; omega))).trans (HAS.out b h1 h2 (by rw [HVK.out] at h3; exact h3))⟩
 ·go_simp
  refine hK.out _ _ ?_ (fun hHeld => ?_)
  ·exact hHeld.mod ((Mod.refl (fun _ => False) _).alloc _) (fun h => h) (fun h => h)
  clear hK K; try go_frame
  refine stpR 23 (fun K hK => ?_); go_simp; refine hK.out _ _ ?_ (fun hHeld => ?_)
  ·exact hHeld
  clear hK K; try go_frame
  refine stpR 26 (fun K hK => ?_); refine Z01 rfl (.tmp 41) (.tmp 43) 37 rfl E.D 3 i0 _ 1 8 Tryz.underlying37 hi0 hz0 hz1 hz2 (by decide) (.slice va n vc) n (nodeV (Q k)) rfl HO.out ⟨wr.heap.size,0,none⟩ 1 [.int .i64 (u : Int)] rfl rfl (Z1b _ _ _ _ rfl) (Z2y _) (by unfold maxLen; omega) (by omega) HSZ.out ?_
  intro G cp w4 hown hgrow hfr; obtain ⟨hpq,r4,f4,x4,hB4,has⟩ := HPU.out G cp w4 hown hgrow hfr; have HAS := hid has; clear hown hgrow hfr has; refine hK.out _ _ ?_ (fun hHeld => ?_)
  ·exact x4
  clear hK K; try go_frame
  refine Z0i 27 hHeld ?_; try go_frame
  refine stpR 28 (fun K hK => ?_); go_simp; refine hK.out _ _ ?_ (fun hHeld => ?_)
  ·exact x4.mod ((Mod.refl (fun b => b = E.ub) _).setCell (p := ⟨E.ub,k,none⟩) (.inr rfl) _) HO1.out.pu HO1.out.hu
  clear hK K; try go_frame
  refine wpAnyH_done (by kernel_rfl) ?_ _
  clear hHeld; obtain ⟨_,_,_,_,_,_,_,x7,_,_,_,x11,x12⟩ := hpq.cellW; have x0 := hpq.high.cell hu; rw [HK.out] at x0; by_cases hmx : top < (k : Int)
  ·have HP := hid (hpq.setTop (k : Int)).drew
   have HB : Hid (Below E.C wr ((w4.setCell ⟨E.ub,k,none⟩ (.slice (some ⟨G,0,none⟩) (n + 1) cp)).setCell ⟨E.p,11,none⟩ (.int .i64 (k : Int))).drew) := hid ((hB4.setCell (p := ⟨E.ub,k,none⟩) HO1.out.cu _).setCell (p := ⟨E.p,11,none⟩) HO1.out.cp _).drew; have HMX : Hid (max top (k : Int) = (k : Int)) := hid (by omega)
   clear hpq hB4; go_wp2_with fail
   go_region
   go_wp2_with fail
   go_end0
   exact ⟨rfl,HB.out,⟨_,by rw [HMX.out]; exact HP.out⟩,fun b h1 h2 h3 => ((heap_setCell_other _ _ _ _ (fun e => by have h4 : b = E.p := e; have := HO1.out.dp; omega)).trans (heap_setCell_other _ _ _ _ (fun e => by have h4 : b = E.ub := e; have := HO1.out.du; omega))).trans (HAS.out b h1 h2 (by rw [HVK.out] at h3; exact h3))⟩
  ·have HP := hid (hpq.setTop top).drew
   have HB : Hid (Below E.C wr ((w4.setCell ⟨E.ub,k,none⟩ (.slice (some ⟨G,0,none⟩) (n + 1) cp)).setCell ⟨E.p,11,none⟩ (.int .i64 top)).drew) := hid ((hB4.setCell (p := ⟨E.ub,k,none⟩) HO1.out.cu _).setCell (p := ⟨E.p,11,none⟩) HO1.out.cp _).drew; have HMX : Hid (max top (k : Int) = top) := hid (by omega)
   clear hpq hB4; go_wp2_with fail
   go_region
   go_wp2_with fail
   go_end0
   exact ⟨rfl,HB.out,⟨_,by rw [HMX.out]; exact HP.out⟩,fun b h1 h2 h3 => ((heap_setCell_other _ _ _ _ (fun e => by have h4 : b = E.p := e; have := HO1.out.dp; omega)).trans (heap_setCell_other _ _ _ _ (fun e => by have h4 : b = E.ub := e; have := HO1.out.du; omega))).trans (HAS.out b h1 h2 (by rw [HVK.out] at h3; exact h3))⟩
end Go.Proofs.YtfkommjlmolniaaGreatDoor
end
section

namespace Go.Proofs.YtfkommjlmolniaaGreatDoor
open Go.RowKit
variable {w wr w2 w4 : World} {E : Env} {fl st st2 : Nat → Int} {hi nx hi2 nx2 : Nat → Nat} {mn mn2 : Nat → Int} {fv : Nat → Value} {Q : Nat → List Nat} {top m : Int} {N g c u v : Nat} {a : La}
theorem Zat : ∀ (N : Nat) (o : List Nat),o.Nodup → (∀ i ∈ o,i < N) → o.length ≤ N
 | 0,o,_,h => by
  have : o = [] := List.eq_nil_iff_forall_not_mem.2 (fun i hi => by have := h i hi; omega)
  subst this; exact Nat.le_refl _
 | N + 1,o,hn,h => by
  have hn2 : (o.erase N).Nodup := hn.erase N; have h1 := Zat N (o.erase N) hn2 (fun i hi => by
   have hm := (hn.mem_erase_iff.1 hi); have := h i hm.2; omega)
  by_cases hN : N ∈ o
  ·have hl := List.length_erase_of_mem hN
   have hpos : 0 < o.length := List.length_pos_of_mem hN; omega
  ·rw [List.erase_of_not_mem hN] at h1
   omega
structure Que (E : Env) (st : Nat → Int) (Q : Nat → List Nat) (top : Int) (u : Nat) : Prop where
 nd : ∀ h,h < 2 * E.N → (Q h).Nodup
 one : ∀ h h2 i,h < 2 * E.N → h2 < 2 * E.N → i ∈ Q h → i ∈ Q h2 → h = h2
 mem : ∀ h,h < 2 * E.N → ∀ i ∈ Q h,i < E.N ∧ 0 < st i ∧ i ≠ E.s ∧ i ≠ E.t ∧ i ≠ u
 all : ∀ i,i < E.N → i ≠ E.s → i ≠ E.t → i ≠ u → 0 < st i → ∃ h,h < 2 * E.N ∧ (h : Int) ≤ top ∧ i ∈ Q h
 lo : -1 ≤ top
 hiT : top < 2 * (E.N : Int)
theorem Que.len (h : Que E st Q top u) {g : Nat} (hg : g < 2 * E.N) : (Q g).length ≤ E.N := Zat _ _ (h.nd g hg) (fun i hi => (h.mem g hg i hi).1)
theorem Que.more (h : Que E st Q top u) (he : ∀ i,i ≠ u → i ≠ v → st2 i = st i) (hp : v ≠ E.s → 0 < st2 v) (hv : v = E.s ∨ v = E.t ∨ 0 < st v) : Que E st2 Q top u := by
 refine ⟨h.nd,h.one,fun g hg i hi => ?_,fun i hi h1 h2 h3 h4 => ?_,h.lo,h.hiT⟩
 ·obtain ⟨a,b,c,d,e⟩ := h.mem g hg i hi
  refine ⟨a,?_,c,d,e⟩; by_cases ev : i = v
  ·subst ev; exact hp c
  ·rw [he i e ev]; exact b
 ·refine h.all i hi h1 h2 h3 ?_
  by_cases ev : i = v
  ·subst ev
   rcases hv with hv | hv | hv
   ·exact absurd hv h1
   ·exact absurd hv h2
   ·exact hv
  ·rw [← he i h3 ev]; exact h4
theorem Que.fill (h : Que E st Q top u) (he : ∀ i,i ≠ u → i ≠ v → st2 i = st i) (hp : 0 < st2 v) (hv : v < E.N) (hz : st v = 0) (hvs : v ≠ E.s) (hvt : v ≠ E.t) (hvu : v ≠ u) {k : Nat} (hk : k < 2 * E.N) :
  Que E st2 (fun j => if j = k then Q k ++ [v] else Q j) (max top (k : Int)) u := by
 have no : ∀ g,g < 2 * E.N → v ∉ Q g := fun g hg hm => by have := (h.mem g hg v hm).2.1; omega
 have mem : ∀ g i,i ∈ (if g = k then Q k ++ [v] else Q g) → (i ∈ Q g ∨ (i = v ∧ g = k)) := fun g i hi => by
  by_cases e : g = k
  ·rw [if_pos e,List.mem_append] at hi
   subst e; rcases hi with hi | hi
   ·exact .inl hi
   ·exact .inr ⟨by simpa using hi,rfl⟩
  ·rw [if_neg e] at hi; exact .inl hi
 have h1 := h.lo; have h2 := h.hiT; refine ⟨fun g hg => ?_,fun g g2 i hg hg2 hi hi2 => ?_,fun g hg i hi => ?_,fun i hi a1 a2 a3 a4 => ?_,by omega,by omega⟩
 ·by_cases e : g = k
  ·subst e
   simp only [if_true]
   rw [List.nodup_append]; refine ⟨h.nd g hg,by simp,fun a ha b hb => ?_⟩
   simp at hb
   subst hb; intro e; subst e; exact no g hg ha
  ·simp only [e,if_false]; exact h.nd g hg
 ·rcases mem g i hi with m1 | ⟨m1,m2⟩
  ·rcases mem g2 i hi2 with n1 | ⟨n1,n2⟩
   ·exact h.one g g2 i hg hg2 m1 n1
   ·subst n1; exact absurd m1 (no g hg)
  ·rcases mem g2 i hi2 with n1 | ⟨n1,n2⟩
   ·subst m1; exact absurd n1 (no g2 hg2)
   ·omega
 ·rcases mem g i hi with m1 | ⟨m1,_⟩
  ·obtain ⟨a,b,c,d,e⟩ := h.mem g hg i m1
   refine ⟨a,?_,c,d,e⟩; rw [he i e (fun e2 => by subst e2; exact no g hg m1)]
   exact b
  ·subst m1
   exact ⟨hv,hp,hvs,hvt,hvu⟩
 ·by_cases e : i = v
  ·subst e
   exact ⟨k,hk,by omega,by simp⟩
  ·obtain ⟨g,b1,b2,b3⟩ := h.all i hi a1 a2 a3 (by rw [← he i a3 e]; exact a4)
   refine ⟨g,b1,by omega,?_⟩
   by_cases e2 : g = k
   ·subst e2; simp [b3]
   ·simp [e2,b3]
theorem Que.take (h : Que E st Q top E.N) {k : Nat} {q : List Nat} (hk : k < 2 * E.N) (hq : Q k = q ++ [u]) (hte : top = (k : Int)) : Que E st (fun j => if j = k then q else Q j) top u ∧ u < E.N ∧ 0 < st u ∧ u ≠ E.s ∧ u ≠ E.t := by
 have hu : u ∈ Q k := by rw [hq]; simp
 obtain ⟨c1,c2,c3,c4,_⟩ := h.mem k hk u hu; have hnd := h.nd k hk; rw [hq,List.nodup_append] at hnd; have sub : ∀ g i,i ∈ (if g = k then q else Q g) → i ∈ Q g ∧ (g = k → i ∈ q) := fun g i hi => by
  by_cases e : g = k
  ·rw [if_pos e] at hi
   subst e; exact ⟨by rw [hq]; simp [hi],fun _ => hi⟩
  ·rw [if_neg e] at hi; exact ⟨hi,fun e2 => absurd e2 e⟩
 refine ⟨⟨fun g hg => ?_,fun g g2 i hg hg2 hi hi2 => h.one g g2 i hg hg2 (sub g i hi).1 (sub g2 i hi2).1,fun g hg i hi => ?_,fun i hi a1 a2 a3 a4 => ?_,h.lo,h.hiT⟩,c1,c2,c3,c4⟩
 ·by_cases e : g = k
  ·simp only [e,if_true]; exact hnd.1
  ·simp only [e,if_false]; exact h.nd g hg
 ·obtain ⟨a,b,c,d,_⟩ := h.mem g hg i (sub g i hi).1
  refine ⟨a,b,c,d,fun e => ?_⟩; subst e; have e2 := h.one g k i hg hk (sub g i hi).1 hu; exact hnd.2.2 i ((sub g i hi).2 e2) i (by simp) rfl
 ·obtain ⟨g,b1,b2,b3⟩ := h.all i hi a1 a2 (by omega) a4
  refine ⟨g,b1,b2,?_⟩; by_cases e2 : g = k
  ·subst e2
   rw [hq,List.mem_append] at b3; rcases b3 with b3 | b3
   ·simp [b3]
   ·exact absurd (by simpa using b3) a3
  ·simp [e2,b3]
theorem Que.down (h : Que E st Q top u) {k : Nat} (hq : Q k = []) (hte : top = (k : Int)) : Que E st Q (top - 1) u := by
 have := h.hiT; refine ⟨h.nd,h.one,h.mem,fun i hi a1 a2 a3 a4 => ?_,by omega,by omega⟩
 obtain ⟨g,b1,b2,b3⟩ := h.all i hi a1 a2 a3 a4; refine ⟨g,b1,?_,b3⟩; by_cases e : g = k
 ·subst e; rw [hq] at b3; cases b3
 ·omega
theorem Que.done (h : Que E st Q top u) (hz : st u ≤ 0) : Que E st Q top E.N :=
 ⟨h.nd,h.one,fun g hg i hi => by obtain ⟨a,b,c,d,_⟩ := h.mem g hg i hi; exact ⟨a,b,c,d,by omega⟩,fun i hi a1 a2 _ a4 => h.all i hi a1 a2 (fun e => by subst e; omega) a4,h.lo,h.hiT⟩
/-! ### What stays -/
def exc (E : Env) (fl : Nat → Int) : Nat → Int := fun i => netTo E.l fl (i : Int) E.l.length
theorem Wk.congrStays (h : Wk E fl st hi nx mn fv Q top wr) (e : ∀ i,i < E.N → st i = st2 i) : Wk E fl st2 hi nx mn fv Q top wr :=
 ⟨h.pipes,h.lanes,h.work,h.flow,h.stays.congr (fun g hg => by rw [e g hg]),h.high,h.many,h.next,h.full,h.rows,h.apart,h.ord,h.size⟩
theorem Wk.congrFlow {fl2 : Nat → Int} (h : Wk E fl st hi nx mn fv Q top wr) (e : ∀ i,i < E.len → fl i = fl2 i) : Wk E fl2 st hi nx mn fv Q top wr :=
 ⟨h.pipes,h.lanes,h.work,h.flow.congr (fun g hg => by rw [e g hg]),h.stays,h.high,h.many,h.next,h.full,h.rows,h.apart,h.ord,h.size⟩
theorem Zau (hc : Caps E fl) (hl : E.l.length ≤ 20000) (i : Nat) : -21990232555520000 ≤ exc E fl i ∧ exc E fl i ≤ 21990232555520000 := by
 have h := Z4t (l := E.l) (g := brings fl (i : Int)) (B := 1099511627776) (by omega) (fun k x hx => by
  have := hc k x hx; unfold brings; split <;> split <;> omega) E.l.length
 unfold exc netTo; omega
theorem Zlk (hn : E.Net) (hu : u < E.N) (ha : a ∈ E.L u) (i : Nat) : exc E (push fl a m) i = exc E fl i + (if i = a.2.1 then m else 0) - (if i = u then m else 0) := Z4w hn.lanes hu ha m i
end Go.Proofs.YtfkommjlmolniaaGreatDoor
end

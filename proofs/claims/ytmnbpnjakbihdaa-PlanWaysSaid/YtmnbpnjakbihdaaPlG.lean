/- Package plan: may trucks go, may bikes go? -/
import Derived.Test.YtmnbpnjakbihdaaPlA
namespace Go.Proofs.Ytmnbpnjakbihdaa
open Go.RowKit

variable {w wr : World} {A : InA} {x : Ins} {B n : Nat} {a : Option Addr}
theorem has_of {l : List Int} {c : Int} {m : Nat} (h : amB c m = true) (hm : m ≤ 64) (b : Bool) (hb : b = true ↔ c ∈ l) : hasN (ofN l) c = b := by
  obtain ⟨h1, h2⟩ := amB_true.1 h
  unfold hasN
  rw [decide_eq_true (show 0 ≤ c ∧ c < 64 by omega), Bool.true_and, ofN_bit _ _ (by omega), Bool.eq_iff_iff, hb]
  unfold inB
  rw [List.any_eq_true]
  constructor
  · rintro ⟨d, hd, e⟩
    have e := of_decide_eq_true e
    rwa [show c = d by omega]
  · intro hc
    exact ⟨c, hc, decide_eq_true (by omega)⟩
theorem no_of {l : List Int} {c : Int} {m : Nat} (h : amB c m = true) (hm : m ≤ 64) (hb : ¬ c ∈ l) : hasN (ofN l) c = false := has_of h hm false ⟨fun h => by simp at h, fun h => absurd h hb⟩
theorem yes_of {l : List Int} {c : Int} {m : Nat} (h : amB c m = true) (hm : m ≤ 64) (hb : c ∈ l) : hasN (ofN l) c = true := has_of h hm true ⟨fun _ => hb, fun _ => rfl⟩
theorem CBox.inst {g : Nat} (h : CBox w wr g (insC A x) 37) : wr.cell? ⟨g, 0, none⟩ = some (.int .i64 x.en) ∧ wr.cell? ⟨g, 1, none⟩ = some (.int .i64 x.tm) ∧ wr.cell? ⟨g, 2, none⟩ = some (.int .i64 x.tr) ∧ wr.cell? ⟨g, 3, none⟩ = some (.int .i64 x.bm) ∧ wr.cell? ⟨g, 4, none⟩ = some (.int .i64 x.br) ∧
    wr.cell? ⟨g, 5, none⟩ = some (.slice A.sa x.sats.length A.sc) ∧ wr.cell? ⟨g, 6, none⟩ = some (.slice A.ca x.cus.length A.cc) ∧ wr.cell? ⟨g, 7, none⟩ = some (.slice A.ka x.cost.length A.kc) ∧ wr.cell? ⟨g, 8, none⟩ = some (.slice A.ta x.time.length A.tc) := by
  simp [World.cell?, h.blk]
/-- So many trucks may go. -/
def tgoTo (ns : Nat) (l : List (List (Int × Int))) (k : Nat) : Prop := ∀ (i : Nat) (t : List (Int × Int)), i < k → l[i]? = some t → goT ns t
theorem tgo_next {ns k : Nat} {l : List (List (Int × Int))} {t : List (Int × Int)} (h : tgoTo ns l k) (ht : l[k]? = some t) (hg : goT ns t) : tgoTo ns l (k + 1) := fun i u hi hu => by
  by_cases e : i = k
  · subst e; rw [ht] at hu; injection hu with hu; rwa [← hu]
  · exact h i u (by omega) hu
/-- So many stops are good. -/
def okTo (ns : Nat) (t : List (Int × Int)) (k : Nat) : Prop := ∀ (j : Nat) (s : Int × Int), j < k → t[j]? = some s → okS ns (t.take j) s
theorem okTo_next {ns k : Nat} {t : List (Int × Int)} {s : Int × Int} (h : okTo ns t k) (hs : t[k]? = some s) (hg : okS ns (t.take k) s) : okTo ns t (k + 1) := fun i u hi hu => by
  by_cases e : i = k
  · subst e; rw [hs] at hu; injection hu with hu; rwa [← hu]
  · exact h i u (by omega) hu
theorem take_map_snoc {α β : Type} {f : α → β} {l : List α} {k : Nat} {s : α} (h : l[k]? = some s) : (l.take (k + 1)).map f = (l.take k).map f ++ [f s] := by
  rw [List.take_add_one, h]; simp
theorem not_stop {ns k j : Nat} {l : List (List (Int × Int))} {t : List (Int × Int)} {s : Int × Int} (ht : l[k]? = some t) (hs : t[j]? = some s) (h : ¬ okS ns (t.take j) s) : ¬ TGo ns l := fun hg => h ((hg k t ht).2 j s hs)
theorem bool_no {b : Bool} {p : Prop} (hb : b = true ↔ p) (h : ¬ p) : b = false := by
  cases b with
  | false => rfl
  | true => exact absurd (hb.1 rfl) h
set_option maxHeartbeats 4000000 in
theorem trucksGo_any (A : InA) (x : Ins) (P : PlA) (p : Pl) (b : Bool) (w : World) (hp : IsPl w.heap.size w P p) (hs : x.sats.length ≤ 60) (hb : b = true ↔ TGo x.sats.length p.tr) :
    Calls Try.prog 36 #[.agg (plC P p), .agg (insC A x)] w fun e w' => e = .returned (.bool b) ∧ Below w.heap.size w w' := by
  have HQ := Lib.hid (CBox.make (Below.refl _ w) (plC P p) 42)
  have HX0 := Lib.hid (CBox.make HQ.out.below (insC A x) 37)
  have HQ0 := Lib.hid (HQ.out.alloc (.cells (insC A x) 37))
  clear HQ
  have HP := Lib.hid hp.tr
  have HB := Lib.hid hb
  have hl := hp.lt
  have HTA : Hid (tgoTo x.sats.length p.tr 0) := Lib.hid (fun i t hi => by omega)
  obtain ⟨n, hn⟩ : ∃ n, p.tr.length = n := ⟨_, rfl⟩
  unfold plC at *
  rw [hn] at HX0 HQ0 HP hl ⊢
  have HN := Lib.hid hn
  clear hp hn hb
  have hsz : (w.alloc (.cells #[.slice P.ta n P.tc, .slice P.ba p.bk.length P.bc] 42)).heap.size = w.heap.size + 1 := by simp
  rw [hsz] at HX0
  clear hsz
  obtain ⟨c0, c1⟩ := HQ0.out.cell2
  unfold insC at *
  go_enter Try.func36, Try.ntmps36
  go_wp2_with fail
  clear c0 c1
  go_loopw [13] (fun iv wr => ∃ i : Nat, iv = .int .i64 (i : Int) ∧ i ≤ n ∧ Hid (tgoTo x.sats.length p.tr i) ∧ Hid (CBox w wr (w.heap.size + 1) (insC A x) 37)) (fun iv _ => n - (intOf iv).toNat)
  case atStart => exact ⟨0, rfl, Nat.zero_le _, HTA, HX0⟩
  case round =>
    obtain ⟨i, rfl, hi, HT, HXR⟩ := hrel
    clear HX0 HQ0 HTA
    by_cases hlt : i < n
    · obtain ⟨tb, to_, t, ra, rc, hta, htb, hg, htl, q0, hpr⟩ := HP.out.at_ hlt
      have HG := Lib.hid hg
      have q0 := (HXR.out.below.cell (p := ⟨tb, to_ + i, none⟩) htb).trans q0
      have HPR := Lib.hid hpr
      rw [hta]
      clear hg hpr hta htb
      obtain ⟨m, hm⟩ : ∃ m, t.length = m := ⟨_, rfl⟩
      rw [hm] at q0 htl HPR
      by_cases h0 : m = 0
      · subst h0
        have HE := Lib.hid (bool_no HB.out (fun h => (h i t HG.out).1 (List.eq_nil_of_length_eq_zero hm)))
        have HX2 := Lib.hid (HXR.out.alloc (.cells #[.slice ra 0 rc] 58))
        clear hm
        go_wp2_with fail
        go_ret
        exact ⟨by rw [HE.out]; rfl, HX2.out.below⟩
      · have h0b : ((m : Int) == 0) = false := by simp; omega
        have HM := Lib.hid hm
        have HX2 := Lib.hid (HXR.out.alloc (.cells #[.slice ra m rc] 58))
        have HO0 : Hid (okTo x.sats.length t 0) := Lib.hid (fun j s hj => by omega)
        clear hm
        go_wp2_with fail
        clear q0
        go_loopw [7, 24] (fun cv iv wr => ∃ j : Nat, iv = .int .i64 (j : Int) ∧ cv = .int .u64 (ofN ((t.take j).map (·.1)) : Nat) ∧ j ≤ m ∧ Hid (okTo x.sats.length t j) ∧ Hid (CBox w wr (w.heap.size + 1) (insC A x) 37)) (fun _ iv _ => m - (intOf iv).toNat)
        case atStart => exact ⟨0, rfl, rfl, Nat.zero_le _, HO0, HX2⟩
        case round =>
          obtain ⟨j, rfl, rfl, hj, HO, HXS⟩ := hrel
          clear HX2 HO0
          by_cases hjt : j < m
          · obtain ⟨b2, off, s, rfl, hb2, hgs, q0, q1⟩ := (HPR.out.later HXS.out.below).at_ hjt
            have HGS := Lib.hid hgs
            obtain ⟨z, hz⟩ : ∃ z, ofN ((t.take j).map (·.1)) = z := ⟨_, rfl⟩
            have HMS : Hid (ofN ((t.take (j + 1)).map (·.1)) = withN z s.1) := Lib.hid (by rw [take_map_snoc hgs, ofN_snoc, hz])
            have HL : Hid (z < 18446744073709551616) := Lib.hid (by rw [← hz]; exact ofN_lt _)
            have HZ := Lib.hid hz
            rw [hz]
            clear hz
            have HXT := Lib.hid (HXS.out.alloc (.cells #[.int .i64 s.1, .int .i64 s.2] 63))
            have hgc := (CBox.inst (A := A) (x := x) HXT.out).2.2.2.2.2.1
            clear hgs hb2
            cases ham : amB s.1 x.sats.length with
            | false =>
              have HE := Lib.hid (bool_no HB.out (not_stop HG.out HGS.out (fun h => by rw [h.1] at ham; cases ham)))
              go_wp2_with (go_at_call 43; refine (among_any _ _ false _ ham).mono ?_; rintro e w5 ⟨rfl, rfl⟩)
              go_ret
              exact ⟨by rw [HE.out]; rfl, HXT.out.below⟩
            | true =>
              by_cases hin : s.1 ∈ (t.take j).map (·.1)
              · have HE := Lib.hid (bool_no HB.out (not_stop HG.out HGS.out (fun h => by
                  obtain ⟨o, ho, e⟩ := List.mem_map.1 hin
                  exact h.2.1 o ho e)))
                have HH : Hid (hasN z s.1 = true) := Lib.hid (by rw [← HZ.out]; exact yes_of ham (by omega) hin)
                clear hin
                go_wp2_with (first
                  | (go_at_call 43; refine (among_any _ _ true _ ham).mono ?_; rintro e w5 ⟨rfl, rfl⟩)
                  | (go_at_call 62; refine (has_any _ HL.out _ _).mono ?_; rw [HH.out]; rintro e w6 ⟨rfl, rfl⟩))
                go_ret
                exact ⟨by rw [HE.out]; rfl, HXT.out.below⟩
              · have HH : Hid (hasN z s.1 = false) := Lib.hid (by rw [← HZ.out]; exact no_of ham (by omega) hin)
                have HIN := Lib.hid hin
                clear hin
                by_cases h1 : s.2 < 1
                · have HE := Lib.hid (bool_no HB.out (not_stop HG.out HGS.out (fun h => by have := h.2.2; omega)))
                  have d1 : decide (s.2 < 1) = true := decide_eq_true h1
                  go_wp2_with (first
                    | (go_at_call 43; refine (among_any _ _ true _ ham).mono ?_; rintro e w5 ⟨rfl, rfl⟩)
                    | (go_at_call 62; refine (has_any _ HL.out _ _).mono ?_; rw [HH.out]; rintro e w6 ⟨rfl, rfl⟩))
                  go_ret
                  exact ⟨by rw [HE.out]; rfl, HXT.out.below⟩
                · have d1 : decide (s.2 < 1) = false := decide_eq_false h1
                  by_cases h2 : s.2 > 1000000000
                  · have HE := Lib.hid (bool_no HB.out (not_stop HG.out HGS.out (fun h => by have := h.2.2; omega)))
                    have d2 : decide (s.2 > 1000000000) = true := decide_eq_true h2
                    go_wp2_with (first
                      | (go_at_call 43; refine (among_any _ _ true _ ham).mono ?_; rintro e w5 ⟨rfl, rfl⟩)
                      | (go_at_call 62; refine (has_any _ HL.out _ _).mono ?_; rw [HH.out]; rintro e w6 ⟨rfl, rfl⟩))
                    go_ret
                    exact ⟨by rw [HE.out]; rfl, HXT.out.below⟩
                  · have d2 : decide (s.2 > 1000000000) = false := decide_eq_false h2
                    have HON := Lib.hid (okTo_next HO.out HGS.out ⟨ham, fun o ho e => HIN.out (List.mem_map.2 ⟨o, ho, e⟩), by omega, by omega⟩)
                    go_wp2_with (first
                      | (go_at_call 43; refine (among_any _ _ true _ ham).mono ?_; rintro e w5 ⟨rfl, rfl⟩)
                      | (go_at_call 62; refine (has_any _ HL.out _ _).mono ?_; rw [HH.out]; rintro e w6 ⟨rfl, rfl⟩)
                      | (go_at_call 63; refine (with_any _ HL.out _ _).mono ?_; rintro e w7 ⟨rfl, rfl⟩))
                    go_roundw
                    case rel => exact ⟨j + 1, by go_num, by rw [HMS.out], by omega, HON, HXT⟩
                    case measure => simp [intOf]; omega
          · obtain rfl : j = m := by omega
            have HOK : Hid (goT x.sats.length t) := Lib.hid ⟨fun e => by subst e; exact h0 HM.out.symm, fun j2 s2 hs2 => HO.out j2 s2 (by have := (List.getElem?_eq_some_iff.1 hs2).1; have := HM.out; omega) hs2⟩
            have HT2 := Lib.hid (tgo_next HT.out HG.out HOK.out)
            go_wp2_with fail
            go_roundw
            case rel => exact ⟨i + 1, by go_num, by omega, HT2, HXS⟩
            case measure => simp [intOf]; omega
    · obtain rfl : i = n := by omega
      have HE : Hid (b = true) := Lib.hid (HB.out.2 (fun k t hk => HT.out k t (by have := (List.getElem?_eq_some_iff.1 hk).1; have := HN.out; omega) hk))
      go_wp2_with fail
      go_ret
      exact ⟨by rw [HE.out]; rfl, HXR.out.below⟩
/-- So many bikes may go. -/
def bgoTo (ns nc : Nat) (l : List (Int × List Int)) (k : Nat) : Prop := ∀ (i : Nat) (b : Int × List Int), i < k → l[i]? = some b → goB ns nc (l.take i) b
theorem bgo_next {ns nc k : Nat} {l : List (Int × List Int)} {t : Int × List Int} (h : bgoTo ns nc l k) (ht : l[k]? = some t) (hg : goB ns nc (l.take k) t) : bgoTo ns nc l (k + 1) := fun i u hi hu => by
  by_cases e : i = k
  · subst e; rw [ht] at hu; injection hu with hu; rwa [← hu]
  · exact h i u (by omega) hu
def okCTo (nc : Nat) (f l : List Int) (k : Nat) : Prop := ∀ (j : Nat) (c : Int), j < k → l[j]? = some c → okC nc (f ++ l.take j) c
theorem okC_next {nc k : Nat} {f l : List Int} {c : Int} (h : okCTo nc f l k) (hs : l[k]? = some c) (hg : okC nc (f ++ l.take k) c) : okCTo nc f l (k + 1) := fun i u hi hu => by
  by_cases e : i = k
  · subst e; rw [hs] at hu; injection hu with hu; rwa [← hu]
  · exact h i u (by omega) hu
set_option maxHeartbeats 4000000 in
theorem bikesGo_any (A : InA) (x : Ins) (P : PlA) (p : Pl) (b : Bool) (w : World) (hp : IsPl w.heap.size w P p) (_hs : x.sats.length ≤ 60) (hcu : x.cus.length ≤ 60) (hb : b = true ↔ BGo x.sats.length x.cus.length p.bk) :
    Calls Try.prog 37 #[.agg (plC P p), .agg (insC A x)] w fun e w' => e = .returned (.bool b) ∧ Below w.heap.size w w' := by
  have HQ := Lib.hid (CBox.make (Below.refl _ w) (plC P p) 42)
  have HX0 := Lib.hid (CBox.make HQ.out.below (insC A x) 37)
  have HQ0 := Lib.hid (HQ.out.alloc (.cells (insC A x) 37))
  clear HQ
  have HP := Lib.hid hp.bk
  have HB := Lib.hid hb
  have hl := hp.lb
  have HTA : Hid (bgoTo x.sats.length x.cus.length p.bk 0) := Lib.hid (fun i t hi => by omega)
  obtain ⟨n, hn⟩ : ∃ n, p.bk.length = n := ⟨_, rfl⟩
  unfold plC at *
  rw [hn] at HX0 HQ0 HP hl ⊢
  have HN := Lib.hid hn
  clear hp hn hb
  have hsz : (w.alloc (.cells #[.slice P.ta p.tr.length P.tc, .slice P.ba n P.bc] 42)).heap.size = w.heap.size + 1 := by simp
  rw [hsz] at HX0
  clear hsz
  obtain ⟨c0, c1⟩ := HQ0.out.cell2
  unfold insC at *
  go_enter Try.func37, Try.ntmps37
  go_wp2_with fail
  clear c0 c1
  go_loopw [5, 13] (fun cv iv wr => ∃ i : Nat, iv = .int .i64 (i : Int) ∧ cv = .int .u64 (ofN (flatB (p.bk.take i)) : Nat) ∧ i ≤ n ∧ Hid (bgoTo x.sats.length x.cus.length p.bk i) ∧ Hid (CBox w wr (w.heap.size + 1) (insC A x) 37)) (fun _ iv _ => n - (intOf iv).toNat)
  case atStart => exact ⟨0, rfl, rfl, Nat.zero_le _, HTA, HX0⟩
  case round =>
    obtain ⟨i, rfl, rfl, hi, HT, HXR⟩ := hrel
    clear HX0 HQ0 HTA
    obtain ⟨F, hF⟩ : ∃ F, flatB (p.bk.take i) = F := ⟨_, rfl⟩
    obtain ⟨z0, hz0⟩ : ∃ z, ofN F = z := ⟨_, rfl⟩
    rw [hF, hz0]
    have HF := Lib.hid hF
    have HZ0 := Lib.hid hz0
    clear hF hz0
    by_cases hlt : i < n
    · obtain ⟨tb, to_, t, ra, rc, hta, htb, hg, htl, q0, q1, hpr⟩ := HP.out.at_ hlt
      have HG := Lib.hid hg
      have q0 := (HXR.out.below.cell (p := ⟨tb, to_ + i * 2, none⟩) htb).trans q0
      have q1 := (HXR.out.below.cell (p := ⟨tb, to_ + i * 2 + 1, none⟩) htb).trans q1
      have HPR := Lib.hid hpr
      have HFN := Lib.hid (flatB_next hg)
      rw [hta]
      clear hg hpr hta htb
      obtain ⟨m, hm⟩ : ∃ m, t.2.length = m := ⟨_, rfl⟩
      rw [hm] at q1 htl HPR
      have HX2 := Lib.hid (HXR.out.alloc (.cells #[.int .i64 t.1, .slice ra m rc] 55))
      have hgc := (CBox.inst (A := A) (x := x) HX2.out).2.2.2.2.2.1
      cases ham : amB t.1 x.sats.length with
      | false =>
        have HE := Lib.hid (bool_no HB.out (fun h => by rw [(h i t HG.out).1] at ham; cases ham))
        clear hm
        go_wp2_with (go_at_call 43; refine (among_any _ _ false _ ham).mono ?_; rintro e w5 ⟨rfl, rfl⟩)
        go_ret
        exact ⟨by rw [HE.out]; rfl, HX2.out.below⟩
      | true =>
        by_cases h0 : m = 0
        · subst h0
          have HE := Lib.hid (bool_no HB.out (fun h => (h i t HG.out).2.1 (List.eq_nil_of_length_eq_zero hm)))
          clear hm
          go_wp2_with (go_at_call 43; refine (among_any _ _ true _ ham).mono ?_; rintro e w5 ⟨rfl, rfl⟩)
          go_ret
          exact ⟨by rw [HE.out]; rfl, HX2.out.below⟩
        · have h0b : ((m : Int) == 0) = false := by simp; omega
          have HM := Lib.hid hm
          have HAM := Lib.hid ham
          have HO0 : Hid (okCTo x.cus.length F t.2 0) := Lib.hid (fun j s hj => by omega)
          clear hm
          have HZZ : Hid (ofN (F ++ t.2.take 0) = z0) := Lib.hid (by rw [List.take_zero, List.append_nil]; exact HZ0.out)
          go_wp2_with (go_at_call 43; refine (among_any _ _ true _ ham).mono ?_; rintro e w5 ⟨rfl, rfl⟩)
          clear q0 q1 hgc ham
          go_loopw [5, 33] (fun cv iv wr => ∃ j : Nat, ∃ z : Nat, iv = .int .i64 (j : Int) ∧ cv = .int .u64 (z : Int) ∧ j ≤ m ∧ Hid (ofN (F ++ t.2.take j) = z) ∧ Hid (okCTo x.cus.length F t.2 j) ∧ Hid (CBox w wr (w.heap.size + 1) (insC A x) 37)) (fun _ iv _ => m - (intOf iv).toNat)
          case atStart => exact ⟨0, z0, rfl, rfl, Nat.zero_le _, HZZ, HO0, HX2⟩
          case round =>
            obtain ⟨j, z, rfl, rfl, hj, HZ, HO, HXS⟩ := hrel
            clear HX2 HO0
            by_cases hjt : j < m
            · obtain ⟨b2, off, c, rfl, hgs, q0⟩ := (HPR.out.later HXS.out.below).at_ hjt
              have HGS := Lib.hid hgs
              have hgc := (CBox.inst (A := A) (x := x) HXS.out).2.2.2.2.2.2.1
              have HL : Hid (z < 18446744073709551616) := Lib.hid (by rw [← HZ.out]; exact ofN_lt _)
              have HMS : Hid (ofN (F ++ t.2.take (j + 1)) = withN z c) := Lib.hid (by rw [List.take_add_one, hgs, ← List.append_assoc]; exact (ofN_snoc _ _).trans (by rw [HZ.out]))
              have HNO : Hid (¬ okC x.cus.length (F ++ t.2.take j) c → b = false) := Lib.hid (fun h => bool_no HB.out (fun hh => h (by
                have := (hh i t HG.out).2.2 j c HGS.out
                rwa [HF.out] at this)))
              clear hgs
              cases hac : amB c x.cus.length with
              | false =>
                have HE := Lib.hid (HNO.out (fun h => by rw [h.1] at hac; cases hac))
                go_wp2_with (go_at_call 43; refine (among_any _ _ false _ hac).mono ?_; rintro e w5 ⟨rfl, rfl⟩)
                go_ret
                exact ⟨by rw [HE.out]; rfl, HXS.out.below⟩
              | true =>
                by_cases hin : c ∈ F ++ t.2.take j
                · have HE := Lib.hid (HNO.out (fun h => h.2 hin))
                  have HH : Hid (hasN z c = true) := Lib.hid (by rw [← HZ.out]; exact yes_of hac (by omega) hin)
                  clear hin
                  go_wp2_with (first
                    | (go_at_call 43; refine (among_any _ _ true _ hac).mono ?_; rintro e w5 ⟨rfl, rfl⟩)
                    | (go_at_call 62; refine (has_any _ HL.out _ _).mono ?_; rw [HH.out]; rintro e w6 ⟨rfl, rfl⟩))
                  go_ret
                  exact ⟨by rw [HE.out]; rfl, HXS.out.below⟩
                · have HH : Hid (hasN z c = false) := Lib.hid (by rw [← HZ.out]; exact no_of hac (by omega) hin)
                  have HON := Lib.hid (okC_next HO.out HGS.out ⟨hac, hin⟩)
                  clear hin
                  go_wp2_with (first
                    | (go_at_call 43; refine (among_any _ _ true _ hac).mono ?_; rintro e w5 ⟨rfl, rfl⟩)
                    | (go_at_call 62; refine (has_any _ HL.out _ _).mono ?_; rw [HH.out]; rintro e w6 ⟨rfl, rfl⟩)
                    | (go_at_call 63; refine (with_any _ HL.out _ _).mono ?_; rintro e w7 ⟨rfl, rfl⟩))
                  go_roundw
                  case rel => exact ⟨j + 1, withN z c, by go_num, rfl, by omega, HMS, HON, HXS⟩
                  case measure => simp [intOf]; omega
            · obtain rfl : j = m := by omega
              have HOK : Hid (goB x.sats.length x.cus.length (p.bk.take i) t) := Lib.hid ⟨HAM.out, fun e => h0 (by rw [← HM.out, e]; rfl), fun j2 s2 hs2 => by
                rw [HF.out]
                exact HO.out j2 s2 (by have := (List.getElem?_eq_some_iff.1 hs2).1; have := HM.out; omega) hs2⟩
              have HT2 := Lib.hid (bgo_next HT.out HG.out HOK.out)
              have HZN : Hid (ofN (flatB (p.bk.take (i + 1))) = z) := Lib.hid (by rw [HFN.out, HF.out, ← HZ.out, List.take_of_length_le (by rw [HM.out]; exact Nat.le_refl _)])
              go_wp2_with fail
              go_roundw
              case rel => exact ⟨i + 1, by go_num, by rw [HZN.out], by omega, HT2, HXS⟩
              case measure => simp [intOf]; omega
    · obtain rfl : i = n := by omega
      have HE : Hid (b = true) := Lib.hid (HB.out.2 (fun k t hk => HT.out k t (by have := (List.getElem?_eq_some_iff.1 hk).1; have := HN.out; omega) hk))
      go_wp2_with fail
      go_ret
      exact ⟨by rw [HE.out]; rfl, HXR.out.below⟩
end Go.Proofs.Ytmnbpnjakbihdaa

/- The law's own do: a reader asked step by step. -/
import Derived.Test.YtnepnfjghafccaaTold
import Derived.Deep.RegionHeld3
namespace Go.Proofs.Ytnepnfjghafccaa
open Go.RowKit

/-- What lies apart. -/
structure DC (B bt R : Nat) (v : Value) : Prop where
  rb : R ≠ bt
  rB : R < B
  v : ∀ b, v.ownBlock = some b → b ≠ bt ∧ b < B
/-- What holds from step to step. -/
structure DS (base : Nat) (Wd : World) (B bt R : Nat) (v : Value) (ws : List W) (n k : Nat) (tv : Value) (t : List Int) (wr : World) : Prop where
  rd : Rd base R v ws n k 0 0 wr
  told : Told B bt tv t wr
  mod : Mod (fun b => b = R ∨ b = bt ∨ B ≤ b) Wd wr
variable {base B bt R n k k' : Nat} {Wd wr w2 : World} {v tv tv' : Value} {ws : List W} {t t' : List Int}
theorem DS.later (h : DS base Wd B bt R v ws n k tv t wr) (hb : Below wr.heap.size wr w2) : DS base Wd B bt R v ws n k tv t w2 := ⟨h.rd.below hb, h.told.below hb, h.mod.trans (Mod.of_below _ hb)⟩
theorem DS.read (h : DS base Wd B bt R v ws n k tv t wr) (hc : DC B bt R v) (hr : Rd base R v ws n k' 0 0 w2) (hm : Mod (· = R) wr w2) : DS base Wd B bt R v ws n k' tv t w2 :=
  ⟨hr, h.told.kept hm (fun e => hc.rb e.symm) (fun b hb e => by have := hc.rB; omega), h.mod.trans (hm.mono fun _ _ e => .inl e)⟩
theorem DS.tells (h : DS base Wd B bt R v ws n k tv t wr) (hc : DC B bt R v) (ht : Told B bt tv' t' w2) (hm' : Mod (fun b => b = bt ∨ tv.ownBlock = some b) wr w2) : DS base Wd B bt R v ws n k tv' t' w2 :=
  have hm : Mod (fun b => b = bt ∨ B ≤ b) wr w2 := hm'.mono fun _ _ e => e.imp id (h.told.apart _)
  ⟨h.rd.kept hm (fun e => e.elim hc.rb (fun e => by have := hc.rB; omega)) (fun b hb e => e.elim (hc.v b hb).1 (fun e => by have := (hc.v b hb).2; omega)), ht, h.mod.trans (hm.mono fun _ _ e => e.elim (fun e => .inr (.inl e)) (fun e => .inr (.inr e)))⟩

/-- How the law's do ends. -/
def DoPost (base : Nat) (Wd : World) (B bt R : Nat) (v : Value) (ws : List W) (n : Nat) (F : Fin3) (e : Ending) (w' : World) : Prop :=
  (F.2.2 = none → e = .returned (.tuple #[]) ∧ ∃ tv, DS base Wd B bt R v ws n F.1 tv F.2.1 w') ∧
  (∀ c, F.2.2 = some c → e = halted R ∧ Rd base R v ws n F.1 (placeN ws n F.1) c w' ∧ (∃ tv, Told B bt tv F.2.1 w') ∧ Mod (fun b => b = R ∨ b = bt ∨ B ≤ b) Wd w')

/-- The captured variables: the steps, yes. -/
structure Caps (a : Option Addr) (len cap : Nat) (bl by_ bt R B : Nat) (Wd : World) : Prop where
  l : Wd.cell? ⟨bl, 0, none⟩ = some (.slice a len cap)
  y : Wd.cell? ⟨by_, 0, none⟩ = some (.func (.func 12) #[] #[.pointer (some ⟨bt, 0, none⟩)])
  ll : bl ≠ R ∧ bl ≠ bt
  yy : by_ ≠ R ∧ by_ ≠ bt
  size : B = Wd.heap.size
theorem Caps.later {a : Option Addr} {len cap bl by_ : Nat} (h : Caps a len cap bl by_ bt R B Wd) (hm : Mod (fun b => b = R ∨ b = bt ∨ B ≤ b) Wd wr) :
    wr.cell? ⟨bl, 0, none⟩ = some (.slice a len cap) ∧ wr.cell? ⟨by_, 0, none⟩ = some (.func (.func 12) #[] #[.pointer (some ⟨bt, 0, none⟩)]) := by
  have h1 := World.block_lt_of_cell? _ _ h.l
  have h2 := World.block_lt_of_cell? _ _ h.y
  have h3 := h.size
  have h4 := h.ll
  have h5 := h.yy
  simp only at h1 h2
  exact ⟨(hm.cell (p := ⟨bl, 0, none⟩) h1 (by simp; omega)).trans h.l, (hm.cell (p := ⟨by_, 0, none⟩) h2 (by simp; omega)).trans h.y⟩

theorem DoPost.on (h : DS base Wd B bt R v ws n k tv t wr) : DoPost base Wd B bt R v ws n (k, t, none) (.returned (.tuple #[])) wr := ⟨fun _ => ⟨rfl, tv, h⟩, fun c hc => by cases hc⟩
theorem DoPost.off {c : Int} (h : DS base Wd B bt R v ws n k tv t wr) (hc : DC B bt R v) (hr : Rd base R v ws n k (placeN ws n k) c w2) (hm : Mod (· = R) wr w2) : DoPost base Wd B bt R v ws n (k, t, some c) (halted R) w2 :=
  ⟨fun h => (by cases h), fun c' hc' => by
    cases hc'
    exact ⟨rfl, hr, ⟨tv, h.told.kept hm (fun e => hc.rb e.symm) (fun b hb e => by have := hc.rB; omega)⟩, h.mod.trans (hm.mono fun _ _ e => .inl e)⟩⟩

/-- The reader's methods, as the law asks them. -/
theorem is_true {y : ByteArray} (hw : isW ws k y = true) {W0 : World} (h : Rd base R v ws n k 0 0 W0) : Calls Try.prog 17 #[ptrR R, .string y] W0 fun e w' => e = .returned (.bool true) ∧ Rd base R v ws n (k + 1) 0 0 w' ∧ Mod (· = R) W0 w' := by
  by_cases hk : k < ws.length
  · obtain ⟨⟨u, a⟩, hx⟩ : ∃ x, ws[k]? = some x := ⟨_, List.getElem?_eq_getElem hk⟩
    rw [isW_at hx] at hw
    have hy := of_decide_eq_true hw
    subst hy
    exact (is_yes h hx).mono fun e w' ⟨he, m, hm⟩ => ⟨he, by rw [hm]; exact (h.drewN m).next hk, by rw [hm]; exact Mod.one _ _ _ _ _⟩
  · rw [isW_end hk] at hw
    cases hw
theorem is_false {y : ByteArray} (hw : isW ws k y = false) {W0 : World} (h : Rd base R v ws n k 0 0 W0) : Calls Try.prog 17 #[ptrR R, .string y] W0 fun e w' => e = .returned (.bool false) ∧ Rd base R v ws n k 0 0 w' ∧ Mod (· = R) W0 w' := by
  by_cases hk : k < ws.length
  · obtain ⟨⟨u, a⟩, hx⟩ : ∃ x, ws[k]? = some x := ⟨_, List.getElem?_eq_getElem hk⟩
    rw [isW_at hx] at hw
    exact (is_no h hx y (of_decide_eq_false hw)).mono fun e w' ⟨he, m, hm⟩ => ⟨he, by rw [hm]; exact h.drewN m, by rw [hm]; exact (Mod.refl _ _).drewN m⟩
  · exact (is_end h hk y).mono fun e w' ⟨he, m, hm⟩ => ⟨he, by rw [hm]; exact h.drewN m, by rw [hm]; exact (Mod.refl _ _).drewN m⟩
theorem must_true {y : ByteArray} (hw : isW ws k y = true) {W0 : World} (h : Rd base R v ws n k 0 0 W0) : Calls Try.prog 18 #[ptrR R, .string y] W0 fun e w' => e = .returned (.tuple #[]) ∧ Rd base R v ws n (k + 1) 0 0 w' ∧ Mod (· = R) W0 w' := by
  by_cases hk : k < ws.length
  · obtain ⟨⟨u, a⟩, hx⟩ : ∃ x, ws[k]? = some x := ⟨_, List.getElem?_eq_getElem hk⟩
    rw [isW_at hx] at hw
    have hy := of_decide_eq_true hw
    subst hy
    exact must_yes h hx
  · rw [isW_end hk] at hw
    cases hw
theorem must_false {y : ByteArray} (hw : isW ws k y = false) {W0 : World} (h : Rd base R v ws n k 0 0 W0) : Calls Try.prog 18 #[ptrR R, .string y] W0 fun e w' => e = halted R ∧ Rd base R v ws n k (placeN ws n k) 5 w' ∧ Mod (· = R) W0 w' :=
  must_no h y fun u a hx => by
    rw [isW_at hx] at hw
    exact of_decide_eq_false hw
/-- A number, as the law asks for it. -/
theorem number_step {x : St} (h4 : x.d % 5 = 4) (htx : ∀ x ∈ ws, x.1.length ≤ 1000000) (base R : Nat) (v : Value) (n k : Nat) :
    (∃ q : Int, stepO ws n x k = .inl (k + 1, [q]) ∧ ∀ W0, Rd base R v ws n k 0 0 W0 → Calls Try.prog 19 #[ptrR R, .int .i64 x.lo, .int .i64 x.hi] W0 fun e w' => e = .returned (.int .i64 q) ∧ Rd base R v ws n (k + 1) 0 0 w' ∧ Mod (· = R) W0 w') ∨
    (∃ c : Int, stepO ws n x k = .inr c ∧ ∀ W0, Rd base R v ws n k 0 0 W0 → Calls Try.prog 19 #[ptrR R, .int .i64 x.lo, .int .i64 x.hi] W0 fun e w' => e = halted R ∧ Rd base R v ws n k (placeN ws n k) c w' ∧ Mod (· = R) W0 w') := by
  rw [stepO_4 h4]
  by_cases hk : k < ws.length
  · obtain ⟨⟨u, a⟩, hx⟩ : ∃ x, ws[k]? = some x := ⟨_, List.getElem?_eq_getElem hk⟩
    have hu := htx _ (List.mem_of_getElem? hx)
    simp only at hu
    rw [hx]
    cases hp : parseO u with
    | none => exact .inr ⟨3, by simp [hp], fun W0 h => number_bad h hx hu hp _ _⟩
    | some q =>
      by_cases h1 : (q : Int) < x.lo
      · exact .inr ⟨2, by simp [hp, h1], fun W0 h => number_low h hx hu hp _ _ h1⟩
      · by_cases h2 : x.hi < (q : Int)
        · exact .inr ⟨2, by simp [hp, h2], fun W0 h => number_high h hx hu hp _ _ h1 h2⟩
        · exact .inl ⟨(q : Int), by simp [hp, h1, h2], fun W0 h => number_yes h hx hu hp _ _ h1 h2⟩
  · have hx : ws[k]? = none := by simpa using hk
    rw [hx]
    exact .inr ⟨3, rfl, fun W0 h => number_end h hk _ _⟩
theorem place_below {at_ code : Int} {W0 : World} (h : Rd base R v ws n k at_ code W0) : Calls Try.prog 15 #[ptrR R] W0 fun e w' => e = .returned (.int .i64 (placeN ws n k : Int)) ∧ Below W0.heap.size W0 w' :=
  (place_any h).mono fun _ _ ⟨he, m, hm⟩ => ⟨he, hm ▸ below_drewN (Below.refl _ _) m⟩
theorem more_below {at_ code : Int} {W0 : World} (h : Rd base R v ws n k at_ code W0) : Calls Try.prog 16 #[ptrR R] W0 fun e w' => e = .returned (.bool (decide (k < ws.length))) ∧ Below W0.heap.size W0 w' :=
  (more_any h).mono fun _ _ ⟨he, m, hm⟩ => ⟨he, hm ▸ below_drewN (Below.refl _ _) m⟩
theorem step_text (wr : World) (d lo hi : Int) (xt : ByteArray) (T : TypeId) : (wr.alloc (.cells #[.int .u8 d, .string xt, .int .i64 lo, .int .i64 hi] T)).cell? ⟨wr.heap.size, 1, none⟩ = some (.string xt) := by simp
theorem step_keeps {w2 w3 : World} {xb o : Nat} {u : Value} (hm : Mod (fun b => b = bt ∨ tv.ownBlock = some b) w2 w3) (hne : tv.ownBlock ≠ some xb) (hb : bt ≠ xb) (x2 : w2.cell? ⟨xb, o, none⟩ = some u) : w3.cell? ⟨xb, o, none⟩ = some u :=
  (hm.cell (World.block_lt_of_cell? _ _ x2) (fun e => e.elim (fun e => hb e.symm) hne)).trans x2
/-- A step's numbers. -/
def XN (xb : Nat) (lo hi : Int) (w : World) : Prop := w.cell? ⟨xb, 2, none⟩ = some (.int .i64 lo) ∧ w.cell? ⟨xb, 3, none⟩ = some (.int .i64 hi)
section
variable {xb : Nat} {lo hi : Int} {w w' : World}
theorem step_nums (wr : World) (d lo hi : Int) (xt : ByteArray) (T : TypeId) : XN wr.heap.size lo hi (wr.alloc (.cells #[.int .u8 d, .string xt, .int .i64 lo, .int .i64 hi] T)) := ⟨by simp, by simp⟩
theorem XN.drew (h : XN xb lo hi w) : XN xb lo hi w.drew := h
theorem XN.mod {S : Nat → Prop} (h : XN xb lo hi w) (hm : Mod S w w') (hne : ¬ S xb) : XN xb lo hi w' :=
  ⟨(hm.cell (World.block_lt_of_cell? _ _ h.1) hne).trans h.1, (hm.cell (World.block_lt_of_cell? _ _ h.2) hne).trans h.2⟩
theorem XN.alloc (h : XN xb lo hi w) (o : Obj) : XN xb lo hi (w.alloc o) := h.mod ((Mod.refl (fun _ => False) w).alloc o) (fun h => h)
theorem XN.grown {row : Option Nat} (h : XN xb lo hi w) (hg : w.grownBy w' row) (hne : row ≠ some xb) : XN xb lo hi w' := h.mod ((Mod.refl (fun b => row = some b) w).grown hg (fun _ hk => .inr hk)) hne
theorem XN.set (h : XN xb lo hi w) (hne : bt ≠ xb) (u : Value) : XN xb lo hi (w.setCell ⟨bt, 0, none⟩ u) := h.mod ((Mod.refl (fun b => b = bt) w).setCell (p := ⟨bt, 0, none⟩) (.inr rfl) u) (fun e => hne e.symm)
end
theorem dec_if (p : Prop) [Decidable p] : (if decide p = true then (1 : Int) else 0) = if p then 1 else 0 := by simp
set_option maxHeartbeats 4000000 in
set_option maxRecDepth 100000 in
theorem do_any (a : Option Addr) (len cap bl by_ : Nat) (l : List St) (F : Fin3) (hlen : l.length = len) (hl40 : len ≤ 40) (hc : DC B bt R v) (hds : DS base Wd B bt R v ws n 0 tv [] Wd) (hcap : Caps a len cap bl by_ bt R B Wd)
    (hst : IsSteps Wd a len l) (hF : goes ws n l 0 [] = F) (htx : ∀ x ∈ ws, x.1.length ≤ 1000000) (hap : 0 < len → ∀ b off, a = some ⟨b, off, none⟩ → b ≠ R ∧ b ≠ bt) :
    Calls Try.prog 14 #[ptrR R, .pointer (some ⟨bl, 0, none⟩), .pointer (some ⟨bt, 0, none⟩), .pointer (some ⟨by_, 0, none⟩)] Wd (DoPost base Wd B bt R v ws n F) := by
  obtain ⟨i0, hi, hz0, hz1, hz2⟩ := info_parts infoI
  have HF0 : Hid (goes ws n (l.drop 0) 0 [] = F) := Lib.hid hF
  have HDS0 := Lib.hid hds
  have HC := Lib.hid hc
  have HCAP := Lib.hid hcap
  have HST := Lib.hid hst
  have HTX := Lib.hid htx
  have HLEN := Lib.hid hlen
  have hcl := hcap.l
  clear hF hds hc hcap hst htx hlen
  go_enter Try.func14, Try.ntmps14
  go_wp2_with fail
  go_loopw [9] (fun i wr => ∃ (j k : Nat) (tv : Value) (t : List Int), i = .int .i64 j ∧ j ≤ len ∧ t.length ≤ j ∧ Hid (DS base Wd B bt R v ws n k tv t wr) ∧ Hid (goes ws n (l.drop j) k t = F)) (fun i _ => len - (intOf i).toNat)
  case atStart => exact ⟨0, 0, _, [], rfl, Nat.zero_le _, Nat.zero_le _, HDS0, HF0⟩
  case round =>
    obtain ⟨j, k, tv, t, rfl, hj, htj, HD, HF⟩ := hrel
    clear HDS0 HF0 hcl
    by_cases hlt : j < len
    · obtain ⟨x, hx⟩ : ∃ x, l[j]? = some x := ⟨_, List.getElem?_eq_getElem (by have := HLEN.out; omega)⟩
      obtain ⟨b, off, hA, hb, hrow⟩ : ∃ b off, a = some ⟨b, off, none⟩ ∧ b < Wd.heap.size ∧ StRow Wd ⟨b, off, none⟩ l := by
        rcases HST.out.2 with h | h
        · omega
        · exact h
      obtain ⟨hb1, hb2⟩ := hap (by omega) b off hA
      clear hap
      subst hA
      obtain ⟨e0, e1, e2, e3, hd255⟩ := hrow.at_ hx
      have hbB : b < B := by rw [HCAP.out.size]; exact hb
      have hcellm : ∀ o, wr.cell? ⟨b, o, none⟩ = Wd.cell? ⟨b, o, none⟩ := fun o => HD.out.mod.cell (p := ⟨b, o, none⟩) hb (by simp; omega)
      have g0 := (hcellm _).trans e0
      have g1 := (hcellm _).trans e1
      have g2 := (hcellm _).trans e2
      have g3 := (hcellm _).trans e3
      have HXJ := Lib.hid hx
      clear e0 e1 e2 e3 hcellm hrow hx
      obtain ⟨d, xt, lo, hi'⟩ := x
      simp only at g0 g1 g2 g3 hd255
      have HDX := Lib.hid (HD.out.later ((Below.refl wr.heap.size wr).alloc (Nat.le_refl _) (.cells #[.int .u8 (d : Int), .string xt, .int .i64 lo, .int .i64 hi'] 41)))
      obtain ⟨ta, tc, hv⟩ := HD.out.told.shape
      subst hv
      have hBs := HDX.out.told.size
      have c0 := cell_of_one HDX.out.told.cell
      have hm5 : d % 5 = 0 ∨ d % 5 = 1 ∨ d % 5 = 2 ∨ d % 5 = 3 ∨ d % 5 = 4 := by omega
      rcases hm5 with h5 | h5 | h5 | h5 | h5
      · have h5' : (d : Int) % 5 = 0 := by omega
        have HG := Lib.hid (goes_on HF.out HXJ.out (stepO_0 h5))
        clear HF h5
        go_wp2_with fail
        refine wp_region_held_drew (S := fun _ => True) (by kernel_rfl) trivial (fun hHeld => ?_)
        refine wpAnyH_take (i := 1) (v := ?_) rfl (by kernel_rfl) (by kernel_rfl) (by kernel_rfl) (fun _ _ _ h => h) (Or.inl ⟨by rfl, ?_⟩) hHeld ?_
        rotate_left
        · intro W0 hW; go_simp; (try with_reducible rfl)
        try simp only [Act.put, List.setIfInBounds_toArray, List.set_cons_zero, List.set_cons_succ, List.getElem_toArray, List.getElem_cons_zero, List.getElem_cons_succ]
        refine wpAnyH_ready (rs := [0, 2]) (by kernel_rfl) (by simp) ?_
        refine AllReadyH.cons rfl (fun K hK => ?_) (AllReadyH.cons rfl (fun K hK => ?_) AllReadyH.nil)
        · go_simp
          refine hK.out _ _ ?_ (fun hHeld => ?_)
          · exact hHeld
          clear hK K
          try simp only [Act.put, List.setIfInBounds_toArray, List.set_cons_zero, List.set_cons_succ, List.getElem_toArray, List.getElem_cons_zero, List.getElem_cons_succ]
          refine wpAnyH_ready (rs := [2]) (by kernel_rfl) (by simp) ?_
          refine AllReadyH.cons rfl (fun K hK => ?_) AllReadyH.nil
          go_simp
          refine (place_below HDX.out.rd.drew).mono ?_
          rintro e w2 ⟨rfl, hb2⟩
          have HD2 := Lib.hid ((HDX.out.later (Below.refl _ _).drew).later hb2)
          have c2 := cell_of_one HD2.out.told.cell
          have c3 := alloc_one HD2.out.told.cell (.cells #[.int .i64 (placeN ws n k : Int)] 2)
          clear hb2
          refine hK.out _ _ ?_ (fun hHeld => ?_)
          · exact trivial
          clear hK K
          try simp only [Act.put, List.setIfInBounds_toArray, List.set_cons_zero, List.set_cons_succ, List.getElem_toArray, List.getElem_cons_zero, List.getElem_cons_succ]
          refine wpAnyH_ready (rs := [3]) (by kernel_rfl) (by simp) ?_
          refine AllReadyH.cons rfl (fun K hK => ?_) AllReadyH.nil
          go_simp
          refine hK.out _ _ ?_ (fun hHeld => ?_)
          · exact trivial
          clear hK K
          try simp only [Act.put, List.setIfInBounds_toArray, List.set_cons_zero, List.set_cons_succ, List.getElem_toArray, List.getElem_cons_zero, List.getElem_cons_succ]
          refine wpAnyH_ready (rs := [4]) (by kernel_rfl) (by simp) ?_
          refine AllReadyH.cons rfl (fun K hK => ?_) AllReadyH.nil
          refine step_append_fresh rfl (.tmp 27) (.tmp 30) 35 rfl B 2 i0 _ 1 8 Try.underlying35 hi hz0 hz1 hz2 (by decide) (.slice ta t.length tc) t.length (numsV t) rfl (HD2.out.told.owned _) ⟨w2.heap.size, 0, none⟩ 1 [.int .i64 (placeN ws n k : Int)] rfl rfl (news_one _ _ _) (one_int _) (by unfold maxLen; omega) (by omega) (Nat.le_trans HD2.out.told.size (by simp)) ?_
          intro g cp4 w4 hown hgrow hfr
          obtain ⟨p1, p2, p3, p4⟩ := HD2.out.told.push hown hgrow
          have HP := Lib.hid (HD2.out.tells HC.out p1 p2)
          clear p1 p2 hown hgrow hfr
          refine hK.out _ _ ?_ (fun hHeld => ?_)
          · exact trivial
          clear hK K
          try simp only [Act.put, List.setIfInBounds_toArray, List.set_cons_zero, List.set_cons_succ, List.getElem_toArray, List.getElem_cons_zero, List.getElem_cons_succ]
          refine wpAnyH_ready (rs := [5]) (by kernel_rfl) (by simp) ?_
          refine AllReadyH.cons rfl (fun K hK => ?_) AllReadyH.nil
          go_simp
          refine hK.out _ _ ?_ (fun hHeld => ?_)
          · exact trivial
          clear hK K
          try simp only [Act.put, List.setIfInBounds_toArray, List.set_cons_zero, List.set_cons_succ, List.getElem_toArray, List.getElem_cons_zero, List.getElem_cons_succ]
          refine wpAnyH_done (by kernel_rfl) ?_ _
          clear hHeld
          go_wp2_with fail
          go_roundw
          case rel => exact ⟨j + 1, k, _, _, by go_num, by omega, by simp; omega, HP, HG⟩
          case measure => simp [intOf]; omega
        · go_simp
          refine (place_below HDX.out.rd.drew).mono ?_
          rintro e w2 ⟨rfl, hb2⟩
          have HD2 := Lib.hid ((HDX.out.later (Below.refl _ _).drew).later hb2)
          have c2 := cell_of_one HD2.out.told.cell
          have c3 := alloc_one HD2.out.told.cell (.cells #[.int .i64 (placeN ws n k : Int)] 2)
          clear hb2
          refine hK.out _ _ ?_ (fun hHeld => ?_)
          · exact trivial
          clear hK K
          try simp only [Act.put, List.setIfInBounds_toArray, List.set_cons_zero, List.set_cons_succ, List.getElem_toArray, List.getElem_cons_zero, List.getElem_cons_succ]
          refine wpAnyH_ready (rs := [0, 3]) (by kernel_rfl) (by simp) ?_
          refine AllReadyH.cons rfl (fun K hK => ?_) (AllReadyH.cons rfl (fun K hK => ?_) AllReadyH.nil)
          · go_simp
            refine hK.out _ _ ?_ (fun hHeld => ?_)
            · exact hHeld
            clear hK K
            try simp only [Act.put, List.setIfInBounds_toArray, List.set_cons_zero, List.set_cons_succ, List.getElem_toArray, List.getElem_cons_zero, List.getElem_cons_succ]
            refine wpAnyH_ready (rs := [3]) (by kernel_rfl) (by simp) ?_
            refine AllReadyH.cons rfl (fun K hK => ?_) AllReadyH.nil
            go_simp
            refine hK.out _ _ ?_ (fun hHeld => ?_)
            · exact trivial
            clear hK K
            try simp only [Act.put, List.setIfInBounds_toArray, List.set_cons_zero, List.set_cons_succ, List.getElem_toArray, List.getElem_cons_zero, List.getElem_cons_succ]
            refine wpAnyH_ready (rs := [4]) (by kernel_rfl) (by simp) ?_
            refine AllReadyH.cons rfl (fun K hK => ?_) AllReadyH.nil
            refine step_append_fresh rfl (.tmp 27) (.tmp 30) 35 rfl B 2 i0 _ 1 8 Try.underlying35 hi hz0 hz1 hz2 (by decide) (.slice ta t.length tc) t.length (numsV t) rfl (HD2.out.told.owned _) ⟨w2.heap.size, 0, none⟩ 1 [.int .i64 (placeN ws n k : Int)] rfl rfl (news_one _ _ _) (one_int _) (by unfold maxLen; omega) (by omega) (Nat.le_trans HD2.out.told.size (by simp)) ?_
            intro g cp4 w4 hown hgrow hfr
            obtain ⟨p1, p2, p3, p4⟩ := HD2.out.told.push hown hgrow
            have HP := Lib.hid (HD2.out.tells HC.out p1 p2)
            clear p1 p2 hown hgrow hfr
            refine hK.out _ _ ?_ (fun hHeld => ?_)
            · exact trivial
            clear hK K
            try simp only [Act.put, List.setIfInBounds_toArray, List.set_cons_zero, List.set_cons_succ, List.getElem_toArray, List.getElem_cons_zero, List.getElem_cons_succ]
            refine wpAnyH_ready (rs := [5]) (by kernel_rfl) (by simp) ?_
            refine AllReadyH.cons rfl (fun K hK => ?_) AllReadyH.nil
            go_simp
            refine hK.out _ _ ?_ (fun hHeld => ?_)
            · exact trivial
            clear hK K
            try simp only [Act.put, List.setIfInBounds_toArray, List.set_cons_zero, List.set_cons_succ, List.getElem_toArray, List.getElem_cons_zero, List.getElem_cons_succ]
            refine wpAnyH_done (by kernel_rfl) ?_ _
            clear hHeld
            go_wp2_with fail
            go_roundw
            case rel => exact ⟨j + 1, k, _, _, by go_num, by omega, by simp; omega, HP, HG⟩
            case measure => simp [intOf]; omega
          · go_simp
            refine hK.out _ _ ?_ (fun hHeld => ?_)
            · exact trivial
            clear hK K
            try simp only [Act.put, List.setIfInBounds_toArray, List.set_cons_zero, List.set_cons_succ, List.getElem_toArray, List.getElem_cons_zero, List.getElem_cons_succ]
            refine wpAnyH_ready (rs := [0]) (by kernel_rfl) (by simp) ?_
            refine AllReadyH.cons rfl (fun K hK => ?_) AllReadyH.nil
            go_simp
            refine hK.out _ _ ?_ (fun hHeld => ?_)
            · exact hHeld
            clear hK K
            try simp only [Act.put, List.setIfInBounds_toArray, List.set_cons_zero, List.set_cons_succ, List.getElem_toArray, List.getElem_cons_zero, List.getElem_cons_succ]
            refine wpAnyH_ready (rs := [4]) (by kernel_rfl) (by simp) ?_
            refine AllReadyH.cons rfl (fun K hK => ?_) AllReadyH.nil
            refine step_append_fresh rfl (.tmp 27) (.tmp 30) 35 rfl B 2 i0 _ 1 8 Try.underlying35 hi hz0 hz1 hz2 (by decide) (.slice ta t.length tc) t.length (numsV t) rfl (HD2.out.told.owned _) ⟨w2.heap.size, 0, none⟩ 1 [.int .i64 (placeN ws n k : Int)] rfl rfl (news_one _ _ _) (one_int _) (by unfold maxLen; omega) (by omega) (Nat.le_trans HD2.out.told.size (by simp)) ?_
            intro g cp4 w4 hown hgrow hfr
            obtain ⟨p1, p2, p3, p4⟩ := HD2.out.told.push hown hgrow
            have HP := Lib.hid (HD2.out.tells HC.out p1 p2)
            clear p1 p2 hown hgrow hfr
            refine hK.out _ _ ?_ (fun hHeld => ?_)
            · exact trivial
            clear hK K
            try simp only [Act.put, List.setIfInBounds_toArray, List.set_cons_zero, List.set_cons_succ, List.getElem_toArray, List.getElem_cons_zero, List.getElem_cons_succ]
            refine wpAnyH_ready (rs := [5]) (by kernel_rfl) (by simp) ?_
            refine AllReadyH.cons rfl (fun K hK => ?_) AllReadyH.nil
            go_simp
            refine hK.out _ _ ?_ (fun hHeld => ?_)
            · exact trivial
            clear hK K
            try simp only [Act.put, List.setIfInBounds_toArray, List.set_cons_zero, List.set_cons_succ, List.getElem_toArray, List.getElem_cons_zero, List.getElem_cons_succ]
            refine wpAnyH_done (by kernel_rfl) ?_ _
            clear hHeld
            go_wp2_with fail
            go_roundw
            case rel => exact ⟨j + 1, k, _, _, by go_num, by omega, by simp; omega, HP, HG⟩
            case measure => simp [intOf]; omega
      · have h5' : (d : Int) % 5 = 1 := by omega
        have hg := goes_on HF.out HXJ.out (stepO_1 h5)
        rw [← dec_if (k < ws.length)] at hg
        have HG := Lib.hid hg
        have HY := Lib.hid (HCAP.out.later HDX.out.mod).2
        clear HF h5 hg
        go_wp2_with fail
        go_region_held3 (fun w' => w'.cell? ⟨by_, 0, none⟩ = some (.func (.func 12) #[] #[.pointer (some ⟨bt, 0, none⟩)])) (first | assumption | exact HY.out)
          (first
            | (go_at_call 16; refine (more_below HDX.out.rd.drew).mono ?_; rintro e w2 ⟨rfl, hb2⟩; have HD2 := Lib.hid ((HDX.out.later (Below.refl _ _).drew).later hb2); have y2 := (HCAP.out.later HD2.out.mod).2; clear hb2)
            | (go_at_call 12; refine (yes_any HD2.out.told (by omega) _).mono ?_; rintro e w3 ⟨rfl, ⟨tv3, ht3⟩, hm3⟩; have HP := Lib.hid (HD2.out.tells HC.out ht3 hm3); have y3 := (HCAP.out.later HP.out.mod).2; clear ht3 hm3))
        all_goals
          go_wp2_with fail
          go_roundw
          case rel => exact ⟨j + 1, k, _, _, by go_num, by omega, by simp; omega, HP, HG⟩
          case measure => simp [intOf]; omega
      · have h5' : (d : Int) % 5 = 2 := by omega
        have HY := Lib.hid (HCAP.out.later HDX.out.mod).2
        have HXT := Lib.hid (step_text wr (d : Int) lo hi' xt 41)
        have HXA : Hid (Value.ownBlock (.slice ta t.length tc) ≠ some wr.heap.size) := Lib.hid (fun e => by have := (World.ownsRow.lt HD.out.told.row _ e).2; omega)
        have hbx : bt ≠ wr.heap.size := by have := HD.out.told.lt; have := HD.out.told.size; omega
        have hxb : B ≤ wr.heap.size := HD.out.told.size
        cases hw : isW ws k xt with
        | true =>
          have hs := stepO_2 (ws := ws) (n := n) (k := k) (x := ⟨d, xt, lo, hi'⟩) h5
          simp only [hw, if_true] at hs
          have HG := Lib.hid (goes_on HF.out HXJ.out hs)
          have HW := Lib.hid hw
          clear HF h5 hs hw
          go_wp2_with fail
          go_region_held3 (fun w' => w'.cell? ⟨by_, 0, none⟩ = some (.func (.func 12) #[] #[.pointer (some ⟨bt, 0, none⟩)]) ∧ w'.cell? ⟨wr.heap.size, 1, none⟩ = some (.string xt)) (first | assumption | exact ⟨HY.out, HXT.out⟩ | exact ⟨by assumption, by assumption⟩)
            (first
              | (go_at_call 17; refine (is_true HW.out HDX.out.rd.drew).mono ?_; rintro e w2 ⟨rfl, hr2, hm2⟩; have HD2 := Lib.hid ((HDX.out.later (Below.refl _ _).drew).read HC.out hr2 hm2); have y2 := (HCAP.out.later HD2.out.mod).2; have x2 : w2.cell? ⟨wr.heap.size, 1, none⟩ = some (.string xt) := (hm2.cell (p := ⟨wr.heap.size, 1, none⟩) (by simp) (by have := HC.out.rB; simp; omega)).trans HXT.out; clear hr2 hm2)
              | (go_at_call 12; refine (yes_any HD2.out.told (by omega) _).mono ?_; rintro e w3 ⟨rfl, ⟨tv3, ht3⟩, hm3⟩; have HP := Lib.hid (HD2.out.tells HC.out ht3 hm3); have y3 := (HCAP.out.later HP.out.mod).2; have x3 := step_keeps hm3 HXA.out hbx x2; clear ht3 hm3))
          all_goals
            go_wp2_with fail
            go_roundw
            case rel => exact ⟨j + 1, (k + 1), _, _, by go_num, by omega, by simp; omega, HP, HG⟩
            case measure => simp [intOf]; omega
        | false =>
          have hs := stepO_2 (ws := ws) (n := n) (k := k) (x := ⟨d, xt, lo, hi'⟩) h5
          simp only [hw, Bool.false_eq_true, if_false] at hs
          have HG := Lib.hid (goes_on HF.out HXJ.out hs)
          have HW := Lib.hid hw
          clear HF h5 hs hw
          go_wp2_with fail
          go_region_held3 (fun w' => w'.cell? ⟨by_, 0, none⟩ = some (.func (.func 12) #[] #[.pointer (some ⟨bt, 0, none⟩)]) ∧ w'.cell? ⟨wr.heap.size, 1, none⟩ = some (.string xt)) (first | assumption | exact ⟨HY.out, HXT.out⟩ | exact ⟨by assumption, by assumption⟩)
            (first
              | (go_at_call 17; refine (is_false HW.out HDX.out.rd.drew).mono ?_; rintro e w2 ⟨rfl, hr2, hm2⟩; have HD2 := Lib.hid ((HDX.out.later (Below.refl _ _).drew).read HC.out hr2 hm2); have y2 := (HCAP.out.later HD2.out.mod).2; have x2 : w2.cell? ⟨wr.heap.size, 1, none⟩ = some (.string xt) := (hm2.cell (p := ⟨wr.heap.size, 1, none⟩) (by simp) (by have := HC.out.rB; simp; omega)).trans HXT.out; clear hr2 hm2)
              | (go_at_call 12; refine (yes_any HD2.out.told (by omega) _).mono ?_; rintro e w3 ⟨rfl, ⟨tv3, ht3⟩, hm3⟩; have HP := Lib.hid (HD2.out.tells HC.out ht3 hm3); have y3 := (HCAP.out.later HP.out.mod).2; have x3 := step_keeps hm3 HXA.out hbx x2; clear ht3 hm3))
          all_goals
            go_wp2_with fail
            go_roundw
            case rel => exact ⟨j + 1, k, _, _, by go_num, by omega, by simp; omega, HP, HG⟩
            case measure => simp [intOf]; omega
      · have h5' : (d : Int) % 5 = 3 := by omega
        have hxb : B ≤ wr.heap.size := HD.out.told.size
        cases hw : isW ws k xt with
        | true =>
          have hs := stepO_3 (ws := ws) (n := n) (k := k) (x := ⟨d, xt, lo, hi'⟩) h5
          simp only [hw, if_true] at hs
          have hg := goes_on HF.out HXJ.out hs
          rw [List.append_nil] at hg
          have HG := Lib.hid hg
          have HW := Lib.hid hw
          clear HF h5 hs hw hg
          go_wp2_with (go_at_call 18; refine (must_true HW.out HDX.out.rd).mono ?_; rintro e w2 ⟨rfl, hr2, hm2⟩; have HP := Lib.hid (HDX.out.read HC.out hr2 hm2); clear hr2 hm2)
          go_roundw
          case rel => exact ⟨j + 1, (k + 1), _, _, by go_num, by omega, by omega, HP, HG⟩
          case measure => simp [intOf]; omega
        | false =>
          have hs := stepO_3 (ws := ws) (n := n) (k := k) (x := ⟨d, xt, lo, hi'⟩) h5
          simp only [hw, Bool.false_eq_true, if_false] at hs
          have hfin := goes_off HF.out HXJ.out hs
          have HW := Lib.hid hw
          subst hfin
          clear HF h5 hs hw
          go_wp2_with (go_at_call 18; refine (must_false HW.out HDX.out.rd).mono ?_; rintro e w2 ⟨rfl, hr2, hm2⟩; have HP := Lib.hid (DoPost.off HDX.out HC.out hr2 hm2); clear hr2 hm2)
          exact ⟨rfl, HP.out⟩
      · have h5' : (d : Int) % 5 = 4 := by omega
        have hxb : B ≤ wr.heap.size := HD.out.told.size
        have HXN := Lib.hid (step_nums wr (d : Int) lo hi' xt 41)
        have HXA : Hid (Value.ownBlock (.slice ta t.length tc) ≠ some wr.heap.size) := Lib.hid (fun e => by have := (World.ownsRow.lt HD.out.told.row _ e).2; omega)
        rcases number_step (x := ⟨d, xt, lo, hi'⟩) h5 HTX.out base R v n k with ⟨q, hs, hcall⟩ | ⟨c, hs, hcall⟩
        · have HG := Lib.hid (goes_on HF.out HXJ.out hs)
          have HCA := Lib.hid hcall
          clear HF h5 hs hcall
          go_wp2_with fail
          refine wp_region_held_drew (S := XN wr.heap.size lo hi') (by kernel_rfl) HXN.out.drew (fun hHeld => ?_)
          refine wpAnyH_take (i := 1) (v := ?_) rfl (by kernel_rfl) (by kernel_rfl) (by kernel_rfl) (fun _ _ _ h => h) (Or.inl ⟨by rfl, ?_⟩) hHeld ?_
          rotate_left
          · intro W0 hW; obtain ⟨hW1, hW2⟩ := hW; go_simp; (try with_reducible rfl)
          try simp only [Act.put, List.setIfInBounds_toArray, List.set_cons_zero, List.set_cons_succ, List.getElem_toArray, List.getElem_cons_zero, List.getElem_cons_succ]
          refine wpAnyH_take (i := 2) (v := ?_) rfl (by kernel_rfl) (by kernel_rfl) (by kernel_rfl) (fun _ _ _ h => h) (Or.inl ⟨by rfl, ?_⟩) hHeld ?_
          rotate_left
          · intro W0 hW; obtain ⟨hW1, hW2⟩ := hW; go_simp; (try with_reducible rfl)
          try simp only [Act.put, List.setIfInBounds_toArray, List.set_cons_zero, List.set_cons_succ, List.getElem_toArray, List.getElem_cons_zero, List.getElem_cons_succ]
          refine wpAnyH_take (i := 3) (v := ?_) rfl (by kernel_rfl) (by kernel_rfl) (by kernel_rfl) (fun _ _ _ h => h) (Or.inl ⟨by rfl, ?_⟩) hHeld ?_
          rotate_left
          · intro W0 hW; obtain ⟨hW1, hW2⟩ := hW; go_simp; (try with_reducible rfl)
          try simp only [Act.put, List.setIfInBounds_toArray, List.set_cons_zero, List.set_cons_succ, List.getElem_toArray, List.getElem_cons_zero, List.getElem_cons_succ]
          refine wpAnyH_take (i := 4) (v := ?_) rfl (by kernel_rfl) (by kernel_rfl) (by kernel_rfl) (fun _ _ _ h => h) (Or.inl ⟨by rfl, ?_⟩) hHeld ?_
          rotate_left
          · intro W0 hW; obtain ⟨hW1, hW2⟩ := hW; go_simp; (try with_reducible rfl)
          try simp only [Act.put, List.setIfInBounds_toArray, List.set_cons_zero, List.set_cons_succ, List.getElem_toArray, List.getElem_cons_zero, List.getElem_cons_succ]
          refine wpAnyH_take (i := 5) (v := ?_) rfl (by kernel_rfl) (by kernel_rfl) (by kernel_rfl) (fun _ _ _ h => h) (Or.inl ⟨by rfl, ?_⟩) hHeld ?_
          rotate_left
          · intro W0 hW; obtain ⟨hW1, hW2⟩ := hW; go_simp; (try with_reducible rfl)
          try simp only [Act.put, List.setIfInBounds_toArray, List.set_cons_zero, List.set_cons_succ, List.getElem_toArray, List.getElem_cons_zero, List.getElem_cons_succ]
          refine wpAnyH_ready (rs := [0, 6]) (by kernel_rfl) (by simp) ?_
          refine AllReadyH.cons rfl (fun K hK => ?_) (AllReadyH.cons rfl (fun K hK => ?_) AllReadyH.nil)
          · go_simp
            refine hK.out _ _ ?_ (fun hHeld => ?_)
            · exact hHeld
            clear hK K
            try simp only [Act.put, List.setIfInBounds_toArray, List.set_cons_zero, List.set_cons_succ, List.getElem_toArray, List.getElem_cons_zero, List.getElem_cons_succ]
            refine wpAnyH_ready (rs := [6]) (by kernel_rfl) (by simp) ?_
            refine AllReadyH.cons rfl (fun K hK => ?_) AllReadyH.nil
            go_simp
            refine (HCA.out _ HDX.out.rd.drew).mono ?_
            rintro e w2 ⟨rfl, hr2, hm2⟩
            have HD2 := Lib.hid ((HDX.out.later (Below.refl _ _).drew).read HC.out hr2 hm2)
            have c2 := cell_of_one HD2.out.told.cell
            have c3 := alloc_one HD2.out.told.cell (.cells #[.int .i64 q] 2)
            have x2 : XN wr.heap.size lo hi' w2 := HXN.out.drew.mod hm2 (by have := HC.out.rB; omega)
            clear hr2 hm2
            refine hK.out _ _ ?_ (fun hHeld => ?_)
            · exact x2
            clear hK K
            try simp only [Act.put, List.setIfInBounds_toArray, List.set_cons_zero, List.set_cons_succ, List.getElem_toArray, List.getElem_cons_zero, List.getElem_cons_succ]
            refine wpAnyH_ready (rs := [7]) (by kernel_rfl) (by simp) ?_
            refine AllReadyH.cons rfl (fun K hK => ?_) AllReadyH.nil
            go_simp
            refine hK.out _ _ ?_ (fun hHeld => ?_)
            · exact (x2.alloc _)
            clear hK K
            try simp only [Act.put, List.setIfInBounds_toArray, List.set_cons_zero, List.set_cons_succ, List.getElem_toArray, List.getElem_cons_zero, List.getElem_cons_succ]
            refine wpAnyH_ready (rs := [8]) (by kernel_rfl) (by simp) ?_
            refine AllReadyH.cons rfl (fun K hK => ?_) AllReadyH.nil
            refine step_append_fresh rfl (.tmp 16) (.tmp 23) 35 rfl B 2 i0 _ 1 8 Try.underlying35 hi hz0 hz1 hz2 (by decide) (.slice ta t.length tc) t.length (numsV t) rfl (HD2.out.told.owned _) ⟨w2.heap.size, 0, none⟩ 1 [.int .i64 q] rfl rfl (news_one _ _ _) (one_int _) (by unfold maxLen; omega) (by omega) (Nat.le_trans HD2.out.told.size (by simp)) ?_
            intro g cp4 w4 hown hgrow hfr
            have x4 : XN wr.heap.size lo hi' w4 := (x2.alloc (.cells #[.int .i64 q] 2)).grown hgrow HXA.out
            obtain ⟨p1, p2, p3, p4⟩ := HD2.out.told.push hown hgrow
            have HP := Lib.hid (HD2.out.tells HC.out p1 p2)
            clear p1 p2 hown hgrow hfr
            refine hK.out _ _ ?_ (fun hHeld => ?_)
            · exact x4
            clear hK K
            try simp only [Act.put, List.setIfInBounds_toArray, List.set_cons_zero, List.set_cons_succ, List.getElem_toArray, List.getElem_cons_zero, List.getElem_cons_succ]
            refine wpAnyH_ready (rs := [9]) (by kernel_rfl) (by simp) ?_
            refine AllReadyH.cons rfl (fun K hK => ?_) AllReadyH.nil
            go_simp
            refine hK.out _ _ ?_ (fun hHeld => ?_)
            · exact (x4.set (by have := HD2.out.told.lt; omega) _)
            clear hK K
            try simp only [Act.put, List.setIfInBounds_toArray, List.set_cons_zero, List.set_cons_succ, List.getElem_toArray, List.getElem_cons_zero, List.getElem_cons_succ]
            refine wpAnyH_done (by kernel_rfl) ?_ _
            clear hHeld
            go_wp2_with fail
            go_roundw
            case rel => exact ⟨j + 1, (k + 1), _, _, by go_num, by omega, by simp; omega, HP, HG⟩
            case measure => simp [intOf]; omega
          · go_simp
            refine (HCA.out _ HDX.out.rd.drew).mono ?_
            rintro e w2 ⟨rfl, hr2, hm2⟩
            have HD2 := Lib.hid ((HDX.out.later (Below.refl _ _).drew).read HC.out hr2 hm2)
            have c2 := cell_of_one HD2.out.told.cell
            have c3 := alloc_one HD2.out.told.cell (.cells #[.int .i64 q] 2)
            have x2 : XN wr.heap.size lo hi' w2 := HXN.out.drew.mod hm2 (by have := HC.out.rB; omega)
            clear hr2 hm2
            refine hK.out _ _ ?_ (fun hHeld => ?_)
            · exact x2
            clear hK K
            try simp only [Act.put, List.setIfInBounds_toArray, List.set_cons_zero, List.set_cons_succ, List.getElem_toArray, List.getElem_cons_zero, List.getElem_cons_succ]
            refine wpAnyH_ready (rs := [0, 7]) (by kernel_rfl) (by simp) ?_
            refine AllReadyH.cons rfl (fun K hK => ?_) (AllReadyH.cons rfl (fun K hK => ?_) AllReadyH.nil)
            · go_simp
              refine hK.out _ _ ?_ (fun hHeld => ?_)
              · exact hHeld
              clear hK K
              try simp only [Act.put, List.setIfInBounds_toArray, List.set_cons_zero, List.set_cons_succ, List.getElem_toArray, List.getElem_cons_zero, List.getElem_cons_succ]
              refine wpAnyH_ready (rs := [7]) (by kernel_rfl) (by simp) ?_
              refine AllReadyH.cons rfl (fun K hK => ?_) AllReadyH.nil
              go_simp
              refine hK.out _ _ ?_ (fun hHeld => ?_)
              · exact (x2.alloc _)
              clear hK K
              try simp only [Act.put, List.setIfInBounds_toArray, List.set_cons_zero, List.set_cons_succ, List.getElem_toArray, List.getElem_cons_zero, List.getElem_cons_succ]
              refine wpAnyH_ready (rs := [8]) (by kernel_rfl) (by simp) ?_
              refine AllReadyH.cons rfl (fun K hK => ?_) AllReadyH.nil
              refine step_append_fresh rfl (.tmp 16) (.tmp 23) 35 rfl B 2 i0 _ 1 8 Try.underlying35 hi hz0 hz1 hz2 (by decide) (.slice ta t.length tc) t.length (numsV t) rfl (HD2.out.told.owned _) ⟨w2.heap.size, 0, none⟩ 1 [.int .i64 q] rfl rfl (news_one _ _ _) (one_int _) (by unfold maxLen; omega) (by omega) (Nat.le_trans HD2.out.told.size (by simp)) ?_
              intro g cp4 w4 hown hgrow hfr
              have x4 : XN wr.heap.size lo hi' w4 := (x2.alloc (.cells #[.int .i64 q] 2)).grown hgrow HXA.out
              obtain ⟨p1, p2, p3, p4⟩ := HD2.out.told.push hown hgrow
              have HP := Lib.hid (HD2.out.tells HC.out p1 p2)
              clear p1 p2 hown hgrow hfr
              refine hK.out _ _ ?_ (fun hHeld => ?_)
              · exact x4
              clear hK K
              try simp only [Act.put, List.setIfInBounds_toArray, List.set_cons_zero, List.set_cons_succ, List.getElem_toArray, List.getElem_cons_zero, List.getElem_cons_succ]
              refine wpAnyH_ready (rs := [9]) (by kernel_rfl) (by simp) ?_
              refine AllReadyH.cons rfl (fun K hK => ?_) AllReadyH.nil
              go_simp
              refine hK.out _ _ ?_ (fun hHeld => ?_)
              · exact (x4.set (by have := HD2.out.told.lt; omega) _)
              clear hK K
              try simp only [Act.put, List.setIfInBounds_toArray, List.set_cons_zero, List.set_cons_succ, List.getElem_toArray, List.getElem_cons_zero, List.getElem_cons_succ]
              refine wpAnyH_done (by kernel_rfl) ?_ _
              clear hHeld
              go_wp2_with fail
              go_roundw
              case rel => exact ⟨j + 1, (k + 1), _, _, by go_num, by omega, by simp; omega, HP, HG⟩
              case measure => simp [intOf]; omega
            · go_simp
              refine hK.out _ _ ?_ (fun hHeld => ?_)
              · exact (x2.alloc _)
              clear hK K
              try simp only [Act.put, List.setIfInBounds_toArray, List.set_cons_zero, List.set_cons_succ, List.getElem_toArray, List.getElem_cons_zero, List.getElem_cons_succ]
              refine wpAnyH_ready (rs := [0]) (by kernel_rfl) (by simp) ?_
              refine AllReadyH.cons rfl (fun K hK => ?_) AllReadyH.nil
              go_simp
              refine hK.out _ _ ?_ (fun hHeld => ?_)
              · exact hHeld
              clear hK K
              try simp only [Act.put, List.setIfInBounds_toArray, List.set_cons_zero, List.set_cons_succ, List.getElem_toArray, List.getElem_cons_zero, List.getElem_cons_succ]
              refine wpAnyH_ready (rs := [8]) (by kernel_rfl) (by simp) ?_
              refine AllReadyH.cons rfl (fun K hK => ?_) AllReadyH.nil
              refine step_append_fresh rfl (.tmp 16) (.tmp 23) 35 rfl B 2 i0 _ 1 8 Try.underlying35 hi hz0 hz1 hz2 (by decide) (.slice ta t.length tc) t.length (numsV t) rfl (HD2.out.told.owned _) ⟨w2.heap.size, 0, none⟩ 1 [.int .i64 q] rfl rfl (news_one _ _ _) (one_int _) (by unfold maxLen; omega) (by omega) (Nat.le_trans HD2.out.told.size (by simp)) ?_
              intro g cp4 w4 hown hgrow hfr
              have x4 : XN wr.heap.size lo hi' w4 := (x2.alloc (.cells #[.int .i64 q] 2)).grown hgrow HXA.out
              obtain ⟨p1, p2, p3, p4⟩ := HD2.out.told.push hown hgrow
              have HP := Lib.hid (HD2.out.tells HC.out p1 p2)
              clear p1 p2 hown hgrow hfr
              refine hK.out _ _ ?_ (fun hHeld => ?_)
              · exact x4
              clear hK K
              try simp only [Act.put, List.setIfInBounds_toArray, List.set_cons_zero, List.set_cons_succ, List.getElem_toArray, List.getElem_cons_zero, List.getElem_cons_succ]
              refine wpAnyH_ready (rs := [9]) (by kernel_rfl) (by simp) ?_
              refine AllReadyH.cons rfl (fun K hK => ?_) AllReadyH.nil
              go_simp
              refine hK.out _ _ ?_ (fun hHeld => ?_)
              · exact (x4.set (by have := HD2.out.told.lt; omega) _)
              clear hK K
              try simp only [Act.put, List.setIfInBounds_toArray, List.set_cons_zero, List.set_cons_succ, List.getElem_toArray, List.getElem_cons_zero, List.getElem_cons_succ]
              refine wpAnyH_done (by kernel_rfl) ?_ _
              clear hHeld
              go_wp2_with fail
              go_roundw
              case rel => exact ⟨j + 1, (k + 1), _, _, by go_num, by omega, by simp; omega, HP, HG⟩
              case measure => simp [intOf]; omega
        · have hfin := goes_off HF.out HXJ.out hs
          subst hfin
          have HCA := Lib.hid hcall
          clear HF h5 hs hcall
          go_wp2_with fail
          refine wp_region_held_drew (S := XN wr.heap.size lo hi') (by kernel_rfl) HXN.out.drew (fun hHeld => ?_)
          refine wpAnyH_take (i := 1) (v := ?_) rfl (by kernel_rfl) (by kernel_rfl) (by kernel_rfl) (fun _ _ _ h => h) (Or.inl ⟨by rfl, ?_⟩) hHeld ?_
          rotate_left
          · intro W0 hW; obtain ⟨hW1, hW2⟩ := hW; go_simp; (try with_reducible rfl)
          try simp only [Act.put, List.setIfInBounds_toArray, List.set_cons_zero, List.set_cons_succ, List.getElem_toArray, List.getElem_cons_zero, List.getElem_cons_succ]
          refine wpAnyH_take (i := 2) (v := ?_) rfl (by kernel_rfl) (by kernel_rfl) (by kernel_rfl) (fun _ _ _ h => h) (Or.inl ⟨by rfl, ?_⟩) hHeld ?_
          rotate_left
          · intro W0 hW; obtain ⟨hW1, hW2⟩ := hW; go_simp; (try with_reducible rfl)
          try simp only [Act.put, List.setIfInBounds_toArray, List.set_cons_zero, List.set_cons_succ, List.getElem_toArray, List.getElem_cons_zero, List.getElem_cons_succ]
          refine wpAnyH_take (i := 3) (v := ?_) rfl (by kernel_rfl) (by kernel_rfl) (by kernel_rfl) (fun _ _ _ h => h) (Or.inl ⟨by rfl, ?_⟩) hHeld ?_
          rotate_left
          · intro W0 hW; obtain ⟨hW1, hW2⟩ := hW; go_simp; (try with_reducible rfl)
          try simp only [Act.put, List.setIfInBounds_toArray, List.set_cons_zero, List.set_cons_succ, List.getElem_toArray, List.getElem_cons_zero, List.getElem_cons_succ]
          refine wpAnyH_take (i := 4) (v := ?_) rfl (by kernel_rfl) (by kernel_rfl) (by kernel_rfl) (fun _ _ _ h => h) (Or.inl ⟨by rfl, ?_⟩) hHeld ?_
          rotate_left
          · intro W0 hW; obtain ⟨hW1, hW2⟩ := hW; go_simp; (try with_reducible rfl)
          try simp only [Act.put, List.setIfInBounds_toArray, List.set_cons_zero, List.set_cons_succ, List.getElem_toArray, List.getElem_cons_zero, List.getElem_cons_succ]
          refine wpAnyH_take (i := 5) (v := ?_) rfl (by kernel_rfl) (by kernel_rfl) (by kernel_rfl) (fun _ _ _ h => h) (Or.inl ⟨by rfl, ?_⟩) hHeld ?_
          rotate_left
          · intro W0 hW; obtain ⟨hW1, hW2⟩ := hW; go_simp; (try with_reducible rfl)
          try simp only [Act.put, List.setIfInBounds_toArray, List.set_cons_zero, List.set_cons_succ, List.getElem_toArray, List.getElem_cons_zero, List.getElem_cons_succ]
          refine wpAnyH_ready (rs := [0, 6]) (by kernel_rfl) (by simp) ?_
          refine AllReadyH.cons rfl (fun K hK => ?_) (AllReadyH.cons rfl (fun K hK => ?_) AllReadyH.nil)
          · go_simp
            refine hK.out _ _ ?_ (fun hHeld => ?_)
            · exact hHeld
            clear hK K
            try simp only [Act.put, List.setIfInBounds_toArray, List.set_cons_zero, List.set_cons_succ, List.getElem_toArray, List.getElem_cons_zero, List.getElem_cons_succ]
            refine wpAnyH_ready (rs := [6]) (by kernel_rfl) (by simp) ?_
            refine AllReadyH.cons rfl (fun K hK => ?_) AllReadyH.nil
            go_simp
            refine (HCA.out _ HDX.out.rd.drew).mono ?_
            rintro e w2 ⟨rfl, hr2, hm2⟩
            exact ⟨rfl, DoPost.off (HDX.out.later (Below.refl _ _).drew) HC.out hr2 hm2⟩
          · go_simp
            refine (HCA.out _ HDX.out.rd.drew).mono ?_
            rintro e w2 ⟨rfl, hr2, hm2⟩
            exact ⟨rfl, DoPost.off (HDX.out.later (Below.refl _ _).drew) HC.out hr2 hm2⟩
    · have hfin := goes_end HF.out (by have := HLEN.out; omega)
      subst hfin
      go_wp2_with fail
      go_end0
      exact DoPost.on HD.out
end Go.Proofs.Ytnepnfjghafccaa

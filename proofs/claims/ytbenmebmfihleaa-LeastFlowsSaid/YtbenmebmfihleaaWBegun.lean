/- The work begins: all that can leave the first node stays where its pipes lead to. -/
import Derived.Test.YtbenmebmfihleaaMHigh
import Derived.Deep.Cut
import Derived.Deep.RegionHeld3
import Derived.StillTailTactics
import Derived.Deep.LoopGhost
namespace Go.Proofs.Ytbenmebmfihleaa
open Go.RowKit

variable {w wr w2 : World} {a : Option Addr} {len cap lb p N s t k v : Nat} {l : List Pi} {far : Nat → Int} {L : Nat → List La} {V : Nat → Value}
theorem infoLongB : (Try.prog.info? 2).map (fun i => (i.zero, i.size, i.bytes)) = some (some (.int .i64 0), 1, 8) := by kernel_rfl
theorem infoIntB : (Try.prog.info? 3).map (fun i => (i.zero, i.size, i.bytes)) = some (some (.int .i64 0), 1, 8) := by kernel_rfl
theorem infoIntsB : (Try.prog.info? 61).map (fun i => (i.zero, i.size, i.bytes)) = some (some (.slice none 0 0), 1, 24) := by kernel_rfl
set_option maxHeartbeats 4000000 in
set_option maxRecDepth 100000 in
theorem begun_any (N s t len cap : Nat) (l : List Pi) (a : Option Addr) (w : World) (he : endsP (N : Int) l (s : Int) (t : Int) = 0) (hl : IsPipes w.heap.size w a len l) :
    Calls Try.prog 19 #[.agg #[.int .i64 (N : Int), .slice a len cap], .int .i64 (s : Int), .int .i64 (t : Int)] w fun e w' => ∃ E fl hi nx fv Q top, e = .returned (.pointer (some ⟨E.p, 0, none⟩)) ∧ E.N = N ∧ E.s = s ∧ E.t = t ∧ E.l = l ∧ E.len = len ∧ E.Net ∧ Below w.heap.size w w' ∧ w.heap.size ≤ E.C ∧
      Wk E fl (exc E fl) hi nx (cnt E.N hi) fv Q top w' ∧ PRE E fl hi nx ∧ Que E (exc E fl) Q top E.N := by
  obtain ⟨hck, hs, ht, hst⟩ := endsP_zero.1 he
  obtain ⟨⟨_, hN, hll⟩, hok⟩ := checkP_zero.1 hck
  have hN2 : N ≤ 1000 := by omega
  have hlen : len ≤ 20000 := by have := hl.1; omega
  have hsN : s < N := by omega
  have htN : t < N := by omega
  have hmk1 := run_make_row' (P := Try.prog) 31 2 (.int .i64 0) 8 Try.underlying31 infoLongB rfl .i64 .i64 len (by omega) (by omega)
  have hmk2 := run_make_row' (P := Try.prog) 31 2 (.int .i64 0) 8 Try.underlying31 infoLongB rfl .i64 .i64 N (by omega) (by omega)
  have hmk3 := run_make_row' (P := Try.prog) 61 3 (.int .i64 0) 8 Try.underlying61 infoIntB rfl .i64 .i64 N (by omega) (by omega)
  have hmk4 := run_make_row' (P := Try.prog) 61 3 (.int .i64 0) 8 Try.underlying61 infoIntB rfl .i64 .i64 (2 * N) (by omega) (by omega)
  have hmk5 := run_make_row' (P := Try.prog) 62 61 (.slice none 0 0) 24 Try.underlying62 infoIntsB rfl .i64 .i64 (2 * N) (by omega) (by omega)
  have e2N : IntKind.i64.wrap (2 * (N : Int)) = 2 * (N : Int) := by rw [IntKind.wrap_i64]; omega
  have e2N2 : ((2 * N : Nat) : Int) = 2 * (N : Int) := by omega
  rw [e2N2] at hmk4 hmk5
  have HN := Lib.hid hN2
  have HLN := Lib.hid hlen
  have HBX := Lib.hid (NBox.make (Below.refl _ w) (N : Int) a len cap)
  have HBX1 := Lib.hid (HBX.out.later (Below.refl _ _).drew)
  have HLA := Lib.hid (flanes_any N hN2 hlen hok a cap _ (HBX1.out.pipesHere hl))
  have HL := Lib.hid hl
  have HOK := Lib.hid hok
  have HLn : Hid (l.length = len) := Lib.hid hl.1
  have HLO := Lib.hid (lanes_good hok)
  have HST : Hid (s ≠ t) := Lib.hid (by omega)
  clear he hck hl hok hll hN hs ht hst
  go_enter Try.func19, Try.ntmps19
  go_wp2_with fail
  refine wp_region_held_drew (S := fun W => W.cell? ⟨w.heap.size, 0, none⟩ = some (.int .i64 (N : Int)) ∧ W.cell? ⟨w.heap.size, 1, none⟩ = some (.slice a len cap)) (by kernel_rfl) ⟨HBX1.out.c0, HBX1.out.c1⟩ (fun hHeld => ?_)
  refine wpAnyH_take (i := 0) (v := ?_) rfl (by kernel_rfl) (by kernel_rfl) (by kernel_rfl) (fun _ _ _ h => h) (Or.inl ⟨by rfl, ?_⟩) hHeld ?_
  rotate_left
  · intro W0 hW; obtain ⟨hW1, hW2⟩ := hW; go_simp; (try with_reducible rfl)
  try simp only [Act.put, List.setIfInBounds_toArray, List.set_cons_zero, List.set_cons_succ, List.getElem_toArray, List.getElem_cons_zero]
  refine wpAnyH_take (i := 1) (v := ?_) rfl (by kernel_rfl) (by kernel_rfl) (by kernel_rfl) (fun _ _ _ h => h) (Or.inl ⟨by rfl, ?_⟩) hHeld ?_
  rotate_left
  · intro W0 hW; obtain ⟨hW1, hW2⟩ := hW; go_simp; (try with_reducible rfl)
  try simp only [Act.put, List.setIfInBounds_toArray, List.set_cons_zero, List.set_cons_succ, List.getElem_toArray, List.getElem_cons_zero, List.getElem_cons_succ]
  refine wpAnyH_take (i := 2) (v := ?_) rfl (by kernel_rfl) (by kernel_rfl) (by kernel_rfl) (fun _ _ _ h => h) (Or.inl ⟨by rfl, ?_⟩) hHeld ?_
  rotate_left
  · intro W0 hW; obtain ⟨hW1, hW2⟩ := hW; go_simp; (try with_reducible rfl)
  try simp only [Act.put, List.setIfInBounds_toArray, List.set_cons_zero, List.set_cons_succ, List.getElem_toArray, List.getElem_cons_zero, List.getElem_cons_succ]
  refine wpAnyH_take (i := 3) (v := ?_) rfl (by kernel_rfl) (by kernel_rfl) (by kernel_rfl) (fun _ _ _ h => h) (Or.inl ⟨by rfl, ?_⟩) hHeld ?_
  rotate_left
  · intro W0 hW; obtain ⟨hW1, hW2⟩ := hW; go_simp; (try with_reducible rfl)
  try simp only [Act.put, List.setIfInBounds_toArray, List.set_cons_zero, List.set_cons_succ, List.getElem_toArray, List.getElem_cons_zero, List.getElem_cons_succ]
  refine wpAnyH_ready (rs := [4]) (by kernel_rfl) (by simp) ?_
  refine AllReadyH.cons rfl (fun K hK => ?_) AllReadyH.nil
  go_simp
  refine HLA.out.mono ?_; rintro e w2 ⟨Lb, V, rfl, hadj, hb2⟩; have HAD := Lib.hid hadj; have HBX2 := Lib.hid (HBX1.out.later hb2); clear hadj hb2; go_wp2_with fail
  refine hK.out _ _ ?_ (fun hHeld => ?_)
  · exact ⟨HBX2.out.c0, HBX2.out.c1⟩
  clear hK K
  try simp only [Act.put, List.setIfInBounds_toArray, List.set_cons_zero, List.set_cons_succ, List.getElem_toArray, List.getElem_cons_zero, List.getElem_cons_succ]
  refine wpAnyH_take (i := 5) (v := ?_) rfl (by kernel_rfl) (by kernel_rfl) (by kernel_rfl) (fun _ _ _ h => h) (Or.inl ⟨by rfl, ?_⟩) hHeld ?_
  rotate_left
  · intro W0 hW; obtain ⟨hW1, hW2⟩ := hW; go_simp; (try with_reducible rfl)
  try simp only [Act.put, List.setIfInBounds_toArray, List.set_cons_zero, List.set_cons_succ, List.getElem_toArray, List.getElem_cons_zero, List.getElem_cons_succ]
  refine wpAnyH_ready (rs := [6]) (by kernel_rfl) (by simp) ?_
  refine AllReadyH.cons rfl (fun K hK => ?_) AllReadyH.nil
  go_simp
  have HBX3 := Lib.hid (HBX2.out.alloc (.cells #[.int .i64 (N : Int), .slice a len cap, .int .i64 (s : Int), .int .i64 (t : Int), .slice (some ⟨Lb, 0, none⟩) N N, .slice none 0 0, .slice none 0 0, .slice none 0 0, .slice none 0 0, .slice none 0 0, .slice none 0 0, .int .i64 0] 64))
  refine hK.out _ _ ?_ (fun hHeld => ?_)
  · exact ⟨HBX3.out.c0, HBX3.out.c1⟩
  clear hK K
  try simp only [Act.put, List.setIfInBounds_toArray, List.set_cons_zero, List.set_cons_succ, List.getElem_toArray, List.getElem_cons_zero, List.getElem_cons_succ]
  refine wpAnyH_take (i := 7) (v := ?_) rfl (by kernel_rfl) (by kernel_rfl) (by kernel_rfl) (fun _ _ _ h => h) (Or.inl ⟨by rfl, ?_⟩) hHeld ?_
  rotate_left
  · intro W0 hW; go_simp; (try with_reducible rfl)
  try simp only [Act.put, List.setIfInBounds_toArray, List.set_cons_zero, List.set_cons_succ, List.getElem_toArray, List.getElem_cons_zero, List.getElem_cons_succ]
  refine wpAnyH_done (by kernel_rfl) ?_ _
  clear hHeld
  have HB0 : Hid (BW w w2 (w2.alloc (.cells #[.int .i64 (N : Int), .slice a len cap, .int .i64 (s : Int), .int .i64 (t : Int), .slice (some ⟨Lb, 0, none⟩) N N, .slice none 0 0, .slice none 0 0, .slice none 0 0, .slice none 0 0, .slice none 0 0, .slice none 0 0, .int .i64 0] 64)) w2.heap.size Lb N s t len cap a (fun _ => none) (fun _ => .slice none 0 0)) := Lib.hid ⟨HBX3.out, (Below.refl _ _).alloc (Nat.le_refl _) _, HBX2.out.lt, heap_alloc_new _ _, fun i b h => (nomatch h), fun i j b _ h => (nomatch h)⟩
  obtain ⟨p, hp⟩ : ∃ p, w2.heap.size = p := ⟨_, rfl⟩
  have HP := Lib.hid hp
  obtain ⟨w3, hw3⟩ : ∃ w3, w2.alloc (.cells #[.int .i64 (N : Int), .slice a len cap, .int .i64 (s : Int), .int .i64 (t : Int), .slice (some ⟨Lb, 0, none⟩) N N, .slice none 0 0, .slice none 0 0, .slice none 0 0, .slice none 0 0, .slice none 0 0, .slice none 0 0, .int .i64 0] 64) = w3 := ⟨_, rfl⟩
  rw [hp, hw3] at HB0
  rw [hp, hw3]
  clear hp hw3 HBX1 HBX2 HBX3 HLA
  go_wp2_with fail
  go_cut [] from 13 (fun wx => ∃ fb sb nb, BW w w2 wx p Lb N s t len cap a (fun j => if j = 0 then some fb else if j = 1 then some sb else if j = 2 then some nb else none) (fun j => if j = 0 then .slice (some ⟨fb, 0, none⟩) len len else if j = 1 then .slice (some ⟨sb, 0, none⟩) N N else if j = 2 then .slice (some ⟨nb, 0, none⟩) N N else .slice none 0 0))
  case first =>
    have HBd := Lib.hid HB0.out.drew
    refine wp_region_held_drew (S := fun W => W.cell? ⟨w.heap.size, 0, none⟩ = some (.int .i64 (N : Int)) ∧ W.cell? ⟨w.heap.size, 1, none⟩ = some (.slice a len cap)) (by kernel_rfl) HBd.out.two (fun hHeld => ?_)
    obtain ⟨wz, hwz⟩ : ∃ wz, World.drew w3 = wz := ⟨_, rfl⟩
    rw [hwz] at HBd hHeld ⊢
    clear hwz
    refine wpAnyH_take (i := 0) (v := ?_) rfl (by kernel_rfl) (by kernel_rfl) (by kernel_rfl) (fun _ _ _ h => h) (Or.inl ⟨by rfl, ?_⟩) hHeld ?_
    rotate_left
    · intro W0 hW; obtain ⟨hW1, hW2⟩ := hW; go_simp; (try with_reducible rfl)
    try simp only [Act.put, List.setIfInBounds_toArray, List.set_cons_zero, List.set_cons_succ, List.getElem_toArray, List.getElem_cons_zero]
    refine wpAnyH_take (i := 1) (v := ?_) rfl (by kernel_rfl) (by kernel_rfl) (by kernel_rfl) (fun _ _ _ h => h) (Or.inl ⟨by rfl, ?_⟩) hHeld ?_
    rotate_left
    · intro W0 hW; obtain ⟨hW1, hW2⟩ := hW; go_simp; (try with_reducible rfl)
    try simp only [Act.put, List.setIfInBounds_toArray, List.set_cons_zero, List.set_cons_succ, List.getElem_toArray, List.getElem_cons_zero, List.getElem_cons_succ]
    refine wpAnyH_take (i := 2) (v := ?_) rfl (by kernel_rfl) (by kernel_rfl) (by kernel_rfl) (fun _ _ _ h => h) (Or.inl ⟨by rfl, ?_⟩) hHeld ?_
    rotate_left
    · intro W0 hW; obtain ⟨hW1, hW2⟩ := hW; go_simp; (try with_reducible rfl)
    try simp only [Act.put, List.setIfInBounds_toArray, List.set_cons_zero, List.set_cons_succ, List.getElem_toArray, List.getElem_cons_zero, List.getElem_cons_succ]
    refine wpAnyH_take (i := 3) (v := ?_) rfl (by kernel_rfl) (by kernel_rfl) (by kernel_rfl) (fun _ _ _ h => h) (Or.inl ⟨by rfl, ?_⟩) hHeld ?_
    rotate_left
    · intro W0 hW; obtain ⟨hW1, hW2⟩ := hW; go_simp; (try with_reducible rfl)
    try simp only [Act.put, List.setIfInBounds_toArray, List.set_cons_zero, List.set_cons_succ, List.getElem_toArray, List.getElem_cons_zero, List.getElem_cons_succ]
    refine wpAnyH_take (i := 4) (v := ?_) rfl (by kernel_rfl) (by kernel_rfl) (by kernel_rfl) (fun _ _ _ h => h) (Or.inl ⟨by rfl, ?_⟩) hHeld ?_
    rotate_left
    · intro W0 hW; obtain ⟨hW1, hW2⟩ := hW; go_simp; (try with_reducible rfl)
    try simp only [Act.put, List.setIfInBounds_toArray, List.set_cons_zero, List.set_cons_succ, List.getElem_toArray, List.getElem_cons_zero, List.getElem_cons_succ]
    refine wpAnyH_take (i := 5) (v := ?_) rfl (by kernel_rfl) (by kernel_rfl) (by kernel_rfl) (fun _ _ _ h => h) (Or.inl ⟨by rfl, ?_⟩) hHeld ?_
    rotate_left
    · intro W0 hW; obtain ⟨hW1, hW2⟩ := hW; go_simp; (try with_reducible rfl)
    try simp only [Act.put, List.setIfInBounds_toArray, List.set_cons_zero, List.set_cons_succ, List.getElem_toArray, List.getElem_cons_zero, List.getElem_cons_succ]
    refine wpAnyH_take (i := 7) (v := ?_) rfl (by kernel_rfl) (by kernel_rfl) (by kernel_rfl) (fun _ _ _ h => h) (Or.inl ⟨by rfl, ?_⟩) hHeld ?_
    rotate_left
    · intro W0 hW; obtain ⟨hW1, hW2⟩ := hW; go_simp; (try with_reducible rfl)
    try simp only [Act.put, List.setIfInBounds_toArray, List.set_cons_zero, List.set_cons_succ, List.getElem_toArray, List.getElem_cons_zero, List.getElem_cons_succ]
    refine wpAnyH_take (i := 8) (v := ?_) rfl (by kernel_rfl) (by kernel_rfl) (by kernel_rfl) (fun _ _ _ h => h) (Or.inl ⟨by rfl, ?_⟩) hHeld ?_
    rotate_left
    · intro W0 hW; obtain ⟨hW1, hW2⟩ := hW; go_simp; (try with_reducible rfl)
    try simp only [Act.put, List.setIfInBounds_toArray, List.set_cons_zero, List.set_cons_succ, List.getElem_toArray, List.getElem_cons_zero, List.getElem_cons_succ]
    refine wpAnyH_take (i := 10) (v := ?_) rfl (by kernel_rfl) (by kernel_rfl) (by kernel_rfl) (fun _ _ _ h => h) (Or.inl ⟨by rfl, ?_⟩) hHeld ?_
    rotate_left
    · intro W0 hW; obtain ⟨hW1, hW2⟩ := hW; go_simp; (try with_reducible rfl)
    try simp only [Act.put, List.setIfInBounds_toArray, List.set_cons_zero, List.set_cons_succ, List.getElem_toArray, List.getElem_cons_zero, List.getElem_cons_succ]
    refine wpAnyH_take (i := 11) (v := ?_) rfl (by kernel_rfl) (by kernel_rfl) (by kernel_rfl) (fun _ _ _ h => h) (Or.inl ⟨by rfl, ?_⟩) hHeld ?_
    rotate_left
    · intro W0 hW; obtain ⟨hW1, hW2⟩ := hW; go_simp; (try with_reducible rfl)
    try simp only [Act.put, List.setIfInBounds_toArray, List.set_cons_zero, List.set_cons_succ, List.getElem_toArray, List.getElem_cons_zero, List.getElem_cons_succ]
    refine wpAnyH_ready (rs := [6, 9, 12]) (by kernel_rfl) (by simp) ?_
    refine AllReadyH.cons rfl (fun K hK => ?_) (AllReadyH.cons rfl (fun K hK => ?_) (AllReadyH.cons rfl (fun K hK => ?_) AllReadyH.nil))
    · go_simp
      have HB11 : Hid (BW w w2 (wz.alloc (.cells (madeCells #[.int .i64 0] len) 2)) p Lb N s t len cap a (putO _ 0 wz.heap.size) _) := Lib.hid (HBd.out.mk_ 0)
      refine hK.out _ _ ?_ (fun hHeld => ?_)
      · exact HB11.out.two
      clear hK K
      try simp only [Act.put, List.setIfInBounds_toArray, List.set_cons_zero, List.set_cons_succ, List.getElem_toArray, List.getElem_cons_zero, List.getElem_cons_succ]
      obtain ⟨fb, hfb⟩ : ∃ b, wz.heap.size = b := ⟨_, rfl⟩
      obtain ⟨v11, hv11⟩ : ∃ v, wz.alloc (.cells (madeCells #[.int .i64 0] len) 2) = v := ⟨_, rfl⟩
      rw [hfb, hv11] at HB11
      rw [hv11] at hHeld
      rw [hfb, hv11]
      clear hfb hv11
      refine wpAnyH_take (i := 13) (v := ?_) rfl (by kernel_rfl) (by kernel_rfl) (by kernel_rfl) (fun _ _ _ h => h) (Or.inl ⟨by rfl, ?_⟩) hHeld ?_
      rotate_left
      · intro W0 hW; go_simp; (try with_reducible rfl)
      try simp only [Act.put, List.setIfInBounds_toArray, List.set_cons_zero, List.set_cons_succ, List.getElem_toArray, List.getElem_cons_zero, List.getElem_cons_succ]
      refine wpAnyH_take (i := 14) (v := ?_) rfl (by kernel_rfl) (by kernel_rfl) (by kernel_rfl) (fun _ _ _ h => h) (Or.inl ⟨by rfl, ?_⟩) hHeld ?_
      rotate_left
      · intro W0 hW; go_simp; (try with_reducible rfl)
      try simp only [Act.put, List.setIfInBounds_toArray, List.set_cons_zero, List.set_cons_succ, List.getElem_toArray, List.getElem_cons_zero, List.getElem_cons_succ]
      refine wpAnyH_ready (rs := [9, 12, 15]) (by kernel_rfl) (by simp) ?_
      refine AllReadyH.cons rfl (fun K hK => ?_) (AllReadyH.cons rfl (fun K hK => ?_) (AllReadyH.cons rfl (fun K hK => ?_) AllReadyH.nil))
      · go_simp
        have HB12 : Hid (BW w w2 (v11.alloc (.cells (madeCells #[.int .i64 0] N) 2)) p Lb N s t len cap a (putO _ 1 v11.heap.size) _) := Lib.hid (HB11.out.mk_ 1)
        refine hK.out _ _ ?_ (fun hHeld => ?_)
        · exact HB12.out.two
        clear hK K
        try simp only [Act.put, List.setIfInBounds_toArray, List.set_cons_zero, List.set_cons_succ, List.getElem_toArray, List.getElem_cons_zero, List.getElem_cons_succ]
        obtain ⟨sb, hsb⟩ : ∃ b, v11.heap.size = b := ⟨_, rfl⟩
        obtain ⟨v12, hv12⟩ : ∃ v, v11.alloc (.cells (madeCells #[.int .i64 0] N) 2) = v := ⟨_, rfl⟩
        rw [hsb, hv12] at HB12
        rw [hv12] at hHeld
        rw [hsb, hv12]
        clear hsb hv12
        refine wpAnyH_ready (rs := [12, 15]) (by kernel_rfl) (by simp) ?_
        refine AllReadyH.cons rfl (fun K hK => ?_) (AllReadyH.cons rfl (fun K hK => ?_) AllReadyH.nil)
        · go_simp
          have HB13 : Hid (BW w w2 (v12.alloc (.cells (madeCells #[.int .i64 0] N) 3)) p Lb N s t len cap a (putO _ 2 v12.heap.size) _) := Lib.hid (HB12.out.mk_ 2)
          refine hK.out _ _ ?_ (fun hHeld => ?_)
          · exact HB13.out.two
          clear hK K
          try simp only [Act.put, List.setIfInBounds_toArray, List.set_cons_zero, List.set_cons_succ, List.getElem_toArray, List.getElem_cons_zero, List.getElem_cons_succ]
          obtain ⟨nb, hnb⟩ : ∃ b, v12.heap.size = b := ⟨_, rfl⟩
          obtain ⟨v13, hv13⟩ : ∃ v, v12.alloc (.cells (madeCells #[.int .i64 0] N) 3) = v := ⟨_, rfl⟩
          rw [hnb, hv13] at HB13
          rw [hv13] at hHeld
          rw [hnb, hv13]
          clear hnb hv13
          refine wpAnyH_ready (rs := [15]) (by kernel_rfl) (by simp) ?_
          refine AllReadyH.cons rfl (fun K hK => ?_) AllReadyH.nil
          obtain ⟨c5, c6, c9, c8, c10, _, f5, f6, f9, f8, f10, _⟩ := HB13.out.cells
          go_simp
          clear c5 c6 c9 c8 c10 f5 f6 f9 f8 f10
          have HB14 := Lib.hid (HB13.out.st0 (.slice (some ⟨fb, 0, none⟩) len len))
          refine hK.out _ _ ?_ (fun hHeld => ?_)
          · exact HB14.out.two
          clear hK K
          try simp only [Act.put, List.setIfInBounds_toArray, List.set_cons_zero, List.set_cons_succ, List.getElem_toArray, List.getElem_cons_zero, List.getElem_cons_succ]
          obtain ⟨v14, hv14⟩ : ∃ v, v13.setCell ⟨p, 5, none⟩ (.slice (some ⟨fb, 0, none⟩) len len) = v := ⟨_, rfl⟩
          rw [hv14] at HB14 hHeld ⊢
          clear hv14
          refine wpAnyH_take (i := 16) (v := ?_) rfl (by kernel_rfl) (by kernel_rfl) (by kernel_rfl) (fun _ _ _ h => h) (Or.inl ⟨by rfl, ?_⟩) hHeld ?_
          rotate_left
          · intro W0 hW; go_simp; (try with_reducible rfl)
          try simp only [Act.put, List.setIfInBounds_toArray, List.set_cons_zero, List.set_cons_succ, List.getElem_toArray, List.getElem_cons_zero, List.getElem_cons_succ]
          refine wpAnyH_take (i := 17) (v := ?_) rfl (by kernel_rfl) (by kernel_rfl) (by kernel_rfl) (fun _ _ _ h => h) (Or.inl ⟨by rfl, ?_⟩) hHeld ?_
          rotate_left
          · intro W0 hW; go_simp; (try with_reducible rfl)
          try simp only [Act.put, List.setIfInBounds_toArray, List.set_cons_zero, List.set_cons_succ, List.getElem_toArray, List.getElem_cons_zero, List.getElem_cons_succ]
          refine wpAnyH_ready (rs := [18]) (by kernel_rfl) (by simp) ?_
          refine AllReadyH.cons rfl (fun K hK => ?_) AllReadyH.nil
          obtain ⟨c5, c6, c9, c8, c10, _, f5, f6, f9, f8, f10, _⟩ := HB14.out.cells
          go_simp
          clear c5 c6 c9 c8 c10 f5 f6 f9 f8 f10
          have HB15 := Lib.hid (HB14.out.st1 (.slice (some ⟨sb, 0, none⟩) N N))
          refine hK.out _ _ ?_ (fun hHeld => ?_)
          · exact HB15.out.two
          clear hK K
          try simp only [Act.put, List.setIfInBounds_toArray, List.set_cons_zero, List.set_cons_succ, List.getElem_toArray, List.getElem_cons_zero, List.getElem_cons_succ]
          obtain ⟨v15, hv15⟩ : ∃ v, v14.setCell ⟨p, 6, none⟩ (.slice (some ⟨sb, 0, none⟩) N N) = v := ⟨_, rfl⟩
          rw [hv15] at HB15 hHeld ⊢
          clear hv15
          refine wpAnyH_take (i := 19) (v := ?_) rfl (by kernel_rfl) (by kernel_rfl) (by kernel_rfl) (fun _ _ _ h => h) (Or.inl ⟨by rfl, ?_⟩) hHeld ?_
          rotate_left
          · intro W0 hW; go_simp; (try with_reducible rfl)
          try simp only [Act.put, List.setIfInBounds_toArray, List.set_cons_zero, List.set_cons_succ, List.getElem_toArray, List.getElem_cons_zero, List.getElem_cons_succ]
          refine wpAnyH_take (i := 20) (v := ?_) rfl (by kernel_rfl) (by kernel_rfl) (by kernel_rfl) (fun _ _ _ h => h) (Or.inl ⟨by rfl, ?_⟩) hHeld ?_
          rotate_left
          · intro W0 hW; go_simp; (try with_reducible rfl)
          try simp only [Act.put, List.setIfInBounds_toArray, List.set_cons_zero, List.set_cons_succ, List.getElem_toArray, List.getElem_cons_zero, List.getElem_cons_succ]
          refine wpAnyH_ready (rs := [21]) (by kernel_rfl) (by simp) ?_
          refine AllReadyH.cons rfl (fun K hK => ?_) AllReadyH.nil
          obtain ⟨c5, c6, c9, c8, c10, _, f5, f6, f9, f8, f10, _⟩ := HB15.out.cells
          go_simp
          clear c5 c6 c9 c8 c10 f5 f6 f9 f8 f10
          have HB16 := Lib.hid (HB15.out.st2 (.slice (some ⟨nb, 0, none⟩) N N))
          refine hK.out _ _ ?_ (fun hHeld => ?_)
          · exact HB16.out.two
          clear hK K
          try simp only [Act.put, List.setIfInBounds_toArray, List.set_cons_zero, List.set_cons_succ, List.getElem_toArray, List.getElem_cons_zero, List.getElem_cons_succ]
          obtain ⟨v16, hv16⟩ : ∃ v, v15.setCell ⟨p, 9, none⟩ (.slice (some ⟨nb, 0, none⟩) N N) = v := ⟨_, rfl⟩
          rw [hv16] at HB16 hHeld ⊢
          clear hv16
          refine wpAnyH_done (by kernel_rfl) ?_ _
          clear hHeld
          go_wp2_with fail
          go_meet
          exact ⟨fb, sb, nb, HB16.out.congr (fun j => by simp only [putO] <;> (repeat' split) <;> simp_all) (fun j => by simp only [putC] <;> (repeat' split) <;> simp_all)⟩
        · obtain ⟨c5, c6, c9, c8, c10, _, f5, f6, f9, f8, f10, _⟩ := HB12.out.cells
          go_simp
          clear c5 c6 c9 c8 c10 f5 f6 f9 f8 f10
          have HB13 := Lib.hid (HB12.out.st0 (.slice (some ⟨fb, 0, none⟩) len len))
          refine hK.out _ _ ?_ (fun hHeld => ?_)
          · exact HB13.out.two
          clear hK K
          try simp only [Act.put, List.setIfInBounds_toArray, List.set_cons_zero, List.set_cons_succ, List.getElem_toArray, List.getElem_cons_zero, List.getElem_cons_succ]
          obtain ⟨v13, hv13⟩ : ∃ v, v12.setCell ⟨p, 5, none⟩ (.slice (some ⟨fb, 0, none⟩) len len) = v := ⟨_, rfl⟩
          rw [hv13] at HB13 hHeld ⊢
          clear hv13
          refine wpAnyH_take (i := 16) (v := ?_) rfl (by kernel_rfl) (by kernel_rfl) (by kernel_rfl) (fun _ _ _ h => h) (Or.inl ⟨by rfl, ?_⟩) hHeld ?_
          rotate_left
          · intro W0 hW; go_simp; (try with_reducible rfl)
          try simp only [Act.put, List.setIfInBounds_toArray, List.set_cons_zero, List.set_cons_succ, List.getElem_toArray, List.getElem_cons_zero, List.getElem_cons_succ]
          refine wpAnyH_take (i := 17) (v := ?_) rfl (by kernel_rfl) (by kernel_rfl) (by kernel_rfl) (fun _ _ _ h => h) (Or.inl ⟨by rfl, ?_⟩) hHeld ?_
          rotate_left
          · intro W0 hW; go_simp; (try with_reducible rfl)
          try simp only [Act.put, List.setIfInBounds_toArray, List.set_cons_zero, List.set_cons_succ, List.getElem_toArray, List.getElem_cons_zero, List.getElem_cons_succ]
          refine wpAnyH_ready (rs := [12, 18]) (by kernel_rfl) (by simp) ?_
          refine AllReadyH.cons rfl (fun K hK => ?_) (AllReadyH.cons rfl (fun K hK => ?_) AllReadyH.nil)
          · go_simp
            have HB14 : Hid (BW w w2 (v13.alloc (.cells (madeCells #[.int .i64 0] N) 3)) p Lb N s t len cap a (putO _ 2 v13.heap.size) _) := Lib.hid (HB13.out.mk_ 2)
            refine hK.out _ _ ?_ (fun hHeld => ?_)
            · exact HB14.out.two
            clear hK K
            try simp only [Act.put, List.setIfInBounds_toArray, List.set_cons_zero, List.set_cons_succ, List.getElem_toArray, List.getElem_cons_zero, List.getElem_cons_succ]
            obtain ⟨nb, hnb⟩ : ∃ b, v13.heap.size = b := ⟨_, rfl⟩
            obtain ⟨v14, hv14⟩ : ∃ v, v13.alloc (.cells (madeCells #[.int .i64 0] N) 3) = v := ⟨_, rfl⟩
            rw [hnb, hv14] at HB14
            rw [hv14] at hHeld
            rw [hnb, hv14]
            clear hnb hv14
            refine wpAnyH_ready (rs := [18]) (by kernel_rfl) (by simp) ?_
            refine AllReadyH.cons rfl (fun K hK => ?_) AllReadyH.nil
            obtain ⟨c5, c6, c9, c8, c10, _, f5, f6, f9, f8, f10, _⟩ := HB14.out.cells
            go_simp
            clear c5 c6 c9 c8 c10 f5 f6 f9 f8 f10
            have HB15 := Lib.hid (HB14.out.st1 (.slice (some ⟨sb, 0, none⟩) N N))
            refine hK.out _ _ ?_ (fun hHeld => ?_)
            · exact HB15.out.two
            clear hK K
            try simp only [Act.put, List.setIfInBounds_toArray, List.set_cons_zero, List.set_cons_succ, List.getElem_toArray, List.getElem_cons_zero, List.getElem_cons_succ]
            obtain ⟨v15, hv15⟩ : ∃ v, v14.setCell ⟨p, 6, none⟩ (.slice (some ⟨sb, 0, none⟩) N N) = v := ⟨_, rfl⟩
            rw [hv15] at HB15 hHeld ⊢
            clear hv15
            refine wpAnyH_take (i := 19) (v := ?_) rfl (by kernel_rfl) (by kernel_rfl) (by kernel_rfl) (fun _ _ _ h => h) (Or.inl ⟨by rfl, ?_⟩) hHeld ?_
            rotate_left
            · intro W0 hW; go_simp; (try with_reducible rfl)
            try simp only [Act.put, List.setIfInBounds_toArray, List.set_cons_zero, List.set_cons_succ, List.getElem_toArray, List.getElem_cons_zero, List.getElem_cons_succ]
            refine wpAnyH_take (i := 20) (v := ?_) rfl (by kernel_rfl) (by kernel_rfl) (by kernel_rfl) (fun _ _ _ h => h) (Or.inl ⟨by rfl, ?_⟩) hHeld ?_
            rotate_left
            · intro W0 hW; go_simp; (try with_reducible rfl)
            try simp only [Act.put, List.setIfInBounds_toArray, List.set_cons_zero, List.set_cons_succ, List.getElem_toArray, List.getElem_cons_zero, List.getElem_cons_succ]
            refine wpAnyH_ready (rs := [21]) (by kernel_rfl) (by simp) ?_
            refine AllReadyH.cons rfl (fun K hK => ?_) AllReadyH.nil
            obtain ⟨c5, c6, c9, c8, c10, _, f5, f6, f9, f8, f10, _⟩ := HB15.out.cells
            go_simp
            clear c5 c6 c9 c8 c10 f5 f6 f9 f8 f10
            have HB16 := Lib.hid (HB15.out.st2 (.slice (some ⟨nb, 0, none⟩) N N))
            refine hK.out _ _ ?_ (fun hHeld => ?_)
            · exact HB16.out.two
            clear hK K
            try simp only [Act.put, List.setIfInBounds_toArray, List.set_cons_zero, List.set_cons_succ, List.getElem_toArray, List.getElem_cons_zero, List.getElem_cons_succ]
            obtain ⟨v16, hv16⟩ : ∃ v, v15.setCell ⟨p, 9, none⟩ (.slice (some ⟨nb, 0, none⟩) N N) = v := ⟨_, rfl⟩
            rw [hv16] at HB16 hHeld ⊢
            clear hv16
            refine wpAnyH_done (by kernel_rfl) ?_ _
            clear hHeld
            go_wp2_with fail
            go_meet
            exact ⟨fb, sb, nb, HB16.out.congr (fun j => by simp only [putO] <;> (repeat' split) <;> simp_all) (fun j => by simp only [putC] <;> (repeat' split) <;> simp_all)⟩
          · obtain ⟨c5, c6, c9, c8, c10, _, f5, f6, f9, f8, f10, _⟩ := HB13.out.cells
            go_simp
            clear c5 c6 c9 c8 c10 f5 f6 f9 f8 f10
            have HB14 := Lib.hid (HB13.out.st1 (.slice (some ⟨sb, 0, none⟩) N N))
            refine hK.out _ _ ?_ (fun hHeld => ?_)
            · exact HB14.out.two
            clear hK K
            try simp only [Act.put, List.setIfInBounds_toArray, List.set_cons_zero, List.set_cons_succ, List.getElem_toArray, List.getElem_cons_zero, List.getElem_cons_succ]
            obtain ⟨v14, hv14⟩ : ∃ v, v13.setCell ⟨p, 6, none⟩ (.slice (some ⟨sb, 0, none⟩) N N) = v := ⟨_, rfl⟩
            rw [hv14] at HB14 hHeld ⊢
            clear hv14
            refine wpAnyH_ready (rs := [12]) (by kernel_rfl) (by simp) ?_
            refine AllReadyH.cons rfl (fun K hK => ?_) AllReadyH.nil
            go_simp
            have HB15 : Hid (BW w w2 (v14.alloc (.cells (madeCells #[.int .i64 0] N) 3)) p Lb N s t len cap a (putO _ 2 v14.heap.size) _) := Lib.hid (HB14.out.mk_ 2)
            refine hK.out _ _ ?_ (fun hHeld => ?_)
            · exact HB15.out.two
            clear hK K
            try simp only [Act.put, List.setIfInBounds_toArray, List.set_cons_zero, List.set_cons_succ, List.getElem_toArray, List.getElem_cons_zero, List.getElem_cons_succ]
            obtain ⟨nb, hnb⟩ : ∃ b, v14.heap.size = b := ⟨_, rfl⟩
            obtain ⟨v15, hv15⟩ : ∃ v, v14.alloc (.cells (madeCells #[.int .i64 0] N) 3) = v := ⟨_, rfl⟩
            rw [hnb, hv15] at HB15
            rw [hv15] at hHeld
            rw [hnb, hv15]
            clear hnb hv15
            refine wpAnyH_take (i := 19) (v := ?_) rfl (by kernel_rfl) (by kernel_rfl) (by kernel_rfl) (fun _ _ _ h => h) (Or.inl ⟨by rfl, ?_⟩) hHeld ?_
            rotate_left
            · intro W0 hW; go_simp; (try with_reducible rfl)
            try simp only [Act.put, List.setIfInBounds_toArray, List.set_cons_zero, List.set_cons_succ, List.getElem_toArray, List.getElem_cons_zero, List.getElem_cons_succ]
            refine wpAnyH_take (i := 20) (v := ?_) rfl (by kernel_rfl) (by kernel_rfl) (by kernel_rfl) (fun _ _ _ h => h) (Or.inl ⟨by rfl, ?_⟩) hHeld ?_
            rotate_left
            · intro W0 hW; go_simp; (try with_reducible rfl)
            try simp only [Act.put, List.setIfInBounds_toArray, List.set_cons_zero, List.set_cons_succ, List.getElem_toArray, List.getElem_cons_zero, List.getElem_cons_succ]
            refine wpAnyH_ready (rs := [21]) (by kernel_rfl) (by simp) ?_
            refine AllReadyH.cons rfl (fun K hK => ?_) AllReadyH.nil
            obtain ⟨c5, c6, c9, c8, c10, _, f5, f6, f9, f8, f10, _⟩ := HB15.out.cells
            go_simp
            clear c5 c6 c9 c8 c10 f5 f6 f9 f8 f10
            have HB16 := Lib.hid (HB15.out.st2 (.slice (some ⟨nb, 0, none⟩) N N))
            refine hK.out _ _ ?_ (fun hHeld => ?_)
            · exact HB16.out.two
            clear hK K
            try simp only [Act.put, List.setIfInBounds_toArray, List.set_cons_zero, List.set_cons_succ, List.getElem_toArray, List.getElem_cons_zero, List.getElem_cons_succ]
            obtain ⟨v16, hv16⟩ : ∃ v, v15.setCell ⟨p, 9, none⟩ (.slice (some ⟨nb, 0, none⟩) N N) = v := ⟨_, rfl⟩
            rw [hv16] at HB16 hHeld ⊢
            clear hv16
            refine wpAnyH_done (by kernel_rfl) ?_ _
            clear hHeld
            go_wp2_with fail
            go_meet
            exact ⟨fb, sb, nb, HB16.out.congr (fun j => by simp only [putO] <;> (repeat' split) <;> simp_all) (fun j => by simp only [putC] <;> (repeat' split) <;> simp_all)⟩
      · go_simp
        have HB12 : Hid (BW w w2 (v11.alloc (.cells (madeCells #[.int .i64 0] N) 3)) p Lb N s t len cap a (putO _ 2 v11.heap.size) _) := Lib.hid (HB11.out.mk_ 2)
        refine hK.out _ _ ?_ (fun hHeld => ?_)
        · exact HB12.out.two
        clear hK K
        try simp only [Act.put, List.setIfInBounds_toArray, List.set_cons_zero, List.set_cons_succ, List.getElem_toArray, List.getElem_cons_zero, List.getElem_cons_succ]
        obtain ⟨nb, hnb⟩ : ∃ b, v11.heap.size = b := ⟨_, rfl⟩
        obtain ⟨v12, hv12⟩ : ∃ v, v11.alloc (.cells (madeCells #[.int .i64 0] N) 3) = v := ⟨_, rfl⟩
        rw [hnb, hv12] at HB12
        rw [hv12] at hHeld
        rw [hnb, hv12]
        clear hnb hv12
        refine wpAnyH_ready (rs := [9, 15]) (by kernel_rfl) (by simp) ?_
        refine AllReadyH.cons rfl (fun K hK => ?_) (AllReadyH.cons rfl (fun K hK => ?_) AllReadyH.nil)
        · go_simp
          have HB13 : Hid (BW w w2 (v12.alloc (.cells (madeCells #[.int .i64 0] N) 2)) p Lb N s t len cap a (putO _ 1 v12.heap.size) _) := Lib.hid (HB12.out.mk_ 1)
          refine hK.out _ _ ?_ (fun hHeld => ?_)
          · exact HB13.out.two
          clear hK K
          try simp only [Act.put, List.setIfInBounds_toArray, List.set_cons_zero, List.set_cons_succ, List.getElem_toArray, List.getElem_cons_zero, List.getElem_cons_succ]
          obtain ⟨sb, hsb⟩ : ∃ b, v12.heap.size = b := ⟨_, rfl⟩
          obtain ⟨v13, hv13⟩ : ∃ v, v12.alloc (.cells (madeCells #[.int .i64 0] N) 2) = v := ⟨_, rfl⟩
          rw [hsb, hv13] at HB13
          rw [hv13] at hHeld
          rw [hsb, hv13]
          clear hsb hv13
          refine wpAnyH_ready (rs := [15]) (by kernel_rfl) (by simp) ?_
          refine AllReadyH.cons rfl (fun K hK => ?_) AllReadyH.nil
          obtain ⟨c5, c6, c9, c8, c10, _, f5, f6, f9, f8, f10, _⟩ := HB13.out.cells
          go_simp
          clear c5 c6 c9 c8 c10 f5 f6 f9 f8 f10
          have HB14 := Lib.hid (HB13.out.st0 (.slice (some ⟨fb, 0, none⟩) len len))
          refine hK.out _ _ ?_ (fun hHeld => ?_)
          · exact HB14.out.two
          clear hK K
          try simp only [Act.put, List.setIfInBounds_toArray, List.set_cons_zero, List.set_cons_succ, List.getElem_toArray, List.getElem_cons_zero, List.getElem_cons_succ]
          obtain ⟨v14, hv14⟩ : ∃ v, v13.setCell ⟨p, 5, none⟩ (.slice (some ⟨fb, 0, none⟩) len len) = v := ⟨_, rfl⟩
          rw [hv14] at HB14 hHeld ⊢
          clear hv14
          refine wpAnyH_take (i := 16) (v := ?_) rfl (by kernel_rfl) (by kernel_rfl) (by kernel_rfl) (fun _ _ _ h => h) (Or.inl ⟨by rfl, ?_⟩) hHeld ?_
          rotate_left
          · intro W0 hW; go_simp; (try with_reducible rfl)
          try simp only [Act.put, List.setIfInBounds_toArray, List.set_cons_zero, List.set_cons_succ, List.getElem_toArray, List.getElem_cons_zero, List.getElem_cons_succ]
          refine wpAnyH_take (i := 17) (v := ?_) rfl (by kernel_rfl) (by kernel_rfl) (by kernel_rfl) (fun _ _ _ h => h) (Or.inl ⟨by rfl, ?_⟩) hHeld ?_
          rotate_left
          · intro W0 hW; go_simp; (try with_reducible rfl)
          try simp only [Act.put, List.setIfInBounds_toArray, List.set_cons_zero, List.set_cons_succ, List.getElem_toArray, List.getElem_cons_zero, List.getElem_cons_succ]
          refine wpAnyH_ready (rs := [18]) (by kernel_rfl) (by simp) ?_
          refine AllReadyH.cons rfl (fun K hK => ?_) AllReadyH.nil
          obtain ⟨c5, c6, c9, c8, c10, _, f5, f6, f9, f8, f10, _⟩ := HB14.out.cells
          go_simp
          clear c5 c6 c9 c8 c10 f5 f6 f9 f8 f10
          have HB15 := Lib.hid (HB14.out.st1 (.slice (some ⟨sb, 0, none⟩) N N))
          refine hK.out _ _ ?_ (fun hHeld => ?_)
          · exact HB15.out.two
          clear hK K
          try simp only [Act.put, List.setIfInBounds_toArray, List.set_cons_zero, List.set_cons_succ, List.getElem_toArray, List.getElem_cons_zero, List.getElem_cons_succ]
          obtain ⟨v15, hv15⟩ : ∃ v, v14.setCell ⟨p, 6, none⟩ (.slice (some ⟨sb, 0, none⟩) N N) = v := ⟨_, rfl⟩
          rw [hv15] at HB15 hHeld ⊢
          clear hv15
          refine wpAnyH_take (i := 19) (v := ?_) rfl (by kernel_rfl) (by kernel_rfl) (by kernel_rfl) (fun _ _ _ h => h) (Or.inl ⟨by rfl, ?_⟩) hHeld ?_
          rotate_left
          · intro W0 hW; go_simp; (try with_reducible rfl)
          try simp only [Act.put, List.setIfInBounds_toArray, List.set_cons_zero, List.set_cons_succ, List.getElem_toArray, List.getElem_cons_zero, List.getElem_cons_succ]
          refine wpAnyH_take (i := 20) (v := ?_) rfl (by kernel_rfl) (by kernel_rfl) (by kernel_rfl) (fun _ _ _ h => h) (Or.inl ⟨by rfl, ?_⟩) hHeld ?_
          rotate_left
          · intro W0 hW; go_simp; (try with_reducible rfl)
          try simp only [Act.put, List.setIfInBounds_toArray, List.set_cons_zero, List.set_cons_succ, List.getElem_toArray, List.getElem_cons_zero, List.getElem_cons_succ]
          refine wpAnyH_ready (rs := [21]) (by kernel_rfl) (by simp) ?_
          refine AllReadyH.cons rfl (fun K hK => ?_) AllReadyH.nil
          obtain ⟨c5, c6, c9, c8, c10, _, f5, f6, f9, f8, f10, _⟩ := HB15.out.cells
          go_simp
          clear c5 c6 c9 c8 c10 f5 f6 f9 f8 f10
          have HB16 := Lib.hid (HB15.out.st2 (.slice (some ⟨nb, 0, none⟩) N N))
          refine hK.out _ _ ?_ (fun hHeld => ?_)
          · exact HB16.out.two
          clear hK K
          try simp only [Act.put, List.setIfInBounds_toArray, List.set_cons_zero, List.set_cons_succ, List.getElem_toArray, List.getElem_cons_zero, List.getElem_cons_succ]
          obtain ⟨v16, hv16⟩ : ∃ v, v15.setCell ⟨p, 9, none⟩ (.slice (some ⟨nb, 0, none⟩) N N) = v := ⟨_, rfl⟩
          rw [hv16] at HB16 hHeld ⊢
          clear hv16
          refine wpAnyH_done (by kernel_rfl) ?_ _
          clear hHeld
          go_wp2_with fail
          go_meet
          exact ⟨fb, sb, nb, HB16.out.congr (fun j => by simp only [putO] <;> (repeat' split) <;> simp_all) (fun j => by simp only [putC] <;> (repeat' split) <;> simp_all)⟩
        · obtain ⟨c5, c6, c9, c8, c10, _, f5, f6, f9, f8, f10, _⟩ := HB12.out.cells
          go_simp
          clear c5 c6 c9 c8 c10 f5 f6 f9 f8 f10
          have HB13 := Lib.hid (HB12.out.st0 (.slice (some ⟨fb, 0, none⟩) len len))
          refine hK.out _ _ ?_ (fun hHeld => ?_)
          · exact HB13.out.two
          clear hK K
          try simp only [Act.put, List.setIfInBounds_toArray, List.set_cons_zero, List.set_cons_succ, List.getElem_toArray, List.getElem_cons_zero, List.getElem_cons_succ]
          obtain ⟨v13, hv13⟩ : ∃ v, v12.setCell ⟨p, 5, none⟩ (.slice (some ⟨fb, 0, none⟩) len len) = v := ⟨_, rfl⟩
          rw [hv13] at HB13 hHeld ⊢
          clear hv13
          refine wpAnyH_ready (rs := [9]) (by kernel_rfl) (by simp) ?_
          refine AllReadyH.cons rfl (fun K hK => ?_) AllReadyH.nil
          go_simp
          have HB14 : Hid (BW w w2 (v13.alloc (.cells (madeCells #[.int .i64 0] N) 2)) p Lb N s t len cap a (putO _ 1 v13.heap.size) _) := Lib.hid (HB13.out.mk_ 1)
          refine hK.out _ _ ?_ (fun hHeld => ?_)
          · exact HB14.out.two
          clear hK K
          try simp only [Act.put, List.setIfInBounds_toArray, List.set_cons_zero, List.set_cons_succ, List.getElem_toArray, List.getElem_cons_zero, List.getElem_cons_succ]
          obtain ⟨sb, hsb⟩ : ∃ b, v13.heap.size = b := ⟨_, rfl⟩
          obtain ⟨v14, hv14⟩ : ∃ v, v13.alloc (.cells (madeCells #[.int .i64 0] N) 2) = v := ⟨_, rfl⟩
          rw [hsb, hv14] at HB14
          rw [hv14] at hHeld
          rw [hsb, hv14]
          clear hsb hv14
          refine wpAnyH_take (i := 16) (v := ?_) rfl (by kernel_rfl) (by kernel_rfl) (by kernel_rfl) (fun _ _ _ h => h) (Or.inl ⟨by rfl, ?_⟩) hHeld ?_
          rotate_left
          · intro W0 hW; go_simp; (try with_reducible rfl)
          try simp only [Act.put, List.setIfInBounds_toArray, List.set_cons_zero, List.set_cons_succ, List.getElem_toArray, List.getElem_cons_zero, List.getElem_cons_succ]
          refine wpAnyH_take (i := 17) (v := ?_) rfl (by kernel_rfl) (by kernel_rfl) (by kernel_rfl) (fun _ _ _ h => h) (Or.inl ⟨by rfl, ?_⟩) hHeld ?_
          rotate_left
          · intro W0 hW; go_simp; (try with_reducible rfl)
          try simp only [Act.put, List.setIfInBounds_toArray, List.set_cons_zero, List.set_cons_succ, List.getElem_toArray, List.getElem_cons_zero, List.getElem_cons_succ]
          refine wpAnyH_ready (rs := [18]) (by kernel_rfl) (by simp) ?_
          refine AllReadyH.cons rfl (fun K hK => ?_) AllReadyH.nil
          obtain ⟨c5, c6, c9, c8, c10, _, f5, f6, f9, f8, f10, _⟩ := HB14.out.cells
          go_simp
          clear c5 c6 c9 c8 c10 f5 f6 f9 f8 f10
          have HB15 := Lib.hid (HB14.out.st1 (.slice (some ⟨sb, 0, none⟩) N N))
          refine hK.out _ _ ?_ (fun hHeld => ?_)
          · exact HB15.out.two
          clear hK K
          try simp only [Act.put, List.setIfInBounds_toArray, List.set_cons_zero, List.set_cons_succ, List.getElem_toArray, List.getElem_cons_zero, List.getElem_cons_succ]
          obtain ⟨v15, hv15⟩ : ∃ v, v14.setCell ⟨p, 6, none⟩ (.slice (some ⟨sb, 0, none⟩) N N) = v := ⟨_, rfl⟩
          rw [hv15] at HB15 hHeld ⊢
          clear hv15
          refine wpAnyH_take (i := 19) (v := ?_) rfl (by kernel_rfl) (by kernel_rfl) (by kernel_rfl) (fun _ _ _ h => h) (Or.inl ⟨by rfl, ?_⟩) hHeld ?_
          rotate_left
          · intro W0 hW; go_simp; (try with_reducible rfl)
          try simp only [Act.put, List.setIfInBounds_toArray, List.set_cons_zero, List.set_cons_succ, List.getElem_toArray, List.getElem_cons_zero, List.getElem_cons_succ]
          refine wpAnyH_take (i := 20) (v := ?_) rfl (by kernel_rfl) (by kernel_rfl) (by kernel_rfl) (fun _ _ _ h => h) (Or.inl ⟨by rfl, ?_⟩) hHeld ?_
          rotate_left
          · intro W0 hW; go_simp; (try with_reducible rfl)
          try simp only [Act.put, List.setIfInBounds_toArray, List.set_cons_zero, List.set_cons_succ, List.getElem_toArray, List.getElem_cons_zero, List.getElem_cons_succ]
          refine wpAnyH_ready (rs := [21]) (by kernel_rfl) (by simp) ?_
          refine AllReadyH.cons rfl (fun K hK => ?_) AllReadyH.nil
          obtain ⟨c5, c6, c9, c8, c10, _, f5, f6, f9, f8, f10, _⟩ := HB15.out.cells
          go_simp
          clear c5 c6 c9 c8 c10 f5 f6 f9 f8 f10
          have HB16 := Lib.hid (HB15.out.st2 (.slice (some ⟨nb, 0, none⟩) N N))
          refine hK.out _ _ ?_ (fun hHeld => ?_)
          · exact HB16.out.two
          clear hK K
          try simp only [Act.put, List.setIfInBounds_toArray, List.set_cons_zero, List.set_cons_succ, List.getElem_toArray, List.getElem_cons_zero, List.getElem_cons_succ]
          obtain ⟨v16, hv16⟩ : ∃ v, v15.setCell ⟨p, 9, none⟩ (.slice (some ⟨nb, 0, none⟩) N N) = v := ⟨_, rfl⟩
          rw [hv16] at HB16 hHeld ⊢
          clear hv16
          refine wpAnyH_done (by kernel_rfl) ?_ _
          clear hHeld
          go_wp2_with fail
          go_meet
          exact ⟨fb, sb, nb, HB16.out.congr (fun j => by simp only [putO] <;> (repeat' split) <;> simp_all) (fun j => by simp only [putC] <;> (repeat' split) <;> simp_all)⟩
      · obtain ⟨c5, c6, c9, c8, c10, _, f5, f6, f9, f8, f10, _⟩ := HB11.out.cells
        go_simp
        clear c5 c6 c9 c8 c10 f5 f6 f9 f8 f10
        have HB12 := Lib.hid (HB11.out.st0 (.slice (some ⟨fb, 0, none⟩) len len))
        refine hK.out _ _ ?_ (fun hHeld => ?_)
        · exact HB12.out.two
        clear hK K
        try simp only [Act.put, List.setIfInBounds_toArray, List.set_cons_zero, List.set_cons_succ, List.getElem_toArray, List.getElem_cons_zero, List.getElem_cons_succ]
        obtain ⟨v12, hv12⟩ : ∃ v, v11.setCell ⟨p, 5, none⟩ (.slice (some ⟨fb, 0, none⟩) len len) = v := ⟨_, rfl⟩
        rw [hv12] at HB12 hHeld ⊢
        clear hv12
        refine wpAnyH_ready (rs := [9, 12]) (by kernel_rfl) (by simp) ?_
        refine AllReadyH.cons rfl (fun K hK => ?_) (AllReadyH.cons rfl (fun K hK => ?_) AllReadyH.nil)
        · go_simp
          have HB13 : Hid (BW w w2 (v12.alloc (.cells (madeCells #[.int .i64 0] N) 2)) p Lb N s t len cap a (putO _ 1 v12.heap.size) _) := Lib.hid (HB12.out.mk_ 1)
          refine hK.out _ _ ?_ (fun hHeld => ?_)
          · exact HB13.out.two
          clear hK K
          try simp only [Act.put, List.setIfInBounds_toArray, List.set_cons_zero, List.set_cons_succ, List.getElem_toArray, List.getElem_cons_zero, List.getElem_cons_succ]
          obtain ⟨sb, hsb⟩ : ∃ b, v12.heap.size = b := ⟨_, rfl⟩
          obtain ⟨v13, hv13⟩ : ∃ v, v12.alloc (.cells (madeCells #[.int .i64 0] N) 2) = v := ⟨_, rfl⟩
          rw [hsb, hv13] at HB13
          rw [hv13] at hHeld
          rw [hsb, hv13]
          clear hsb hv13
          refine wpAnyH_take (i := 16) (v := ?_) rfl (by kernel_rfl) (by kernel_rfl) (by kernel_rfl) (fun _ _ _ h => h) (Or.inl ⟨by rfl, ?_⟩) hHeld ?_
          rotate_left
          · intro W0 hW; go_simp; (try with_reducible rfl)
          try simp only [Act.put, List.setIfInBounds_toArray, List.set_cons_zero, List.set_cons_succ, List.getElem_toArray, List.getElem_cons_zero, List.getElem_cons_succ]
          refine wpAnyH_take (i := 17) (v := ?_) rfl (by kernel_rfl) (by kernel_rfl) (by kernel_rfl) (fun _ _ _ h => h) (Or.inl ⟨by rfl, ?_⟩) hHeld ?_
          rotate_left
          · intro W0 hW; go_simp; (try with_reducible rfl)
          try simp only [Act.put, List.setIfInBounds_toArray, List.set_cons_zero, List.set_cons_succ, List.getElem_toArray, List.getElem_cons_zero, List.getElem_cons_succ]
          refine wpAnyH_ready (rs := [12, 18]) (by kernel_rfl) (by simp) ?_
          refine AllReadyH.cons rfl (fun K hK => ?_) (AllReadyH.cons rfl (fun K hK => ?_) AllReadyH.nil)
          · go_simp
            have HB14 : Hid (BW w w2 (v13.alloc (.cells (madeCells #[.int .i64 0] N) 3)) p Lb N s t len cap a (putO _ 2 v13.heap.size) _) := Lib.hid (HB13.out.mk_ 2)
            refine hK.out _ _ ?_ (fun hHeld => ?_)
            · exact HB14.out.two
            clear hK K
            try simp only [Act.put, List.setIfInBounds_toArray, List.set_cons_zero, List.set_cons_succ, List.getElem_toArray, List.getElem_cons_zero, List.getElem_cons_succ]
            obtain ⟨nb, hnb⟩ : ∃ b, v13.heap.size = b := ⟨_, rfl⟩
            obtain ⟨v14, hv14⟩ : ∃ v, v13.alloc (.cells (madeCells #[.int .i64 0] N) 3) = v := ⟨_, rfl⟩
            rw [hnb, hv14] at HB14
            rw [hv14] at hHeld
            rw [hnb, hv14]
            clear hnb hv14
            refine wpAnyH_ready (rs := [18]) (by kernel_rfl) (by simp) ?_
            refine AllReadyH.cons rfl (fun K hK => ?_) AllReadyH.nil
            obtain ⟨c5, c6, c9, c8, c10, _, f5, f6, f9, f8, f10, _⟩ := HB14.out.cells
            go_simp
            clear c5 c6 c9 c8 c10 f5 f6 f9 f8 f10
            have HB15 := Lib.hid (HB14.out.st1 (.slice (some ⟨sb, 0, none⟩) N N))
            refine hK.out _ _ ?_ (fun hHeld => ?_)
            · exact HB15.out.two
            clear hK K
            try simp only [Act.put, List.setIfInBounds_toArray, List.set_cons_zero, List.set_cons_succ, List.getElem_toArray, List.getElem_cons_zero, List.getElem_cons_succ]
            obtain ⟨v15, hv15⟩ : ∃ v, v14.setCell ⟨p, 6, none⟩ (.slice (some ⟨sb, 0, none⟩) N N) = v := ⟨_, rfl⟩
            rw [hv15] at HB15 hHeld ⊢
            clear hv15
            refine wpAnyH_take (i := 19) (v := ?_) rfl (by kernel_rfl) (by kernel_rfl) (by kernel_rfl) (fun _ _ _ h => h) (Or.inl ⟨by rfl, ?_⟩) hHeld ?_
            rotate_left
            · intro W0 hW; go_simp; (try with_reducible rfl)
            try simp only [Act.put, List.setIfInBounds_toArray, List.set_cons_zero, List.set_cons_succ, List.getElem_toArray, List.getElem_cons_zero, List.getElem_cons_succ]
            refine wpAnyH_take (i := 20) (v := ?_) rfl (by kernel_rfl) (by kernel_rfl) (by kernel_rfl) (fun _ _ _ h => h) (Or.inl ⟨by rfl, ?_⟩) hHeld ?_
            rotate_left
            · intro W0 hW; go_simp; (try with_reducible rfl)
            try simp only [Act.put, List.setIfInBounds_toArray, List.set_cons_zero, List.set_cons_succ, List.getElem_toArray, List.getElem_cons_zero, List.getElem_cons_succ]
            refine wpAnyH_ready (rs := [21]) (by kernel_rfl) (by simp) ?_
            refine AllReadyH.cons rfl (fun K hK => ?_) AllReadyH.nil
            obtain ⟨c5, c6, c9, c8, c10, _, f5, f6, f9, f8, f10, _⟩ := HB15.out.cells
            go_simp
            clear c5 c6 c9 c8 c10 f5 f6 f9 f8 f10
            have HB16 := Lib.hid (HB15.out.st2 (.slice (some ⟨nb, 0, none⟩) N N))
            refine hK.out _ _ ?_ (fun hHeld => ?_)
            · exact HB16.out.two
            clear hK K
            try simp only [Act.put, List.setIfInBounds_toArray, List.set_cons_zero, List.set_cons_succ, List.getElem_toArray, List.getElem_cons_zero, List.getElem_cons_succ]
            obtain ⟨v16, hv16⟩ : ∃ v, v15.setCell ⟨p, 9, none⟩ (.slice (some ⟨nb, 0, none⟩) N N) = v := ⟨_, rfl⟩
            rw [hv16] at HB16 hHeld ⊢
            clear hv16
            refine wpAnyH_done (by kernel_rfl) ?_ _
            clear hHeld
            go_wp2_with fail
            go_meet
            exact ⟨fb, sb, nb, HB16.out.congr (fun j => by simp only [putO] <;> (repeat' split) <;> simp_all) (fun j => by simp only [putC] <;> (repeat' split) <;> simp_all)⟩
          · obtain ⟨c5, c6, c9, c8, c10, _, f5, f6, f9, f8, f10, _⟩ := HB13.out.cells
            go_simp
            clear c5 c6 c9 c8 c10 f5 f6 f9 f8 f10
            have HB14 := Lib.hid (HB13.out.st1 (.slice (some ⟨sb, 0, none⟩) N N))
            refine hK.out _ _ ?_ (fun hHeld => ?_)
            · exact HB14.out.two
            clear hK K
            try simp only [Act.put, List.setIfInBounds_toArray, List.set_cons_zero, List.set_cons_succ, List.getElem_toArray, List.getElem_cons_zero, List.getElem_cons_succ]
            obtain ⟨v14, hv14⟩ : ∃ v, v13.setCell ⟨p, 6, none⟩ (.slice (some ⟨sb, 0, none⟩) N N) = v := ⟨_, rfl⟩
            rw [hv14] at HB14 hHeld ⊢
            clear hv14
            refine wpAnyH_ready (rs := [12]) (by kernel_rfl) (by simp) ?_
            refine AllReadyH.cons rfl (fun K hK => ?_) AllReadyH.nil
            go_simp
            have HB15 : Hid (BW w w2 (v14.alloc (.cells (madeCells #[.int .i64 0] N) 3)) p Lb N s t len cap a (putO _ 2 v14.heap.size) _) := Lib.hid (HB14.out.mk_ 2)
            refine hK.out _ _ ?_ (fun hHeld => ?_)
            · exact HB15.out.two
            clear hK K
            try simp only [Act.put, List.setIfInBounds_toArray, List.set_cons_zero, List.set_cons_succ, List.getElem_toArray, List.getElem_cons_zero, List.getElem_cons_succ]
            obtain ⟨nb, hnb⟩ : ∃ b, v14.heap.size = b := ⟨_, rfl⟩
            obtain ⟨v15, hv15⟩ : ∃ v, v14.alloc (.cells (madeCells #[.int .i64 0] N) 3) = v := ⟨_, rfl⟩
            rw [hnb, hv15] at HB15
            rw [hv15] at hHeld
            rw [hnb, hv15]
            clear hnb hv15
            refine wpAnyH_take (i := 19) (v := ?_) rfl (by kernel_rfl) (by kernel_rfl) (by kernel_rfl) (fun _ _ _ h => h) (Or.inl ⟨by rfl, ?_⟩) hHeld ?_
            rotate_left
            · intro W0 hW; go_simp; (try with_reducible rfl)
            try simp only [Act.put, List.setIfInBounds_toArray, List.set_cons_zero, List.set_cons_succ, List.getElem_toArray, List.getElem_cons_zero, List.getElem_cons_succ]
            refine wpAnyH_take (i := 20) (v := ?_) rfl (by kernel_rfl) (by kernel_rfl) (by kernel_rfl) (fun _ _ _ h => h) (Or.inl ⟨by rfl, ?_⟩) hHeld ?_
            rotate_left
            · intro W0 hW; go_simp; (try with_reducible rfl)
            try simp only [Act.put, List.setIfInBounds_toArray, List.set_cons_zero, List.set_cons_succ, List.getElem_toArray, List.getElem_cons_zero, List.getElem_cons_succ]
            refine wpAnyH_ready (rs := [21]) (by kernel_rfl) (by simp) ?_
            refine AllReadyH.cons rfl (fun K hK => ?_) AllReadyH.nil
            obtain ⟨c5, c6, c9, c8, c10, _, f5, f6, f9, f8, f10, _⟩ := HB15.out.cells
            go_simp
            clear c5 c6 c9 c8 c10 f5 f6 f9 f8 f10
            have HB16 := Lib.hid (HB15.out.st2 (.slice (some ⟨nb, 0, none⟩) N N))
            refine hK.out _ _ ?_ (fun hHeld => ?_)
            · exact HB16.out.two
            clear hK K
            try simp only [Act.put, List.setIfInBounds_toArray, List.set_cons_zero, List.set_cons_succ, List.getElem_toArray, List.getElem_cons_zero, List.getElem_cons_succ]
            obtain ⟨v16, hv16⟩ : ∃ v, v15.setCell ⟨p, 9, none⟩ (.slice (some ⟨nb, 0, none⟩) N N) = v := ⟨_, rfl⟩
            rw [hv16] at HB16 hHeld ⊢
            clear hv16
            refine wpAnyH_done (by kernel_rfl) ?_ _
            clear hHeld
            go_wp2_with fail
            go_meet
            exact ⟨fb, sb, nb, HB16.out.congr (fun j => by simp only [putO] <;> (repeat' split) <;> simp_all) (fun j => by simp only [putC] <;> (repeat' split) <;> simp_all)⟩
        · go_simp
          have HB13 : Hid (BW w w2 (v12.alloc (.cells (madeCells #[.int .i64 0] N) 3)) p Lb N s t len cap a (putO _ 2 v12.heap.size) _) := Lib.hid (HB12.out.mk_ 2)
          refine hK.out _ _ ?_ (fun hHeld => ?_)
          · exact HB13.out.two
          clear hK K
          try simp only [Act.put, List.setIfInBounds_toArray, List.set_cons_zero, List.set_cons_succ, List.getElem_toArray, List.getElem_cons_zero, List.getElem_cons_succ]
          obtain ⟨nb, hnb⟩ : ∃ b, v12.heap.size = b := ⟨_, rfl⟩
          obtain ⟨v13, hv13⟩ : ∃ v, v12.alloc (.cells (madeCells #[.int .i64 0] N) 3) = v := ⟨_, rfl⟩
          rw [hnb, hv13] at HB13
          rw [hv13] at hHeld
          rw [hnb, hv13]
          clear hnb hv13
          refine wpAnyH_ready (rs := [9]) (by kernel_rfl) (by simp) ?_
          refine AllReadyH.cons rfl (fun K hK => ?_) AllReadyH.nil
          go_simp
          have HB14 : Hid (BW w w2 (v13.alloc (.cells (madeCells #[.int .i64 0] N) 2)) p Lb N s t len cap a (putO _ 1 v13.heap.size) _) := Lib.hid (HB13.out.mk_ 1)
          refine hK.out _ _ ?_ (fun hHeld => ?_)
          · exact HB14.out.two
          clear hK K
          try simp only [Act.put, List.setIfInBounds_toArray, List.set_cons_zero, List.set_cons_succ, List.getElem_toArray, List.getElem_cons_zero, List.getElem_cons_succ]
          obtain ⟨sb, hsb⟩ : ∃ b, v13.heap.size = b := ⟨_, rfl⟩
          obtain ⟨v14, hv14⟩ : ∃ v, v13.alloc (.cells (madeCells #[.int .i64 0] N) 2) = v := ⟨_, rfl⟩
          rw [hsb, hv14] at HB14
          rw [hv14] at hHeld
          rw [hsb, hv14]
          clear hsb hv14
          refine wpAnyH_take (i := 16) (v := ?_) rfl (by kernel_rfl) (by kernel_rfl) (by kernel_rfl) (fun _ _ _ h => h) (Or.inl ⟨by rfl, ?_⟩) hHeld ?_
          rotate_left
          · intro W0 hW; go_simp; (try with_reducible rfl)
          try simp only [Act.put, List.setIfInBounds_toArray, List.set_cons_zero, List.set_cons_succ, List.getElem_toArray, List.getElem_cons_zero, List.getElem_cons_succ]
          refine wpAnyH_take (i := 17) (v := ?_) rfl (by kernel_rfl) (by kernel_rfl) (by kernel_rfl) (fun _ _ _ h => h) (Or.inl ⟨by rfl, ?_⟩) hHeld ?_
          rotate_left
          · intro W0 hW; go_simp; (try with_reducible rfl)
          try simp only [Act.put, List.setIfInBounds_toArray, List.set_cons_zero, List.set_cons_succ, List.getElem_toArray, List.getElem_cons_zero, List.getElem_cons_succ]
          refine wpAnyH_ready (rs := [18]) (by kernel_rfl) (by simp) ?_
          refine AllReadyH.cons rfl (fun K hK => ?_) AllReadyH.nil
          obtain ⟨c5, c6, c9, c8, c10, _, f5, f6, f9, f8, f10, _⟩ := HB14.out.cells
          go_simp
          clear c5 c6 c9 c8 c10 f5 f6 f9 f8 f10
          have HB15 := Lib.hid (HB14.out.st1 (.slice (some ⟨sb, 0, none⟩) N N))
          refine hK.out _ _ ?_ (fun hHeld => ?_)
          · exact HB15.out.two
          clear hK K
          try simp only [Act.put, List.setIfInBounds_toArray, List.set_cons_zero, List.set_cons_succ, List.getElem_toArray, List.getElem_cons_zero, List.getElem_cons_succ]
          obtain ⟨v15, hv15⟩ : ∃ v, v14.setCell ⟨p, 6, none⟩ (.slice (some ⟨sb, 0, none⟩) N N) = v := ⟨_, rfl⟩
          rw [hv15] at HB15 hHeld ⊢
          clear hv15
          refine wpAnyH_take (i := 19) (v := ?_) rfl (by kernel_rfl) (by kernel_rfl) (by kernel_rfl) (fun _ _ _ h => h) (Or.inl ⟨by rfl, ?_⟩) hHeld ?_
          rotate_left
          · intro W0 hW; go_simp; (try with_reducible rfl)
          try simp only [Act.put, List.setIfInBounds_toArray, List.set_cons_zero, List.set_cons_succ, List.getElem_toArray, List.getElem_cons_zero, List.getElem_cons_succ]
          refine wpAnyH_take (i := 20) (v := ?_) rfl (by kernel_rfl) (by kernel_rfl) (by kernel_rfl) (fun _ _ _ h => h) (Or.inl ⟨by rfl, ?_⟩) hHeld ?_
          rotate_left
          · intro W0 hW; go_simp; (try with_reducible rfl)
          try simp only [Act.put, List.setIfInBounds_toArray, List.set_cons_zero, List.set_cons_succ, List.getElem_toArray, List.getElem_cons_zero, List.getElem_cons_succ]
          refine wpAnyH_ready (rs := [21]) (by kernel_rfl) (by simp) ?_
          refine AllReadyH.cons rfl (fun K hK => ?_) AllReadyH.nil
          obtain ⟨c5, c6, c9, c8, c10, _, f5, f6, f9, f8, f10, _⟩ := HB15.out.cells
          go_simp
          clear c5 c6 c9 c8 c10 f5 f6 f9 f8 f10
          have HB16 := Lib.hid (HB15.out.st2 (.slice (some ⟨nb, 0, none⟩) N N))
          refine hK.out _ _ ?_ (fun hHeld => ?_)
          · exact HB16.out.two
          clear hK K
          try simp only [Act.put, List.setIfInBounds_toArray, List.set_cons_zero, List.set_cons_succ, List.getElem_toArray, List.getElem_cons_zero, List.getElem_cons_succ]
          obtain ⟨v16, hv16⟩ : ∃ v, v15.setCell ⟨p, 9, none⟩ (.slice (some ⟨nb, 0, none⟩) N N) = v := ⟨_, rfl⟩
          rw [hv16] at HB16 hHeld ⊢
          clear hv16
          refine wpAnyH_done (by kernel_rfl) ?_ _
          clear hHeld
          go_wp2_with fail
          go_meet
          exact ⟨fb, sb, nb, HB16.out.congr (fun j => by simp only [putO] <;> (repeat' split) <;> simp_all) (fun j => by simp only [putC] <;> (repeat' split) <;> simp_all)⟩
    · go_simp
      have HB11 : Hid (BW w w2 (wz.alloc (.cells (madeCells #[.int .i64 0] N) 2)) p Lb N s t len cap a (putO _ 1 wz.heap.size) _) := Lib.hid (HBd.out.mk_ 1)
      refine hK.out _ _ ?_ (fun hHeld => ?_)
      · exact HB11.out.two
      clear hK K
      try simp only [Act.put, List.setIfInBounds_toArray, List.set_cons_zero, List.set_cons_succ, List.getElem_toArray, List.getElem_cons_zero, List.getElem_cons_succ]
      obtain ⟨sb, hsb⟩ : ∃ b, wz.heap.size = b := ⟨_, rfl⟩
      obtain ⟨v11, hv11⟩ : ∃ v, wz.alloc (.cells (madeCells #[.int .i64 0] N) 2) = v := ⟨_, rfl⟩
      rw [hsb, hv11] at HB11
      rw [hv11] at hHeld
      rw [hsb, hv11]
      clear hsb hv11
      refine wpAnyH_ready (rs := [6, 12]) (by kernel_rfl) (by simp) ?_
      refine AllReadyH.cons rfl (fun K hK => ?_) (AllReadyH.cons rfl (fun K hK => ?_) AllReadyH.nil)
      · go_simp
        have HB12 : Hid (BW w w2 (v11.alloc (.cells (madeCells #[.int .i64 0] len) 2)) p Lb N s t len cap a (putO _ 0 v11.heap.size) _) := Lib.hid (HB11.out.mk_ 0)
        refine hK.out _ _ ?_ (fun hHeld => ?_)
        · exact HB12.out.two
        clear hK K
        try simp only [Act.put, List.setIfInBounds_toArray, List.set_cons_zero, List.set_cons_succ, List.getElem_toArray, List.getElem_cons_zero, List.getElem_cons_succ]
        obtain ⟨fb, hfb⟩ : ∃ b, v11.heap.size = b := ⟨_, rfl⟩
        obtain ⟨v12, hv12⟩ : ∃ v, v11.alloc (.cells (madeCells #[.int .i64 0] len) 2) = v := ⟨_, rfl⟩
        rw [hfb, hv12] at HB12
        rw [hv12] at hHeld
        rw [hfb, hv12]
        clear hfb hv12
        refine wpAnyH_take (i := 13) (v := ?_) rfl (by kernel_rfl) (by kernel_rfl) (by kernel_rfl) (fun _ _ _ h => h) (Or.inl ⟨by rfl, ?_⟩) hHeld ?_
        rotate_left
        · intro W0 hW; go_simp; (try with_reducible rfl)
        try simp only [Act.put, List.setIfInBounds_toArray, List.set_cons_zero, List.set_cons_succ, List.getElem_toArray, List.getElem_cons_zero, List.getElem_cons_succ]
        refine wpAnyH_take (i := 14) (v := ?_) rfl (by kernel_rfl) (by kernel_rfl) (by kernel_rfl) (fun _ _ _ h => h) (Or.inl ⟨by rfl, ?_⟩) hHeld ?_
        rotate_left
        · intro W0 hW; go_simp; (try with_reducible rfl)
        try simp only [Act.put, List.setIfInBounds_toArray, List.set_cons_zero, List.set_cons_succ, List.getElem_toArray, List.getElem_cons_zero, List.getElem_cons_succ]
        refine wpAnyH_ready (rs := [12, 15]) (by kernel_rfl) (by simp) ?_
        refine AllReadyH.cons rfl (fun K hK => ?_) (AllReadyH.cons rfl (fun K hK => ?_) AllReadyH.nil)
        · go_simp
          have HB13 : Hid (BW w w2 (v12.alloc (.cells (madeCells #[.int .i64 0] N) 3)) p Lb N s t len cap a (putO _ 2 v12.heap.size) _) := Lib.hid (HB12.out.mk_ 2)
          refine hK.out _ _ ?_ (fun hHeld => ?_)
          · exact HB13.out.two
          clear hK K
          try simp only [Act.put, List.setIfInBounds_toArray, List.set_cons_zero, List.set_cons_succ, List.getElem_toArray, List.getElem_cons_zero, List.getElem_cons_succ]
          obtain ⟨nb, hnb⟩ : ∃ b, v12.heap.size = b := ⟨_, rfl⟩
          obtain ⟨v13, hv13⟩ : ∃ v, v12.alloc (.cells (madeCells #[.int .i64 0] N) 3) = v := ⟨_, rfl⟩
          rw [hnb, hv13] at HB13
          rw [hv13] at hHeld
          rw [hnb, hv13]
          clear hnb hv13
          refine wpAnyH_ready (rs := [15]) (by kernel_rfl) (by simp) ?_
          refine AllReadyH.cons rfl (fun K hK => ?_) AllReadyH.nil
          obtain ⟨c5, c6, c9, c8, c10, _, f5, f6, f9, f8, f10, _⟩ := HB13.out.cells
          go_simp
          clear c5 c6 c9 c8 c10 f5 f6 f9 f8 f10
          have HB14 := Lib.hid (HB13.out.st0 (.slice (some ⟨fb, 0, none⟩) len len))
          refine hK.out _ _ ?_ (fun hHeld => ?_)
          · exact HB14.out.two
          clear hK K
          try simp only [Act.put, List.setIfInBounds_toArray, List.set_cons_zero, List.set_cons_succ, List.getElem_toArray, List.getElem_cons_zero, List.getElem_cons_succ]
          obtain ⟨v14, hv14⟩ : ∃ v, v13.setCell ⟨p, 5, none⟩ (.slice (some ⟨fb, 0, none⟩) len len) = v := ⟨_, rfl⟩
          rw [hv14] at HB14 hHeld ⊢
          clear hv14
          refine wpAnyH_take (i := 16) (v := ?_) rfl (by kernel_rfl) (by kernel_rfl) (by kernel_rfl) (fun _ _ _ h => h) (Or.inl ⟨by rfl, ?_⟩) hHeld ?_
          rotate_left
          · intro W0 hW; go_simp; (try with_reducible rfl)
          try simp only [Act.put, List.setIfInBounds_toArray, List.set_cons_zero, List.set_cons_succ, List.getElem_toArray, List.getElem_cons_zero, List.getElem_cons_succ]
          refine wpAnyH_take (i := 17) (v := ?_) rfl (by kernel_rfl) (by kernel_rfl) (by kernel_rfl) (fun _ _ _ h => h) (Or.inl ⟨by rfl, ?_⟩) hHeld ?_
          rotate_left
          · intro W0 hW; go_simp; (try with_reducible rfl)
          try simp only [Act.put, List.setIfInBounds_toArray, List.set_cons_zero, List.set_cons_succ, List.getElem_toArray, List.getElem_cons_zero, List.getElem_cons_succ]
          refine wpAnyH_ready (rs := [18]) (by kernel_rfl) (by simp) ?_
          refine AllReadyH.cons rfl (fun K hK => ?_) AllReadyH.nil
          obtain ⟨c5, c6, c9, c8, c10, _, f5, f6, f9, f8, f10, _⟩ := HB14.out.cells
          go_simp
          clear c5 c6 c9 c8 c10 f5 f6 f9 f8 f10
          have HB15 := Lib.hid (HB14.out.st1 (.slice (some ⟨sb, 0, none⟩) N N))
          refine hK.out _ _ ?_ (fun hHeld => ?_)
          · exact HB15.out.two
          clear hK K
          try simp only [Act.put, List.setIfInBounds_toArray, List.set_cons_zero, List.set_cons_succ, List.getElem_toArray, List.getElem_cons_zero, List.getElem_cons_succ]
          obtain ⟨v15, hv15⟩ : ∃ v, v14.setCell ⟨p, 6, none⟩ (.slice (some ⟨sb, 0, none⟩) N N) = v := ⟨_, rfl⟩
          rw [hv15] at HB15 hHeld ⊢
          clear hv15
          refine wpAnyH_take (i := 19) (v := ?_) rfl (by kernel_rfl) (by kernel_rfl) (by kernel_rfl) (fun _ _ _ h => h) (Or.inl ⟨by rfl, ?_⟩) hHeld ?_
          rotate_left
          · intro W0 hW; go_simp; (try with_reducible rfl)
          try simp only [Act.put, List.setIfInBounds_toArray, List.set_cons_zero, List.set_cons_succ, List.getElem_toArray, List.getElem_cons_zero, List.getElem_cons_succ]
          refine wpAnyH_take (i := 20) (v := ?_) rfl (by kernel_rfl) (by kernel_rfl) (by kernel_rfl) (fun _ _ _ h => h) (Or.inl ⟨by rfl, ?_⟩) hHeld ?_
          rotate_left
          · intro W0 hW; go_simp; (try with_reducible rfl)
          try simp only [Act.put, List.setIfInBounds_toArray, List.set_cons_zero, List.set_cons_succ, List.getElem_toArray, List.getElem_cons_zero, List.getElem_cons_succ]
          refine wpAnyH_ready (rs := [21]) (by kernel_rfl) (by simp) ?_
          refine AllReadyH.cons rfl (fun K hK => ?_) AllReadyH.nil
          obtain ⟨c5, c6, c9, c8, c10, _, f5, f6, f9, f8, f10, _⟩ := HB15.out.cells
          go_simp
          clear c5 c6 c9 c8 c10 f5 f6 f9 f8 f10
          have HB16 := Lib.hid (HB15.out.st2 (.slice (some ⟨nb, 0, none⟩) N N))
          refine hK.out _ _ ?_ (fun hHeld => ?_)
          · exact HB16.out.two
          clear hK K
          try simp only [Act.put, List.setIfInBounds_toArray, List.set_cons_zero, List.set_cons_succ, List.getElem_toArray, List.getElem_cons_zero, List.getElem_cons_succ]
          obtain ⟨v16, hv16⟩ : ∃ v, v15.setCell ⟨p, 9, none⟩ (.slice (some ⟨nb, 0, none⟩) N N) = v := ⟨_, rfl⟩
          rw [hv16] at HB16 hHeld ⊢
          clear hv16
          refine wpAnyH_done (by kernel_rfl) ?_ _
          clear hHeld
          go_wp2_with fail
          go_meet
          exact ⟨fb, sb, nb, HB16.out.congr (fun j => by simp only [putO] <;> (repeat' split) <;> simp_all) (fun j => by simp only [putC] <;> (repeat' split) <;> simp_all)⟩
        · obtain ⟨c5, c6, c9, c8, c10, _, f5, f6, f9, f8, f10, _⟩ := HB12.out.cells
          go_simp
          clear c5 c6 c9 c8 c10 f5 f6 f9 f8 f10
          have HB13 := Lib.hid (HB12.out.st0 (.slice (some ⟨fb, 0, none⟩) len len))
          refine hK.out _ _ ?_ (fun hHeld => ?_)
          · exact HB13.out.two
          clear hK K
          try simp only [Act.put, List.setIfInBounds_toArray, List.set_cons_zero, List.set_cons_succ, List.getElem_toArray, List.getElem_cons_zero, List.getElem_cons_succ]
          obtain ⟨v13, hv13⟩ : ∃ v, v12.setCell ⟨p, 5, none⟩ (.slice (some ⟨fb, 0, none⟩) len len) = v := ⟨_, rfl⟩
          rw [hv13] at HB13 hHeld ⊢
          clear hv13
          refine wpAnyH_take (i := 16) (v := ?_) rfl (by kernel_rfl) (by kernel_rfl) (by kernel_rfl) (fun _ _ _ h => h) (Or.inl ⟨by rfl, ?_⟩) hHeld ?_
          rotate_left
          · intro W0 hW; go_simp; (try with_reducible rfl)
          try simp only [Act.put, List.setIfInBounds_toArray, List.set_cons_zero, List.set_cons_succ, List.getElem_toArray, List.getElem_cons_zero, List.getElem_cons_succ]
          refine wpAnyH_take (i := 17) (v := ?_) rfl (by kernel_rfl) (by kernel_rfl) (by kernel_rfl) (fun _ _ _ h => h) (Or.inl ⟨by rfl, ?_⟩) hHeld ?_
          rotate_left
          · intro W0 hW; go_simp; (try with_reducible rfl)
          try simp only [Act.put, List.setIfInBounds_toArray, List.set_cons_zero, List.set_cons_succ, List.getElem_toArray, List.getElem_cons_zero, List.getElem_cons_succ]
          refine wpAnyH_ready (rs := [12, 18]) (by kernel_rfl) (by simp) ?_
          refine AllReadyH.cons rfl (fun K hK => ?_) (AllReadyH.cons rfl (fun K hK => ?_) AllReadyH.nil)
          · go_simp
            have HB14 : Hid (BW w w2 (v13.alloc (.cells (madeCells #[.int .i64 0] N) 3)) p Lb N s t len cap a (putO _ 2 v13.heap.size) _) := Lib.hid (HB13.out.mk_ 2)
            refine hK.out _ _ ?_ (fun hHeld => ?_)
            · exact HB14.out.two
            clear hK K
            try simp only [Act.put, List.setIfInBounds_toArray, List.set_cons_zero, List.set_cons_succ, List.getElem_toArray, List.getElem_cons_zero, List.getElem_cons_succ]
            obtain ⟨nb, hnb⟩ : ∃ b, v13.heap.size = b := ⟨_, rfl⟩
            obtain ⟨v14, hv14⟩ : ∃ v, v13.alloc (.cells (madeCells #[.int .i64 0] N) 3) = v := ⟨_, rfl⟩
            rw [hnb, hv14] at HB14
            rw [hv14] at hHeld
            rw [hnb, hv14]
            clear hnb hv14
            refine wpAnyH_ready (rs := [18]) (by kernel_rfl) (by simp) ?_
            refine AllReadyH.cons rfl (fun K hK => ?_) AllReadyH.nil
            obtain ⟨c5, c6, c9, c8, c10, _, f5, f6, f9, f8, f10, _⟩ := HB14.out.cells
            go_simp
            clear c5 c6 c9 c8 c10 f5 f6 f9 f8 f10
            have HB15 := Lib.hid (HB14.out.st1 (.slice (some ⟨sb, 0, none⟩) N N))
            refine hK.out _ _ ?_ (fun hHeld => ?_)
            · exact HB15.out.two
            clear hK K
            try simp only [Act.put, List.setIfInBounds_toArray, List.set_cons_zero, List.set_cons_succ, List.getElem_toArray, List.getElem_cons_zero, List.getElem_cons_succ]
            obtain ⟨v15, hv15⟩ : ∃ v, v14.setCell ⟨p, 6, none⟩ (.slice (some ⟨sb, 0, none⟩) N N) = v := ⟨_, rfl⟩
            rw [hv15] at HB15 hHeld ⊢
            clear hv15
            refine wpAnyH_take (i := 19) (v := ?_) rfl (by kernel_rfl) (by kernel_rfl) (by kernel_rfl) (fun _ _ _ h => h) (Or.inl ⟨by rfl, ?_⟩) hHeld ?_
            rotate_left
            · intro W0 hW; go_simp; (try with_reducible rfl)
            try simp only [Act.put, List.setIfInBounds_toArray, List.set_cons_zero, List.set_cons_succ, List.getElem_toArray, List.getElem_cons_zero, List.getElem_cons_succ]
            refine wpAnyH_take (i := 20) (v := ?_) rfl (by kernel_rfl) (by kernel_rfl) (by kernel_rfl) (fun _ _ _ h => h) (Or.inl ⟨by rfl, ?_⟩) hHeld ?_
            rotate_left
            · intro W0 hW; go_simp; (try with_reducible rfl)
            try simp only [Act.put, List.setIfInBounds_toArray, List.set_cons_zero, List.set_cons_succ, List.getElem_toArray, List.getElem_cons_zero, List.getElem_cons_succ]
            refine wpAnyH_ready (rs := [21]) (by kernel_rfl) (by simp) ?_
            refine AllReadyH.cons rfl (fun K hK => ?_) AllReadyH.nil
            obtain ⟨c5, c6, c9, c8, c10, _, f5, f6, f9, f8, f10, _⟩ := HB15.out.cells
            go_simp
            clear c5 c6 c9 c8 c10 f5 f6 f9 f8 f10
            have HB16 := Lib.hid (HB15.out.st2 (.slice (some ⟨nb, 0, none⟩) N N))
            refine hK.out _ _ ?_ (fun hHeld => ?_)
            · exact HB16.out.two
            clear hK K
            try simp only [Act.put, List.setIfInBounds_toArray, List.set_cons_zero, List.set_cons_succ, List.getElem_toArray, List.getElem_cons_zero, List.getElem_cons_succ]
            obtain ⟨v16, hv16⟩ : ∃ v, v15.setCell ⟨p, 9, none⟩ (.slice (some ⟨nb, 0, none⟩) N N) = v := ⟨_, rfl⟩
            rw [hv16] at HB16 hHeld ⊢
            clear hv16
            refine wpAnyH_done (by kernel_rfl) ?_ _
            clear hHeld
            go_wp2_with fail
            go_meet
            exact ⟨fb, sb, nb, HB16.out.congr (fun j => by simp only [putO] <;> (repeat' split) <;> simp_all) (fun j => by simp only [putC] <;> (repeat' split) <;> simp_all)⟩
          · obtain ⟨c5, c6, c9, c8, c10, _, f5, f6, f9, f8, f10, _⟩ := HB13.out.cells
            go_simp
            clear c5 c6 c9 c8 c10 f5 f6 f9 f8 f10
            have HB14 := Lib.hid (HB13.out.st1 (.slice (some ⟨sb, 0, none⟩) N N))
            refine hK.out _ _ ?_ (fun hHeld => ?_)
            · exact HB14.out.two
            clear hK K
            try simp only [Act.put, List.setIfInBounds_toArray, List.set_cons_zero, List.set_cons_succ, List.getElem_toArray, List.getElem_cons_zero, List.getElem_cons_succ]
            obtain ⟨v14, hv14⟩ : ∃ v, v13.setCell ⟨p, 6, none⟩ (.slice (some ⟨sb, 0, none⟩) N N) = v := ⟨_, rfl⟩
            rw [hv14] at HB14 hHeld ⊢
            clear hv14
            refine wpAnyH_ready (rs := [12]) (by kernel_rfl) (by simp) ?_
            refine AllReadyH.cons rfl (fun K hK => ?_) AllReadyH.nil
            go_simp
            have HB15 : Hid (BW w w2 (v14.alloc (.cells (madeCells #[.int .i64 0] N) 3)) p Lb N s t len cap a (putO _ 2 v14.heap.size) _) := Lib.hid (HB14.out.mk_ 2)
            refine hK.out _ _ ?_ (fun hHeld => ?_)
            · exact HB15.out.two
            clear hK K
            try simp only [Act.put, List.setIfInBounds_toArray, List.set_cons_zero, List.set_cons_succ, List.getElem_toArray, List.getElem_cons_zero, List.getElem_cons_succ]
            obtain ⟨nb, hnb⟩ : ∃ b, v14.heap.size = b := ⟨_, rfl⟩
            obtain ⟨v15, hv15⟩ : ∃ v, v14.alloc (.cells (madeCells #[.int .i64 0] N) 3) = v := ⟨_, rfl⟩
            rw [hnb, hv15] at HB15
            rw [hv15] at hHeld
            rw [hnb, hv15]
            clear hnb hv15
            refine wpAnyH_take (i := 19) (v := ?_) rfl (by kernel_rfl) (by kernel_rfl) (by kernel_rfl) (fun _ _ _ h => h) (Or.inl ⟨by rfl, ?_⟩) hHeld ?_
            rotate_left
            · intro W0 hW; go_simp; (try with_reducible rfl)
            try simp only [Act.put, List.setIfInBounds_toArray, List.set_cons_zero, List.set_cons_succ, List.getElem_toArray, List.getElem_cons_zero, List.getElem_cons_succ]
            refine wpAnyH_take (i := 20) (v := ?_) rfl (by kernel_rfl) (by kernel_rfl) (by kernel_rfl) (fun _ _ _ h => h) (Or.inl ⟨by rfl, ?_⟩) hHeld ?_
            rotate_left
            · intro W0 hW; go_simp; (try with_reducible rfl)
            try simp only [Act.put, List.setIfInBounds_toArray, List.set_cons_zero, List.set_cons_succ, List.getElem_toArray, List.getElem_cons_zero, List.getElem_cons_succ]
            refine wpAnyH_ready (rs := [21]) (by kernel_rfl) (by simp) ?_
            refine AllReadyH.cons rfl (fun K hK => ?_) AllReadyH.nil
            obtain ⟨c5, c6, c9, c8, c10, _, f5, f6, f9, f8, f10, _⟩ := HB15.out.cells
            go_simp
            clear c5 c6 c9 c8 c10 f5 f6 f9 f8 f10
            have HB16 := Lib.hid (HB15.out.st2 (.slice (some ⟨nb, 0, none⟩) N N))
            refine hK.out _ _ ?_ (fun hHeld => ?_)
            · exact HB16.out.two
            clear hK K
            try simp only [Act.put, List.setIfInBounds_toArray, List.set_cons_zero, List.set_cons_succ, List.getElem_toArray, List.getElem_cons_zero, List.getElem_cons_succ]
            obtain ⟨v16, hv16⟩ : ∃ v, v15.setCell ⟨p, 9, none⟩ (.slice (some ⟨nb, 0, none⟩) N N) = v := ⟨_, rfl⟩
            rw [hv16] at HB16 hHeld ⊢
            clear hv16
            refine wpAnyH_done (by kernel_rfl) ?_ _
            clear hHeld
            go_wp2_with fail
            go_meet
            exact ⟨fb, sb, nb, HB16.out.congr (fun j => by simp only [putO] <;> (repeat' split) <;> simp_all) (fun j => by simp only [putC] <;> (repeat' split) <;> simp_all)⟩
      · go_simp
        have HB12 : Hid (BW w w2 (v11.alloc (.cells (madeCells #[.int .i64 0] N) 3)) p Lb N s t len cap a (putO _ 2 v11.heap.size) _) := Lib.hid (HB11.out.mk_ 2)
        refine hK.out _ _ ?_ (fun hHeld => ?_)
        · exact HB12.out.two
        clear hK K
        try simp only [Act.put, List.setIfInBounds_toArray, List.set_cons_zero, List.set_cons_succ, List.getElem_toArray, List.getElem_cons_zero, List.getElem_cons_succ]
        obtain ⟨nb, hnb⟩ : ∃ b, v11.heap.size = b := ⟨_, rfl⟩
        obtain ⟨v12, hv12⟩ : ∃ v, v11.alloc (.cells (madeCells #[.int .i64 0] N) 3) = v := ⟨_, rfl⟩
        rw [hnb, hv12] at HB12
        rw [hv12] at hHeld
        rw [hnb, hv12]
        clear hnb hv12
        refine wpAnyH_ready (rs := [6]) (by kernel_rfl) (by simp) ?_
        refine AllReadyH.cons rfl (fun K hK => ?_) AllReadyH.nil
        go_simp
        have HB13 : Hid (BW w w2 (v12.alloc (.cells (madeCells #[.int .i64 0] len) 2)) p Lb N s t len cap a (putO _ 0 v12.heap.size) _) := Lib.hid (HB12.out.mk_ 0)
        refine hK.out _ _ ?_ (fun hHeld => ?_)
        · exact HB13.out.two
        clear hK K
        try simp only [Act.put, List.setIfInBounds_toArray, List.set_cons_zero, List.set_cons_succ, List.getElem_toArray, List.getElem_cons_zero, List.getElem_cons_succ]
        obtain ⟨fb, hfb⟩ : ∃ b, v12.heap.size = b := ⟨_, rfl⟩
        obtain ⟨v13, hv13⟩ : ∃ v, v12.alloc (.cells (madeCells #[.int .i64 0] len) 2) = v := ⟨_, rfl⟩
        rw [hfb, hv13] at HB13
        rw [hv13] at hHeld
        rw [hfb, hv13]
        clear hfb hv13
        refine wpAnyH_take (i := 13) (v := ?_) rfl (by kernel_rfl) (by kernel_rfl) (by kernel_rfl) (fun _ _ _ h => h) (Or.inl ⟨by rfl, ?_⟩) hHeld ?_
        rotate_left
        · intro W0 hW; go_simp; (try with_reducible rfl)
        try simp only [Act.put, List.setIfInBounds_toArray, List.set_cons_zero, List.set_cons_succ, List.getElem_toArray, List.getElem_cons_zero, List.getElem_cons_succ]
        refine wpAnyH_take (i := 14) (v := ?_) rfl (by kernel_rfl) (by kernel_rfl) (by kernel_rfl) (fun _ _ _ h => h) (Or.inl ⟨by rfl, ?_⟩) hHeld ?_
        rotate_left
        · intro W0 hW; go_simp; (try with_reducible rfl)
        try simp only [Act.put, List.setIfInBounds_toArray, List.set_cons_zero, List.set_cons_succ, List.getElem_toArray, List.getElem_cons_zero, List.getElem_cons_succ]
        refine wpAnyH_ready (rs := [15]) (by kernel_rfl) (by simp) ?_
        refine AllReadyH.cons rfl (fun K hK => ?_) AllReadyH.nil
        obtain ⟨c5, c6, c9, c8, c10, _, f5, f6, f9, f8, f10, _⟩ := HB13.out.cells
        go_simp
        clear c5 c6 c9 c8 c10 f5 f6 f9 f8 f10
        have HB14 := Lib.hid (HB13.out.st0 (.slice (some ⟨fb, 0, none⟩) len len))
        refine hK.out _ _ ?_ (fun hHeld => ?_)
        · exact HB14.out.two
        clear hK K
        try simp only [Act.put, List.setIfInBounds_toArray, List.set_cons_zero, List.set_cons_succ, List.getElem_toArray, List.getElem_cons_zero, List.getElem_cons_succ]
        obtain ⟨v14, hv14⟩ : ∃ v, v13.setCell ⟨p, 5, none⟩ (.slice (some ⟨fb, 0, none⟩) len len) = v := ⟨_, rfl⟩
        rw [hv14] at HB14 hHeld ⊢
        clear hv14
        refine wpAnyH_take (i := 16) (v := ?_) rfl (by kernel_rfl) (by kernel_rfl) (by kernel_rfl) (fun _ _ _ h => h) (Or.inl ⟨by rfl, ?_⟩) hHeld ?_
        rotate_left
        · intro W0 hW; go_simp; (try with_reducible rfl)
        try simp only [Act.put, List.setIfInBounds_toArray, List.set_cons_zero, List.set_cons_succ, List.getElem_toArray, List.getElem_cons_zero, List.getElem_cons_succ]
        refine wpAnyH_take (i := 17) (v := ?_) rfl (by kernel_rfl) (by kernel_rfl) (by kernel_rfl) (fun _ _ _ h => h) (Or.inl ⟨by rfl, ?_⟩) hHeld ?_
        rotate_left
        · intro W0 hW; go_simp; (try with_reducible rfl)
        try simp only [Act.put, List.setIfInBounds_toArray, List.set_cons_zero, List.set_cons_succ, List.getElem_toArray, List.getElem_cons_zero, List.getElem_cons_succ]
        refine wpAnyH_ready (rs := [18]) (by kernel_rfl) (by simp) ?_
        refine AllReadyH.cons rfl (fun K hK => ?_) AllReadyH.nil
        obtain ⟨c5, c6, c9, c8, c10, _, f5, f6, f9, f8, f10, _⟩ := HB14.out.cells
        go_simp
        clear c5 c6 c9 c8 c10 f5 f6 f9 f8 f10
        have HB15 := Lib.hid (HB14.out.st1 (.slice (some ⟨sb, 0, none⟩) N N))
        refine hK.out _ _ ?_ (fun hHeld => ?_)
        · exact HB15.out.two
        clear hK K
        try simp only [Act.put, List.setIfInBounds_toArray, List.set_cons_zero, List.set_cons_succ, List.getElem_toArray, List.getElem_cons_zero, List.getElem_cons_succ]
        obtain ⟨v15, hv15⟩ : ∃ v, v14.setCell ⟨p, 6, none⟩ (.slice (some ⟨sb, 0, none⟩) N N) = v := ⟨_, rfl⟩
        rw [hv15] at HB15 hHeld ⊢
        clear hv15
        refine wpAnyH_take (i := 19) (v := ?_) rfl (by kernel_rfl) (by kernel_rfl) (by kernel_rfl) (fun _ _ _ h => h) (Or.inl ⟨by rfl, ?_⟩) hHeld ?_
        rotate_left
        · intro W0 hW; go_simp; (try with_reducible rfl)
        try simp only [Act.put, List.setIfInBounds_toArray, List.set_cons_zero, List.set_cons_succ, List.getElem_toArray, List.getElem_cons_zero, List.getElem_cons_succ]
        refine wpAnyH_take (i := 20) (v := ?_) rfl (by kernel_rfl) (by kernel_rfl) (by kernel_rfl) (fun _ _ _ h => h) (Or.inl ⟨by rfl, ?_⟩) hHeld ?_
        rotate_left
        · intro W0 hW; go_simp; (try with_reducible rfl)
        try simp only [Act.put, List.setIfInBounds_toArray, List.set_cons_zero, List.set_cons_succ, List.getElem_toArray, List.getElem_cons_zero, List.getElem_cons_succ]
        refine wpAnyH_ready (rs := [21]) (by kernel_rfl) (by simp) ?_
        refine AllReadyH.cons rfl (fun K hK => ?_) AllReadyH.nil
        obtain ⟨c5, c6, c9, c8, c10, _, f5, f6, f9, f8, f10, _⟩ := HB15.out.cells
        go_simp
        clear c5 c6 c9 c8 c10 f5 f6 f9 f8 f10
        have HB16 := Lib.hid (HB15.out.st2 (.slice (some ⟨nb, 0, none⟩) N N))
        refine hK.out _ _ ?_ (fun hHeld => ?_)
        · exact HB16.out.two
        clear hK K
        try simp only [Act.put, List.setIfInBounds_toArray, List.set_cons_zero, List.set_cons_succ, List.getElem_toArray, List.getElem_cons_zero, List.getElem_cons_succ]
        obtain ⟨v16, hv16⟩ : ∃ v, v15.setCell ⟨p, 9, none⟩ (.slice (some ⟨nb, 0, none⟩) N N) = v := ⟨_, rfl⟩
        rw [hv16] at HB16 hHeld ⊢
        clear hv16
        refine wpAnyH_done (by kernel_rfl) ?_ _
        clear hHeld
        go_wp2_with fail
        go_meet
        exact ⟨fb, sb, nb, HB16.out.congr (fun j => by simp only [putO] <;> (repeat' split) <;> simp_all) (fun j => by simp only [putC] <;> (repeat' split) <;> simp_all)⟩
    · go_simp
      have HB11 : Hid (BW w w2 (wz.alloc (.cells (madeCells #[.int .i64 0] N) 3)) p Lb N s t len cap a (putO _ 2 wz.heap.size) _) := Lib.hid (HBd.out.mk_ 2)
      refine hK.out _ _ ?_ (fun hHeld => ?_)
      · exact HB11.out.two
      clear hK K
      try simp only [Act.put, List.setIfInBounds_toArray, List.set_cons_zero, List.set_cons_succ, List.getElem_toArray, List.getElem_cons_zero, List.getElem_cons_succ]
      obtain ⟨nb, hnb⟩ : ∃ b, wz.heap.size = b := ⟨_, rfl⟩
      obtain ⟨v11, hv11⟩ : ∃ v, wz.alloc (.cells (madeCells #[.int .i64 0] N) 3) = v := ⟨_, rfl⟩
      rw [hnb, hv11] at HB11
      rw [hv11] at hHeld
      rw [hnb, hv11]
      clear hnb hv11
      refine wpAnyH_ready (rs := [6, 9]) (by kernel_rfl) (by simp) ?_
      refine AllReadyH.cons rfl (fun K hK => ?_) (AllReadyH.cons rfl (fun K hK => ?_) AllReadyH.nil)
      · go_simp
        have HB12 : Hid (BW w w2 (v11.alloc (.cells (madeCells #[.int .i64 0] len) 2)) p Lb N s t len cap a (putO _ 0 v11.heap.size) _) := Lib.hid (HB11.out.mk_ 0)
        refine hK.out _ _ ?_ (fun hHeld => ?_)
        · exact HB12.out.two
        clear hK K
        try simp only [Act.put, List.setIfInBounds_toArray, List.set_cons_zero, List.set_cons_succ, List.getElem_toArray, List.getElem_cons_zero, List.getElem_cons_succ]
        obtain ⟨fb, hfb⟩ : ∃ b, v11.heap.size = b := ⟨_, rfl⟩
        obtain ⟨v12, hv12⟩ : ∃ v, v11.alloc (.cells (madeCells #[.int .i64 0] len) 2) = v := ⟨_, rfl⟩
        rw [hfb, hv12] at HB12
        rw [hv12] at hHeld
        rw [hfb, hv12]
        clear hfb hv12
        refine wpAnyH_take (i := 13) (v := ?_) rfl (by kernel_rfl) (by kernel_rfl) (by kernel_rfl) (fun _ _ _ h => h) (Or.inl ⟨by rfl, ?_⟩) hHeld ?_
        rotate_left
        · intro W0 hW; go_simp; (try with_reducible rfl)
        try simp only [Act.put, List.setIfInBounds_toArray, List.set_cons_zero, List.set_cons_succ, List.getElem_toArray, List.getElem_cons_zero, List.getElem_cons_succ]
        refine wpAnyH_take (i := 14) (v := ?_) rfl (by kernel_rfl) (by kernel_rfl) (by kernel_rfl) (fun _ _ _ h => h) (Or.inl ⟨by rfl, ?_⟩) hHeld ?_
        rotate_left
        · intro W0 hW; go_simp; (try with_reducible rfl)
        try simp only [Act.put, List.setIfInBounds_toArray, List.set_cons_zero, List.set_cons_succ, List.getElem_toArray, List.getElem_cons_zero, List.getElem_cons_succ]
        refine wpAnyH_ready (rs := [9, 15]) (by kernel_rfl) (by simp) ?_
        refine AllReadyH.cons rfl (fun K hK => ?_) (AllReadyH.cons rfl (fun K hK => ?_) AllReadyH.nil)
        · go_simp
          have HB13 : Hid (BW w w2 (v12.alloc (.cells (madeCells #[.int .i64 0] N) 2)) p Lb N s t len cap a (putO _ 1 v12.heap.size) _) := Lib.hid (HB12.out.mk_ 1)
          refine hK.out _ _ ?_ (fun hHeld => ?_)
          · exact HB13.out.two
          clear hK K
          try simp only [Act.put, List.setIfInBounds_toArray, List.set_cons_zero, List.set_cons_succ, List.getElem_toArray, List.getElem_cons_zero, List.getElem_cons_succ]
          obtain ⟨sb, hsb⟩ : ∃ b, v12.heap.size = b := ⟨_, rfl⟩
          obtain ⟨v13, hv13⟩ : ∃ v, v12.alloc (.cells (madeCells #[.int .i64 0] N) 2) = v := ⟨_, rfl⟩
          rw [hsb, hv13] at HB13
          rw [hv13] at hHeld
          rw [hsb, hv13]
          clear hsb hv13
          refine wpAnyH_ready (rs := [15]) (by kernel_rfl) (by simp) ?_
          refine AllReadyH.cons rfl (fun K hK => ?_) AllReadyH.nil
          obtain ⟨c5, c6, c9, c8, c10, _, f5, f6, f9, f8, f10, _⟩ := HB13.out.cells
          go_simp
          clear c5 c6 c9 c8 c10 f5 f6 f9 f8 f10
          have HB14 := Lib.hid (HB13.out.st0 (.slice (some ⟨fb, 0, none⟩) len len))
          refine hK.out _ _ ?_ (fun hHeld => ?_)
          · exact HB14.out.two
          clear hK K
          try simp only [Act.put, List.setIfInBounds_toArray, List.set_cons_zero, List.set_cons_succ, List.getElem_toArray, List.getElem_cons_zero, List.getElem_cons_succ]
          obtain ⟨v14, hv14⟩ : ∃ v, v13.setCell ⟨p, 5, none⟩ (.slice (some ⟨fb, 0, none⟩) len len) = v := ⟨_, rfl⟩
          rw [hv14] at HB14 hHeld ⊢
          clear hv14
          refine wpAnyH_take (i := 16) (v := ?_) rfl (by kernel_rfl) (by kernel_rfl) (by kernel_rfl) (fun _ _ _ h => h) (Or.inl ⟨by rfl, ?_⟩) hHeld ?_
          rotate_left
          · intro W0 hW; go_simp; (try with_reducible rfl)
          try simp only [Act.put, List.setIfInBounds_toArray, List.set_cons_zero, List.set_cons_succ, List.getElem_toArray, List.getElem_cons_zero, List.getElem_cons_succ]
          refine wpAnyH_take (i := 17) (v := ?_) rfl (by kernel_rfl) (by kernel_rfl) (by kernel_rfl) (fun _ _ _ h => h) (Or.inl ⟨by rfl, ?_⟩) hHeld ?_
          rotate_left
          · intro W0 hW; go_simp; (try with_reducible rfl)
          try simp only [Act.put, List.setIfInBounds_toArray, List.set_cons_zero, List.set_cons_succ, List.getElem_toArray, List.getElem_cons_zero, List.getElem_cons_succ]
          refine wpAnyH_ready (rs := [18]) (by kernel_rfl) (by simp) ?_
          refine AllReadyH.cons rfl (fun K hK => ?_) AllReadyH.nil
          obtain ⟨c5, c6, c9, c8, c10, _, f5, f6, f9, f8, f10, _⟩ := HB14.out.cells
          go_simp
          clear c5 c6 c9 c8 c10 f5 f6 f9 f8 f10
          have HB15 := Lib.hid (HB14.out.st1 (.slice (some ⟨sb, 0, none⟩) N N))
          refine hK.out _ _ ?_ (fun hHeld => ?_)
          · exact HB15.out.two
          clear hK K
          try simp only [Act.put, List.setIfInBounds_toArray, List.set_cons_zero, List.set_cons_succ, List.getElem_toArray, List.getElem_cons_zero, List.getElem_cons_succ]
          obtain ⟨v15, hv15⟩ : ∃ v, v14.setCell ⟨p, 6, none⟩ (.slice (some ⟨sb, 0, none⟩) N N) = v := ⟨_, rfl⟩
          rw [hv15] at HB15 hHeld ⊢
          clear hv15
          refine wpAnyH_take (i := 19) (v := ?_) rfl (by kernel_rfl) (by kernel_rfl) (by kernel_rfl) (fun _ _ _ h => h) (Or.inl ⟨by rfl, ?_⟩) hHeld ?_
          rotate_left
          · intro W0 hW; go_simp; (try with_reducible rfl)
          try simp only [Act.put, List.setIfInBounds_toArray, List.set_cons_zero, List.set_cons_succ, List.getElem_toArray, List.getElem_cons_zero, List.getElem_cons_succ]
          refine wpAnyH_take (i := 20) (v := ?_) rfl (by kernel_rfl) (by kernel_rfl) (by kernel_rfl) (fun _ _ _ h => h) (Or.inl ⟨by rfl, ?_⟩) hHeld ?_
          rotate_left
          · intro W0 hW; go_simp; (try with_reducible rfl)
          try simp only [Act.put, List.setIfInBounds_toArray, List.set_cons_zero, List.set_cons_succ, List.getElem_toArray, List.getElem_cons_zero, List.getElem_cons_succ]
          refine wpAnyH_ready (rs := [21]) (by kernel_rfl) (by simp) ?_
          refine AllReadyH.cons rfl (fun K hK => ?_) AllReadyH.nil
          obtain ⟨c5, c6, c9, c8, c10, _, f5, f6, f9, f8, f10, _⟩ := HB15.out.cells
          go_simp
          clear c5 c6 c9 c8 c10 f5 f6 f9 f8 f10
          have HB16 := Lib.hid (HB15.out.st2 (.slice (some ⟨nb, 0, none⟩) N N))
          refine hK.out _ _ ?_ (fun hHeld => ?_)
          · exact HB16.out.two
          clear hK K
          try simp only [Act.put, List.setIfInBounds_toArray, List.set_cons_zero, List.set_cons_succ, List.getElem_toArray, List.getElem_cons_zero, List.getElem_cons_succ]
          obtain ⟨v16, hv16⟩ : ∃ v, v15.setCell ⟨p, 9, none⟩ (.slice (some ⟨nb, 0, none⟩) N N) = v := ⟨_, rfl⟩
          rw [hv16] at HB16 hHeld ⊢
          clear hv16
          refine wpAnyH_done (by kernel_rfl) ?_ _
          clear hHeld
          go_wp2_with fail
          go_meet
          exact ⟨fb, sb, nb, HB16.out.congr (fun j => by simp only [putO] <;> (repeat' split) <;> simp_all) (fun j => by simp only [putC] <;> (repeat' split) <;> simp_all)⟩
        · obtain ⟨c5, c6, c9, c8, c10, _, f5, f6, f9, f8, f10, _⟩ := HB12.out.cells
          go_simp
          clear c5 c6 c9 c8 c10 f5 f6 f9 f8 f10
          have HB13 := Lib.hid (HB12.out.st0 (.slice (some ⟨fb, 0, none⟩) len len))
          refine hK.out _ _ ?_ (fun hHeld => ?_)
          · exact HB13.out.two
          clear hK K
          try simp only [Act.put, List.setIfInBounds_toArray, List.set_cons_zero, List.set_cons_succ, List.getElem_toArray, List.getElem_cons_zero, List.getElem_cons_succ]
          obtain ⟨v13, hv13⟩ : ∃ v, v12.setCell ⟨p, 5, none⟩ (.slice (some ⟨fb, 0, none⟩) len len) = v := ⟨_, rfl⟩
          rw [hv13] at HB13 hHeld ⊢
          clear hv13
          refine wpAnyH_ready (rs := [9]) (by kernel_rfl) (by simp) ?_
          refine AllReadyH.cons rfl (fun K hK => ?_) AllReadyH.nil
          go_simp
          have HB14 : Hid (BW w w2 (v13.alloc (.cells (madeCells #[.int .i64 0] N) 2)) p Lb N s t len cap a (putO _ 1 v13.heap.size) _) := Lib.hid (HB13.out.mk_ 1)
          refine hK.out _ _ ?_ (fun hHeld => ?_)
          · exact HB14.out.two
          clear hK K
          try simp only [Act.put, List.setIfInBounds_toArray, List.set_cons_zero, List.set_cons_succ, List.getElem_toArray, List.getElem_cons_zero, List.getElem_cons_succ]
          obtain ⟨sb, hsb⟩ : ∃ b, v13.heap.size = b := ⟨_, rfl⟩
          obtain ⟨v14, hv14⟩ : ∃ v, v13.alloc (.cells (madeCells #[.int .i64 0] N) 2) = v := ⟨_, rfl⟩
          rw [hsb, hv14] at HB14
          rw [hv14] at hHeld
          rw [hsb, hv14]
          clear hsb hv14
          refine wpAnyH_take (i := 16) (v := ?_) rfl (by kernel_rfl) (by kernel_rfl) (by kernel_rfl) (fun _ _ _ h => h) (Or.inl ⟨by rfl, ?_⟩) hHeld ?_
          rotate_left
          · intro W0 hW; go_simp; (try with_reducible rfl)
          try simp only [Act.put, List.setIfInBounds_toArray, List.set_cons_zero, List.set_cons_succ, List.getElem_toArray, List.getElem_cons_zero, List.getElem_cons_succ]
          refine wpAnyH_take (i := 17) (v := ?_) rfl (by kernel_rfl) (by kernel_rfl) (by kernel_rfl) (fun _ _ _ h => h) (Or.inl ⟨by rfl, ?_⟩) hHeld ?_
          rotate_left
          · intro W0 hW; go_simp; (try with_reducible rfl)
          try simp only [Act.put, List.setIfInBounds_toArray, List.set_cons_zero, List.set_cons_succ, List.getElem_toArray, List.getElem_cons_zero, List.getElem_cons_succ]
          refine wpAnyH_ready (rs := [18]) (by kernel_rfl) (by simp) ?_
          refine AllReadyH.cons rfl (fun K hK => ?_) AllReadyH.nil
          obtain ⟨c5, c6, c9, c8, c10, _, f5, f6, f9, f8, f10, _⟩ := HB14.out.cells
          go_simp
          clear c5 c6 c9 c8 c10 f5 f6 f9 f8 f10
          have HB15 := Lib.hid (HB14.out.st1 (.slice (some ⟨sb, 0, none⟩) N N))
          refine hK.out _ _ ?_ (fun hHeld => ?_)
          · exact HB15.out.two
          clear hK K
          try simp only [Act.put, List.setIfInBounds_toArray, List.set_cons_zero, List.set_cons_succ, List.getElem_toArray, List.getElem_cons_zero, List.getElem_cons_succ]
          obtain ⟨v15, hv15⟩ : ∃ v, v14.setCell ⟨p, 6, none⟩ (.slice (some ⟨sb, 0, none⟩) N N) = v := ⟨_, rfl⟩
          rw [hv15] at HB15 hHeld ⊢
          clear hv15
          refine wpAnyH_take (i := 19) (v := ?_) rfl (by kernel_rfl) (by kernel_rfl) (by kernel_rfl) (fun _ _ _ h => h) (Or.inl ⟨by rfl, ?_⟩) hHeld ?_
          rotate_left
          · intro W0 hW; go_simp; (try with_reducible rfl)
          try simp only [Act.put, List.setIfInBounds_toArray, List.set_cons_zero, List.set_cons_succ, List.getElem_toArray, List.getElem_cons_zero, List.getElem_cons_succ]
          refine wpAnyH_take (i := 20) (v := ?_) rfl (by kernel_rfl) (by kernel_rfl) (by kernel_rfl) (fun _ _ _ h => h) (Or.inl ⟨by rfl, ?_⟩) hHeld ?_
          rotate_left
          · intro W0 hW; go_simp; (try with_reducible rfl)
          try simp only [Act.put, List.setIfInBounds_toArray, List.set_cons_zero, List.set_cons_succ, List.getElem_toArray, List.getElem_cons_zero, List.getElem_cons_succ]
          refine wpAnyH_ready (rs := [21]) (by kernel_rfl) (by simp) ?_
          refine AllReadyH.cons rfl (fun K hK => ?_) AllReadyH.nil
          obtain ⟨c5, c6, c9, c8, c10, _, f5, f6, f9, f8, f10, _⟩ := HB15.out.cells
          go_simp
          clear c5 c6 c9 c8 c10 f5 f6 f9 f8 f10
          have HB16 := Lib.hid (HB15.out.st2 (.slice (some ⟨nb, 0, none⟩) N N))
          refine hK.out _ _ ?_ (fun hHeld => ?_)
          · exact HB16.out.two
          clear hK K
          try simp only [Act.put, List.setIfInBounds_toArray, List.set_cons_zero, List.set_cons_succ, List.getElem_toArray, List.getElem_cons_zero, List.getElem_cons_succ]
          obtain ⟨v16, hv16⟩ : ∃ v, v15.setCell ⟨p, 9, none⟩ (.slice (some ⟨nb, 0, none⟩) N N) = v := ⟨_, rfl⟩
          rw [hv16] at HB16 hHeld ⊢
          clear hv16
          refine wpAnyH_done (by kernel_rfl) ?_ _
          clear hHeld
          go_wp2_with fail
          go_meet
          exact ⟨fb, sb, nb, HB16.out.congr (fun j => by simp only [putO] <;> (repeat' split) <;> simp_all) (fun j => by simp only [putC] <;> (repeat' split) <;> simp_all)⟩
      · go_simp
        have HB12 : Hid (BW w w2 (v11.alloc (.cells (madeCells #[.int .i64 0] N) 2)) p Lb N s t len cap a (putO _ 1 v11.heap.size) _) := Lib.hid (HB11.out.mk_ 1)
        refine hK.out _ _ ?_ (fun hHeld => ?_)
        · exact HB12.out.two
        clear hK K
        try simp only [Act.put, List.setIfInBounds_toArray, List.set_cons_zero, List.set_cons_succ, List.getElem_toArray, List.getElem_cons_zero, List.getElem_cons_succ]
        obtain ⟨sb, hsb⟩ : ∃ b, v11.heap.size = b := ⟨_, rfl⟩
        obtain ⟨v12, hv12⟩ : ∃ v, v11.alloc (.cells (madeCells #[.int .i64 0] N) 2) = v := ⟨_, rfl⟩
        rw [hsb, hv12] at HB12
        rw [hv12] at hHeld
        rw [hsb, hv12]
        clear hsb hv12
        refine wpAnyH_ready (rs := [6]) (by kernel_rfl) (by simp) ?_
        refine AllReadyH.cons rfl (fun K hK => ?_) AllReadyH.nil
        go_simp
        have HB13 : Hid (BW w w2 (v12.alloc (.cells (madeCells #[.int .i64 0] len) 2)) p Lb N s t len cap a (putO _ 0 v12.heap.size) _) := Lib.hid (HB12.out.mk_ 0)
        refine hK.out _ _ ?_ (fun hHeld => ?_)
        · exact HB13.out.two
        clear hK K
        try simp only [Act.put, List.setIfInBounds_toArray, List.set_cons_zero, List.set_cons_succ, List.getElem_toArray, List.getElem_cons_zero, List.getElem_cons_succ]
        obtain ⟨fb, hfb⟩ : ∃ b, v12.heap.size = b := ⟨_, rfl⟩
        obtain ⟨v13, hv13⟩ : ∃ v, v12.alloc (.cells (madeCells #[.int .i64 0] len) 2) = v := ⟨_, rfl⟩
        rw [hfb, hv13] at HB13
        rw [hv13] at hHeld
        rw [hfb, hv13]
        clear hfb hv13
        refine wpAnyH_take (i := 13) (v := ?_) rfl (by kernel_rfl) (by kernel_rfl) (by kernel_rfl) (fun _ _ _ h => h) (Or.inl ⟨by rfl, ?_⟩) hHeld ?_
        rotate_left
        · intro W0 hW; go_simp; (try with_reducible rfl)
        try simp only [Act.put, List.setIfInBounds_toArray, List.set_cons_zero, List.set_cons_succ, List.getElem_toArray, List.getElem_cons_zero, List.getElem_cons_succ]
        refine wpAnyH_take (i := 14) (v := ?_) rfl (by kernel_rfl) (by kernel_rfl) (by kernel_rfl) (fun _ _ _ h => h) (Or.inl ⟨by rfl, ?_⟩) hHeld ?_
        rotate_left
        · intro W0 hW; go_simp; (try with_reducible rfl)
        try simp only [Act.put, List.setIfInBounds_toArray, List.set_cons_zero, List.set_cons_succ, List.getElem_toArray, List.getElem_cons_zero, List.getElem_cons_succ]
        refine wpAnyH_ready (rs := [15]) (by kernel_rfl) (by simp) ?_
        refine AllReadyH.cons rfl (fun K hK => ?_) AllReadyH.nil
        obtain ⟨c5, c6, c9, c8, c10, _, f5, f6, f9, f8, f10, _⟩ := HB13.out.cells
        go_simp
        clear c5 c6 c9 c8 c10 f5 f6 f9 f8 f10
        have HB14 := Lib.hid (HB13.out.st0 (.slice (some ⟨fb, 0, none⟩) len len))
        refine hK.out _ _ ?_ (fun hHeld => ?_)
        · exact HB14.out.two
        clear hK K
        try simp only [Act.put, List.setIfInBounds_toArray, List.set_cons_zero, List.set_cons_succ, List.getElem_toArray, List.getElem_cons_zero, List.getElem_cons_succ]
        obtain ⟨v14, hv14⟩ : ∃ v, v13.setCell ⟨p, 5, none⟩ (.slice (some ⟨fb, 0, none⟩) len len) = v := ⟨_, rfl⟩
        rw [hv14] at HB14 hHeld ⊢
        clear hv14
        refine wpAnyH_take (i := 16) (v := ?_) rfl (by kernel_rfl) (by kernel_rfl) (by kernel_rfl) (fun _ _ _ h => h) (Or.inl ⟨by rfl, ?_⟩) hHeld ?_
        rotate_left
        · intro W0 hW; go_simp; (try with_reducible rfl)
        try simp only [Act.put, List.setIfInBounds_toArray, List.set_cons_zero, List.set_cons_succ, List.getElem_toArray, List.getElem_cons_zero, List.getElem_cons_succ]
        refine wpAnyH_take (i := 17) (v := ?_) rfl (by kernel_rfl) (by kernel_rfl) (by kernel_rfl) (fun _ _ _ h => h) (Or.inl ⟨by rfl, ?_⟩) hHeld ?_
        rotate_left
        · intro W0 hW; go_simp; (try with_reducible rfl)
        try simp only [Act.put, List.setIfInBounds_toArray, List.set_cons_zero, List.set_cons_succ, List.getElem_toArray, List.getElem_cons_zero, List.getElem_cons_succ]
        refine wpAnyH_ready (rs := [18]) (by kernel_rfl) (by simp) ?_
        refine AllReadyH.cons rfl (fun K hK => ?_) AllReadyH.nil
        obtain ⟨c5, c6, c9, c8, c10, _, f5, f6, f9, f8, f10, _⟩ := HB14.out.cells
        go_simp
        clear c5 c6 c9 c8 c10 f5 f6 f9 f8 f10
        have HB15 := Lib.hid (HB14.out.st1 (.slice (some ⟨sb, 0, none⟩) N N))
        refine hK.out _ _ ?_ (fun hHeld => ?_)
        · exact HB15.out.two
        clear hK K
        try simp only [Act.put, List.setIfInBounds_toArray, List.set_cons_zero, List.set_cons_succ, List.getElem_toArray, List.getElem_cons_zero, List.getElem_cons_succ]
        obtain ⟨v15, hv15⟩ : ∃ v, v14.setCell ⟨p, 6, none⟩ (.slice (some ⟨sb, 0, none⟩) N N) = v := ⟨_, rfl⟩
        rw [hv15] at HB15 hHeld ⊢
        clear hv15
        refine wpAnyH_take (i := 19) (v := ?_) rfl (by kernel_rfl) (by kernel_rfl) (by kernel_rfl) (fun _ _ _ h => h) (Or.inl ⟨by rfl, ?_⟩) hHeld ?_
        rotate_left
        · intro W0 hW; go_simp; (try with_reducible rfl)
        try simp only [Act.put, List.setIfInBounds_toArray, List.set_cons_zero, List.set_cons_succ, List.getElem_toArray, List.getElem_cons_zero, List.getElem_cons_succ]
        refine wpAnyH_take (i := 20) (v := ?_) rfl (by kernel_rfl) (by kernel_rfl) (by kernel_rfl) (fun _ _ _ h => h) (Or.inl ⟨by rfl, ?_⟩) hHeld ?_
        rotate_left
        · intro W0 hW; go_simp; (try with_reducible rfl)
        try simp only [Act.put, List.setIfInBounds_toArray, List.set_cons_zero, List.set_cons_succ, List.getElem_toArray, List.getElem_cons_zero, List.getElem_cons_succ]
        refine wpAnyH_ready (rs := [21]) (by kernel_rfl) (by simp) ?_
        refine AllReadyH.cons rfl (fun K hK => ?_) AllReadyH.nil
        obtain ⟨c5, c6, c9, c8, c10, _, f5, f6, f9, f8, f10, _⟩ := HB15.out.cells
        go_simp
        clear c5 c6 c9 c8 c10 f5 f6 f9 f8 f10
        have HB16 := Lib.hid (HB15.out.st2 (.slice (some ⟨nb, 0, none⟩) N N))
        refine hK.out _ _ ?_ (fun hHeld => ?_)
        · exact HB16.out.two
        clear hK K
        try simp only [Act.put, List.setIfInBounds_toArray, List.set_cons_zero, List.set_cons_succ, List.getElem_toArray, List.getElem_cons_zero, List.getElem_cons_succ]
        obtain ⟨v16, hv16⟩ : ∃ v, v15.setCell ⟨p, 9, none⟩ (.slice (some ⟨nb, 0, none⟩) N N) = v := ⟨_, rfl⟩
        rw [hv16] at HB16 hHeld ⊢
        clear hv16
        refine wpAnyH_done (by kernel_rfl) ?_ _
        clear hHeld
        go_wp2_with fail
        go_meet
        exact ⟨fb, sb, nb, HB16.out.congr (fun j => by simp only [putO] <;> (repeat' split) <;> simp_all) (fun j => by simp only [putC] <;> (repeat' split) <;> simp_all)⟩
  case rest =>
    obtain ⟨fb, sb, nb, hB⟩ := hcut
    have HB1 := Lib.hid hB
    clear hB HB0
    go_wp2_with fail
    go_cut [] from 13 (fun wx => ∃ mb ub, BW w w2 wx p Lb N s t len cap a (fun j => if j = 0 then some fb else if j = 1 then some sb else if j = 2 then some nb else if j = 3 then some mb else if j = 4 then some ub else none) (fun j => if j = 0 then .slice (some ⟨fb, 0, none⟩) len len else if j = 1 then .slice (some ⟨sb, 0, none⟩) N N else if j = 2 then .slice (some ⟨nb, 0, none⟩) N N else if j = 3 then .slice (some ⟨mb, 0, none⟩) (2 * N) (2 * N) else if j = 4 then .slice (some ⟨ub, 0, none⟩) (2 * N) (2 * N) else .slice none 0 0))
    case first =>
      have HBd := Lib.hid HB1.out.drew
      refine wp_region_held_drew (S := fun W => W.cell? ⟨w.heap.size, 0, none⟩ = some (.int .i64 (N : Int)) ∧ W.cell? ⟨w.heap.size, 1, none⟩ = some (.slice a len cap)) (by kernel_rfl) HBd.out.two (fun hHeld => ?_)
      obtain ⟨wz, hwz⟩ : ∃ wz, World.drew wc = wz := ⟨_, rfl⟩
      rw [hwz] at HBd hHeld ⊢
      clear hwz
      refine wpAnyH_take (i := 0) (v := ?_) rfl (by kernel_rfl) (by kernel_rfl) (by kernel_rfl) (fun _ _ _ h => h) (Or.inl ⟨by rfl, ?_⟩) hHeld ?_
      rotate_left
      · intro W0 hW; obtain ⟨hW1, hW2⟩ := hW; go_simp; (try with_reducible rfl)
      try simp only [Act.put, List.setIfInBounds_toArray, List.set_cons_zero, List.set_cons_succ, List.getElem_toArray, List.getElem_cons_zero]
      refine wpAnyH_take (i := 1) (v := ?_) rfl (by kernel_rfl) (by kernel_rfl) (by kernel_rfl) (fun _ _ _ h => h) (Or.inl ⟨by rfl, ?_⟩) hHeld ?_
      rotate_left
      · intro W0 hW; obtain ⟨hW1, hW2⟩ := hW; go_simp; (try with_reducible rfl)
      try simp only [Act.put, List.setIfInBounds_toArray, List.set_cons_zero, List.set_cons_succ, List.getElem_toArray, List.getElem_cons_zero, List.getElem_cons_succ]
      refine wpAnyH_take (i := 2) (v := ?_) rfl (by kernel_rfl) (by kernel_rfl) (by kernel_rfl) (fun _ _ _ h => h) (Or.inl ⟨by rfl, ?_⟩) hHeld ?_
      rotate_left
      · intro W0 hW; obtain ⟨hW1, hW2⟩ := hW; go_simp; (try with_reducible rfl)
      try simp only [Act.put, List.setIfInBounds_toArray, List.set_cons_zero, List.set_cons_succ, List.getElem_toArray, List.getElem_cons_zero, List.getElem_cons_succ]
      refine wpAnyH_take (i := 3) (v := ?_) rfl (by kernel_rfl) (by kernel_rfl) (by kernel_rfl) (fun _ _ _ h => h) (Or.inl ⟨by rfl, ?_⟩) hHeld ?_
      rotate_left
      · intro W0 hW; obtain ⟨hW1, hW2⟩ := hW; go_simp; (try with_reducible rfl)
      try simp only [Act.put, List.setIfInBounds_toArray, List.set_cons_zero, List.set_cons_succ, List.getElem_toArray, List.getElem_cons_zero, List.getElem_cons_succ]
      refine wpAnyH_take (i := 4) (v := ?_) rfl (by kernel_rfl) (by kernel_rfl) (by kernel_rfl) (fun _ _ _ h => h) (Or.inl ⟨by rfl, ?_⟩) hHeld ?_
      rotate_left
      · intro W0 hW; obtain ⟨hW1, hW2⟩ := hW; go_simp; (try with_reducible rfl)
      try simp only [Act.put, List.setIfInBounds_toArray, List.set_cons_zero, List.set_cons_succ, List.getElem_toArray, List.getElem_cons_zero, List.getElem_cons_succ]
      refine wpAnyH_take (i := 6) (v := ?_) rfl (by kernel_rfl) (by kernel_rfl) (by kernel_rfl) (fun _ _ _ h => h) (Or.inl ⟨by rfl, ?_⟩) hHeld ?_
      rotate_left
      · intro W0 hW; obtain ⟨hW1, hW2⟩ := hW; go_simp; (try with_reducible rfl)
      try simp only [Act.put, List.setIfInBounds_toArray, List.set_cons_zero, List.set_cons_succ, List.getElem_toArray, List.getElem_cons_zero, List.getElem_cons_succ]
      refine wpAnyH_take (i := 7) (v := ?_) rfl (by kernel_rfl) (by kernel_rfl) (by kernel_rfl) (fun _ _ _ h => h) (Or.inl ⟨by rfl, ?_⟩) hHeld ?_
      rotate_left
      · intro W0 hW; obtain ⟨hW1, hW2⟩ := hW; go_simp; (try with_reducible rfl)
      try simp only [Act.put, List.setIfInBounds_toArray, List.set_cons_zero, List.set_cons_succ, List.getElem_toArray, List.getElem_cons_zero, List.getElem_cons_succ]
      refine wpAnyH_take (i := 8) (v := ?_) rfl (by kernel_rfl) (by kernel_rfl) (by kernel_rfl) (fun _ _ _ h => h) (Or.inl ⟨by rfl, ?_⟩) hHeld ?_
      rotate_left
      · intro W0 hW; obtain ⟨hW1, hW2⟩ := hW; go_simp; (try with_reducible rfl)
      try simp only [Act.put, List.setIfInBounds_toArray, List.set_cons_zero, List.set_cons_succ, List.getElem_toArray, List.getElem_cons_zero, List.getElem_cons_succ]
      refine wpAnyH_ready (rs := [5, 9]) (by kernel_rfl) (by simp) ?_
      refine AllReadyH.cons rfl (fun K hK => ?_) (AllReadyH.cons rfl (fun K hK => ?_) AllReadyH.nil)
      · go_simp
        have HB11 : Hid (BW w w2 (wz.alloc (.cells (madeCells #[.int .i64 0] (2 * N)) 3)) p Lb N s t len cap a (putO _ 3 wz.heap.size) _) := Lib.hid (HBd.out.mk_ 3)
        refine hK.out _ _ ?_ (fun hHeld => ?_)
        · exact HB11.out.two
        clear hK K
        try simp only [Act.put, List.setIfInBounds_toArray, List.set_cons_zero, List.set_cons_succ, List.getElem_toArray, List.getElem_cons_zero, List.getElem_cons_succ]
        obtain ⟨mb, hmb⟩ : ∃ b, wz.heap.size = b := ⟨_, rfl⟩
        obtain ⟨v11, hv11⟩ : ∃ v, wz.alloc (.cells (madeCells #[.int .i64 0] (2 * N)) 3) = v := ⟨_, rfl⟩
        rw [hmb, hv11] at HB11
        rw [hv11] at hHeld
        rw [hmb, hv11]
        clear hmb hv11
        refine wpAnyH_take (i := 10) (v := ?_) rfl (by kernel_rfl) (by kernel_rfl) (by kernel_rfl) (fun _ _ _ h => h) (Or.inl ⟨by rfl, ?_⟩) hHeld ?_
        rotate_left
        · intro W0 hW; go_simp; (try with_reducible rfl)
        try simp only [Act.put, List.setIfInBounds_toArray, List.set_cons_zero, List.set_cons_succ, List.getElem_toArray, List.getElem_cons_zero, List.getElem_cons_succ]
        refine wpAnyH_take (i := 11) (v := ?_) rfl (by kernel_rfl) (by kernel_rfl) (by kernel_rfl) (fun _ _ _ h => h) (Or.inl ⟨by rfl, ?_⟩) hHeld ?_
        rotate_left
        · intro W0 hW; go_simp; (try with_reducible rfl)
        try simp only [Act.put, List.setIfInBounds_toArray, List.set_cons_zero, List.set_cons_succ, List.getElem_toArray, List.getElem_cons_zero, List.getElem_cons_succ]
        refine wpAnyH_ready (rs := [9, 12]) (by kernel_rfl) (by simp) ?_
        refine AllReadyH.cons rfl (fun K hK => ?_) (AllReadyH.cons rfl (fun K hK => ?_) AllReadyH.nil)
        · go_simp
          have HB12 : Hid (BW w w2 (v11.alloc (.cells (madeCells #[.slice none 0 0] (2 * N)) 61)) p Lb N s t len cap a (putO _ 4 v11.heap.size) _) := Lib.hid (HB11.out.mk_ 4)
          refine hK.out _ _ ?_ (fun hHeld => ?_)
          · exact HB12.out.two
          clear hK K
          try simp only [Act.put, List.setIfInBounds_toArray, List.set_cons_zero, List.set_cons_succ, List.getElem_toArray, List.getElem_cons_zero, List.getElem_cons_succ]
          obtain ⟨ub, hub⟩ : ∃ b, v11.heap.size = b := ⟨_, rfl⟩
          obtain ⟨v12, hv12⟩ : ∃ v, v11.alloc (.cells (madeCells #[.slice none 0 0] (2 * N)) 61) = v := ⟨_, rfl⟩
          rw [hub, hv12] at HB12
          rw [hv12] at hHeld
          rw [hub, hv12]
          clear hub hv12
          refine wpAnyH_ready (rs := [12]) (by kernel_rfl) (by simp) ?_
          refine AllReadyH.cons rfl (fun K hK => ?_) AllReadyH.nil
          obtain ⟨c5, c6, c9, c8, c10, _, f5, f6, f9, f8, f10, _⟩ := HB12.out.cells
          go_simp
          clear c5 c6 c9 c8 c10 f5 f6 f9 f8 f10
          have HB13 := Lib.hid (HB12.out.st3 (.slice (some ⟨mb, 0, none⟩) (2 * N) (2 * N)))
          refine hK.out _ _ ?_ (fun hHeld => ?_)
          · exact HB13.out.two
          clear hK K
          try simp only [Act.put, List.setIfInBounds_toArray, List.set_cons_zero, List.set_cons_succ, List.getElem_toArray, List.getElem_cons_zero, List.getElem_cons_succ]
          obtain ⟨v13, hv13⟩ : ∃ v, v12.setCell ⟨p, 8, none⟩ (.slice (some ⟨mb, 0, none⟩) (2 * N) (2 * N)) = v := ⟨_, rfl⟩
          rw [hv13] at HB13 hHeld ⊢
          clear hv13
          refine wpAnyH_take (i := 13) (v := ?_) rfl (by kernel_rfl) (by kernel_rfl) (by kernel_rfl) (fun _ _ _ h => h) (Or.inl ⟨by rfl, ?_⟩) hHeld ?_
          rotate_left
          · intro W0 hW; go_simp; (try with_reducible rfl)
          try simp only [Act.put, List.setIfInBounds_toArray, List.set_cons_zero, List.set_cons_succ, List.getElem_toArray, List.getElem_cons_zero, List.getElem_cons_succ]
          refine wpAnyH_take (i := 14) (v := ?_) rfl (by kernel_rfl) (by kernel_rfl) (by kernel_rfl) (fun _ _ _ h => h) (Or.inl ⟨by rfl, ?_⟩) hHeld ?_
          rotate_left
          · intro W0 hW; go_simp; (try with_reducible rfl)
          try simp only [Act.put, List.setIfInBounds_toArray, List.set_cons_zero, List.set_cons_succ, List.getElem_toArray, List.getElem_cons_zero, List.getElem_cons_succ]
          refine wpAnyH_ready (rs := [15]) (by kernel_rfl) (by simp) ?_
          refine AllReadyH.cons rfl (fun K hK => ?_) AllReadyH.nil
          obtain ⟨c5, c6, c9, c8, c10, _, f5, f6, f9, f8, f10, _⟩ := HB13.out.cells
          go_simp
          clear c5 c6 c9 c8 c10 f5 f6 f9 f8 f10
          have HB14 := Lib.hid (HB13.out.st4 (.slice (some ⟨ub, 0, none⟩) (2 * N) (2 * N)))
          refine hK.out _ _ ?_ (fun hHeld => ?_)
          · exact HB14.out.two
          clear hK K
          try simp only [Act.put, List.setIfInBounds_toArray, List.set_cons_zero, List.set_cons_succ, List.getElem_toArray, List.getElem_cons_zero, List.getElem_cons_succ]
          obtain ⟨v14, hv14⟩ : ∃ v, v13.setCell ⟨p, 10, none⟩ (.slice (some ⟨ub, 0, none⟩) (2 * N) (2 * N)) = v := ⟨_, rfl⟩
          rw [hv14] at HB14 hHeld ⊢
          clear hv14
          refine wpAnyH_done (by kernel_rfl) ?_ _
          clear hHeld
          go_wp2_with fail
          go_meet
          exact ⟨mb, ub, HB14.out.congr (fun j => by simp only [putO] <;> (repeat' split) <;> simp_all) (fun j => by simp only [putC] <;> (repeat' split) <;> simp_all)⟩
        · obtain ⟨c5, c6, c9, c8, c10, _, f5, f6, f9, f8, f10, _⟩ := HB11.out.cells
          go_simp
          clear c5 c6 c9 c8 c10 f5 f6 f9 f8 f10
          have HB12 := Lib.hid (HB11.out.st3 (.slice (some ⟨mb, 0, none⟩) (2 * N) (2 * N)))
          refine hK.out _ _ ?_ (fun hHeld => ?_)
          · exact HB12.out.two
          clear hK K
          try simp only [Act.put, List.setIfInBounds_toArray, List.set_cons_zero, List.set_cons_succ, List.getElem_toArray, List.getElem_cons_zero, List.getElem_cons_succ]
          obtain ⟨v12, hv12⟩ : ∃ v, v11.setCell ⟨p, 8, none⟩ (.slice (some ⟨mb, 0, none⟩) (2 * N) (2 * N)) = v := ⟨_, rfl⟩
          rw [hv12] at HB12 hHeld ⊢
          clear hv12
          refine wpAnyH_ready (rs := [9]) (by kernel_rfl) (by simp) ?_
          refine AllReadyH.cons rfl (fun K hK => ?_) AllReadyH.nil
          go_simp
          have HB13 : Hid (BW w w2 (v12.alloc (.cells (madeCells #[.slice none 0 0] (2 * N)) 61)) p Lb N s t len cap a (putO _ 4 v12.heap.size) _) := Lib.hid (HB12.out.mk_ 4)
          refine hK.out _ _ ?_ (fun hHeld => ?_)
          · exact HB13.out.two
          clear hK K
          try simp only [Act.put, List.setIfInBounds_toArray, List.set_cons_zero, List.set_cons_succ, List.getElem_toArray, List.getElem_cons_zero, List.getElem_cons_succ]
          obtain ⟨ub, hub⟩ : ∃ b, v12.heap.size = b := ⟨_, rfl⟩
          obtain ⟨v13, hv13⟩ : ∃ v, v12.alloc (.cells (madeCells #[.slice none 0 0] (2 * N)) 61) = v := ⟨_, rfl⟩
          rw [hub, hv13] at HB13
          rw [hv13] at hHeld
          rw [hub, hv13]
          clear hub hv13
          refine wpAnyH_take (i := 13) (v := ?_) rfl (by kernel_rfl) (by kernel_rfl) (by kernel_rfl) (fun _ _ _ h => h) (Or.inl ⟨by rfl, ?_⟩) hHeld ?_
          rotate_left
          · intro W0 hW; go_simp; (try with_reducible rfl)
          try simp only [Act.put, List.setIfInBounds_toArray, List.set_cons_zero, List.set_cons_succ, List.getElem_toArray, List.getElem_cons_zero, List.getElem_cons_succ]
          refine wpAnyH_take (i := 14) (v := ?_) rfl (by kernel_rfl) (by kernel_rfl) (by kernel_rfl) (fun _ _ _ h => h) (Or.inl ⟨by rfl, ?_⟩) hHeld ?_
          rotate_left
          · intro W0 hW; go_simp; (try with_reducible rfl)
          try simp only [Act.put, List.setIfInBounds_toArray, List.set_cons_zero, List.set_cons_succ, List.getElem_toArray, List.getElem_cons_zero, List.getElem_cons_succ]
          refine wpAnyH_ready (rs := [15]) (by kernel_rfl) (by simp) ?_
          refine AllReadyH.cons rfl (fun K hK => ?_) AllReadyH.nil
          obtain ⟨c5, c6, c9, c8, c10, _, f5, f6, f9, f8, f10, _⟩ := HB13.out.cells
          go_simp
          clear c5 c6 c9 c8 c10 f5 f6 f9 f8 f10
          have HB14 := Lib.hid (HB13.out.st4 (.slice (some ⟨ub, 0, none⟩) (2 * N) (2 * N)))
          refine hK.out _ _ ?_ (fun hHeld => ?_)
          · exact HB14.out.two
          clear hK K
          try simp only [Act.put, List.setIfInBounds_toArray, List.set_cons_zero, List.set_cons_succ, List.getElem_toArray, List.getElem_cons_zero, List.getElem_cons_succ]
          obtain ⟨v14, hv14⟩ : ∃ v, v13.setCell ⟨p, 10, none⟩ (.slice (some ⟨ub, 0, none⟩) (2 * N) (2 * N)) = v := ⟨_, rfl⟩
          rw [hv14] at HB14 hHeld ⊢
          clear hv14
          refine wpAnyH_done (by kernel_rfl) ?_ _
          clear hHeld
          go_wp2_with fail
          go_meet
          exact ⟨mb, ub, HB14.out.congr (fun j => by simp only [putO] <;> (repeat' split) <;> simp_all) (fun j => by simp only [putC] <;> (repeat' split) <;> simp_all)⟩
      · go_simp
        have HB11 : Hid (BW w w2 (wz.alloc (.cells (madeCells #[.slice none 0 0] (2 * N)) 61)) p Lb N s t len cap a (putO _ 4 wz.heap.size) _) := Lib.hid (HBd.out.mk_ 4)
        refine hK.out _ _ ?_ (fun hHeld => ?_)
        · exact HB11.out.two
        clear hK K
        try simp only [Act.put, List.setIfInBounds_toArray, List.set_cons_zero, List.set_cons_succ, List.getElem_toArray, List.getElem_cons_zero, List.getElem_cons_succ]
        obtain ⟨ub, hub⟩ : ∃ b, wz.heap.size = b := ⟨_, rfl⟩
        obtain ⟨v11, hv11⟩ : ∃ v, wz.alloc (.cells (madeCells #[.slice none 0 0] (2 * N)) 61) = v := ⟨_, rfl⟩
        rw [hub, hv11] at HB11
        rw [hv11] at hHeld
        rw [hub, hv11]
        clear hub hv11
        refine wpAnyH_ready (rs := [5]) (by kernel_rfl) (by simp) ?_
        refine AllReadyH.cons rfl (fun K hK => ?_) AllReadyH.nil
        go_simp
        have HB12 : Hid (BW w w2 (v11.alloc (.cells (madeCells #[.int .i64 0] (2 * N)) 3)) p Lb N s t len cap a (putO _ 3 v11.heap.size) _) := Lib.hid (HB11.out.mk_ 3)
        refine hK.out _ _ ?_ (fun hHeld => ?_)
        · exact HB12.out.two
        clear hK K
        try simp only [Act.put, List.setIfInBounds_toArray, List.set_cons_zero, List.set_cons_succ, List.getElem_toArray, List.getElem_cons_zero, List.getElem_cons_succ]
        obtain ⟨mb, hmb⟩ : ∃ b, v11.heap.size = b := ⟨_, rfl⟩
        obtain ⟨v12, hv12⟩ : ∃ v, v11.alloc (.cells (madeCells #[.int .i64 0] (2 * N)) 3) = v := ⟨_, rfl⟩
        rw [hmb, hv12] at HB12
        rw [hv12] at hHeld
        rw [hmb, hv12]
        clear hmb hv12
        refine wpAnyH_take (i := 10) (v := ?_) rfl (by kernel_rfl) (by kernel_rfl) (by kernel_rfl) (fun _ _ _ h => h) (Or.inl ⟨by rfl, ?_⟩) hHeld ?_
        rotate_left
        · intro W0 hW; go_simp; (try with_reducible rfl)
        try simp only [Act.put, List.setIfInBounds_toArray, List.set_cons_zero, List.set_cons_succ, List.getElem_toArray, List.getElem_cons_zero, List.getElem_cons_succ]
        refine wpAnyH_take (i := 11) (v := ?_) rfl (by kernel_rfl) (by kernel_rfl) (by kernel_rfl) (fun _ _ _ h => h) (Or.inl ⟨by rfl, ?_⟩) hHeld ?_
        rotate_left
        · intro W0 hW; go_simp; (try with_reducible rfl)
        try simp only [Act.put, List.setIfInBounds_toArray, List.set_cons_zero, List.set_cons_succ, List.getElem_toArray, List.getElem_cons_zero, List.getElem_cons_succ]
        refine wpAnyH_ready (rs := [12]) (by kernel_rfl) (by simp) ?_
        refine AllReadyH.cons rfl (fun K hK => ?_) AllReadyH.nil
        obtain ⟨c5, c6, c9, c8, c10, _, f5, f6, f9, f8, f10, _⟩ := HB12.out.cells
        go_simp
        clear c5 c6 c9 c8 c10 f5 f6 f9 f8 f10
        have HB13 := Lib.hid (HB12.out.st3 (.slice (some ⟨mb, 0, none⟩) (2 * N) (2 * N)))
        refine hK.out _ _ ?_ (fun hHeld => ?_)
        · exact HB13.out.two
        clear hK K
        try simp only [Act.put, List.setIfInBounds_toArray, List.set_cons_zero, List.set_cons_succ, List.getElem_toArray, List.getElem_cons_zero, List.getElem_cons_succ]
        obtain ⟨v13, hv13⟩ : ∃ v, v12.setCell ⟨p, 8, none⟩ (.slice (some ⟨mb, 0, none⟩) (2 * N) (2 * N)) = v := ⟨_, rfl⟩
        rw [hv13] at HB13 hHeld ⊢
        clear hv13
        refine wpAnyH_take (i := 13) (v := ?_) rfl (by kernel_rfl) (by kernel_rfl) (by kernel_rfl) (fun _ _ _ h => h) (Or.inl ⟨by rfl, ?_⟩) hHeld ?_
        rotate_left
        · intro W0 hW; go_simp; (try with_reducible rfl)
        try simp only [Act.put, List.setIfInBounds_toArray, List.set_cons_zero, List.set_cons_succ, List.getElem_toArray, List.getElem_cons_zero, List.getElem_cons_succ]
        refine wpAnyH_take (i := 14) (v := ?_) rfl (by kernel_rfl) (by kernel_rfl) (by kernel_rfl) (fun _ _ _ h => h) (Or.inl ⟨by rfl, ?_⟩) hHeld ?_
        rotate_left
        · intro W0 hW; go_simp; (try with_reducible rfl)
        try simp only [Act.put, List.setIfInBounds_toArray, List.set_cons_zero, List.set_cons_succ, List.getElem_toArray, List.getElem_cons_zero, List.getElem_cons_succ]
        refine wpAnyH_ready (rs := [15]) (by kernel_rfl) (by simp) ?_
        refine AllReadyH.cons rfl (fun K hK => ?_) AllReadyH.nil
        obtain ⟨c5, c6, c9, c8, c10, _, f5, f6, f9, f8, f10, _⟩ := HB13.out.cells
        go_simp
        clear c5 c6 c9 c8 c10 f5 f6 f9 f8 f10
        have HB14 := Lib.hid (HB13.out.st4 (.slice (some ⟨ub, 0, none⟩) (2 * N) (2 * N)))
        refine hK.out _ _ ?_ (fun hHeld => ?_)
        · exact HB14.out.two
        clear hK K
        try simp only [Act.put, List.setIfInBounds_toArray, List.set_cons_zero, List.set_cons_succ, List.getElem_toArray, List.getElem_cons_zero, List.getElem_cons_succ]
        obtain ⟨v14, hv14⟩ : ∃ v, v13.setCell ⟨p, 10, none⟩ (.slice (some ⟨ub, 0, none⟩) (2 * N) (2 * N)) = v := ⟨_, rfl⟩
        rw [hv14] at HB14 hHeld ⊢
        clear hv14
        refine wpAnyH_done (by kernel_rfl) ?_ _
        clear hHeld
        go_wp2_with fail
        go_meet
        exact ⟨mb, ub, HB14.out.congr (fun j => by simp only [putO] <;> (repeat' split) <;> simp_all) (fun j => by simp only [putC] <;> (repeat' split) <;> simp_all)⟩
    case rest =>
      obtain ⟨mb, ub, hB⟩ := hcut
      have HB2 := Lib.hid hB
      clear hB HB1 hmk1 hmk2 hmk3 hmk4 hmk5 e2N e2N2
      have HBK : Hid (wc.heap[p]? = some (.cells (wsV N s t Lb len cap a (.slice (some ⟨fb, 0, none⟩) len len) (.slice (some ⟨sb, 0, none⟩) N N) (.slice none 0 0) (.slice (some ⟨mb, 0, none⟩) (2 * N) (2 * N)) (.slice (some ⟨nb, 0, none⟩) N N) (.slice (some ⟨ub, 0, none⟩) (2 * N) (2 * N)) (.int .i64 0)) 64 (0, 0))) := Lib.hid HB2.out.blk
      have HRF : Hid (wc.rowIs fb 2 len (fun _ => .int .i64 0) ∧ p < fb) := Lib.hid (HB2.out.rows 0 fb rfl)
      have HRS : Hid (wc.rowIs sb 2 N (fun _ => .int .i64 0) ∧ p < sb) := Lib.hid (HB2.out.rows 1 sb rfl)
      have HRN : Hid (wc.rowIs nb 3 N (fun _ => .int .i64 0) ∧ p < nb) := Lib.hid (HB2.out.rows 2 nb rfl)
      have HRM : Hid (wc.rowIs mb 3 (2 * N) (fun _ => .int .i64 0) ∧ p < mb) := Lib.hid (HB2.out.rows 3 mb rfl)
      have HRU : Hid (wc.rowIs ub 61 (2 * N) (fun _ => .slice none 0 0) ∧ p < ub) := Lib.hid (HB2.out.rows 4 ub rfl)
      have HNE : Hid (fb ≠ sb ∧ fb ≠ nb ∧ fb ≠ mb ∧ fb ≠ ub ∧ sb ≠ nb ∧ sb ≠ mb ∧ sb ≠ ub ∧ nb ≠ mb ∧ nb ≠ ub ∧ mb ≠ ub) := Lib.hid (by
        have h := HB2.out.ne
        refine ⟨?_, ?_, ?_, ?_, ?_, ?_, ?_, ?_, ?_, ?_⟩
        · intro e; exact h 0 1 fb (by omega) rfl (by rw [e]; rfl)
        · intro e; exact h 0 2 fb (by omega) rfl (by rw [e]; rfl)
        · intro e; exact h 0 3 fb (by omega) rfl (by rw [e]; rfl)
        · intro e; exact h 0 4 fb (by omega) rfl (by rw [e]; rfl)
        · intro e; exact h 1 2 sb (by omega) rfl (by rw [e]; rfl)
        · intro e; exact h 1 3 sb (by omega) rfl (by rw [e]; rfl)
        · intro e; exact h 1 4 sb (by omega) rfl (by rw [e]; rfl)
        · intro e; exact h 2 3 nb (by omega) rfl (by rw [e]; rfl)
        · intro e; exact h 2 4 nb (by omega) rfl (by rw [e]; rfl)
        · intro e; exact h 3 4 mb (by omega) rfl (by rw [e]; rfl))
      have HLC : Hid (Lanes p wc Lb N V (fun i => lanesU l i l.length)) := Lib.hid (by
        have h := HAD.out.lanes
        rw [HP.out] at h
        exact h.later HB2.out.since)
      have HPC : Hid (IsPipes p wc a len l) := Lib.hid (by
        have h := (HL.out.later HB2.out.box.below).mono (B2 := p) (by have := HB2.out.gp; omega)
        exact h)
      have HPW : Hid (p < wc.heap.size ∧ w.heap.size < p) := Lib.hid ⟨HB2.out.lt, HB2.out.gp⟩
      have HHT := Lib.hid (heights_any (p := p) wc HBK.out (by omega) hN2 hsN htN (HPC.out.mono (by have := HPW.out; omega)) (HLC.out.mono2 (by have := HPW.out; omega)) HLO.out (fun i => by have := lanesU_le l i l.length; have := HLn.out; omega))
      obtain ⟨c5, c6, c9, c8, c10, c7, f5, f6, f9, f8, f10, f7⟩ := HB2.out.cells
      clear c5 c6 c9 c8 c10 f5 f6 f9 f8 f10
      go_wp2_with (go_at_call 35; refine HHT.out.mono ?_; rintro e w6 ⟨G, far, rfl, hrow, hge, hb6, hfar⟩; have HRW := Lib.hid hrow; have HFR := Lib.hid hfar; have HB6 := Lib.hid hb6; have HGE := Lib.hid hge; have g7 : w6.cell? ⟨p, 7, none⟩ = some (.slice none 0 0) := (hb6.cell (p := ⟨p, 7, none⟩) HPW.out.1).trans c7; have h7 : w6.frozen? ⟨p, 7, none⟩ = false := (World.frozen?_of_block (hb6.block p HPW.out.1)).trans f7; have g7b : (w6.setCell ⟨p, 7, none⟩ (.slice (some ⟨G, 0, none⟩) N N)).cell? ⟨p, 7, none⟩ = some (.slice (some ⟨G, 0, none⟩) N N) := World.cell?_setCell_same _ _ _ g7; clear hrow hge hb6 hfar c7 f7)
      have HGG : Hid (G ≠ fb ∧ G ≠ sb ∧ G ≠ nb ∧ G ≠ mb ∧ G ≠ ub ∧ p < G ∧ G < w6.heap.size) := Lib.hid (by
        have h1 := HRF.out.1.lt; have h2 := HRS.out.1.lt; have h3 := HRN.out.1.lt; have h4 := HRM.out.1.lt; have h5 := HRU.out.1.lt
        have h6 := HGE.out; have h7 := HPW.out; have h8 := HRW.out.lt
        omega)
      have HNET : Hid (Env.Net (mkE p Lb fb sb G mb nb ub w6.heap.size N s t len cap a l V)) := Lib.hid ⟨HOK.out, by show 2 ≤ N; have := HST.out; omega, hN2, by show l.length ≤ 20000; have := HLn.out; omega, hsN, htN, HST.out, HLO.out, fun i => by show (lanesU l i l.length).length ≤ 40000; have := lanesU_le l i l.length; have := HLn.out; omega⟩
      have HW0 : Hid (Below w.heap.size w (w6.setCell ⟨p, 7, none⟩ (.slice (some ⟨G, 0, none⟩) N N)) ∧ Wk (mkE p Lb fb sb G mb nb ub w6.heap.size N s t len cap a l V) (fun _ => 0) (exc (mkE p Lb fb sb G mb nb ub w6.heap.size N s t len cap a l V) (fun _ => 0)) (hi0 N s far) (fun _ => 0) (cnt 0 (hi0 N s far)) (fun _ => .slice none 0 0) (fun _ => []) 0 (w6.setCell ⟨p, 7, none⟩ (.slice (some ⟨G, 0, none⟩) N N))) := Lib.hid (by
        have hpw := HPW.out
        have hne := HNE.out
        have hgg := HGG.out
        have hB7 : Below p wc (w6.setCell ⟨p, 7, none⟩ (.slice (some ⟨G, 0, none⟩) N N)) := (HB6.out.mono (show p ≤ wc.heap.size by omega)).setCell (p := ⟨p, 7, none⟩) (show p ≤ p from Nat.le_refl _) _
        have r1 := HRF.out.2; have r2 := HRS.out.2; have r3 := HRN.out.2; have r4 := HRM.out.2; have r5 := HRU.out.2
        have q1 := HRF.out.1.lt; have q2 := HRS.out.1.lt; have q3 := HRN.out.1.lt; have q4 := HRM.out.1.lt; have q5 := HRU.out.1.lt
        have hsz := HB6.out.size
        refine ⟨HB2.out.box.below.trans (hB7.mono (by omega)), HPC.out.laterC hB7, HLC.out.later hB7, ?_, (rowIs_below HRF.out.1 HB6.out).setOther (show fb ≠ p by omega) _, ((rowIs_below HRS.out.1 HB6.out).setOther (show sb ≠ p by omega) _).congr (fun i _ => by rw [exc_zero]), HRW.out.setOther (show G ≠ p by omega) _, (rowIs_below HRM.out.1 HB6.out).setOther (show mb ≠ p by omega) _, (rowIs_below HRN.out.1 HB6.out).setOther (show nb ≠ p by omega) _, (rowIs_below HRU.out.1 HB6.out).setOther (show ub ≠ p by omega) _, fun h _ => World.ownsRow_nil _ _ _ 1, fun h h2 _ _ _ b hb => (nomatch hb), ?_, by show w6.heap.size ≤ _; simp [World.setCell]⟩
        · rw [heap_setCell_same _ _ _ _ _ _ ((HB6.out.block p hpw.1).trans HBK.out)]
          rfl
        · constructor <;> simp only <;> omega)
      obtain ⟨D, hD⟩ : ∃ D, w6.heap.size = D := ⟨_, rfl⟩
      obtain ⟨w7, hw7⟩ : ∃ w7, w6.setCell ⟨p, 7, none⟩ (.slice (some ⟨G, 0, none⟩) N N) = w7 := ⟨_, rfl⟩
      rw [hD] at HNET
      rw [hD, hw7] at HW0
      rw [hw7]
      clear hD hw7 g7 g7b h7 HHT HBK HRF HRS HRN HRM HRU HNE HGG HB2
      go_loopw [63] (fun i wr => ∃ k : Nat, i = .int .i64 k ∧ k ≤ N ∧ Hid (Below w.heap.size w wr ∧ Wk (mkE p Lb fb sb G mb nb ub D N s t len cap a l V) (fun _ => 0) (exc (mkE p Lb fb sb G mb nb ub D N s t len cap a l V) (fun _ => 0)) (hi0 N s far) (fun _ => 0) (cnt k (hi0 N s far)) (fun _ => .slice none 0 0) (fun _ => []) 0 wr)) (fun i _ => N - (intOf i).toNat)
      case atStart => exact ⟨0, rfl, Nat.zero_le _, HW0⟩
      case round =>
        obtain ⟨k, rfl, hk, HK⟩ := hrel
        clear HW0
        by_cases hlt : k < N
        · have r0 : wr.cell? ⟨G, k, none⟩ = some (.int .i64 (hi0 N s far k : Int)) := HK.out.2.high.cell hlt
          have hhb : hi0 N s far k < 2 * N := by
            have h1 := HFR.out.small k hlt
            have h2 := HNET.out.n2
            simp only at h2
            unfold hi0
            split
            · omega
            · split <;> omega
          obtain ⟨h, hh⟩ : ∃ h, hi0 N s far k = h := ⟨_, rfl⟩
          have HH := Lib.hid hh
          rw [hh] at r0 hhb
          clear hh
          have hhi : (h : Int) < 2 * (N : Int) := by omega
          have r1 : wr.cell? ⟨mb, h, none⟩ = some (.int .i64 (cnt k (hi0 N s far) h)) := HK.out.2.many.cell hhb
          have f1 : wr.frozen? ⟨mb, h, none⟩ = false := HK.out.2.many.frozen h
          have x8 : wr.cell? ⟨p, 8, none⟩ = some (.slice (some ⟨mb, 0, none⟩) (2 * N) (2 * N)) := HK.out.2.cellW.2.2.2.2.2.2.2.2.1
          obtain ⟨c, hc⟩ : ∃ c, cnt k (hi0 N s far) h = c := ⟨_, rfl⟩
          have HC := Lib.hid hc
          have hcb := cnt_bound k (hi0 N s far) h
          rw [hc] at r1 hcb
          clear hc
          have ew : IntKind.i64.wrap (c + 1) = c + 1 := by rw [IntKind.wrap_i64]; omega
          have HN2 := Lib.hid (And.intro (HK.out.1.setCell (p := ⟨mb, h, none⟩) (by have := HK.out.2.ord.cm; simp only at this; show w.heap.size ≤ mb; have := HPW.out.2; omega) (.int .i64 (c + 1))) ((HK.out.2.setMany h (c + 1)).congrMany (mn2 := cnt (k + 1) (hi0 N s far)) (fun g _ => by
            rw [cnt_next, HH.out]
            by_cases e : g = h
            · subst e; rw [if_pos rfl, if_pos rfl, HC.out]
            · rw [if_neg e, if_neg (fun e2 => e e2.symm)]; omega)))
          go_wp2_with fail
          go_roundw
          case rel => exact ⟨k + 1, by go_num, by omega, HN2⟩
          case measure => simp [intOf]; omega
        · obtain rfl : k = N := by omega
          have hM0 := lanesU_le l s l.length
          obtain ⟨M, hM⟩ : ∃ M, (lanesU l s l.length).length = M := ⟨_, rfl⟩
          have hMb : M ≤ 20000 := by have := HLn.out; omega
          have HMM := Lib.hid hM
          obtain ⟨va, vc, hv⟩ := HK.out.2.rowV hsN
          simp only at hv
          rw [hM] at hv
          have HV := Lib.hid hv
          have x4 : wr.cell? ⟨p, 4, none⟩ = some (.slice (some ⟨Lb, 0, none⟩) k k) := HK.out.2.cellW.2.2.2.2.1
          have r4 : wr.cell? ⟨Lb, s, none⟩ = some (V s) := HK.out.2.lanes.out.cell hsN
          rw [hv] at r4
          have HK0 : Hid (First (mkE p Lb fb sb G mb nb ub D k s t len cap a l V) (fun _ => 0) 0) := Lib.hid (First.begin_ HNET.out)
          have HQ0 : Hid (Que (mkE p Lb fb sb G mb nb ub D k s t len cap a l V) (exc (mkE p Lb fb sb G mb nb ub D k s t len cap a l V) (fun _ => 0)) (fun _ => []) 0 s) := Lib.hid (Que.begin_ HNET.out)
          clear hv hM hM0
          go_wp2_with fail
          clear x4 r4
          go_loopw [85] (fun i wr => ∃ (j : Nat) (fl : Nat → Int) (fv : Nat → Value) (Q : Nat → List Nat) (top : Int), i = .int .i64 j ∧ j ≤ M ∧ Hid (Below w.heap.size w wr ∧ Wk (mkE p Lb fb sb G mb nb ub D k s t len cap a l V) fl (exc (mkE p Lb fb sb G mb nb ub D k s t len cap a l V) fl) (hi0 k s far) (fun _ => 0) (cnt k (hi0 k s far)) fv Q top wr) ∧ Hid (First (mkE p Lb fb sb G mb nb ub D k s t len cap a l V) fl j) ∧ Hid (Que (mkE p Lb fb sb G mb nb ub D k s t len cap a l V) (exc (mkE p Lb fb sb G mb nb ub D k s t len cap a l V) fl) Q top s)) (fun i _ => M - (intOf i).toNat)
          case atStart => exact ⟨0, _, _, _, _, rfl, Nat.zero_le _, HK, HK0, HQ0⟩
          case round =>
            clear HK HK0 HQ0
            obtain ⟨j, fl, fv, Q, top, rfl, hj, HK, HF, HQ⟩ := hrel
            by_cases hlt2 : j < M
            · obtain ⟨lb2, off, cap2, q, v, bk, hv2, hjj, c0, c1, c2⟩ := HK.out.2.lane (q := j) hsN (by rw [HMM.out]; exact hlt2)
              simp only at hv2 hjj
              rw [HV.out] at hv2
              injection hv2 with e1 e2 e3
              clear e2
              subst e1 e3
              obtain ⟨hq, hvN, huv⟩ := HNET.out.lane HK.out.2 hsN hjj
              simp only at hq hvN huv
              have HJ := Lib.hid hjj
              have hCs : p < wr.heap.size := (Array.getElem?_eq_some_iff.1 HK.out.2.work).1
              have HBa := Lib.hid ((Below.refl wr.heap.size wr).alloc (Nat.le_refl _) (.cells #[.int .i64 (q : Int), .int .i64 (v : Int), .bool bk] 81))
              have HK1 := Lib.hid (And.intro (HK.out.1.trans (HBa.out.mono (by have := HPW.out; omega))) (HK.out.2.later HBa.out))
              have HX1 : Hid (LBox (wr.alloc (.cells #[.int .i64 (q : Int), .int .i64 (v : Int), .bool bk] 81)) wr.heap.size q v bk) := Lib.hid (heap_alloc_new _ _)
              obtain ⟨d, hd⟩ : ∃ d, lft l fl (q, v, bk) = d := ⟨_, rfl⟩
              have HD := Lib.hid hd
              have HCP := Lib.hid (HF.out.caps HNET.out)
              have HCL := Lib.hid (left_any HK1.out.2 q v bk hq HCP.out)
              simp only at HCL
              rw [hd] at HCL
              have hhb : hi0 k s far v < 2 * k := by
                have h1 := HFR.out.small v hvN
                have h2 := HNET.out.n2
                simp only at h2
                unfold hi0
                split
                · omega
                · split <;> omega
              have HHB := Lib.hid hhb
              have HVX : Hid (v = s ∨ 0 ≤ exc (mkE p Lb fb sb G mb nb ub D k s t len cap a l V) fl v) := Lib.hid (by
                by_cases h : v = s
                · exact .inl h
                · exact .inr (HF.out.exc v hvN h))
              clear hjj hd hhb
              by_cases hpos : 0 < d
              · have HFN := Lib.hid (HF.out.send HNET.out HJ.out (by simp only; rw [HD.out]; exact hpos))
                simp only at HFN
                rw [HD.out] at HFN
                go_wp2_with (first
                  | (go_at_call 36; refine HCL.out.mono ?_; rintro e w8 ⟨rfl, hb8⟩; have HK2 := Lib.hid (And.intro (HK1.out.1.trans (hb8.mono HK1.out.1.size)) (HK1.out.2.later hb8)); have HX2 : Hid (LBox w8 wr.heap.size q v bk) := Lib.hid ((hb8.block _ (Array.getElem?_eq_some_iff.1 HX1.out).1).trans HX1.out); obtain ⟨l0, l1, l2⟩ := HX2.out.cells; clear hb8)
                  | (go_at_call 37; refine (send_any (E := mkE p Lb fb sb G mb nb ub D k s t len cap a l V) HK2.out.2 HNET.out HCP.out hsN bk (List.mem_of_getElem? HJ.out) HHB.out hpos (by simp only; rw [HD.out]; exact Int.le_refl _) HQ.out HVX.out).mono ?_; rintro e w9 ⟨rfl, hb9, fv2, Q2, top2, hk9, hq9, _⟩; have HK3 := Lib.hid (And.intro (HK2.out.1.trans (hb9.mono (by have := HPW.out.2; show w.heap.size ≤ p; omega))) hk9); have HQ3 := Lib.hid hq9; clear hb9 hk9 hq9))
                go_roundw
                case rel => exact ⟨j + 1, _, fv2, Q2, top2, by go_num, by omega, HK3, HFN, HQ3⟩
                case measure => simp [intOf]; omega
              · have HFN := Lib.hid (HF.out.skip HJ.out (by simp only; rw [HD.out]; omega))
                go_wp2_with (go_at_call 36; refine HCL.out.mono ?_; rintro e w8 ⟨rfl, hb8⟩; have HK2 := Lib.hid (And.intro (HK1.out.1.trans (hb8.mono HK1.out.1.size)) (HK1.out.2.later hb8)); clear hb8)
                go_roundw
                case rel => exact ⟨j + 1, fl, fv, Q, top, by go_num, by omega, HK2, HFN, HQ⟩
                case measure => simp [intOf]; omega
            · go_wp2_with fail
              go_ret
              exact ⟨mkE p Lb fb sb G mb nb ub D k s t len cap a l V, fl, hi0 k s far, fun _ => 0, fv, Q, top, rfl, rfl, rfl, rfl, rfl, rfl, HNET.out, HK.out.1, by have := HPW.out.2; show w.heap.size ≤ p; omega, HK.out.2, HF.out.pr HNET.out (by simp only; rw [HMM.out]; omega) HFR.out (fun _ => rfl), HQ.out.free⟩
end Go.Proofs.Ytbenmebmfihleaa

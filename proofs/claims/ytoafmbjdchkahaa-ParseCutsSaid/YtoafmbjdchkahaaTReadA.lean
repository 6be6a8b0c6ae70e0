/- The law's own reading of an instance, of any text. -/
import Derived.Test.YtoafmbjdchkahaaTReads
namespace Go.Proofs.Ytoafmbjdchkahaa
open Go.RowKit

set_option maxHeartbeats 2000000 in
set_option maxRecDepth 100000 in
theorem reads_badI (s : ByteArray) (w : World) (hs : s.size ≤ 131072) (hb : toN badB s.data.toList < s.size) : Calls Try.prog 10 #[.string s] w (ParseP s.data.toList w) := by
  have hl : s.data.toList.length = s.size := by simp
  have HXI : Hid (textI s.data.toList = zeroI) := Lib.hid (by rw [textI, if_pos (by omega)])
  have HXA : Hid (textAt s.data.toList = toN badB s.data.toList) := Lib.hid (by rw [textAt, if_pos (by omega)])
  have HXC : Hid (textC s.data.toList = 3) := Lib.hid (by rw [textC, if_pos (by omega)])
  have HW := Lib.hid fun Wd => words_bad s Wd hs hb
  unfold ParseP
  generalize textI s.data.toList = X at *
  generalize textAt s.data.toList = p at *
  generalize textC s.data.toList = code at *
  generalize toN badB s.data.toList = q at *
  have HB0 := Lib.hid ((Below.refl w.heap.size w).alloc (Nat.le_refl _) (.cells #[.int .i64 0, .int .i64 0, .int .i64 0, .int .i64 0, .int .i64 0, .slice none 0 0, .slice none 0 0, .slice none 0 0, .slice none 0 0] 29))
  have hr := heap_alloc_new w (.cells #[.int .i64 0, .int .i64 0, .int .i64 0, .int .i64 0, .int .i64 0, .slice none 0 0, .slice none 0 0, .slice none 0 0, .slice none 0 0] 29)
  have HR := Lib.hid hr
  clear hl hr
  go_enter Try.func10, Try.ntmps10
  go_wp2_with fail
  refine (HW.out _).mono ?_
  rintro e w' ⟨rfl, rfl⟩
  obtain ⟨w1, hw1⟩ : ∃ z, z = w.alloc (.cells #[.int .i64 0, .int .i64 0, .int .i64 0, .int .i64 0, .int .i64 0, .slice none 0 0, .slice none 0 0, .slice none 0 0, .slice none 0 0] 29) := ⟨_, rfl⟩
  rw [← hw1] at HB0 HR ⊢
  clear hw1
  obtain ⟨n0, n1, n2, n3, n4, n5, n6, n7, n8, nf⟩ := cells9 HR.out
  go_wp2_with fail
  have hb9 := storeI_blk (y0 := .int .i64 0) (y1 := .int .i64 0) (y2 := .int .i64 0) (y3 := .int .i64 0) (y4 := .int .i64 0) (y5 := .slice none 0 0) (y6 := .slice none 0 0) (y7 := .slice none 0 0) (y8 := .slice none 0 0) HR.out
  obtain ⟨z0, z1, z2, z3, z4, z5, z6, z7, z8, _⟩ := cells9 hb9
  unfold storeI at z0 z1 z2 z3 z4 z5 z6 z7 z8
  refine bodyPost_ret (v := .tuple #[.agg (insC ⟨none, 0, none, 0, none, 0, none, 0⟩ zeroI), .int .i64 (q : Int), .int .i64 3]) ?_ rfl ⟨⟨none, 0, none, 0, none, 0, none, 0⟩, by rw [HXI.out, HXA.out, HXC.out], by rw [HXI.out]; exact zeroI_is _, storeI_below HB0.out (Nat.le_refl _)⟩
  unfold insC zeroI
  clear n0 n1 n2 n3 n4 n5 n6 n7 n8 nf hb9
  simp only [results, Try.results10]
  simp [go_sem, z0, z1, z2, z3, z4, z5, z6, z7, z8]
theorem reads_ins (s : ByteArray) (w : World) (hs : s.size ≤ 131072) : Calls Try.prog 10 #[.string s] w (ParseP s.data.toList w) := by
  have hle : toN badB s.data.toList ≤ s.size := by have := toN_le badB s.data.toList; simpa using this
  by_cases hb : toN badB s.data.toList < s.size
  · exact reads_badI s w hs hb
  · exact reads_good s w hs (by omega)
end Go.Proofs.Ytoafmbjdchkahaa

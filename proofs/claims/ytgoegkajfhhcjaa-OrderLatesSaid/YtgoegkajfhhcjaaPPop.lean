/- Pop on a pile's items. -/
import Derived.Test.YtgoegkajfhhcjaaPPush
namespace Go.Proofs.Ytgoegkajfhhcjaa
open Go.RowKit
open Go.Sort (swp size_swp HoldsK putRowK flatK)

/-- What Pop leaves. -/
def Popped (w : World) (base b g n cap : Nat) (d : Array It) (w' : World) : Prop :=
  PileW w' base b (.slice (some ⟨g, 0, none⟩) n cap) d.pop ∧ Mod (pileS b (.slice (some ⟨g, 0, none⟩) n cap)) w w'
theorem popped_of {w w1 : World} {base b g n cap : Nat} {d : Array It} (hP : PileW w1 base b (.slice (some ⟨g, 0, none⟩) (n + 1) cap) d) (hM : Mod (fun _ => False) w w1) (hn : d.size = n + 1) :
    Popped w base b g n cap d (w1.setCell ⟨b, 0, none⟩ (.slice (some ⟨g, 0, none⟩) n cap)) :=
  ⟨PileW.set_ hP.head (hP.row.pop hn) hP.ne, (hM.mono fun _ _ h => h.elim).setCell (.inr (.inl rfl)) _⟩

set_option maxHeartbeats 2000000 in
set_option maxRecDepth 100000 in
theorem pop_any (b base g n cap : Nat) (d : Array It) (w : World) (hn : d.size = n + 1) (hbig : n ≤ 3000) (hP : PileW w base b (.slice (some ⟨g, 0, none⟩) (n + 1) cap) d) :
    Calls Try.prog 63 #[.pointer (some ⟨b, 0, none⟩)] w fun e w' => e = .returned (.iface 66 (.agg #[.int .i64 d[n]!.1, .int .i64 d[n]!.2])) ∧ Popped w base b g n cap d w' := by
  have hc := hP.cell
  have hf := hP.free
  have hb := hP.lt
  have H := hP.row.holds
  have c1 := cell_key H (i := n) (by omega)
  have c2 := cell_id H (i := n) (by omega)
  obtain ⟨g', cap', he, _, hg, hcap⟩ := hP.row.some_ (by omega)
  injection he with he1 he2 he3
  injection he1 with he1
  injection he1 with he1
  subst he1 he3
  rw [hn] at hcap
  clear he2 H
  have HP := Lib.hid hP; clear hP
  have HN := Lib.hid hn; clear hn
  generalize d[n]! = x at *
  go_enter Try.func63, Try.ntmps63
  go_wp2_with fail
  go_ret
  refine ⟨rfl, ?_⟩
  have h := popped_of HP.out (Mod.refl _ w) HN.out
  exact ⟨h.1.kept ((Mod.refl (fun _ => False) _).alloc _) (fun h => h) (fun _ _ h => h), h.2.alloc _⟩
end Go.Proofs.Ytgoegkajfhhcjaa

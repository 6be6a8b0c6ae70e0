/- The laws' own net: what it is like. -/
import Derived.Test.YtbenmebmfihleaaLFlows
import Derived.Test.YtbenmebmfihleaaMLNet
import Derived.Test.YtbenmebmfihleaaLNet
namespace Go.Proofs.Ytbenmebmfihleaa
open Go.RowKit

variable {len cap N g s t : Nat} {l : List Pi} {w wr w2 : World} {a : Option Addr} {much : Int} {fl : Nat → Int}
/-- The net's box, its pipes. -/
structure NPA (w wr : World) (g N : Nat) (a : Option Addr) (len cap : Nat) (l : List Pi) : Prop where
  box : NBox w wr g (N : Int) a len cap
  pipes : IsPipes wr.heap.size wr a len l
theorem NPA.later (h : NPA w wr g N a len cap l) (hb : Below wr.heap.size wr w2) : NPA w w2 g N a len cap l := ⟨h.box.later hb, (h.pipes.later hb).mono hb.size⟩
/-- Which net the law makes. -/
theorem law_net {n : Int} (hn : (Lit.int .u8 n).wf = true) : (0 ≤ n ∧ n ≤ 255) ∧ ∃ N : Nat, 2 + n % 5 = (N : Int) ∧ 2 ≤ N ∧ N ≤ 6 := by
  simp [Lit.wf, IntKind.min, IntKind.max, IntKind.signed, IntKind.bits] at hn
  exact ⟨hn, (2 + n % 5).toNat, by omega, by omega, by omega⟩
theorem law_u8 {n : Int} (hn : (Lit.int .u8 n).wf = true) : 0 ≤ n ∧ n ≤ 255 := by
  simp [Lit.wf, IntKind.min, IntKind.max, IntKind.signed, IntKind.bits] at hn
  exact hn
/-- What the law asks of its net. -/
structure NetOk (N : Nat) (l : List Pi) : Prop where
  check : checkP (N : Int) l = 0
  short : l.length ≤ 14
  nodes : ∀ x ∈ l, (0 ≤ x.1 ∧ x.1 < (N : Int)) ∧ (0 ≤ x.2.1 ∧ x.2.1 < (N : Int))
  rooms : ∀ x ∈ l, 0 ≤ x.2.2.1 ∧ x.2.2.1 ≤ 255
  costs : ∀ x ∈ l, 0 ≤ x.2.2.2 ∧ x.2.2.2 ≤ 255
theorem net_ok (hN : 1 ≤ N) (hN6 : N ≤ 6) (hl : ∀ x ∈ l, SmallP x) (k : Nat) : NetOk N (pipesTo (N : Int) l k) :=
  ⟨pipes_check hN hN6 hl k, pipesTo_len _ _ _, fun x hx => (pipes_small hN hl k x hx).1, fun x hx => (pipes_small hN hl k x hx).2.1, fun x hx => (pipes_small hN hl k x hx).2.2⟩
theorem NetOk.ends (h : NetOk N l) (hs : s < N) (ht : t < N) (hst : s ≠ t) : endsP (N : Int) l (s : Int) (t : Int) = 0 := endsP_zero.2 ⟨h.check, by omega, by omega, by omega⟩
theorem NetOk.ok (h : NetOk N l) : ∀ x ∈ l, okP (N : Int) x = true := (checkP_zero.1 h.check).2
/-- The law's own test of what Most tells. -/
theorem flows_most (h : IsMost l N fl s t much) : flowsV N l ((List.range l.length).map fl) s t = (much, true) := by
  have e : ∀ k, k < l.length → flOf ((List.range l.length).map fl) k = fl k := flOf_rowF rfl
  rw [flowsV_yes ⟨by simp, h.flow.congr (fun k hk => (e k hk).symm)⟩, sumP_fl e, ← h.much]
end Go.Proofs.Ytbenmebmfihleaa

/- A drawn expression, in the walks' own words. -/
import Derived.Test.YtbnfdjhcakimhaaDraw2
import Derived.Test.YtbnfdjhcakimhaaBig
import Derived.Test.YtbnfdjhcakimhaaSpecParse
namespace Go.Proofs.Ytbnfdjhcakimhaa
open Go.RowKit Go.Lib

/-- What a drawn expression gives to the walks. -/
theorem made_fact {n : Nat} {w w' : World} {e : Ending} (h : MadeX n w e w') (hn : n ≤ 1000) : ∃ (x : SX) (A : Option Addr) (c : Nat), e = .returned (.agg #[.string x.atom, .slice A x.list.length c]) ∧ ListAt w' (New w.heap.size w'.heap.size) A x.list ∧ x.nodes ≤ 1000 ∧ x.ok ∧ x.wt ≤ 14000 ∧ Below w.heap.size w w' := by
  obtain ⟨x, V, rfl, hrow, hnx, hs, hb⟩ := h
  obtain ⟨A, c, rfl⟩ := hrow.shape
  have hw := SX.small_wt hs
  exact ⟨x, A, c, rfl, hrow.list.frame (fun b hP => hP.1) fun _ _ _ => rfl, by omega, SX.ok_wt x (by omega), by omega, hb⟩
end Go.Proofs.Ytbnfdjhcakimhaa

/- What the laws over expressions share. -/
import Derived.Test.YtbnfdjhcakimhaaZSxTo
import Derived.Test.YtbnfdjhcakimhaaZSxOwV
import Derived.Test.YtbnfdjhcakimhaaQ1
namespace Go.Proofs.Ytbnfdjhcakimhaa
open Go.RowKit Go.Lib

theorem made_sx {x : SX} {w w' : World} {e : Ending} (h : MadeV x.cells w e w') : ∃ (A : Option Addr) (c : Nat), e = .returned (.agg #[.string x.atom, .slice A x.list.length c]) ∧ SxRow w' (Und w'.heap.size) A c x.list ∧ Below w.heap.size w w' := by
  obtain ⟨vs, bs, rfl, ho, _, hb⟩ := h
  obtain ⟨A, c, e, hr⟩ := SxAt.of_reads (OwVs_read (P := Und w'.heap.size) x.cells (fun b hb' => (OwVs_lt x.cells ho b hb').2) ho)
  exact ⟨A, c, by rw [e], hr, hb⟩
theorem cells2s {w : World} {g : Nat} {t : TypeId} {a b : Value} (h : Whole w g t #[a, b]) : w.cell? ⟨g, 0, none⟩ = some a ∧ w.cell? ⟨g, 1, none⟩ = some b := ⟨by rw [h.cell]; rfl, by rw [h.cell]; rfl⟩
theorem SxRow.drew1 {w : World} {A : Option Addr} {c : Nat} {l : List SX} (h : SxRow w (Und w.heap.size) A c l) : SxRow w.drew (Und w.drew.heap.size) A c l := h.frame (fun _ h => h) fun _ _ _ => rfl
theorem eqSx (x : SX) (hw : DV.wtL x.cells ≤ 1048576) (v v' : Value) (w : World) (hv : SxAt w (Und w.heap.size) x v) (hv' : SxAt w (Und w.heap.size) x v') :
    Calls Try.prog 32 #[v, v'] w fun e w' => e = .returned (.bool true) ∧ Below w.heap.size w w' := by
  obtain ⟨A, c, rfl, h⟩ := hv
  obtain ⟨B, d, rfl, h'⟩ := hv'
  exact eqX x A B c d w (by rw [← wt_cells]; exact hw) (SxRow_list h) (SxRow_list h')
mutual
theorem SX.nodes_wts : ∀ x : SX, x.nodes ≤ DV.wtL x.cells + 1
  | .mk a l => by have := SX.nodesL_wts l; rw [SX.nodes, SX.dwt_eq, SX.mk_list]; omega
theorem SX.nodesL_wts : ∀ l : List SX, SX.nodesL l ≤ DV.wtE (SX.rows l)
  | [] => by rw [SX.nodesL]; exact Nat.zero_le _
  | x :: r => by have := SX.nodes_wts x; have := SX.nodesL_wts r; rw [SX.nodesL, SX.rows, DV.wtE]; omega
end
end Go.Proofs.Ytbnfdjhcakimhaa

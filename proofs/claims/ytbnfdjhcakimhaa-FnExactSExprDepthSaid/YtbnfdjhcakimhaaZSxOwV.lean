/- An expression as plain data and as rows of its own: the same; what an expression with capacities reads as. -/
import Derived.Test.YtbnfdjhcakimhaaZSxTo
import Derived.Test.YtbnfdjhcakimhaaZSxOwn
import Derived.Test.YtbnfdjhcakimhaaZSxL
namespace Go.Proofs.Ytbnfdjhcakimhaa
open Go.RowKit Go.Lib

mutual
theorem OwX_ofV {w : World} {B : Nat} : ∀ (x : SX) {vs : List Value} {bs : List Nat}, OwVs w B x.cells vs bs → ∃ v1, vs = [.string x.atom, v1] ∧ OwX w B x (.string x.atom) v1 bs
  | .mk a l, vs, bs, h => by
    rw [SX.cells] at h
    simp only [OwVs] at h
    obtain ⟨v0, _, b1, _, rfl, rfl, k0, v1, _, b2, _, rfl, rfl, k1, rfl, rfl⟩ := h
    rw [OwV] at k0
    obtain ⟨rfl, rfl⟩ := k0
    rw [OwV, SX.rows_length] at k1
    obtain ⟨xs, bs', h1, h2, rfl⟩ := k1
    refine ⟨v1, rfl, ?_⟩
    rw [OwX]
    exact ⟨rfl, xs, bs', h1, OwE_ofV l h2, by simp⟩
theorem OwE_ofV {w : World} {B : Nat} : ∀ (l : List SX) {vs : List Value} {bs : List Nat}, OwVE w B 2 (SX.rows l) vs bs → OwE w B l vs bs
  | [], vs, bs, h => by rw [SX.rows, OwVE] at h; rw [OwE]; exact h
  | x :: r, vs, bs, h => by
    rw [SX.rows, OwVE] at h
    obtain ⟨u1, u2, b1, b2, rfl, rfl, -, h1, h2⟩ := h
    obtain ⟨v1, rfl, hx⟩ := OwX_ofV x h1
    rw [OwE]
    exact ⟨_, _, u2, b1, b2, rfl, rfl, hx, OwE_ofV r h2⟩
end
mutual
theorem OwX_toV {w : World} {B : Nat} : ∀ (x : SX) {v0 v1 : Value} {bs : List Nat}, OwX w B x v0 v1 bs → OwVs w B x.cells [v0, v1] bs
  | .mk a l, v0, v1, bs, h => by
    rw [OwX] at h
    obtain ⟨rfl, xs, bs', h1, h2, rfl⟩ := h
    rw [SX.cells]
    simp only [OwVs]
    refine ⟨_, _, [], _, rfl, rfl, by rw [OwV]; exact ⟨rfl, rfl⟩, v1, [], _, [], rfl, (List.append_nil _).symm, ?_, rfl, rfl⟩
    rw [OwV, SX.rows_length]
    exact ⟨xs, bs', h1, OwE_toV l h2, rfl⟩
theorem OwE_toV {w : World} {B : Nat} : ∀ (l : List SX) {vs : List Value} {bs : List Nat}, OwE w B l vs bs → OwVE w B 2 (SX.rows l) vs bs
  | [], vs, bs, h => by rw [OwE] at h; rw [SX.rows, OwVE]; exact h
  | x :: r, vs, bs, h => by
    rw [OwE] at h
    obtain ⟨u0, u1, xs', b1, b2, rfl, rfl, h1, h2⟩ := h
    rw [SX.rows, OwVE]
    exact ⟨[u0, u1], xs', b1, b2, rfl, rfl, SX.cells_length x, OwX_toV x h1, OwE_toV r h2⟩
end
/-- What is owned reads as the row that it is, capacities included. -/
theorem OwX_row {w : World} {B : Nat} {P : Nat → Prop} {x : SX} {v0 : Value} {A : Option Addr} {c : Nat} {bs : List Nat} (hP : ∀ b ∈ bs, P b) (h : OwX w B x v0 (.slice A x.list.length c) bs) : SxRow w P A c x.list := by
  obtain ⟨A', c', e, hr⟩ := SxAt.of_reads (OwVs_read x.cells hP (OwX_toV x h))
  simp only [List.toArray, Value.agg.injEq] at e
  have e2 := congrArg (fun a : Array Value => a.toList) e
  simp at e2
  obtain ⟨_, rfl, rfl⟩ := e2
  exact hr
/-- The laws' copy, as rows of its own. -/
theorem toOwn (x : SX) (A : Option Addr) (c : Nat) (w : World) (hw : DV.wtL x.cells ≤ 1048576) (hl : SxRow w (Und w.heap.size) A c x.list) :
    Calls Try.prog 31 #[.agg #[.string x.atom, .slice A x.list.length c]] w (SxOwn x w) := by
  refine (toSExpr x _ w hw ⟨_, _, rfl, hl⟩).mono ?_
  rintro e w' ⟨vs, bs, rfl, ho, hn, hb⟩
  have hlt := OwVs_lt x.cells ho
  obtain ⟨v1, rfl, hx⟩ := OwX_ofV x ho
  obtain ⟨A', c', e0, e1⟩ := OwX_form hx
  subst e1
  exact ⟨A', c', bs, rfl, hx, hn, hlt, hb⟩
mutual
theorem wt_cells : ∀ x : SX, DV.wtL x.cells = x.wt
  | .mk a l => by
    rw [SX.dwt_eq, SX.wt, SX.mk_atom, SX.mk_list, wtE_cells l]
theorem wtE_cells : ∀ l : List SX, DV.wtE (SX.rows l) = SX.wtL l
  | [] => by rw [SX.rows, SX.wtL, DV.wtE]
  | x :: r => by rw [SX.rows, SX.wtL, DV.wtE, wt_cells x, wtE_cells r]
end
end Go.Proofs.Ytbnfdjhcakimhaa

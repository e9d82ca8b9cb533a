/- Bounds of what a match hands back; bindings and a bool made by a call. -/
import Derived.Test.YtkiofeiinecpiaaZLawK
import Derived.Test.YtkiofeiinecpiaaZSpMatchM
namespace Go.Proofs.Ytkiofeiinecpiaa
open Go.RowKit Go.Lib

theorem madeBs_get {l : List BindingX} {b : Bool} {n : Nat} {w w' : World} {e : Ending} (hn : (BindingX.rows l).length = n) (h : MadeBs l b w e w') :
    ∃ (A : Option Addr) (c : Nat) (bs : List Nat), e = .returned (.tuple #[.slice A n c, .bool b]) ∧ OwV w' w.heap.size (.row 77 4 (BindingX.rows l)) (.slice A n c) bs ∧ bs.Nodup ∧ RdV w' (Bet w.heap.size w'.heap.size) (.row 77 4 (BindingX.rows l)) (.slice A n c) ∧ (∀ x ∈ bs, w.heap.size ≤ x ∧ x < w'.heap.size) ∧ Below w.heap.size w w' := by
  obtain ⟨V, bs, rfl, ho, hnd, hb⟩ := h
  obtain ⟨A, c, rfl⟩ := OwV_shape ho hn
  exact ⟨A, c, bs, rfl, ho, hnd, OwV_read _ (OwV_lt _ ho) ho, OwV_lt _ ho, hb⟩
theorem cntE_Binding_size {M : Nat} : ∀ l : List BindingX, (∀ b ∈ l, b.type_.size ≤ M) → DV.cntE (BindingX.rows l) ≤ l.length * (2 * M + 4)
  | [], _ => by rw [BindingX.rows_map, List.map_nil, DV.cntE]; exact Nat.zero_le _
  | b :: r, h => by
    have h0 := cntE_Binding_size r fun b hb => h b (List.mem_cons_of_mem _ hb)
    have e : BindingX.rows (b :: r) = b.cells :: BindingX.rows r := rfl
    have h1 : DV.cntL b.cells = 3 + DV.cntE (TypeX.rows b.type_.args_) := by rw [BindingX.cells_eq]; simp only [DV.cntL, DV.cnt]; omega
    have h2 := cntE_Type b.type_.args_
    have h3 := TypeX.size_eq b.type_
    have h4 := h b List.mem_cons_self
    have h5 : (r.length + 1) * (2 * M + 4) = r.length * (2 * M + 4) + (2 * M + 4) := by rw [Nat.add_mul, Nat.one_mul]
    rw [e, DV.cntE, List.length_cons]
    omega
theorem cnt_of_small {l : List BindingX} (h : (∀ b ∈ l, b.type_.size ≤ 1048577) ∧ l.length ≤ 1048577) : 1 + DV.cntE (BindingX.rows l) ≤ 4398046511104 := by
  have h1 := cntE_Binding_size l h.1
  have h2 : l.length * (2 * 1048577 + 4) ≤ 1048577 * (2 * 1048577 + 4) := Nat.mul_le_mul_right _ h.2
  omega
theorem cnt_mat {p t : TypeX} (h : DV.wtL p.cells ≤ 1048576) (h2 : DV.wtL t.cells ≤ 1048576) : 1 + DV.cntE (BindingX.rows ((p.mat t []).getD [])) ≤ 4398046511104 := by
  apply cnt_of_small
  have h3 := TypeX.size_wt p
  have h4 := TypeX.size_wt t
  cases hm : p.mat t [] with
  | none => exact ⟨(fun b hb => by cases hb), by simp⟩
  | some a2 =>
    have h5 := TypeX.mat_small (M := 1048577) p t [] a2 (fun b hb => by cases hb) (by omega) hm
    exact ⟨h5.1, by have := h5.2; simp at this ⊢; omega⟩
theorem cnt_matAll {ps ts : List TypeX} (h : DV.wtE (TypeX.rows ps) ≤ 1048576) (h2 : DV.wtE (TypeX.rows ts) ≤ 1048576) : 1 + DV.cntE (BindingX.rows ((matAll ps ts).getD [])) ≤ 4398046511104 := by
  apply cnt_of_small
  have h3 := TypeX.sizeL_wt ps
  have h4 := TypeX.sizeL_wt ts
  rw [matAll]
  split
  · cases hm : TypeX.matL ps ts [] with
    | none => exact ⟨(fun b hb => by cases hb), by simp⟩
    | some a2 =>
      have h5 := TypeX.matL_small (M := 1048577) ps ts [] a2 (fun b hb => by cases hb) (by omega) hm
      exact ⟨h5.1, by have := h5.2; simp at this ⊢; omega⟩
  · exact ⟨(fun b hb => by cases hb), by simp⟩
end Go.Proofs.Ytkiofeiinecpiaa

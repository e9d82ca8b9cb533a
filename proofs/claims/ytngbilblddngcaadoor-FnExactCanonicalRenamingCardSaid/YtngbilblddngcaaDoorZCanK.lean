/- Bounds of what chapter 9's functions hand back. -/
import Derived.Test.YtngbilblddngcaaDoorZLawK2
import Derived.Test.YtngbilblddngcaaDoorZSpCan2
namespace Go.Proofs.YtngbilblddngcaaDoor
open Go.RowKit Go.Lib
theorem cntE_BindingS {M : Nat} : ∀ l : List BindingX, (∀ b ∈ l, b.type_.size ≤ M) → DV.cntE (BindingX.rows l) ≤ l.length * (2 * M + 4)
  | [], _ => by rw [BindingX.rows_map, List.map_nil, DV.cntE]; exact Nat.zero_le _
  | b :: r, h => by
    have h0 := cntE_BindingS r fun b hb => h b (List.mem_cons_of_mem _ hb)
    have e : BindingX.rows (b :: r) = b.cells :: BindingX.rows r := rfl
    have h1 : DV.cntL b.cells = 3 + DV.cntE (TypeX.rows b.type_.args_) := by rw [BindingX.cells_eq]; simp only [DV.cntL, DV.cnt]; omega
    have h2 := cntE_Type b.type_.args_
    have h3 := TypeX.size_eq b.type_
    have h4 := h b List.mem_cons_self
    have h5 : (r.length + 1) * (2 * M + 4) = r.length * (2 * M + 4) + (2 * M + 4) := by rw [Nat.add_mul, Nat.one_mul]
    rw [e, DV.cntE, List.length_cons]
    omega
theorem cnt_canB {l : List TypeX} (h : DV.wtE (TypeX.rows l) ≤ 1048576) : 1 + DV.cntE (BindingX.rows (canB (varsOf l))) ≤ 4398046511104 := by
  have h1 := cntE_BindingS (M := 1) (canB (varsOf l)) fun b hb => by rw [canBF_size _ 0 b hb]; exact Nat.le_refl _
  have h2 := varsOf_len l
  have h3 := TypeX.sizeL_wt l
  rw [canB_length] at h1
  omega
theorem cnt_canL {l : List TypeX} (h : DV.wtE (TypeX.rows l) ≤ 1048576) : 1 + DV.cntE (TypeX.rows (TypeX.renL (newN (varsOf l)) l)) ≤ 4398046511104 := by
  have h1 := cntE_Type (TypeX.renL (newN (varsOf l)) l)
  have h2 := TypeX.sizeL_ren (newN (varsOf l)) l
  have h3 := TypeX.sizeL_wt l
  omega
theorem cnt_canon {x : TypeX} (h : DV.wtL x.cells ≤ 1048576) : 1 + tcntL x.canon.cells ≤ 4398046511104 := by
  have h1 := tcnt_Type x.canon
  have h2 := canon_size x
  have h3 := TypeX.size_wt x
  omega
end Go.Proofs.YtngbilblddngcaaDoor

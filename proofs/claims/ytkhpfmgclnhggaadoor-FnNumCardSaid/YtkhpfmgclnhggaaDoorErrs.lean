/- What the rows' lists give of package strconv's two error values. -/
import Derived.Test.YtkhpfmgclnhggaaDoorParse
import Derived.Stop.LaidErr
namespace Go.Proofs.YtkhpfmgclnhggaaDoor
open Go.RowKit Go.Lib

theorem gRange : Tryd.prog.globalNamed "strconv.ErrRange" = some 2 := by kernel_rfl
theorem gRangeType : (Tryd.prog.globals[2]?).map (·.type) = some 53 := by kernel_rfl
theorem gSyn : Tryd.prog.globalNamed "strconv.ErrSyntax" = some 1 := by kernel_rfl
theorem gSynType : (Tryd.prog.globals[1]?).map (·.type) = some 53 := by kernel_rfl
theorem cellsErrorString : Tryd.prog.cellsOf 103 = 1 := by kernel_rfl
theorem cellsString : Tryd.prog.cellsOf 9 = 1 := by kernel_rfl
theorem starErr : "*" ++ "errors.errorString" = "*errors.errorString" := by decide
theorem rowErr (u : TypeId) (h : Tryd.prog.typeName? 3 u = some "*errors.errorString") : u = 101 :=
  typeName_ptr_named (nm := "errors.errorString") (by rw [starErr]; kernel_rfl) (by kernel_rfl) (by decide) u (by rw [starErr]; exact h)

theorem errs_of {W : World} {r r' : List (String × DataW Unit)} (h1 : laidMet Tryd.prog (("strconv.ErrRange", Rows.laid_strconv_ErrRange) :: r) W) (h2 : laidMet Tryd.prog (("strconv.ErrSyntax", Rows.laid_strconv_ErrSyntax) :: r') W) : Errs W := by
  obtain ⟨a1, s1, hv1, -, -, -⟩ := laid_sentinel h1 gRange gRangeType Tryd.underlying53 rowErr Tryd.underlying101 Tryd.underlying103 rfl rfl Tryd.underlying9 cellsErrorString cellsString
  obtain ⟨a2, s2, hv2, -, -, -⟩ := laid_sentinel h2 gSyn gSynType Tryd.underlying53 rowErr Tryd.underlying101 Tryd.underlying103 rfl rfl Tryd.underlying9 cellsErrorString cellsString
  exact ⟨⟨_, _, hv2⟩, ⟨_, _, hv1⟩⟩
end Go.Proofs.YtkhpfmgclnhggaaDoor

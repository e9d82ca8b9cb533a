/- An S-expression that came in reads as plain data. -/
import Derived.Test.YtbnfdjhcakimhaaZTypeArg
import Derived.Test.YtbnfdjhcakimhaaZSxD
import Derived.Test.YtbnfdjhcakimhaaProg
namespace Go.Proofs.Ytbnfdjhcakimhaa
open Go.ChangeShapes Go.WideShapes Go.ChangeAt Go.RowKit Go.Deep

/-- The laws' expressions by the program's. -/
def toImplX (t : TypeId) : TypeId := if t = 38 then 26 else t
def sxG (t : TypeId) : Prop := t = 38 ∨ t = 36 ∨ t = 9
theorem sxG_ok : ∀ t, sxG t → KindOk Try.prog sxG t := by
  rintro t (rfl | rfl | rfl)
  · refine .inr (.inr (.inr (.inr ⟨_, Try.underlying38, ?_, ?_⟩)))
    · intro f hf
      simp only [List.mem_cons, List.not_mem_nil, or_false] at hf
      rcases hf with rfl | rfl
      · exact .inr (.inr rfl)
      · exact .inr (.inl rfl)
    · simp only [contig]
      exact ⟨trivial, by kernel_rfl, by kernel_rfl⟩
  · exact .inr (.inr (.inr (.inl ⟨_, Try.underlying36, .inl rfl, by rw [show Try.prog.cellsOf 38 = 2 by kernel_rfl]; decide⟩)))
  · exact .inr (.inl Try.underlying9)
theorem cellsOf_SExpr : Try.prog.cellsOf 38 = 2 := by kernel_rfl
theorem fits_SExpr : ∀ (N n : Nat) (ds : List DV), n ≤ N → Fits Try.prog toImplX n 38 ds → ∃ x : SX, ds = x.cells
  | 0, n, ds, hn, h => by
    obtain rfl : n = 0 := by omega
    rw [Fits] at h; exact h.elim
  | N + 1, n, ds, hn, h => by
    obtain ⟨m, parts, rfl, rfl, hl, hp⟩ := fits_struct Try.underlying38 h
    match parts, hl with
    | [p1, p2], _ =>
      obtain ⟨s, rfl⟩ := fits_string Try.underlying9 (hp 0 _ p1 rfl rfl)
      obtain ⟨m', xs, rfl, rfl, hx⟩ := fits_slice Try.underlying36 (hp 1 _ p2 rfl rfl)
      obtain ⟨l, rfl⟩ := list_of SX.cells xs fun y hy => fits_SExpr N m' y (by omega) (hx y hy)
      exact ⟨.mk s l, by rw [SX.cells, SX.rows_map, cellsOf_SExpr]; rfl⟩
theorem sx_arg {H : Type} {enc : TypeId × Value → H} {w : World} {base : Nat} {spare : Nat → Bool} {held : Bool} {fuel : Nat} {cs : List Value} {y : DataW H × List MemPlace} (h : DataW.trod enc Try.prog w base spare held fuel 38 cs = some y) :
    ∃ x : SX, SxAt w (Und w.heap.size) x (.agg cs.toArray) ∧ DV.okL x.cells := by
  obtain ⟨ds, h1, h2, h3⟩ := trod_fits (φ := toImplX) sxG_ok fuel fuel _ _ _ (Nat.le_refl _) (.inl rfl) h
  obtain ⟨x, rfl⟩ := fits_SExpr fuel fuel ds (Nat.le_refl _) h1
  exact ⟨x, SxAt.of_reads h2, h3⟩
mutual
theorem ok_cells : ∀ x : SX, DV.okL x.cells → x.ok
  | .mk a l, h => by
    rw [SX.cells] at h
    simp only [DV.okL, DV.ok, uok, SX.rows_length, and_true] at h
    rw [SX.ok]
    exact ⟨h.1, h.2.1, okE_cells l h.2.2⟩
theorem okE_cells : ∀ l : List SX, DV.okE (SX.rows l) → SX.okL l
  | [], _ => by rw [SX.okL]; trivial
  | x :: r, h => by
    rw [SX.rows, DV.okE] at h
    rw [SX.okL]
    exact ⟨ok_cells x h.1, okE_cells r h.2⟩
end
end Go.Proofs.Ytbnfdjhcakimhaa

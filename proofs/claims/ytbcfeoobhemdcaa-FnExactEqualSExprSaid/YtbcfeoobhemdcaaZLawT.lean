/- What the laws over types share. -/
import Derived.Test.YtbcfeoobhemdcaaZTypeSz
import Derived.Test.YtbcfeoobhemdcaaZTypeTo
import Derived.Test.YtbcfeoobhemdcaaZTypeEq
import Derived.Test.YtbcfeoobhemdcaaZTySize
import Derived.Test.YtbcfeoobhemdcaaQ1
import Derived.Deep.RegionWith
namespace Go.Proofs.Ytbcfeoobhemdcaa
open Go.RowKit Go.Lib

mutual
theorem TypeX.size_wt : ∀ x : TypeX, x.size ≤ DV.wtL x.cells + 1
  | .mk a b c => by
    rw [TypeX.size, TypeX.cells]
    simp only [DV.wtL, DV.wt]
    have h := TypeX.sizeL_wt c
    omega
theorem TypeX.sizeL_wt : ∀ l : List TypeX, TypeX.sizeL l ≤ DV.wtE (TypeX.rows l)
  | [] => by rw [TypeX.sizeL]; omega
  | x :: r => by
    have h1 := TypeX.size_wt x
    have h2 := TypeX.sizeL_wt r
    rw [TypeX.sizeL, TypeX.rows, DV.wtE]; omega
end
/-- A new type reads as one. -/
theorem made_type {x : TypeX} {w w' : World} {e : Ending} (h : MadeV x.cells w e w') : ∃ (A : Option Addr) (c : Nat), e = .returned (.agg #[.int .i64 x.kind_, .string x.name_, .slice A x.args_.length c]) ∧ TypeRow w' (Und w'.heap.size) A c x.args_ ∧ Below w.heap.size w w' := by
  obtain ⟨vs, bs, rfl, ho, _, hb⟩ := h
  obtain ⟨A, c, e, hr⟩ := TypeAt.of_reads (OwVs_read (P := Und w'.heap.size) x.cells (fun b hb' => (OwVs_lt x.cells ho b hb').2) ho)
  exact ⟨A, c, by rw [e], hr, hb⟩
theorem cells3 {w : World} {g : Nat} {t : TypeId} {a b c : Value} (h : Whole w g t #[a, b, c]) : w.cell? ⟨g, 0, none⟩ = some a ∧ w.cell? ⟨g, 1, none⟩ = some b ∧ w.cell? ⟨g, 2, none⟩ = some c :=
  ⟨by rw [h.cell]; rfl, by rw [h.cell]; rfl, by rw [h.cell]; rfl⟩
theorem whole_keep {w w' : World} {g : Nat} {t : TypeId} {cs : Array Value} (h : Whole w g t cs) (hb : Below w.heap.size w w') : Whole w' g t cs := h.below hb h.lt
theorem TypeRow.drew_ {w : World} {A : Option Addr} {c : Nat} {l : List TypeX} (h : TypeRow w (Und w.heap.size) A c l) : TypeRow w.drew (Und w.drew.heap.size) A c l := h.frame (fun _ h => h) fun _ _ _ => rfl
end Go.Proofs.Ytbcfeoobhemdcaa

/- The draw of a substitution. -/
import Derived.Test.YtngbilblddngcaaDoorZRowB
namespace Go.Proofs.YtngbilblddngcaaDoor
open Go.RowKit Go.Lib

def bindWords : List ByteArray := [⟨#[97]⟩, ⟨#[98]⟩, ⟨#[99]⟩]
theorem bindWords_one {s : ByteArray} (h : s ∈ bindWords) : s.size = 1 := by
  simp only [bindWords, List.mem_cons, List.not_mem_nil, or_false] at h
  rcases h with rfl | rfl | rfl <;> rfl
/-- Small bindings, as the draws make them. -/
def OkBs (l : List BindingX) : Prop := ∀ b ∈ l, b.var_.size = 1 ∧ b.type_.size ≤ 100 ∧ b.type_.tame
theorem OkBs.snoc {l : List BindingX} {b : BindingX} (h : OkBs l) (h1 : b.var_.size = 1) (h2 : b.type_.size ≤ 100) (h3 : b.type_.tame) : OkBs (l ++ [b]) := fun y hy => by
  rcases List.mem_append.1 hy with hy | hy
  · exact h y hy
  · rw [List.mem_singleton.1 hy]; exact ⟨h1, h2, h3⟩
/-- What the draw of a substitution leaves. -/
def DrawnBs (G : Nat → Prop) (B g : Nat) (w : World) (e : Ending) (w' : World) : Prop := ∃ (l : List BindingX) (A : Option Addr) (c : Nat), e = .returned (.slice A l.length c) ∧ BindingRow w' (fun b => b < w'.heap.size ∧ ¬ G b) A c l ∧ l.length ≤ 4 ∧ OkBs l ∧ Cur w' B g ∧ But g w w'

end Go.Proofs.YtngbilblddngcaaDoor

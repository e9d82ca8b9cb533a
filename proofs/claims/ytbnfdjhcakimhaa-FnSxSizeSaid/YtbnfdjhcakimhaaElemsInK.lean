/- impl.preorder over expressions, the parts from elementsOfList: what ranges over its value. -/
import Derived.Test.YtbnfdjhcakimhaaElemsIn
import Derived.Test.YtbnfdjhcakimhaaPreSxK
namespace Go.Proofs.Ytbnfdjhcakimhaa
open Go.RowKit Go.Shelf Go.Lib
attribute [local go_sem] Oper.semAt_some

/-- Behind a call of preorder (in w0): what ranges over its value. -/
theorem elemsInK_seq (x : SX) (A : Option Addr) (c n₀ : Nat) (w0 : World) (hn : n₀ ≤ w0.heap.size) (hx : SxRow w0 (Und n₀) A c x.list) (hsz : (x.walkK 0).length ≤ 4294967296) :
    SeqM Fence.wide 3 Try.prog 74 #[.pointer (some ⟨w0.heap.size, 0, none⟩), .pointer (some ⟨w0.heap.size + 1, 0, none⟩)] SxIt.enc
      (fun pre y => (∃ rest, x.walkK 0 = (pre ++ [y]).map SxIt.key ++ rest) ∧ SxRow (elemsInW w0 55 x.atom A x.list.length c) (Und n₀) y.2.2.1 y.2.2.2 y.2.1.list) (fun xs => xs.map SxIt.key = x.walkK 0) n₀ (fun b => w0.heap.size ≤ b ∧ b < w0.heap.size + 2) (elemsInW w0 55 x.atom A x.list.length c) := by
  have hb := elemsInW_below w0 55 x.atom A x.list.length c
  have hs := elemsInW_size w0 55 x.atom A x.list.length c
  refine preSxK_seq x A c w0.heap.size (w0.heap.size + 1) n₀ _ _ (by constructor <;> omega) (by omega) (by omega) ?_ ?_ (by omega) (hx.frame (fun _ h => h) fun b o hP => hb.cell (p := ⟨b, o, none⟩) (Nat.lt_of_lt_of_le hP hn)) hsz
  · exact (Whole.new w0 26 #[.string x.atom, .slice A x.list.length c]).below ((Below.refl (w0.heap.size + 1) _).alloc (by simp) (.cells #[.func (.func 55) #[] #[]] 52)) (by simp)
  · have h := Whole.new (w0.alloc (.cells #[.string x.atom, .slice A x.list.length c] 26)) 52 #[.func (.func 55) #[] #[]]
    rw [World.size_alloc] at h
    exact (h.cell 0).trans rfl
end Go.Proofs.Ytbnfdjhcakimhaa

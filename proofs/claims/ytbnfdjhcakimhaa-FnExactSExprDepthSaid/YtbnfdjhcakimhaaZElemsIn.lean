/- impl.preorder over expressions: the iterator's value, and its contract. -/
import Derived.Test.YtbnfdjhcakimhaaZPreSx
namespace Go.Proofs.Ytbnfdjhcakimhaa
open Go.RowKit Go.Shelf Go.Lib
attribute [local go_sem] Oper.semAt_some

/-- What lies behind a call of preorder. -/
def elemsInW (w : World) (p : Nat) (s : ByteArray) (A : Option Addr) (n c : Nat) : World :=
  (w.alloc (.cells #[.string s, .slice A n c] 26)).alloc (.cells #[.func (.func p) #[] #[]] 52)
abbrev elemsInV (b : Nat) : Value := .func (.func 74) #[] #[.pointer (some ⟨b, 0, none⟩), .pointer (some ⟨b + 1, 0, none⟩)]
set_option maxRecDepth 100000 in
set_option maxHeartbeats 2000000 in
theorem implPreorderX (s : ByteArray) (A : Option Addr) (n c p : Nat) (w : World) :
    Calls Try.prog 54 #[.agg #[.string s, .slice A n c], .func (.func p) #[] #[]] w fun e w' => e = .returned (elemsInV w.heap.size) ∧ w' = elemsInW w p s A n c := by
  go_enter Try.func54, Try.ntmps54
  go_wp2
  go_ret
  exact ⟨rfl, rfl⟩
theorem elemsInW_size (w : World) (p : Nat) (s : ByteArray) (A : Option Addr) (n c : Nat) : (elemsInW w p s A n c).heap.size = w.heap.size + 2 := by simp [elemsInW]
theorem elemsInW_below (w : World) (p : Nat) (s : ByteArray) (A : Option Addr) (n c : Nat) : Below w.heap.size w (elemsInW w p s A n c) := ((Below.refl _ _).alloc (Nat.le_refl _) _).alloc (by simp) _
/-- Behind a call of preorder (in w0): what ranges over its value. -/
theorem elemsIn_seq (x : SX) (A : Option Addr) (c n₀ : Nat) (w0 : World) (hn : n₀ ≤ w0.heap.size) (hx : SxRow w0 (Und n₀) A c x.list) (hsz : (x.walk 0).length ≤ 4294967296) :
    SeqM Fence.wide 3 Try.prog 74 #[.pointer (some ⟨w0.heap.size, 0, none⟩), .pointer (some ⟨w0.heap.size + 1, 0, none⟩)] SxIt.enc
      (fun pre y => (∃ rest, x.walk 0 = (pre ++ [y]).map SxIt.key ++ rest) ∧ SxRow (elemsInW w0 48 x.atom A x.list.length c) (Und n₀) y.2.2.1 y.2.2.2 y.2.1.list) (fun xs => xs.map SxIt.key = x.walk 0) n₀ (fun b => w0.heap.size ≤ b ∧ b < w0.heap.size + 2) (elemsInW w0 48 x.atom A x.list.length c) := by
  have hb := elemsInW_below w0 48 x.atom A x.list.length c
  have hs := elemsInW_size w0 48 x.atom A x.list.length c
  refine preSx_seq x A c w0.heap.size (w0.heap.size + 1) n₀ _ _ (by constructor <;> omega) (by omega) (by omega) ?_ ?_ (by omega) (hx.frame (fun _ h => h) fun b o hP => hb.cell (p := ⟨b, o, none⟩) (Nat.lt_of_lt_of_le hP hn)) hsz
  · exact (Whole.new w0 26 #[.string x.atom, .slice A x.list.length c]).below ((Below.refl (w0.heap.size + 1) _).alloc (by simp) (.cells #[.func (.func 48) #[] #[]] 52)) (by simp)
  · have h := Whole.new (w0.alloc (.cells #[.string x.atom, .slice A x.list.length c] 26)) 52 #[.func (.func 48) #[] #[]]
    rw [World.size_alloc] at h
    exact (h.cell 0).trans rfl
end Go.Proofs.Ytbnfdjhcakimhaa

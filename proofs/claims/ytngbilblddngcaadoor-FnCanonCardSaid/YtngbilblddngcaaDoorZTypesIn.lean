/- impl.typesIn: the iterator's value, and its contract. -/
import Derived.Test.YtngbilblddngcaaDoorZPreType
namespace Go.Proofs.YtngbilblddngcaaDoor
open Go.RowKit Go.Shelf Go.Lib
attribute [local go_sem] Oper.semAt_some

/-- What lies behind a call of typesIn. -/
def typesInW (w : World) (k : Int) (s : ByteArray) (A : Option Addr) (n c : Nat) : World :=
  ((w.alloc (.cells #[.int .i64 k, .string s, .slice A n c] 26)).alloc (.cells #[.int .i64 k, .string s, .slice A n c] 26)).alloc (.cells #[.func (.func 60) #[] #[]] 81)
abbrev typesInV (b : Nat) : Value := .func (.func 82) #[] #[.pointer (some ⟨b + 1, 0, none⟩), .pointer (some ⟨b + 2, 0, none⟩)]

set_option maxRecDepth 100000 in
set_option maxHeartbeats 2000000 in
theorem implPreorder (k : Int) (s : ByteArray) (A : Option Addr) (n c p : Nat) (w : World) :
    Calls Tryd.prog 78 #[.agg #[.int .i64 k, .string s, .slice A n c], .func (.func p) #[] #[]] w fun e w' => e = .returned (.func (.func 82) #[] #[.pointer (some ⟨w.heap.size, 0, none⟩), .pointer (some ⟨w.heap.size + 1, 0, none⟩)]) ∧
      w' = (w.alloc (.cells #[.int .i64 k, .string s, .slice A n c] 26)).alloc (.cells #[.func (.func p) #[] #[]] 81) := by
  go_enter Tryd.func78, Tryd.ntmps78
  go_wp2
  go_ret
  exact ⟨rfl, rfl⟩
set_option maxRecDepth 100000 in
set_option maxHeartbeats 2000000 in
theorem implTypesIn (k : Int) (s : ByteArray) (A : Option Addr) (n c : Nat) (w : World) :
    Calls Tryd.prog 66 #[.agg #[.int .i64 k, .string s, .slice A n c]] w fun e w' => e = .returned (typesInV w.heap.size) ∧ w' = typesInW w k s A n c := by
  go_enter Tryd.func66, Tryd.ntmps66
  go_wp2_with fail
  refine (implPreorder _ _ _ _ _ _ _).mono ?_
  rintro e w' ⟨rfl, rfl⟩
  go_wp2
  go_ret
  exact ⟨by simp, rfl⟩
theorem typesInW_size (w : World) (k : Int) (s : ByteArray) (A : Option Addr) (n c : Nat) : (typesInW w k s A n c).heap.size = w.heap.size + 3 := by simp [typesInW]
theorem typesInW_below (w : World) (k : Int) (s : ByteArray) (A : Option Addr) (n c : Nat) : Below w.heap.size w (typesInW w k s A n c) :=
  (((Below.refl _ _).alloc (Nat.le_refl _) _).alloc (by simp) _).alloc (by simp; omega) _

/-- Behind a call of typesIn (in w0): what ranges over its value. -/
theorem typesIn_seq (x : TypeX) (A : Option Addr) (c n₀ : Nat) (w0 : World) (hn : n₀ ≤ w0.heap.size) (hx : TypeRow w0 (Und n₀) A c x.args_) (hsz : (x.walk 0).length ≤ 4294967296) :
    SeqM Fence.wide 3 Tryd.prog 82 #[.pointer (some ⟨w0.heap.size + 1, 0, none⟩), .pointer (some ⟨w0.heap.size + 2, 0, none⟩)] TypeIt.enc
      (fun pre y => (∃ rest, x.walk 0 = (pre ++ [y]).map TypeIt.key ++ rest) ∧ TypeRow (typesInW w0 x.kind_ x.name_ A x.args_.length c) (Und n₀) y.2.2.1 y.2.2.2 y.2.1.args_) (fun xs => xs.map TypeIt.key = x.walk 0) n₀ (fun b => w0.heap.size ≤ b ∧ b < w0.heap.size + 3) (typesInW w0 x.kind_ x.name_ A x.args_.length c) := by
  have hb := typesInW_below w0 x.kind_ x.name_ A x.args_.length c
  have hs := typesInW_size w0 x.kind_ x.name_ A x.args_.length c
  refine preType_seq x A c (w0.heap.size + 1) (w0.heap.size + 2) n₀ _ _ (by constructor <;> omega) (by omega) (by omega) ?_ ?_ (by omega) (hx.frame (fun _ h => h) fun b o hP => hb.cell (p := ⟨b, o, none⟩) (Nat.lt_of_lt_of_le hP hn)) hsz
  · have h := (Whole.new (w0.alloc (.cells #[.int .i64 x.kind_, .string x.name_, .slice A x.args_.length c] 26)) 26 #[.int .i64 x.kind_, .string x.name_, .slice A x.args_.length c]).below ((Below.refl (w0.heap.size + 2) _).alloc (by simp) (.cells #[.func (.func 60) #[] #[]] 81)) (by simp)
    rw [World.size_alloc] at h
    exact h
  · have h := Whole.new ((w0.alloc (.cells #[.int .i64 x.kind_, .string x.name_, .slice A x.args_.length c] 26)).alloc (.cells #[.int .i64 x.kind_, .string x.name_, .slice A x.args_.length c] 26)) 81 #[.func (.func 60) #[] #[]]
    rw [World.size_alloc, World.size_alloc] at h
    exact (h.cell 0).trans rfl
end Go.Proofs.YtngbilblddngcaaDoor

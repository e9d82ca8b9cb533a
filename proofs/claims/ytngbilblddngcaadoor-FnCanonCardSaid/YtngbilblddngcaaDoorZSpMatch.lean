/- The reference model's matching. -/
import Derived.Test.YtngbilblddngcaaDoorQ2
import Derived.Test.YtngbilblddngcaaDoorZSpLook
import Derived.Test.YtngbilblddngcaaDoorZSpCopy
import Derived.Test.YtngbilblddngcaaDoorQ1
import Derived.Test.YtngbilblddngcaaDoorZLawK2
import Derived.Deep.RegionHeld3
import Derived.Deep.RegionLaw
import Derived.Deep.AppendLies
namespace Go.Proofs.YtngbilblddngcaaDoor
open Go.RowKit Go.Lib

/-- What matching leaves: the bindings, a row of the call's own, where it succeeds. -/
def MatPost (B : Nat) (o : Option (List BindingX)) (w : World) (e : Ending) (w' : World) : Prop :=
  ∃ V, e = .returned (.tuple #[V, .bool o.isSome]) ∧ (∀ a2, o = some a2 → KeptAt B a2 V w') ∧ Below B w w'
theorem KeptAt.shape {B : Nat} {acc : List BindingX} {V : Value} {w : World} (h : KeptAt B acc V w) : ∃ A c, V = .slice A acc.length c := by
  obtain ⟨vs, bs, h1, _, _⟩ := h
  exact own_nil h1
theorem KeptAt.reads {B n c : Nat} {acc : List BindingX} {A : Option Addr} {w : World} (h : KeptAt B acc (.slice A n c) w) : BindingRow w (Und w.heap.size) A c acc := by
  obtain ⟨bs, hrow, _⟩ := h.row
  have hr := OwV_read (P := Und w.heap.size) _ (fun b hb => (OwV_lt _ hrow b hb).2) hrow
  obtain ⟨A', c', e, h2⟩ := BindingRow.of_read hr
  injection e with e1 _ e3
  subst e1 e3
  exact h2
theorem sizeL_takes : ∀ (l : List TypeX) (k : Nat), TypeX.sizeL (l.take k) ≤ TypeX.sizeL l
  | [], k => by rw [List.take_nil]; exact Nat.le_refl _
  | x :: r, 0 => by rw [List.take_zero, TypeX.sizeL]; exact Nat.zero_le _
  | x :: r, k + 1 => by have := sizeL_takes r k; rw [List.take_succ_cons, TypeX.sizeL, TypeX.sizeL]; omega
theorem sizeL_step : ∀ (l : List TypeX) (k : Nat) (h : k < l.length), TypeX.sizeL (l.take (k + 1)) = TypeX.sizeL (l.take k) + l[k].size
  | x :: r, 0, _ => by simp [TypeX.sizeL]
  | x :: r, k + 1, h => by
    have := sizeL_step r k (by simpa using h)
    rw [List.take_succ_cons, List.take_succ_cons, TypeX.sizeL, TypeX.sizeL, this, List.getElem_cons_succ]; omega

end Go.Proofs.YtngbilblddngcaaDoor

/- Rows of the call's own that serve as a stack; rows of lists that were there before. -/
import Derived.Test.YtbcfeoobhemdcaaZSxRows
import Derived.Test.YtbcfeoobhemdcaaQ1
import Derived.Laws.OwnMore
namespace Go.Proofs.Ytbcfeoobhemdcaa
open Go.RowKit Go.Lib

/-- The cells vs are these lists, one after another. -/
def Lists (w : World) (P : Nat → Prop) : List (List SX) → List Value → Prop
  | [], vs => vs = []
  | l :: r, vs => ∃ A c rest, vs = .slice A l.length c :: rest ∧ ListAt w P A l ∧ Lists w P r rest
theorem Lists.length {w : World} {P : Nat → Prop} : ∀ {st : List (List SX)} {vs : List Value}, Lists w P st vs → vs.length = st.length
  | [], vs, h => by rw [Lists] at h; subst h; rfl
  | l :: r, vs, h => by
    obtain ⟨A, c, rest, rfl, _, h2⟩ := h
    rw [List.length_cons, List.length_cons, h2.length]
theorem Lists.snoc {w : World} {P : Nat → Prop} : ∀ {st : List (List SX)} {vs : List Value}, Lists w P st vs → ∀ {l : List SX} {A : Option Addr} {c : Nat}, ListAt w P A l → Lists w P (st ++ [l]) (vs ++ [.slice A l.length c])
  | [], vs, h, l, A, c, hl => by
    rw [Lists] at h; subst h
    exact ⟨A, c, [], rfl, hl, rfl⟩
  | y :: r, vs, h, l, A, c, hl => by
    obtain ⟨A', c', rest, rfl, h1, h2⟩ := h
    exact ⟨A', c', rest ++ _, rfl, h1, h2.snoc hl⟩
theorem Lists.last {w : World} {P : Nat → Prop} : ∀ {st : List (List SX)} {l : List SX} {vs : List Value}, Lists w P (st ++ [l]) vs → ∃ vs0 A c, vs = vs0 ++ [.slice A l.length c] ∧ Lists w P st vs0 ∧ ListAt w P A l
  | [], l, vs, h => by
    obtain ⟨A', c', rest, rfl, h1, h2⟩ := h
    rw [Lists] at h2; subst h2
    exact ⟨[], A', c', rfl, rfl, h1⟩
  | y :: r, l, vs, h => by
    obtain ⟨A', c', rest, rfl, h1, h2⟩ := h
    obtain ⟨vs0, A, c, rfl, h3, h4⟩ := Lists.last (st := r) h2
    exact ⟨_ :: vs0, A, c, rfl, ⟨A', c', vs0, rfl, h1, h3⟩, h4⟩
end Go.Proofs.Ytbcfeoobhemdcaa

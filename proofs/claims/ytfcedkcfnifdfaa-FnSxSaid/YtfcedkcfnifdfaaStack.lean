/- Rows of the call's own that serve as a stack; rows of lists that were there before. -/
import Derived.Test.YtfcedkcfnifdfaaSxRows
import Derived.Laws.OwnMore
namespace Go.Proofs.Ytfcedkcfnifdfaa
open Go.RowKit Go.Lib

/-- The last element taken off a row of the call's own. -/
theorem own_pop {w : World} {B g cap n size : Nat} {e : TypeId} {xs ys : List Value} (h : w.ownsRow B e size (.slice (some ⟨g, 0, none⟩) (n + 1) cap) (n + 1) (xs ++ ys)) (hx : xs.length = n * size) (_hy : ys.length = size) :
    w.ownsRow B e size (.slice (some ⟨g, 0, none⟩) n cap) n xs ∧ (∀ j, j < size → w.cell? ⟨g, n * size + j, none⟩ = ys[j]?) ∧ n + 1 ≤ cap ∧ cap ≤ maxLen ∧ B ≤ g ∧ g < w.heap.size := by
  have hc : ∀ j, j < size → w.cell? ⟨g, n * size + j, none⟩ = ys[j]? := fun j hj => by
    rw [World.ownsRow.cellAt h _ (by rw [Nat.add_mul]; omega), List.getElem?_append_right (by omega)]
    congr 1
    omega
  have hlt := h.lt g rfl
  rcases h.2 with ⟨h', _⟩ | ⟨g', cap', cur, h', hb, hg, hnc, hcm, hcs, htake⟩
  · simp at h'
  · simp only [Value.slice.injEq, Option.some.injEq, Addr.mk.injEq, and_true, true_and] at h'
    obtain ⟨rfl, rfl⟩ := h'
    refine ⟨⟨hx, .inr ⟨g, cap, cur, rfl, hb, hg, by omega, hcm, hcs, ?_⟩⟩, hc, hnc, hcm, hb, hlt.2⟩
    have h2 := congrArg (List.take (n * size)) htake
    rw [List.take_take, Nat.min_eq_left (Nat.mul_le_mul_right _ (by omega)), List.take_append_of_le_length (by omega), List.take_of_length_le (l := xs) (by omega)] at h2
    exact h2
theorem own_nil {w : World} {B size : Nat} {e : TypeId} {v : Value} {n : Nat} {xs : List Value} (h : w.ownsRow B e size v n xs) : ∃ A c, v = .slice A n c := by
  rcases h.2 with ⟨rfl, rfl⟩ | ⟨g, cap, cur, rfl, _⟩
  · exact ⟨_, _, rfl⟩
  · exact ⟨_, _, rfl⟩
theorem own_some {w : World} {B size : Nat} {e : TypeId} {v : Value} {n : Nat} {xs : List Value} (h : w.ownsRow B e size v (n + 1) xs) : ∃ g c, v = .slice (some ⟨g, 0, none⟩) (n + 1) c := by
  rcases h.2 with ⟨_, h0⟩ | ⟨g, cap, cur, rfl, _⟩
  · omega
  · exact ⟨_, _, rfl⟩

/-- The cells vs are these lists, one after another. -/
def Lists (w : World) (P : Nat → Prop) : List (List SX) → List Value → Prop
  | [], vs => vs = []
  | l :: r, vs => ∃ A c rest, vs = .slice A l.length c :: rest ∧ ListAt w P A l ∧ Lists w P r rest
theorem Lists.length {w : World} {P : Nat → Prop} : ∀ {st : List (List SX)} {vs : List Value}, Lists w P st vs → vs.length = st.length
  | [], vs, h => by rw [Lists] at h; subst h; rfl
  | l :: r, vs, h => by
    obtain ⟨A, c, rest, rfl, _, h2⟩ := h
    rw [List.length_cons, List.length_cons, h2.length]
theorem Lists.snoc {w : World} {P : Nat → Prop} : ∀ {st : List (List SX)} {vs : List Value}, Lists w P st vs → ∀ {l : List SX} {A : Option Addr} {c : Nat}, ListAt w P A l → Lists w P (st ++ [l]) (vs ++ [.slice A l.length c])
  | [], vs, h, l, A, c, hl => by
    rw [Lists] at h; subst h
    exact ⟨A, c, [], rfl, hl, rfl⟩
  | y :: r, vs, h, l, A, c, hl => by
    obtain ⟨A', c', rest, rfl, h1, h2⟩ := h
    exact ⟨A', c', rest ++ _, rfl, h1, h2.snoc hl⟩
theorem Lists.last {w : World} {P : Nat → Prop} : ∀ {st : List (List SX)} {l : List SX} {vs : List Value}, Lists w P (st ++ [l]) vs → ∃ vs0 A c, vs = vs0 ++ [.slice A l.length c] ∧ Lists w P st vs0 ∧ ListAt w P A l
  | [], l, vs, h => by
    obtain ⟨A', c', rest, rfl, h1, h2⟩ := h
    rw [Lists] at h2; subst h2
    exact ⟨[], A', c', rfl, rfl, h1⟩
  | y :: r, l, vs, h => by
    obtain ⟨A', c', rest, rfl, h1, h2⟩ := h
    obtain ⟨vs0, A, c, rfl, h3, h4⟩ := Lists.last (st := r) h2
    exact ⟨_ :: vs0, A, c, rfl, ⟨A', c', vs0, rfl, h1, h3⟩, h4⟩
theorem one_slice (A : Option Addr) (n c : Nat) : ∀ u ∈ [Value.slice A n c], u.oneCell' = true := by
  intro u hu
  simp at hu
  subst hu
  rfl
theorem concat_cases {α : Type} (st : List α) : st = [] ∨ ∃ st0 l, st = st0 ++ [l] := by
  rcases List.eq_nil_or_concat st with h | ⟨a, b, h⟩
  · exact .inl h
  · exact .inr ⟨a, b, by rw [h, List.concat_eq_append]⟩
end Go.Proofs.Ytfcedkcfnifdfaa

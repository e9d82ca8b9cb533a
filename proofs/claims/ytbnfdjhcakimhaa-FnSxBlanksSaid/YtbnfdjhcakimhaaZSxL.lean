/- A list read with its capacities reads as a list. -/
import Derived.Test.YtbnfdjhcakimhaaZSxD
namespace Go.Proofs.Ytbnfdjhcakimhaa
open Go.RowKit Go.Lib

theorem list_ofRd {w : World} {P : Nat → Prop} (l : List SX) (k : ∀ (b o : Nat) (vs : List Value), RdVE w P 2 (SX.rows l) vs → (∀ i v, vs[i]? = some v → w.cell? ⟨b, o + i, none⟩ = some v) → RdE w P l b o) {A : Option Addr} {c : Nat} (h : SxRow w P A c l) : ListAt w P A l := by
  rcases l with _ | ⟨x, r⟩
  · exact .inl rfl
  · obtain ⟨A', cap, e, h1, h2, h3⟩ := RdV_row.1 h
    injection e with e1 _ e3
    subst e1 e3
    rcases h3 with h3 | ⟨b, o, hA, hP, vs, hE, hc⟩
    · rw [SX.rows] at h3; cases h3
    · exact .inr ⟨b, o, hA, hP, k b o vs hE hc⟩
mutual
theorem SxRow_x {w : World} {P : Nat → Prop} : ∀ (x : SX) (b o : Nat) (vs : List Value), RdVE w P 2 (SX.rows x.list) vs → (∀ i v, vs[i]? = some v → w.cell? ⟨b, o + i, none⟩ = some v) → RdE w P x.list b o
  | .mk _ m => SxRow_rd m
theorem SxRow_rd {w : World} {P : Nat → Prop} : ∀ (l : List SX) (b o : Nat) (vs : List Value), RdVE w P 2 (SX.rows l) vs → (∀ i v, vs[i]? = some v → w.cell? ⟨b, o + i, none⟩ = some v) → RdE w P l b o
  | [], _, _, _, _, _ => by rw [RdE]; trivial
  | x :: r, b, o, vs, h, hc => by
    rw [SX.rows, RdVE] at h
    obtain ⟨u1, u2, rfl, hk, h1, h2⟩ := h
    rw [SX.cells_eq] at h1
    simp only [RdVs] at h1
    obtain ⟨v0, _, rfl, k0, v1, _, rfl, k1, rfl⟩ := h1
    rw [RdV_pl] at k0
    subst k0
    obtain ⟨A1, c1, rfl, k2⟩ := SxRow.of_read k1
    rw [RdE]
    exact ⟨RdX_iff.2 ⟨hc 0 _ rfl, A1, c1, hc 1 _ rfl, list_ofRd x.list (SxRow_x x) k2⟩, SxRow_rd r b (o + 2) u2 h2 fun i v hi => by
      have := hc (2 + i) v (by rw [List.getElem?_append_right (by simp)]; simpa using hi)
      rw [← Nat.add_assoc] at this
      exact this⟩
end
theorem SxRow_list {w : World} {P : Nat → Prop} {l : List SX} {A : Option Addr} {c : Nat} (h : SxRow w P A c l) : ListAt w P A l := list_ofRd l (SxRow_rd l) h
end Go.Proofs.Ytbnfdjhcakimhaa

/- A row of expressions of the call's own, apart from one block; one expression more. -/
import Derived.Test.YtbcfeoobhemdcaaZReadG
import Derived.Test.YtbcfeoobhemdcaaZOw
import Derived.Test.YtbcfeoobhemdcaaZDraw
namespace Go.Proofs.Ytbcfeoobhemdcaa
open Go.RowKit Go.Lib

/-- Blocks from B on that are there, neither the row's own nor X. -/
def Off (V : Value) (B X C : Nat) (b : Nat) : Prop := New B C b ∧ V.ownBlock ≠ some b ∧ b ≠ X
/-- V is a row of the call's own, from B on, and not X, that holds just these. -/
def RowX (B X : Nat) (V : Value) (acc : List SX) (w : World) : Prop :=
  ∃ vs, w.ownsRow B 26 2 V acc.length vs ∧ Elems w (Off V B X w.heap.size) acc vs ∧ V.ownBlock ≠ some X
theorem RowX.nil (B X : Nat) (w : World) : RowX B X (.slice none 0 0) [] w := ⟨[], World.ownsRow_nil _ _ _ _, rfl, by simp [Value.ownBlock]⟩
theorem RowX.shape {B X : Nat} {V : Value} {acc : List SX} {w : World} (h : RowX B X V acc w) : ∃ A c, V = .slice A acc.length c := by
  obtain ⟨vs, h1, _⟩ := h
  exact own_shape h1
theorem RowX.keep {B X : Nat} {V : Value} {acc : List SX} {w w' : World} (h : RowX B X V acc w) (hsz : w.heap.size ≤ w'.heap.size) (hk : ∀ b, B ≤ b → b < w.heap.size → b ≠ X → w'.heap[b]? = w.heap[b]?) : RowX B X V acc w' := by
  obtain ⟨vs, h1, h2, h3⟩ := h
  refine ⟨vs, own_same h1 fun b hb => hk b (h1.lt b hb).1 (h1.lt b hb).2 (fun e => h3 (by rw [hb, e])), h2.frame (fun b hP => ⟨⟨hP.1.1, by have := hP.1.2; omega⟩, hP.2⟩) (fun b o hP => World.cell?_of_block (a := ⟨b, o, none⟩) (hk b hP.1.1 hP.1.2 hP.2.2)), h3⟩
theorem RowX.below {B X : Nat} {V : Value} {acc : List SX} {w w' : World} (h : RowX B X V acc w) (hb : Below w.heap.size w w') : RowX B X V acc w' := h.keep hb.size fun b _ h2 _ => hb.block b h2
theorem RowX.but {B X k : Nat} {V : Value} {acc : List SX} {w w' : World} (h : RowX B X V acc w) (hb : But k w w') (hk : k < B ∨ k = X) : RowX B X V acc w' := h.keep hb.size fun b h1 h2 h3 => hb.block b h2 (by omega)
theorem RowX.list {B X : Nat} {A : Option Addr} {n c : Nat} {acc : List SX} {w : World} (h : RowX B X (.slice A n c) acc w) : ListAt w (fun b => New B w.heap.size b ∧ b ≠ X) A acc := by
  obtain ⟨vs, h1, h2, h3⟩ := h
  obtain ⟨A', c', hv, hl⟩ := list_own h1 (h2.frame (Q := fun b => New B w.heap.size b ∧ b ≠ X) (fun b hP => ⟨hP.1, hP.2.2⟩) fun _ _ _ => rfl) (fun b hb => ⟨⟨(h1.lt b hb).1, (h1.lt b hb).2⟩, fun e => h3 (by rw [hb, e])⟩)
  injection hv with hA _ _
  subst hA
  exact hl
/-- Further down, and apart from a block that is not there yet. -/
theorem RowX.wide {B B' X X' : Nat} {V : Value} {acc : List SX} {w : World} (h : RowX B X V acc w) (hB : B' ≤ B) (hX : X' < B ∨ w.heap.size ≤ X' ∨ X' = X) : RowX B' X' V acc w := by
  obtain ⟨vs, h1, h2, h3⟩ := h
  refine ⟨vs, ?_, h2.frame (fun b hP => ⟨⟨by have := hP.1.1; omega, hP.1.2⟩, hP.2.1, by have := hP.1.1; have := hP.1.2; have := hP.2.2; omega⟩) fun _ _ _ => rfl, ?_⟩
  · refine ⟨h1.1, ?_⟩
    rcases h1.2 with hn | ⟨g, cap, cur, rfl, hbg, rest⟩
    · exact .inl hn
    · exact .inr ⟨g, cap, cur, rfl, by omega, rest⟩
  · intro e
    have := h1.lt X' e
    rcases hX with h | h | h
    · omega
    · omega
    · subst h; exact h3 e
/-- One expression more. -/
theorem RowX.more_ {B X g' cap' : Nat} {V : Value} {acc : List SX} {w3 w4 : World} {y : SX} {A : Option Addr} {c : Nat} {vs : List Value} (hel : Elems w3 (Off V B X w3.heap.size) acc vs) (hVX : V.ownBlock ≠ some X) (hX : X < w3.heap.size ∨ ∃ k, X = w4.heap.size + k)
    (hl : ListAt w3 (Off V B X w3.heap.size) A y.list) (hsz4 : w3.heap.size ≤ w4.heap.size) (hn4 : ∀ b, b < w3.heap.size → V.ownBlock ≠ some b → w4.heap[b]? = w3.heap[b]?)
    (hown4 : w4.ownsRow B 26 2 (.slice (some ⟨g', 0, none⟩) (acc.length + 1) cap') (acc.length + 1) (vs ++ [.string y.atom, .slice A y.list.length c])) (hat : V.ownBlock = some g' ∨ w3.heap.size ≤ g') :
    RowX B X (.slice (some ⟨g', 0, none⟩) (acc.length + 1) cap') (acc ++ [y]) w4 := by
  have hne' : ∀ b, b < w3.heap.size → V.ownBlock ≠ some b → (Value.slice (some ⟨g', 0, none⟩) (acc.length + 1) cap').ownBlock ≠ some b := fun b hb hne e => by
    have e' : g' = b := by simpa [Value.ownBlock] using e
    rcases hat with h | h
    · exact hne (by rw [h, e'])
    · omega
  have step : ∀ b, Off V B X w3.heap.size b → Off (.slice (some ⟨g', 0, none⟩) (acc.length + 1) cap') B X w4.heap.size b := fun b hP => ⟨⟨hP.1.1, by have := hP.1.2; omega⟩, hne' b hP.1.2 hP.2.1, hP.2.2⟩
  refine ⟨_, by rw [List.length_append]; exact hown4, Elems.snoc ?_ ?_, ?_⟩
  · exact hel.frame step fun b o hP => World.cell?_of_block (a := ⟨b, o, none⟩) (hn4 b hP.1.2 hP.2.1)
  · exact hl.frame step fun b o hP => World.cell?_of_block (a := ⟨b, o, none⟩) (hn4 b hP.1.2 hP.2.1)
  · rcases hX with hX | ⟨k, rfl⟩
    · exact hne' X hX hVX
    · intro e
      have := (hown4.lt _ e).2
      omega
theorem RowX.more {B X g' cap' H : Nat} {V : Value} {acc : List SX} {w3 w4 : World} {y : SX} {A : Option Addr} {c : Nat} {vs : List Value} (hel : Elems w3 (Off V B X w3.heap.size) acc vs) (hVX : V.ownBlock ≠ some X) (hX : X < w3.heap.size)
    (hl : ListAt w3 (Off V B X w3.heap.size) A y.list) (hgrow : (w3.alloc (.cells #[.string y.atom, .slice A y.list.length c] 26)).grownBy w4 V.ownBlock)
    (hown4 : w4.ownsRow B 26 2 (.slice (some ⟨g', 0, none⟩) (acc.length + 1) cap') (acc.length + 1) (vs ++ [.string y.atom, .slice A y.list.length c])) (hat : V.ownBlock = some g' ∨ g' = H) (hH : w3.heap.size < H) :
    RowX B X (.slice (some ⟨g', 0, none⟩) (acc.length + 1) cap') (acc ++ [y]) w4 :=
  RowX.more_ hel hVX (.inl hX) hl (by have := hgrow.size; simp at this; omega) (fun b hb hne => (hgrow.block b (by simp; omega) (fun e => hne e.symm)).trans (Below.heap_alloc _ _ _ hb)) hown4 (hat.imp id fun h => by omega)
/-- What a row with its variable turns into when another expression is appended to the variable. -/
theorem cur_but {w w' : World} {B g k : Nat} (h : Cur w B g) (hb : But k w w') (hk : g < k) : Cur w' B g := by
  have hlt := h.lt
  have ho := h.own
  obtain ⟨A, n, c, i, x, hc⟩ := h
  refine ⟨A, n, c, i, x, ⟨hc.cells.but hb (by omega), ho, fun j hj => ?_, hc.size, hc.lo, hc.hi⟩⟩
  obtain ⟨b, o, z, hA, hl, h0, h1, hz⟩ := hc.bytes j hj
  exact ⟨b, o, z, hA, hl, h0, h1, (World.cell?_of_block (a := ⟨b, o + j, none⟩) (hb.block b (by omega) (by omega))).trans hz⟩
end Go.Proofs.Ytbcfeoobhemdcaa

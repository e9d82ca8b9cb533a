/- A row of expressions of the call's own, apart from one block; one expression more. -/
import Derived.Test.YtbnfdjhcakimhaaButX
import Derived.Test.YtbnfdjhcakimhaaSxL
import Derived.Test.YtbnfdjhcakimhaaDraw
namespace Go.Proofs.Ytbnfdjhcakimhaa
open Go.RowKit Go.Lib

theorem nodesLen : ∀ l : List SX, l.length ≤ SX.nodesL l
  | [] => by simp
  | x :: r => by have := nodesLen r; have := SX.nodes_eq x; rw [SX.nodesL, List.length_cons]; omega
/-- Blocks from B on that are there, neither the row's own nor X. -/
def Off (V : Value) (B X C : Nat) (b : Nat) : Prop := New B C b ∧ V.ownBlock ≠ some b ∧ b ≠ X
/-- The cells vs are these expressions, one after another, with their capacities. -/
def ElemsC (w : World) (P : Nat → Prop) (l : List SX) (vs : List Value) : Prop := RdVE w P 2 (SX.rows l) vs
theorem SxRow.empty' {w : World} {P : Nat → Prop} {A : Option Addr} {c : Nat} {r : List SX} (h : r = []) (hc : c ≤ 9223372036854775807) : SxRow w P A c r := by subst h; exact SxRow.nil _ _ _ _ hc
theorem ElemsC.frame {w w' : World} {P Q : Nat → Prop} {l : List SX} {vs : List Value} (h : ElemsC w P l vs) (hPQ : ∀ b, P b → Q b) (hk : ∀ b o, P b → w'.cell? ⟨b, o, none⟩ = w.cell? ⟨b, o, none⟩) : ElemsC w' Q l vs := RdVE_frame hPQ hk _ h
theorem ElemsC.nil (w : World) (P : Nat → Prop) : ElemsC w P [] [] := by rw [ElemsC, SX.rows, RdVE]
theorem RdVE_snocC {w : World} {P : Nat → Prop} {k : Nat} : ∀ {xs : List (List DV)} {vs : List Value}, RdVE w P k xs vs → ∀ {x : List DV} {v : List Value}, x.length = k → RdVs w P x v → RdVE w P k (xs ++ [x]) (vs ++ v)
  | [], vs, h, x, v, hk, hx => by
    rw [RdVE] at h
    subst h
    rw [List.nil_append, List.nil_append, RdVE]
    exact ⟨v, [], (List.append_nil v).symm, hk, hx, by rw [RdVE]⟩
  | y :: r, vs, h, x, v, hk, hx => by
    rw [RdVE] at h
    obtain ⟨v1, v2, rfl, hk1, h1, h2⟩ := h
    rw [List.cons_append, RdVE]
    exact ⟨v1, v2 ++ v, List.append_assoc _ _ _, hk1, h1, RdVE_snocC h2 hk hx⟩
theorem SxRow.reads {w : World} {P : Nat → Prop} {y : SX} {A : Option Addr} {c : Nat} (h : SxRow w P A c y.list) : RdVs w P y.cells [.string y.atom, .slice A y.list.length c] := by
  rw [SX.cells_eq]
  simp only [RdVs]
  exact ⟨_, _, rfl, by rw [RdV_pl], _, [], rfl, h, rfl⟩
theorem ElemsC.snoc {w : World} {P : Nat → Prop} {l : List SX} {vs : List Value} (h : ElemsC w P l vs) {x : SX} {A : Option Addr} {c : Nat} (hx : SxRow w P A c x.list) : ElemsC w P (l ++ [x]) (vs ++ [.string x.atom, .slice A x.list.length c]) := by
  rw [ElemsC, SX.rows_snoc]
  exact RdVE_snocC h (SX.cells_length x) hx.reads
/-- A row of the call's own that holds these reads as them. -/
theorem row_own {w : World} {P : Nat → Prop} {B : Nat} {A : Option Addr} {n c : Nat} {l : List SX} {vs : List Value} (h : w.ownsRow B 26 2 (.slice A n c) l.length vs) (he : ElemsC w P l vs) (hP : ∀ b, (Value.slice A n c).ownBlock = some b → P b) : SxRow w P A c l := by
  rcases h.2 with ⟨hv, h0⟩ | ⟨g, cap, cur, hv, _, hg, hn, hm, hs, ht⟩
  · injection hv with hA hn hc
    subst hA hn hc
    exact SxRow.empty' (List.eq_nil_of_length_eq_zero h0) (by decide)
  · injection hv with hA hn' hc
    subst hA hc hn'
    unfold maxLen at hm
    refine RdV_row.2 ⟨_, _, by rw [SX.rows_length], by rw [SX.rows_length]; exact hn, by omega, .inr ⟨g, 0, rfl, hP g rfl, vs, he, fun i v hi => ?_⟩⟩
    have hl := h.1
    rw [Nat.zero_add, World.ownsRow.cellAt h i (by have := (List.getElem?_eq_some_iff.1 hi).1; omega)]
    exact hi
/-- V is a row of the call's own, from B on, and not X, that holds just these. -/
def RowX (B X : Nat) (V : Value) (acc : List SX) (w : World) : Prop :=
  ∃ vs, w.ownsRow B 26 2 V acc.length vs ∧ ElemsC w (Off V B X w.heap.size) acc vs ∧ V.ownBlock ≠ some X
theorem RowX.nil (B X : Nat) (w : World) : RowX B X (.slice none 0 0) [] w := ⟨[], World.ownsRow_nil _ _ _ _, ElemsC.nil _ _, by simp [Value.ownBlock]⟩
theorem RowX.shape {B X : Nat} {V : Value} {acc : List SX} {w : World} (h : RowX B X V acc w) : ∃ A c, V = .slice A acc.length c := by
  obtain ⟨vs, h1, _⟩ := h
  exact own_shape h1
theorem RowX.keep {B X : Nat} {V : Value} {acc : List SX} {w w' : World} (h : RowX B X V acc w) (hsz : w.heap.size ≤ w'.heap.size) (hk : ∀ b, B ≤ b → b < w.heap.size → b ≠ X → w'.heap[b]? = w.heap[b]?) : RowX B X V acc w' := by
  obtain ⟨vs, h1, h2, h3⟩ := h
  refine ⟨vs, own_same h1 fun b hb => hk b (h1.lt b hb).1 (h1.lt b hb).2 (fun e => h3 (by rw [hb, e])), h2.frame (fun b hP => ⟨⟨hP.1.1, by have := hP.1.2; omega⟩, hP.2⟩) (fun b o hP => World.cell?_of_block (a := ⟨b, o, none⟩) (hk b hP.1.1 hP.1.2 hP.2.2)), h3⟩
theorem RowX.below {B X : Nat} {V : Value} {acc : List SX} {w w' : World} (h : RowX B X V acc w) (hb : Below w.heap.size w w') : RowX B X V acc w' := h.keep hb.size fun b _ h2 _ => hb.block b h2
theorem RowX.but {B X k : Nat} {V : Value} {acc : List SX} {w w' : World} (h : RowX B X V acc w) (hb : But k w w') (hk : k < B ∨ k = X) : RowX B X V acc w' := h.keep hb.size fun b h1 h2 h3 => hb.block b h2 (by omega)
theorem RowX.row {B X : Nat} {A : Option Addr} {n c : Nat} {acc : List SX} {w : World} (h : RowX B X (.slice A n c) acc w) : SxRow w (fun b => New B w.heap.size b ∧ b ≠ X) A c acc := by
  obtain ⟨vs, h1, h2, h3⟩ := h
  exact row_own h1 (h2.frame (Q := fun b => New B w.heap.size b ∧ b ≠ X) (fun b hP => ⟨hP.1, hP.2.2⟩) fun _ _ _ => rfl) (fun b hb => ⟨⟨(h1.lt b hb).1, (h1.lt b hb).2⟩, fun e => h3 (by rw [hb, e])⟩)
theorem RowX.list {B X : Nat} {A : Option Addr} {n c : Nat} {acc : List SX} {w : World} (h : RowX B X (.slice A n c) acc w) : ListAt w (fun b => New B w.heap.size b ∧ b ≠ X) A acc := SxRow_list h.row
/-- Further down, and apart from a block that is not there yet. -/
theorem RowX.wide {B B' X X' : Nat} {V : Value} {acc : List SX} {w : World} (h : RowX B X V acc w) (hB : B' ≤ B) (hX : X' < B ∨ w.heap.size ≤ X' ∨ X' = X) : RowX B' X' V acc w := by
  obtain ⟨vs, h1, h2, h3⟩ := h
  refine ⟨vs, ?_, h2.frame (fun b hP => ⟨⟨by have := hP.1.1; omega, hP.1.2⟩, hP.2.1, by have := hP.1.1; have := hP.1.2; have := hP.2.2; omega⟩) fun _ _ _ => rfl, ?_⟩
  · refine ⟨h1.1, ?_⟩
    rcases h1.2 with hn | ⟨g, cap, cur, rfl, hbg, rest⟩
    · exact .inl hn
    · exact .inr ⟨g, cap, cur, rfl, by omega, rest⟩
  · intro e
    have := h1.lt X' e
    rcases hX with h | h | h
    · omega
    · omega
    · subst h; exact h3 e
/-- One expression more. -/
theorem RowX.more_ {B X g' cap' : Nat} {V : Value} {acc : List SX} {w3 w4 : World} {y : SX} {A : Option Addr} {c : Nat} {vs : List Value} (hel : ElemsC w3 (Off V B X w3.heap.size) acc vs) (hVX : V.ownBlock ≠ some X) (hX : X < w3.heap.size ∨ ∃ k, X = w4.heap.size + k)
    (hl : SxRow w3 (Off V B X w3.heap.size) A c y.list) (hsz4 : w3.heap.size ≤ w4.heap.size) (hn4 : ∀ b, b < w3.heap.size → V.ownBlock ≠ some b → w4.heap[b]? = w3.heap[b]?)
    (hown4 : w4.ownsRow B 26 2 (.slice (some ⟨g', 0, none⟩) (acc.length + 1) cap') (acc.length + 1) (vs ++ [.string y.atom, .slice A y.list.length c])) (hat : V.ownBlock = some g' ∨ w3.heap.size ≤ g') :
    RowX B X (.slice (some ⟨g', 0, none⟩) (acc.length + 1) cap') (acc ++ [y]) w4 := by
  have hne' : ∀ b, b < w3.heap.size → V.ownBlock ≠ some b → (Value.slice (some ⟨g', 0, none⟩) (acc.length + 1) cap').ownBlock ≠ some b := fun b hb hne e => by
    have e' : g' = b := by simpa [Value.ownBlock] using e
    rcases hat with h | h
    · exact hne (by rw [h, e'])
    · omega
  have step : ∀ b, Off V B X w3.heap.size b → Off (.slice (some ⟨g', 0, none⟩) (acc.length + 1) cap') B X w4.heap.size b := fun b hP => ⟨⟨hP.1.1, by have := hP.1.2; omega⟩, hne' b hP.1.2 hP.2.1, hP.2.2⟩
  refine ⟨_, by rw [List.length_append]; exact hown4, ElemsC.snoc ?_ ?_, ?_⟩
  · exact hel.frame step fun b o hP => World.cell?_of_block (a := ⟨b, o, none⟩) (hn4 b hP.1.2 hP.2.1)
  · exact hl.frame step fun b o hP => World.cell?_of_block (a := ⟨b, o, none⟩) (hn4 b hP.1.2 hP.2.1)
  · rcases hX with hX | ⟨k, rfl⟩
    · exact hne' X hX hVX
    · intro e
      have := (hown4.lt _ e).2
      omega
theorem RowX.more {B X g' cap' H : Nat} {V : Value} {acc : List SX} {w3 w4 : World} {y : SX} {A : Option Addr} {c : Nat} {vs : List Value} (hel : ElemsC w3 (Off V B X w3.heap.size) acc vs) (hVX : V.ownBlock ≠ some X) (hX : X < w3.heap.size)
    (hl : SxRow w3 (Off V B X w3.heap.size) A c y.list) (hgrow : (w3.alloc (.cells #[.string y.atom, .slice A y.list.length c] 26)).grownBy w4 V.ownBlock)
    (hown4 : w4.ownsRow B 26 2 (.slice (some ⟨g', 0, none⟩) (acc.length + 1) cap') (acc.length + 1) (vs ++ [.string y.atom, .slice A y.list.length c])) (hat : V.ownBlock = some g' ∨ g' = H) (hH : w3.heap.size < H) :
    RowX B X (.slice (some ⟨g', 0, none⟩) (acc.length + 1) cap') (acc ++ [y]) w4 :=
  RowX.more_ hel hVX (.inl hX) hl (by have := hgrow.size; simp at this; omega) (fun b hb hne => (hgrow.block b (by simp; omega) (fun e => hne e.symm)).trans (Below.heap_alloc _ _ _ hb)) hown4 (hat.imp id fun h => by omega)
/-- What a row with its variable turns into when another expression is appended to the variable. -/
theorem cur_but {w w' : World} {B g k : Nat} (h : Cur w B g) (hb : But k w w') (hk : g < k) : Cur w' B g := by
  have hlt := h.lt
  have ho := h.own
  obtain ⟨A, n, c, i, x, hc⟩ := h
  refine ⟨A, n, c, i, x, ⟨hc.cells.but hb (by omega), ho, fun j hj => ?_, hc.size, hc.lo, hc.hi⟩⟩
  obtain ⟨b, o, z, hA, hl, h0, h1, hz⟩ := hc.bytes j hj
  exact ⟨b, o, z, hA, hl, h0, h1, (World.cell?_of_block (a := ⟨b, o + j, none⟩) (hb.block b (by omega) (by omega))).trans hz⟩
end Go.Proofs.Ytbnfdjhcakimhaa

/- Of a world that has turned but for one block: what stands. -/
import Derived.Test.YtbnfdjhcakimhaaSxRows
import Derived.Test.YtbnfdjhcakimhaaDraw
import Derived.Deep.RegionHeld3
import Derived.Deep.AppendLies
import Derived.Deep.DrawnRows
namespace Go.Proofs.Ytbnfdjhcakimhaa
open Go.RowKit Go.Lib

theorem Whole.but {w w' : World} {g h : Nat} {t : TypeId} {cs : Array Value} (hw : Whole w h t cs) (hb : But g w w') (hne : h ≠ g) : Whole w' h t cs := (hb.block h hw.lt hne).trans hw
theorem Whole.drewN_ {w : World} {h : Nat} {t : TypeId} {cs : Array Value} (hw : Whole w h t cs) (n : Nat) : Whole (w.drewN n) h t cs := hw
theorem Whole.of_alloc {w : World} {h : Nat} {t : TypeId} {cs : Array Value} (hw : Whole w h t cs) (o : Obj) : Whole (w.alloc o) h t cs := (Below.heap_alloc w o h hw.lt).trans hw
theorem But.far {g : Nat} {a w : World} (h : But g a w) {p : Addr} (hp : a.heap.size ≤ p.block) (v : Value) : But g a (w.setCell p v) := by
  obtain ⟨h1, h2, h3, h4, h5⟩ := h
  refine ⟨h1, h2, h3, by simpa using h4, fun k hk hne => ?_⟩
  rw [Below.heap_setCell _ _ _ _ (by omega)]
  exact h5 k hk hne
theorem But.alloc_ {g : Nat} {a w : World} (h : But g a w) (o : Obj) : But g a (w.alloc o) := h.trans (But.of_below ((Below.refl _ _).alloc (Nat.le_refl _) o))
theorem But.grown {g : Nat} {a w w' : World} {row : Option Nat} (h : But g a w) (hg : w.grownBy w' row) (hrow : ∀ k, row = some k → a.heap.size ≤ k) : But g a w' :=
  ⟨hg.os.trans h.os, hg.tape.trans h.tape, hg.output.trans h.output, Nat.le_trans h.size hg.size, fun k hk hne =>
    (hg.block k (Nat.lt_of_lt_of_le hk h.size) (fun e => by have := hrow k e.symm; omega)).trans (h.block k hk hne)⟩
theorem But.under {g : Nat} {a w : World} {o : Obj} (h : But g (a.alloc o) w) : But g a w := (But.of_below ((Below.refl _ _).alloc (Nat.le_refl _) o)).trans h
theorem own_shape {w : World} {B : Nat} {e : TypeId} {size n : Nat} {v : Value} {xs : List Value} (h : w.ownsRow B e size v n xs) : ∃ A c, v = .slice A n c := by
  rcases h.2 with ⟨rfl, rfl⟩ | ⟨g, cap, cur, rfl, _⟩
  · exact ⟨_, _, rfl⟩
  · exact ⟨_, _, rfl⟩
theorem own_but {w w' : World} {g B : Nat} {e : TypeId} {size n : Nat} {v : Value} {xs : List Value} (h : w.ownsRow B e size v n xs) (hb : But g w w') (hg : g < B) : w'.ownsRow B e size v n xs :=
  h.kept (row := some g) ⟨hb.os, hb.tape, hb.output, hb.size, fun k hk hne => hb.block k hk (fun e => hne (by rw [e]))⟩ (by
    cases hv : v.ownBlock with
    | none => exact .inl rfl
    | some b => exact .inr (by intro e; injection e with e; have := (h.lt b hv).1; omega))
theorem behind2 {X k : Nat} {w6 w7 : World} {V v : Value} {vs : List Value} {o : Obj} {e : TypeId} (hc : w6.cell? ⟨X, 1, none⟩ = some v) (hf : w6.frozen? ⟨X, 1, none⟩ = false) (hown : w6.ownsRow (X + 1) e 2 V k vs) (hX : X < w6.heap.size) (hg : (w6.alloc o).grownBy w7 V.ownBlock) :
    w7.cell? ⟨X, 1, none⟩ = some v ∧ w7.frozen? ⟨X, 1, none⟩ = false := by
  have hb : w7.heap[X]? = w6.heap[X]? := (hg.block X (by simp; omega) (fun e => by have := (hown.lt X e.symm).1; omega)).trans (Below.heap_alloc _ _ _ hX)
  exact ⟨(World.cell?_of_block (a := ⟨X, 1, none⟩) hb).trans hc, (World.frozen?_of_block (a := ⟨X, 1, none⟩) hb).trans hf⟩
end Go.Proofs.Ytbnfdjhcakimhaa

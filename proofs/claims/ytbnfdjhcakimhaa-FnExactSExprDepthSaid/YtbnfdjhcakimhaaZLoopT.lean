/- Small laws for the bodies of loops over an iterator. -/
import Derived.Test.YtbnfdjhcakimhaaZSeqM
import Derived.RangeFuncCalls
namespace Go.Proofs.Ytbnfdjhcakimhaa
open Go.RowKit
theorem boxed_below {W W' : World} {B : Nat} {t : TypeId} {v : Value} (h : Boxed W B t v) (hb : Below W.heap.size W W') : Boxed W' B t v := (hb.block _ h.lt).trans h
theorem boxed_far {W : World} {B b o : Nat} {t : TypeId} {v u : Value} (h : Boxed W B t v) (hne : B ≠ b) : Boxed (W.setCell ⟨b, o, none⟩ u) B t v := (Below.heap_setCell W _ u B hne).trans h
theorem boxed_bool {W : World} {B : Nat} {t : TypeId} {v : Value} {z z' : Bool} (h : Boxed W B t v) (e : z = z') : Boxed (W.setCell ⟨B, 0, none⟩ (.bool z)) B t (.bool z') := e ▸ h.set _
theorem boxed_putObj {W : World} {B l : Nat} {t : TypeId} {v : Value} {o : Obj} (h : Boxed W B t v) (hne : B ≠ l) : Boxed (W.putObj l o) B t v := (World.putObj_heap_other hne).trans h
theorem below_putObj {n₀ D : Nat} {w W : World} (h : Below n₀ w W) (o : Obj) (hn : n₀ ≤ w.heap.size) (hD : n₀ ≤ D) : Below n₀ w (W.putObj D o) :=
  h.grown (grownBy_putObj' W D o) (by have := h.size; omega) (fun k e => by cases e; exact hD)
theorem keepsFrom_set {W W' : World} {B b o : Nat} {u : Value} (h : KeepsFrom B W W') : KeepsFrom B W (W'.setCell ⟨b, o, none⟩ u) := h.trans ((KeepsOthers.setCell _ _ _).from _)
theorem keepsFrom_alloc {W W' : World} {B : Nat} {o : Obj} (h : KeepsFrom B W W') : KeepsFrom B W (W'.alloc o) := h.trans ((KeepsOthers.alloc _ _).from _)
end Go.Proofs.Ytbnfdjhcakimhaa

/- The draw of two types (l7Two): the second may be made out of the first. -/
import Derived.Test.YtngbilblddngcaaDoorZTwoSt
import Derived.Deep.RegionWith
import Derived.Deep.RegionLaw
import Derived.Deep.CutRange
namespace Go.Proofs.YtngbilblddngcaaDoor
open Go.RowKit Go.Lib

/-- What region 5 leaves: the second type in a box of its own. -/
def TwoBox (w : World) (B g N : Nat) (p : TypeX) (Bp : Nat) (A : Option Addr) (a : Nat) (X : Nat) (wc : World) : Prop :=
  TwoSt w B g N p Bp A a wc ∧ Bp < X ∧ ∃ (t : TypeX) (C : Option Addr) (c : Nat), Whole wc X 26 #[.int .i64 t.kind_, .string t.name_, .slice C t.args_.length c] ∧
    TypeRow wc (fun b => b < wc.heap.size ∧ ¬ OldG w g b ∧ b ≠ X) C c t.args_ ∧ t.size ≤ 1700 ∧ t.tame

/-- A box made ahead of its time: still empty. -/
def ZbT (E : World) (X : Nat) (u : World) : Prop := Whole u X 26 zeroT ∧ E.heap.size ≤ X
theorem ZbT.new {E u : World} (h : E.heap.size ≤ u.heap.size) : ZbT E u.heap.size (u.alloc (.cells zeroT 26)) := ⟨Whole.new _ _ _, h⟩
theorem ZbT.drew {E u : World} {X : Nat} (h : ZbT E X u) : ZbT E X u.drew := h
theorem ZbT.step {E u u' : World} {X : Nat} (h : ZbT E X u) (hb : Below u.heap.size u u') : ZbT E X u' := ⟨whole_keep h.1 hb, h.2⟩
theorem ZbT.but {E u u' : World} {X g : Nat} (h : ZbT E X u) (hb : But g u u') (hg : g < E.heap.size) : ZbT E X u' := ⟨whole_but h.1 hb (by have := h.2; omega), h.2⟩
theorem ZbT.lt {E u : World} {X : Nat} (h : ZbT E X u) : X < u.heap.size := h.1.lt
theorem twoRow {w wc : World} {g n X : Nat} {y : TypeX} {C : Option Addr} {c : Nat} (hr : RdV wc (Bet n wc.heap.size) (.row 26 3 (TypeX.rows y.args_)) (.slice C y.args_.length c)) (hn : w.heap.size + 2 ≤ n) (hg : g < n) (hX : X < n ∨ wc.heap.size ≤ X) :
    TypeRow wc (fun b => b < wc.heap.size ∧ ¬ OldG w g b ∧ b ≠ X) C c y.args_ :=
  RdV_frame (fun b h => ⟨h.2, fun h' => by
    have := h.1
    rcases h' with h' | h'
    · omega
    · omega, by have := h.1; have := h.2; omega⟩) (fun _ _ _ => rfl) _ hr
theorem twoBox_a {w w6 : World} {B g N Bp a n : Nat} {p y : TypeX} {A C : Option Addr} {c : Nat} (hst : TwoSt w B g N p Bp A a w6) (hr : RdV w6 (Bet n w6.heap.size) (.row 26 3 (TypeX.rows y.args_)) (.slice C y.args_.length c)) (hn : w.heap.size + 2 ≤ n) (hg : g < n) (hs : y.size ≤ 1700) (ht : y.tame) :
    TwoBox w B g N p Bp A a w6.heap.size (w6.alloc (.cells #[.int .i64 y.kind_, .string y.name_, .slice C y.args_.length c] 26)) := by
  have nb : Below w6.heap.size w6 (w6.alloc (.cells #[.int .i64 y.kind_, .string y.name_, .slice C y.args_.length c] 26)) := (Below.refl _ _).alloc (Nat.le_refl _) _
  exact ⟨hst.keep nb, hst.box.lt, y, C, c, Whole.new _ _ _, (twoRow (X := w6.heap.size) hr hn hg (.inr (Nat.le_refl _))).frame (fun b h => ⟨by rw [World.size_alloc]; omega, h.2⟩) (fun b o h => nb.cell (p := ⟨b, o, none⟩) h.1), hs, ht⟩
theorem twoBox_set {w w6 : World} {B g N Bp a X : Nat} {p y : TypeX} {A C : Option Addr} {c : Nat} {u0 u1 u2 : Value} (hst : TwoSt w B g N p Bp A a w6) (hx : Whole w6 X 26 #[u0, u1, u2]) (hX : Bp < X) (hr : TypeRow w6 (fun b => b < w6.heap.size ∧ ¬ OldG w g b ∧ b ≠ X) C c y.args_) (hs : y.size ≤ 1700) (ht : y.tame) :
    TwoBox w B g N p Bp A a X (((w6.setCell ⟨X, 0, none⟩ (.int .i64 y.kind_)).setCell ⟨X, 1, none⟩ (.string y.name_)).setCell ⟨X, 2, none⟩ (.slice C y.args_.length c)) := by
  have hfar : ∀ b, b ≠ X → ((((w6.setCell ⟨X, 0, none⟩ (.int .i64 y.kind_)).setCell ⟨X, 1, none⟩ (.string y.name_)).setCell ⟨X, 2, none⟩ (.slice C y.args_.length c)) : World).heap[b]? = w6.heap[b]? := fun b h => by rw [Below.heap_setCell _ _ _ _ (by exact h), Below.heap_setCell _ _ _ _ (by exact h), Below.heap_setCell _ _ _ _ (by exact h)]
  have hbut : But X w6 (((w6.setCell ⟨X, 0, none⟩ (.int .i64 y.kind_)).setCell ⟨X, 1, none⟩ (.string y.name_)).setCell ⟨X, 2, none⟩ (.slice C y.args_.length c)) := ((But.set_ X w6 0 _).trans (But.set_ X _ 1 _)).trans (But.set_ X _ 2 _)
  have hgB := hst.gB
  have hgP := hst.gP
  have hnP := hst.nP
  refine ⟨⟨cur_far hst.cur hbut (by omega), whole_but hst.r1 hbut (by omega), whole_but hst.r2 hbut (by omega), whole_but hst.box hbut (by omega), hst.row.frame (fun _ h => h) (fun b o h => World.cell?_of_block (a := ⟨b, o, none⟩) (hfar b (by have := h.1; omega))), hgB, hgP, hnP, hst.below.trans (hbut.to_below (by have := hst.below.size; omega) hst.below.size)⟩, hX, y, C, c, ((hx.set_ 0 _).set_ 1 _).set_ 2 _, hr.frame (fun b h => ⟨by have := hbut.size; have := h.1; omega, h.2⟩) (fun b o h => World.cell?_of_block (a := ⟨b, o, none⟩) (hfar b h.2.2)), hs, ht⟩
theorem twoBox_keep {w u u' : World} {B g N Bp a X : Nat} {p : TypeX} {A : Option Addr} (h : TwoBox w B g N p Bp A a X u) (hb : But g u u') (hc : Cur u' B g) : TwoBox w B g N p Bp A a X u' := by
  obtain ⟨h1, h2, t, C, c, h3, h4, h5, h6⟩ := h
  exact ⟨h1.but hb hc, h2, t, C, c, whole_but h3 hb (by have := h1.gP; omega), h4.frame (fun b h => ⟨Nat.lt_of_lt_of_le h.1 hb.size, h.2⟩) (fun b o h => World.cell?_of_block (a := ⟨b, o, none⟩) (hb.block b h.1 (fun e => h.2.1 (.inr e)))), h5, h6⟩
/-- A new row of one binding. -/
theorem bind_alone {w : World} {x : BindingX} {A : Option Addr} {c : Nat} (h : TypeRow w (Und w.heap.size) A c x.type_.args_) :
    BindingRow (w.alloc (.cells #[.string x.var_, .int .i64 x.type_.kind_, .string x.type_.name_, .slice A x.type_.args_.length c] 58)) (Und (w.alloc (.cells #[.string x.var_, .int .i64 x.type_.kind_, .string x.type_.name_, .slice A x.type_.args_.length c] 58)).heap.size) (some ⟨w.heap.size, 0, none⟩) 1 [x] := by
  have hb : Below w.heap.size w (w.alloc (.cells #[.string x.var_, .int .i64 x.type_.kind_, .string x.type_.name_, .slice A x.type_.args_.length c] 58)) := (Below.refl _ _).alloc (Nat.le_refl _) _
  have hw := Whole.new w 58 #[.string x.var_, .int .i64 x.type_.kind_, .string x.type_.name_, .slice A x.type_.args_.length c]
  have hx := h.grow hb
  refine RdV_row.2 ⟨some ⟨w.heap.size, 0, none⟩, 1, by rw [BindingX.rows_length], by rw [BindingX.rows_length]; exact Nat.le_refl _, by decide, .inr ⟨w.heap.size, 0, rfl, by show w.heap.size < _; simp, [.string x.var_, .int .i64 x.type_.kind_, .string x.type_.name_, .slice A x.type_.args_.length c], ?_, fun i v hi => ?_⟩⟩
  · rw [BindingX.rows_map, List.map_cons, List.map_nil, RdVE]
    refine ⟨[.string x.var_, .int .i64 x.type_.kind_, .string x.type_.name_, .slice A x.type_.args_.length c], [], rfl, x.cells_length, ?_, by rw [RdVE]⟩
    rw [BindingX.cells_eq]
    simp only [RdVs]
    exact ⟨_, _, rfl, by rw [RdV_pl], _, _, rfl, by rw [RdV_pl], _, _, rfl, by rw [RdV_pl], _, _, rfl, hx, rfl⟩
  · rw [Nat.zero_add, hw.cell]
    simpa using hi
theorem TwoSt.rowE {w : World} {B g N : Nat} {p : TypeX} {Bp : Nat} {A : Option Addr} {a : Nat} {u : World} (h : TwoSt w B g N p Bp A a u) : TypeRow u (fun b => (w.heap.size ≤ b ∧ b < u.heap.size) ∧ b ≠ w.heap.size ∧ b ≠ w.heap.size + 1) A a p.args_ :=
  h.row.frame (fun b hP => by
    have h1 := h.nP
    have h2 := h.box.lt
    have h3 := hP.1
    have h4 : ¬ b < w.heap.size + 2 := fun e => hP.2 (.inl e)
    omega) fun _ _ _ => rfl
theorem oneSmall : ∀ b ∈ [BindingX.mk ⟨#[98]⟩ (.mk 2 ⟨#[105, 110, 116]⟩ [])], b.type_.size ≤ 4294967296 := fun b hb => by
  rw [List.mem_singleton.1 hb]
  show (TypeX.mk 2 ⟨#[105, 110, 116]⟩ []).size ≤ _
  rw [TypeX.size, TypeX.sizeL]; decide
theorem oneSize : ∀ s y, subX [BindingX.mk ⟨#[98]⟩ (.mk 2 ⟨#[105, 110, 116]⟩ [])] s = some y → y.size ≤ 1 := fun s y hy => by
  rw [subX, lookX_one] at hy
  split at hy
  · injection hy with hy
    rw [← hy]
    show (TypeX.mk 2 ⟨#[105, 110, 116]⟩ []).size ≤ _
    rw [TypeX.size, TypeX.sizeL]; decide
  · cases hy
theorem oneTame : (TypeX.mk 2 ⟨#[105, 110, 116]⟩ []).tame := by
  rw [TypeX.tame, TypeX.tameL]
  exact ⟨by decide, by decide, trivial, fun h => absurd h (by decide)⟩
theorem oldRow {w u : World} {g : Nat} {C : Option Addr} {c : Nat} {l : List TypeX} (h : TypeRow u (fun b => b < u.heap.size ∧ ¬ OldG w g b) C c l) : TypeRow u (fun b => (w.heap.size ≤ b ∧ b < u.heap.size) ∧ b ≠ w.heap.size ∧ b ≠ w.heap.size + 1) C c l :=
  h.frame (fun b hP => by
    have h3 := hP.1
    have h4 : ¬ b < w.heap.size + 2 := fun e => hP.2 (.inl e)
    omega) fun _ _ _ => rfl

end Go.Proofs.YtngbilblddngcaaDoor

/- Bounds of what the substitutions' functions hand back; a type and a bool made by a call. -/
import Derived.Test.YtngbilblddngcaaDoorZLawK
import Derived.Test.YtngbilblddngcaaDoorZLookI
import Derived.Test.YtngbilblddngcaaDoorZApplyI
namespace Go.Proofs.YtngbilblddngcaaDoor
open Go.RowKit Go.Lib

theorem madeB_get {x : TypeX} {b : Bool} {w w' : World} {e : Ending} (h : MadeB x b w e w') :
    ∃ (A : Option Addr) (c : Nat) (bs : List Nat), e = .returned (.tuple #[.agg #[.int .i64 x.kind_, .string x.name_, .slice A x.args_.length c], .bool b]) ∧ OwVs w' w.heap.size x.cells [.int .i64 x.kind_, .string x.name_, .slice A x.args_.length c] bs ∧ bs.Nodup ∧
      RdV w' (Bet w.heap.size w'.heap.size) (.row 26 3 (TypeX.rows x.args_)) (.slice A x.args_.length c) ∧ (∀ y ∈ bs, w.heap.size ≤ y ∧ y < w'.heap.size) ∧ Below w.heap.size w w' := by
  obtain ⟨vs, bs, rfl, ho, hnd, hb⟩ := h
  obtain ⟨A, c, bs', h1, h2, h3, h4, h5, h6⟩ := madeV_get (x := x) (w := w) (w' := w') (e := .returned (.agg vs.toArray)) ⟨vs, bs, rfl, ho, hnd, hb⟩
  injection h1 with h1
  injection h1 with h1
  have hvs : vs = [.int .i64 x.kind_, .string x.name_, .slice A x.args_.length c] := List.toArray_inj h1
  subst hvs
  exact ⟨A, c, bs, rfl, ho, hnd, row_of_cells (OwVs_read _ (OwVs_lt _ ho) ho), OwVs_lt _ ho, hb⟩
theorem smallX_of {l : List BindingX} (h : DV.wtE (BindingX.rows l) ≤ 1048576) : SmallX l := fun s y hs => by have := lookX_size hs; omega
theorem sub_bound {l : List BindingX} (h : DV.wtE (BindingX.rows l) ≤ 1048576) : ∀ s y, subX l s = some y → y.size ≤ 1048577 := fun s y hs => by have := lookX_size (l := l) hs; omega
theorem cnt_subL {l : List BindingX} {xs : List TypeX} (h : DV.wtE (BindingX.rows l) ≤ 1048576) (h2 : DV.wtE (TypeX.rows xs) ≤ 1048576) : 1 + DV.cntE (TypeX.rows (TypeX.subL (subX l) xs)) ≤ 4398046511104 := by
  have h3 := TypeX.sizeL_sub (sub_bound h) (by omega) xs
  have h4 := TypeX.sizeL_wt xs
  have h5 := cntE_Type (TypeX.subL (subX l) xs)
  have h6 : TypeX.sizeL xs * 1048577 ≤ 1048576 * 1048577 := Nat.mul_le_mul_right _ (by omega)
  omega
theorem cnt_sub {l : List BindingX} {x : TypeX} (h : DV.wtE (BindingX.rows l) ≤ 1048576) (h2 : DV.wtL x.cells ≤ 1048576) : 1 + tcntL (x.sub (subX l)).cells ≤ 4398046511104 := by
  have h3 := TypeX.size_sub (sub_bound h) (by omega) x
  have h4 := TypeX.size_wt x
  have h5 := tcnt_Type (x.sub (subX l))
  have h6 : x.size * 1048577 ≤ 1048577 * 1048577 := Nat.mul_le_mul_right _ (by omega)
  omega
theorem cnt_look {l : List BindingX} {s : ByteArray} (h : DV.wtE (BindingX.rows l) ≤ 1048576) : 1 + tcntL ((lookX s l).getD zeroX).cells ≤ 4398046511104 := by
  have h5 := tcnt_Type ((lookX s l).getD zeroX)
  cases hl : lookX s l with
  | none =>
    rw [hl] at h5
    have : zeroX.size = 1 := by rw [zeroX, TypeX.size, TypeX.sizeL]
    simp only [Option.getD_none] at h5 ⊢
    omega
  | some y =>
    have := lookX_size hl
    rw [hl] at h5
    simp only [Option.getD_some] at h5 ⊢
    omega
theorem wt_filter (p : BindingX → Bool) : ∀ l : List BindingX, DV.wtE (BindingX.rows (l.filter p)) ≤ DV.wtE (BindingX.rows l)
  | [] => Nat.le_refl _
  | b :: r => by
    have h := wt_filter p r
    have e : BindingX.rows (b :: r) = b.cells :: BindingX.rows r := rfl
    rw [List.filter_cons, e, DV.wtE]
    split
    · have e2 : BindingX.rows (b :: r.filter p) = b.cells :: BindingX.rows (r.filter p) := rfl
      rw [e2, DV.wtE]; omega
    · omega
theorem cnt_kept {l : List BindingX} {p : BindingX → Bool} (h : DV.wtE (BindingX.rows l) ≤ 1048576) : 1 + DV.cntE (BindingX.rows (l.filter p)) ≤ 4398046511104 := by
  have h1 := cntE_Binding (l.filter p)
  have h2 := wt_filter p l
  omega

/-! A struct's cell that a region makes, before or behind its calls. -/
abbrev zeroCells : Array Value := #[.int .i64 0, .string ⟨#[]⟩, .slice none 0 0]
def Zb (E : World) (X : Nat) (w : World) : Prop := Whole w X 26 zeroCells ∧ E.heap.size ≤ X
theorem Zb.new {E w : World} (h : Below E.heap.size E w) : Zb E w.heap.size (w.alloc (.cells zeroCells 26)) := ⟨Whole.new _ _ _, h.size⟩
theorem Zb.drew {E w : World} {X : Nat} (h : Zb E X w) : Zb E X w.drew := h
theorem Zb.step {E w w' : World} {X : Nat} (h : Zb E X w) (hb : Below w.heap.size w w') : Zb E X w' := ⟨whole_keep h.1 hb, h.2⟩
theorem Zb.lt {E w : World} {X : Nat} (h : Zb E X w) : X < w.heap.size := h.1.lt
theorem cur_trans {E W w' : World} (h : Below E.heap.size E W) (hb : Below W.heap.size W w') : Below E.heap.size E w' := h.trans (hb.mono h.size)
theorem cur_start {E W w' : World} (h : Below E.heap.size E W) (_hb : Below W.heap.size W w') : Below E.heap.size E W := h
theorem rd_at {E W : World} {a b : Nat} {d : DV} {v : Value} (h : RdV E (Bet a b) d v) (hb : b ≤ E.heap.size) (hW : Below E.heap.size E W) : RdV W (Und W.heap.size) d v := RdV.grow (rd_und h hb) hW
/-- What the region leaves: the cell, the type in it. -/
def BoxOut (y : TypeX) (E : World) (v : Value) (wc : World) : Prop := ∃ (X : Nat) (B : Option Addr) (d : Nat), v = .pointer (some ⟨X, 0, none⟩) ∧ E.heap.size ≤ X ∧ Whole wc X 26 #[.int .i64 y.kind_, .string y.name_, .slice B y.args_.length d] ∧
  RdV wc (Bet E.heap.size wc.heap.size) (.row 26 3 (TypeX.rows y.args_)) (.slice B y.args_.length d) ∧ Below E.heap.size E wc
theorem box_a {y : TypeX} {E w5 : World} {B : Option Addr} {d n : Nat} (hcur : Below E.heap.size E w5) (hr : RdV w5 (Bet n w5.heap.size) (.row 26 3 (TypeX.rows y.args_)) (.slice B y.args_.length d)) (hn : E.heap.size ≤ n) :
    BoxOut y E (.pointer (some ⟨w5.heap.size, 0, none⟩)) (w5.alloc (.cells #[.int .i64 y.kind_, .string y.name_, .slice B y.args_.length d] 26)) := by
  have hk := Keep.alloc w5 (.cells #[.int .i64 y.kind_, .string y.name_, .slice B y.args_.length d] 26)
  refine ⟨_, B, d, rfl, hcur.size, Whole.new _ _ _, RdV_frame (fun x h => ⟨Nat.le_trans hn h.1, by rw [World.size_alloc]; exact Nat.lt_succ_of_lt h.2⟩) (fun x o h => World.cell?_of_block (a := ⟨x, o, none⟩) (hk.block x h.2 (.inr (Nat.zero_le _)))) _ hr, hcur.alloc hcur.size _⟩
theorem box_b {y : TypeX} {E w5 : World} {B : Option Addr} {d n X : Nat} (hcur : Below E.heap.size E w5) (hr : RdV w5 (Bet n w5.heap.size) (.row 26 3 (TypeX.rows y.args_)) (.slice B y.args_.length d)) (hn : E.heap.size ≤ n) (hz : Zb E X w5) (hX : X < n) :
    BoxOut y E (.pointer (some ⟨X, 0, none⟩)) (((w5.setCell ⟨X, 0, none⟩ (.int .i64 y.kind_)).setCell ⟨X, 1, none⟩ (.string y.name_)).setCell ⟨X, 2, none⟩ (.slice B y.args_.length d)) := by
  obtain ⟨e0, e1, e2, hbut, hb4⟩ := tyEndY (w := E) (k := y.kind_) (s := y.name_) (A := B) (n := y.args_.length) (cc := d) hz.1 hz.2 hcur _ rfl
  have hx3 : Whole (((w5.setCell ⟨X, 0, none⟩ (.int .i64 y.kind_)).setCell ⟨X, 1, none⟩ (.string y.name_)).setCell ⟨X, 2, none⟩ (.slice B y.args_.length d)) X 26 #[.int .i64 y.kind_, .string y.name_, .slice B y.args_.length d] := by
    simpa using ((hz.1.set_ 0 (.int .i64 y.kind_)).set_ 1 (.string y.name_)).set_ 2 (.slice B y.args_.length d)
  have hs := hbut.size
  exact ⟨X, B, d, rfl, hz.2, hx3, RdV_frame (fun x h => ⟨Nat.le_trans hn h.1, Nat.lt_of_lt_of_le h.2 hs⟩) (fun x o h => World.cell?_of_block (a := ⟨x, o, none⟩) (hbut.block x h.2 (fun e => by have := h.1; omega))) _ hr, hb4⟩
end Go.Proofs.YtngbilblddngcaaDoor

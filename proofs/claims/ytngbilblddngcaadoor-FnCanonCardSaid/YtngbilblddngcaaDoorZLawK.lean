/- What the laws carry from world to world: facts on blocks between two numbers. -/
import Derived.Test.YtngbilblddngcaaDoorQ1
import Derived.Test.YtngbilblddngcaaDoorQ2
import Derived.Test.YtngbilblddngcaaDoorZRepl
namespace Go.Proofs.YtngbilblddngcaaDoor
open Go.RowKit Go.Lib

/-- Blocks between two numbers. -/
def Bet (a b : Nat) (x : Nat) : Prop := a ≤ x ∧ x < b
/-- All blocks that were there stay, but those from lo to hi. -/
structure Keep (lo hi : Nat) (w w' : World) : Prop where
  size : w.heap.size ≤ w'.heap.size
  block : ∀ b, b < w.heap.size → b < lo ∨ hi ≤ b → w'.heap[b]? = w.heap[b]?
theorem Keep.below {w w' : World} (h : Below w.heap.size w w') : Keep 0 0 w w' := ⟨h.size, fun b hb _ => h.block b hb⟩
theorem Keep.butV {w w' : World} {bs : List Nat} {lo hi : Nat} (h : ButV bs w w') (hb : ∀ b ∈ bs, lo ≤ b ∧ b < hi) : Keep lo hi w w' := ⟨h.size, fun b h1 h2 => h.block b h1 fun hm => by have := hb b hm; omega⟩
theorem Keep.alloc (w : World) (o : Obj) : Keep 0 0 w (w.alloc o) := Keep.below ((Below.refl _ _).alloc (Nat.le_refl _) _)
theorem rd_carry {w w' : World} {a b lo hi : Nat} {d : DV} {v : Value} (h : RdV w (Bet a b) d v) (hk : Keep lo hi w w') (hb : b ≤ w.heap.size) (hd : b ≤ lo ∨ hi ≤ a) : RdV w' (Bet a b) d v :=
  RdV_frame (fun _ h => h) (fun x _ hx => World.cell?_of_block (hk.block x (by have := hx.2; omega) (by have := hx.1; have := hx.2; omega))) d h
theorem ow_carry {w w' : World} {B a b lo hi : Nat} {d : DV} {v : Value} {bs : List Nat} (h : OwV w B d v bs) (hr : ∀ x ∈ bs, a ≤ x ∧ x < b) (hk : Keep lo hi w w') (hd : b ≤ lo ∨ hi ≤ a) : OwV w' B d v bs :=
  OwV_frame d (fun x hx => hk.block x (OwV_lt d h x hx).2 (by have := hr x hx; omega)) h
theorem ows_carry {w w' : World} {B a b lo hi : Nat} {d : List DV} {v : List Value} {bs : List Nat} (h : OwVs w B d v bs) (hr : ∀ x ∈ bs, a ≤ x ∧ x < b) (hk : Keep lo hi w w') (hd : b ≤ lo ∨ hi ≤ a) : OwVs w' B d v bs :=
  OwVs_frame d (fun x hx => hk.block x (OwVs_lt d h x hx).2 (by have := hr x hx; omega)) h
theorem wh_carry {w w' : World} {g lo hi : Nat} {t : TypeId} {cs : Array Value} (h : Whole w g t cs) (hk : Keep lo hi w w') (hd : g < lo ∨ hi ≤ g) : Whole w' g t cs := (hk.block g h.lt hd).trans h
theorem rd_und {w : World} {a b : Nat} {d : DV} {v : Value} (h : RdV w (Bet a b) d v) (hb : b ≤ w.heap.size) : RdV w (Und w.heap.size) d v := RdV_frame (fun _ h => Nat.lt_of_lt_of_le h.2 hb) (fun _ _ _ => rfl) d h
theorem rd_bet {w : World} {d : DV} {v : Value} (h : RdV w (Und w.heap.size) d v) : RdV w (Bet 0 w.heap.size) d v := RdV_frame (fun _ h => ⟨Nat.zero_le _, h⟩) (fun _ _ _ => rfl) d h
/-- What a call made, by its row. -/
theorem madeR_get {e0 : TypeId} {k n : Nat} {xs : List (List DV)} {w w' : World} {e : Ending} (hn : xs.length = n) (h : MadeR (.row e0 k xs) w e w') :
    ∃ (A : Option Addr) (c : Nat) (bs : List Nat), e = .returned (.slice A n c) ∧ OwV w' w.heap.size (.row e0 k xs) (.slice A n c) bs ∧ bs.Nodup ∧ RdV w' (Bet w.heap.size w'.heap.size) (.row e0 k xs) (.slice A n c) ∧ (∀ x ∈ bs, w.heap.size ≤ x ∧ x < w'.heap.size) ∧ Below w.heap.size w w' := by
  obtain ⟨v, bs, rfl, ho, hnd, hb⟩ := h
  obtain ⟨A, c, rfl⟩ := OwV_shape ho hn
  exact ⟨A, c, bs, rfl, ho, hnd, OwV_read _ (OwV_lt _ ho) ho, OwV_lt _ ho, hb⟩
theorem row_of_cells {x : TypeX} {w : World} {P : Nat → Prop} {A : Option Addr} {c : Nat} (h : RdVs w P x.cells [.int .i64 x.kind_, .string x.name_, .slice A x.args_.length c]) : RdV w P (.row 26 3 (TypeX.rows x.args_)) (.slice A x.args_.length c) := by
  obtain ⟨A', c', e, h2⟩ := TypeAt.of_reads h
  simp only [Value.agg.injEq] at e
  have e2 := congrArg (fun a : Array Value => a[2]?) e
  simp at e2
  obtain ⟨e3, e4⟩ := e2
  subst e3 e4
  exact h2
/-- What a call made, by a type's cells. -/
theorem madeV_get {x : TypeX} {w w' : World} {e : Ending} (h : MadeV x.cells w e w') :
    ∃ (A : Option Addr) (c : Nat) (bs : List Nat), e = .returned (.agg #[.int .i64 x.kind_, .string x.name_, .slice A x.args_.length c]) ∧ OwVs w' w.heap.size x.cells [.int .i64 x.kind_, .string x.name_, .slice A x.args_.length c] bs ∧ bs.Nodup ∧
      RdV w' (Bet w.heap.size w'.heap.size) (.row 26 3 (TypeX.rows x.args_)) (.slice A x.args_.length c) ∧ (∀ y ∈ bs, w.heap.size ≤ y ∧ y < w'.heap.size) ∧ Below w.heap.size w w' := by
  obtain ⟨vs, bs, A, c, rfl, rfl, ho, hnd, hb⟩ := madeT_get h
  exact ⟨A, c, bs, rfl, ho, hnd, row_of_cells (OwVs_read _ (OwVs_lt _ ho) ho), OwVs_lt _ ho, hb⟩
theorem below_butV {B : Nat} {w wi wj : World} {bs : List Nat} (h : Below B w wi) (hm : ButV bs wi wj) (hB : B ≤ wi.heap.size) (hb : ∀ x ∈ bs, B ≤ x) : Below B w wj := h.trans (hm.below hB hb)

/-! Counts. -/
mutual
theorem cntL_Type : ∀ x : TypeX, DV.cntL x.cells = 2 * x.size
  | .mk a b c => by
    rw [TypeX.cells, TypeX.size]
    simp only [DV.cntL, DV.cnt]
    have h := cntE_Type c
    omega
theorem cntE_Type : ∀ l : List TypeX, DV.cntE (TypeX.rows l) = 2 * TypeX.sizeL l
  | [] => by rw [TypeX.rows, TypeX.sizeL, DV.cntE]
  | x :: r => by
    have h1 := cntL_Type x
    have h2 := cntE_Type r
    rw [TypeX.rows, TypeX.sizeL, DV.cntE]; omega
end
theorem tcnt_Type (x : TypeX) : tcntL x.cells + 2 = 2 * x.size := by
  have h1 := TypeX.tcnt_eq x
  have h2 := cntE_Type x.args_
  have h3 := TypeX.size_eq x
  omega
theorem cntE_Binding : ∀ l : List BindingX, DV.cntE (BindingX.rows l) ≤ 6 * DV.wtE (BindingX.rows l)
  | [] => by rw [BindingX.rows_map, List.map_nil, DV.cntE]; exact Nat.zero_le _
  | b :: r => by
    have h := cntE_Binding r
    have e : BindingX.rows (b :: r) = b.cells :: BindingX.rows r := rfl
    have h1 : DV.cntL b.cells = 3 + DV.cntE (TypeX.rows b.type_.args_) := by rw [BindingX.cells_eq]; simp only [DV.cntL, DV.cnt]; omega
    have h2 := cntE_Type b.type_.args_
    have h3 := TypeX.sizeL_wt b.type_.args_
    have h4 : DV.wtL b.cells = b.var_.size + (b.type_.name_.size + DV.wtE (TypeX.rows b.type_.args_)) := by rw [BindingX.cells_eq]; simp only [DV.wtL, DV.wt, uwt]; omega
    rw [e, DV.cntE, DV.wtE]
    omega
theorem wt_Binding {l : List BindingX} {b : BindingX} (h : b ∈ l) : b.type_.size ≤ DV.wtE (BindingX.rows l) + 1 := by
  obtain ⟨j, hj, rfl⟩ := List.getElem_of_mem h
  have h1 := wtVE_at (BindingX.rows l) j (by rw [BindingX.rows_length]; exact hj)
  rw [BindingX.rows_at l j hj] at h1
  have h2 := TypeX.size_wt l[j].type_
  have h3 : DV.wtL l[j].cells = l[j].var_.size + DV.wtL l[j].type_.cells := by rw [BindingX.cells_eq, TypeX.cells_eq]; simp only [DV.wtL, DV.wt, uwt]
  omega
theorem small_Binding {l : List BindingX} (h : DV.wtE (BindingX.rows l) ≤ 1048576) : ∀ b ∈ l, b.type_.size ≤ 4294967296 := fun b hb => by have := wt_Binding hb; omega
end Go.Proofs.YtngbilblddngcaaDoor

/- What the laws over types share that mark their arguments. -/
import Derived.Test.YtbcfeoobhemdcaaGreatQ1
import Derived.Test.YtbcfeoobhemdcaaGreatQ2
import Derived.Test.YtbcfeoobhemdcaaGreatZSxOwn
namespace Go.Proofs.YtbcfeoobhemdcaaGreat
open Go.RowKit Go.Lib

mutual
theorem TypeX.cnt_size : ∀ x : TypeX, DV.cntL x.cells = 2 * x.size
  | .mk a b c => by
    rw [TypeX.cells, TypeX.size]
    simp only [DV.cntL, DV.cnt]
    have h := TypeX.cntE_size c
    omega
theorem TypeX.cntE_size : ∀ l : List TypeX, DV.cntE (TypeX.rows l) = 2 * TypeX.sizeL l
  | [] => by rw [TypeX.rows, TypeX.sizeL, DV.cntE]
  | x :: r => by rw [TypeX.rows, DV.cntE, TypeX.sizeL, TypeX.cnt_size x, TypeX.cntE_size r]; omega
end
theorem made_typeV {x : TypeX} {w w' : World} {e : Ending} (h : MadeV x.cells w e w') : ∃ (vs : List Value) (bs : List Nat) (A : Option Addr) (c : Nat), vs.toArray = #[.int .i64 x.kind_, .string x.name_, .slice A x.args_.length c] ∧ e = .returned (.agg vs.toArray) ∧ OwVs w' w.heap.size x.cells vs bs ∧ bs.Nodup ∧ TypeRow w' (Und w'.heap.size) A c x.args_ ∧ Below w.heap.size w w' := by
  obtain ⟨vs, bs, rfl, ho, hn, hb⟩ := h
  obtain ⟨A, c, e, hr⟩ := TypeAt.of_reads (OwVs_read (P := Und w'.heap.size) x.cells (fun b hb' => (OwVs_lt x.cells ho b hb').2) ho)
  exact ⟨vs, bs, A, c, by injection e, rfl, ho, hn, hr, hb⟩
theorem cells2 {w : World} {g : Nat} {t : TypeId} {a b : Value} (h : Whole w g t #[a, b]) : w.cell? ⟨g, 0, none⟩ = some a ∧ w.cell? ⟨g, 1, none⟩ = some b := ⟨by rw [h.cell]; rfl, by rw [h.cell]; rfl⟩
theorem list_keep {w w' : World} {B : Nat} {A : Option Addr} {l : List SX} (h : ListAt w (Lt B) A l) (hB : B ≤ w.heap.size) (hb : Below w.heap.size w w') : ListAt w' (Lt B) A l := h.frame (fun _ h => h) fun b o hP => hb.cell (p := ⟨b, o, none⟩) (Nat.lt_of_lt_of_le hP hB)
theorem list_far {w w' : World} {B : Nat} {A : Option Addr} {l : List SX} (h : ListAt w (Lt B) A l) (hk : ∀ b, b < B → w'.heap[b]? = w.heap[b]?) : ListAt w' (Lt B) A l := h.frame (fun _ h => h) fun b o hP => World.cell?_of_block (a := ⟨b, o, none⟩) (hk b hP)
theorem list_wide {w : World} {B B' : Nat} {A : Option Addr} {l : List SX} (h : ListAt w (Lt B) A l) (hB : B ≤ B') : ListAt w (Lt B') A l := h.frame (fun _ h => Nat.lt_of_lt_of_le h hB) fun _ _ _ => rfl
/-- What a call made, its blocks named. -/
theorem SxOwn.get {y : SX} {w w' : World} {e : Ending} (h : SxOwn y w e w') : ∃ (A : Option Addr) (c : Nat) (bs : List Nat), e = .returned (.agg #[.string y.atom, .slice A y.list.length c]) ∧ OwX w' w.heap.size y (.string y.atom) (.slice A y.list.length c) bs ∧ bs.Nodup ∧ (∀ b ∈ bs, w.heap.size ≤ b ∧ b < w'.heap.size) ∧ Below w.heap.size w w' := h
theorem OwX_keep {w w' : World} {B : Nat} {y : SX} {v0 v1 : Value} {bs : List Nat} (h : OwX w B y v0 v1 bs) (hlt : ∀ b ∈ bs, b < w.heap.size) (hb : Below w.heap.size w w') : OwX w' B y v0 v1 bs := OwX_frame y (fun b hm => hb.block b (hlt b hm)) h
end Go.Proofs.YtbcfeoobhemdcaaGreat

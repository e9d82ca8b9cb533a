/- A row of bindings that a draw makes: the row is the call's own, what its types lead to lies apart from it. -/
import Derived.Test.YtngbilblddngcaaDoorZDrawTy4
import Derived.Test.YtngbilblddngcaaDoorQ1
import Derived.Test.YtngbilblddngcaaDoorZSpLook
import Derived.Test.YtngbilblddngcaaDoorZLawK2
import Derived.Test.YtngbilblddngcaaDoorQ2
namespace Go.Proofs.YtngbilblddngcaaDoor
open Go.RowKit Go.Lib

theorem rdVE_snoc {w : World} {P : Nat → Prop} {k : Nat} : ∀ {xs : List (List DV)} {vs : List Value}, RdVE w P k xs vs → ∀ {x : List DV} {v : List Value}, x.length = k → RdVs w P x v → RdVE w P k (xs ++ [x]) (vs ++ v)
  | [], vs, h, x, v, hk, hx => by
    rw [RdVE] at h
    subst h
    rw [List.nil_append, List.nil_append, RdVE]
    exact ⟨v, [], (List.append_nil v).symm, hk, hx, by rw [RdVE]⟩
  | y :: r, vs, h, x, v, hk, hx => by
    rw [RdVE] at h
    obtain ⟨v1, v2, rfl, hk1, h1, h2⟩ := h
    rw [List.cons_append, RdVE]
    exact ⟨v1, v2 ++ v, List.append_assoc _ _ _, hk1, h1, rdVE_snoc h2 hk hx⟩
/-- A binding's cells. -/
theorem bind_reads {w : World} {P : Nat → Prop} {s : ByteArray} {x : TypeX} {A : Option Addr} {c : Nat} (h : TypeRow w P A c x.args_) : RdVs w P (BindingX.mk s x).cells [.string s, .int .i64 x.kind_, .string x.name_, .slice A x.args_.length c] := by
  rw [BindingX.cells_eq]
  simp only [RdVs]
  exact ⟨_, _, rfl, by rw [RdV_pl]; rfl, _, _, rfl, by rw [RdV_pl]; rfl, _, _, rfl, by rw [RdV_pl]; rfl, _, _, rfl, h, rfl⟩
/-- A ROW OF BINDINGS of the call's own; what its types lead to lies neither in it nor in G. -/
def TopB (G : Nat → Prop) (B : Nat) (w : World) (V : Value) (l : List BindingX) : Prop :=
  ∃ us, w.ownsRow B 58 4 V l.length us ∧ RdVE w (fun b => b < w.heap.size ∧ ¬ G b ∧ V.ownBlock ≠ some b) 4 (BindingX.rows l) us
theorem TopB.but {G : Nat → Prop} {g B : Nat} {w w' : World} {V : Value} {l : List BindingX} (h : TopB G B w V l) (hG : ∀ b, G b → b < B) (hg : G g) (hb : But g w w') : TopB G B w' V l := by
  obtain ⟨us, ho, he⟩ := h
  exact ⟨us, own_same ho fun b hv => hb.block b (ho.lt b hv).2 (fun e => by have := (ho.lt b hv).1; have := hG g hg; omega), RdVE_frame (fun b h => ⟨Nat.lt_of_lt_of_le h.1 hb.size, h.2⟩) (fun b o h => World.cell?_of_block (a := ⟨b, o, none⟩) (hb.block b h.1 (fun e => h.2.1 (e ▸ hg)))) _ he⟩
theorem TopB.below {G : Nat → Prop} {B : Nat} {w w' : World} {V : Value} {l : List BindingX} (h : TopB G B w V l) (hb : Below w.heap.size w w') : TopB G B w' V l := by
  obtain ⟨us, ho, he⟩ := h
  exact ⟨us, owns_below ho hb, RdVE_frame (fun b h => ⟨Nat.lt_of_lt_of_le h.1 hb.size, h.2⟩) (fun b o h => hb.cell (p := ⟨b, o, none⟩) h.1) _ he⟩
theorem TopB.shape {G : Nat → Prop} {B : Nat} {w : World} {V : Value} {l : List BindingX} (h : TopB G B w V l) : ∃ A c, V = .slice A l.length c := by
  obtain ⟨us, ho, _⟩ := h
  exact own_nil ho
theorem TopB.own_lt {G : Nat → Prop} {B : Nat} {w : World} {V : Value} {l : List BindingX} (h : TopB G B w V l) {b : Nat} (hb : V.ownBlock = some b) : B ≤ b ∧ b < w.heap.size := by
  obtain ⟨us, ho, _⟩ := h
  exact ho.lt b hb
theorem TopB.row {G : Nat → Prop} {B : Nat} {w : World} {A : Option Addr} {n c : Nat} {l : List BindingX} (h : TopB G B w (.slice A n c) l) (hG : ∀ b, G b → b < B) : BindingRow w (fun b => b < w.heap.size ∧ ¬ G b) A c l := by
  obtain ⟨us, ho, he⟩ := h
  have hE : RdVE w (fun b => b < w.heap.size ∧ ¬ G b) 4 (BindingX.rows l) us := RdVE_frame (fun b h => ⟨h.1, h.2.1⟩) (fun _ _ _ => rfl) _ he
  rcases ho.2 with ⟨e, hn⟩ | ⟨g', cap, cur, e, _, hg', hnc, hcm, _⟩
  · have hl : l = [] := List.eq_nil_of_length_eq_zero hn
    subst hl
    injection e with e1 e2 e3
    subst e1 e3
    exact BindingRow.nil _ _ _ _ (by omega)
  · injection e with e1 e2 e3
    subst e1 e2 e3
    refine RdV_row.2 ⟨some ⟨g', 0, none⟩, c, by rw [BindingX.rows_length], by rw [BindingX.rows_length]; exact hnc, by unfold maxLen at hcm; omega, .inr ⟨g', 0, rfl, ⟨(ho.lt g' rfl).2, fun h => by have := (ho.lt g' rfl).1; have := hG g' h; omega⟩, us, hE, fun i v hi => ?_⟩⟩
    have hil : i < l.length * 4 := by rw [← ho.1]; exact (List.getElem?_eq_some_iff.1 hi).1
    rw [Nat.zero_add, World.ownsRow.cellAt ho i hil]
    exact hi
/-- One more. -/
theorem TopB.push {G : Nat → Prop} {B : Nat} {w w7 : World} {V V' : Value} {l : List BindingX} {us : List Value} {s : ByteArray} {x : TypeX} {A : Option Addr} {c : Nat} {O : Obj}
    (he : RdVE w (fun b => b < w.heap.size ∧ ¬ G b ∧ V.ownBlock ≠ some b) 4 (BindingX.rows l) us) (hx : TypeRow w (fun b => b < w.heap.size ∧ ¬ G b ∧ V.ownBlock ≠ some b) A c x.args_)
    (hown7 : w7.ownsRow B 58 4 V' (l.length + 1) (us ++ [.string s, .int .i64 x.kind_, .string x.name_, .slice A x.args_.length c])) (hgrow : (w.alloc O).grownBy w7 V.ownBlock) (hat : V'.ownBlock = V.ownBlock ∨ V'.ownBlock = some (w.heap.size + 1)) :
    TopB G B w7 V' (l ++ [.mk s x]) := by
  have hz := hgrow.size
  rw [World.size_alloc] at hz
  have hP : ∀ b, (b < w.heap.size ∧ ¬ G b ∧ V.ownBlock ≠ some b) → (b < w7.heap.size ∧ ¬ G b ∧ V'.ownBlock ≠ some b) := fun b h => ⟨by omega, h.2.1, fun e => by
    rcases hat with k | k
    · exact h.2.2 (k ▸ e)
    · rw [k] at e; injection e with e; omega⟩
  have hK : ∀ b o, (b < w.heap.size ∧ ¬ G b ∧ V.ownBlock ≠ some b) → w7.cell? ⟨b, o, none⟩ = w.cell? ⟨b, o, none⟩ := fun b o h =>
    World.cell?_of_block (a := ⟨b, o, none⟩) ((hgrow.block b (by rw [World.size_alloc]; omega) (fun e => h.2.2 e.symm)).trans (Below.heap_alloc _ _ _ h.1))
  refine ⟨us ++ [.string s, .int .i64 x.kind_, .string x.name_, .slice A x.args_.length c], by rw [List.length_append, List.length_singleton]; exact hown7, ?_⟩
  rw [BindingX.rows_snoc]
  exact rdVE_snoc (RdVE_frame hP hK _ he) (BindingX.cells_length _) (bind_reads (hx.frame hP hK))
/-- The first one's type written anew. -/
theorem TopB.first {G : Nat → Prop} {B b n c : Nat} {w : World} {s : ByteArray} {x t : TypeX} {l : List BindingX} {A : Option Addr} {d : Nat} (h : TopB G B w (.slice (some ⟨b, 0, none⟩) n c) (.mk s x :: l)) (ht : TypeRow w (fun k => k < w.heap.size ∧ ¬ G k ∧ (Value.slice (some ⟨b, 0, none⟩) n c).ownBlock ≠ some k) A d t.args_) :
    TopB G B (((w.setCell ⟨b, 1, none⟩ (.int .i64 t.kind_)).setCell ⟨b, 2, none⟩ (.string t.name_)).setCell ⟨b, 3, none⟩ (.slice A t.args_.length d)) (.slice (some ⟨b, 0, none⟩) n c) (.mk s t :: l) := by
  obtain ⟨us, ho, he⟩ := h
  obtain rfl : n = (BindingX.mk s x :: l).length := by
    obtain ⟨A', c', e⟩ := own_nil ho
    injection e
  have hK : ∀ k o, (k < w.heap.size ∧ ¬ G k ∧ (Value.slice (some ⟨b, 0, none⟩) (BindingX.mk s x :: l).length c).ownBlock ≠ some k) → (((w.setCell ⟨b, 1, none⟩ (.int .i64 t.kind_)).setCell ⟨b, 2, none⟩ (.string t.name_)).setCell ⟨b, 3, none⟩ (.slice A t.args_.length d)).cell? ⟨k, o, none⟩ = w.cell? ⟨k, o, none⟩ := fun k o h => by
    have hne : k ≠ b := fun e => h.2.2 (by rw [e]; rfl)
    exact World.cell?_of_block (a := ⟨k, o, none⟩) (((Below.heap_setCell _ ⟨b, 3, none⟩ _ k hne).trans (Below.heap_setCell _ ⟨b, 2, none⟩ _ k hne)).trans (Below.heap_setCell _ ⟨b, 1, none⟩ _ k hne))
  have o1 := (World.ownsRow.stored ho 1 (.int .i64 t.kind_)).1
  have o2 := (World.ownsRow.stored o1 2 (.string t.name_)).1
  have o3 := (World.ownsRow.stored o2 3 (.slice A t.args_.length d)).1
  rw [BindingX.rows_map, List.map_cons, RdVE] at he
  obtain ⟨v1, v2, rfl, hk, h1, h2⟩ := he
  rw [BindingX.cells_eq] at h1
  simp only [RdVs] at h1
  obtain ⟨a0, _, rfl, q0, a1, _, rfl, q1, a2, _, rfl, q2, a3, _, rfl, q3, rfl⟩ := h1
  rw [RdV_pl] at q0
  subst q0
  refine ⟨_, o3, ?_⟩
  rw [BindingX.rows_map, List.map_cons, RdVE]
  have hP : ∀ k, (k < w.heap.size ∧ ¬ G k ∧ (Value.slice (some ⟨b, 0, none⟩) (BindingX.mk s x :: l).length c).ownBlock ≠ some k) → (k < (((w.setCell ⟨b, 1, none⟩ (.int .i64 t.kind_)).setCell ⟨b, 2, none⟩ (.string t.name_)).setCell ⟨b, 3, none⟩ (.slice A t.args_.length d)).heap.size ∧ ¬ G k ∧ (Value.slice (some ⟨b, 0, none⟩) (BindingX.mk s x :: l).length c).ownBlock ≠ some k) := fun k h => by simpa using h
  exact ⟨[.string s, .int .i64 t.kind_, .string t.name_, .slice A t.args_.length d], v2, by simp [BindingX.var_], BindingX.cells_length _, bind_reads (ht.frame hP hK), RdVE_frame hP hK _ h2⟩
end Go.Proofs.YtngbilblddngcaaDoor

/- The program's Match, MatchAll and Matches. -/
import Derived.Test.YtngbilblddngcaaDoorZMatM
import Derived.Test.YtngbilblddngcaaDoorZSpMatchA
import Derived.Deep.RegionHeld3
namespace Go.Proofs.YtngbilblddngcaaDoor
open Go.RowKit Go.Lib

/-- From the k-th on the bindings lie in these cells as they were shared. -/
def RestB (w : World) (n₀ k : Nat) (l : List BindingX) (cs : Array Value) : Prop := ∀ (j : Nat) (hj : j < l.length), k ≤ j → ∃ (A : Option Addr) (c : Nat),
  cs[j * 4]? = some (.string l[j].var_) ∧ cs[j * 4 + 1]? = some (.int .i64 l[j].type_.kind_) ∧ cs[j * 4 + 2]? = some (.string l[j].type_.name_) ∧ cs[j * 4 + 3]? = some (.slice A l[j].type_.args_.length c) ∧ TypeRow w (Und n₀) A c l[j].type_.args_
theorem RestB.of_read {w : World} {n₀ : Nat} {l : List BindingX} {vs : List Value} {cs : Array Value} (h : RdVE w (Und n₀) 4 (BindingX.rows l) vs) (hc : ∀ (i : Nat) (v : Value), vs[i]? = some v → cs[i]? = some v) : RestB w n₀ 0 l cs := by
  intro j hj _
  obtain ⟨ws, h1, -, h3⟩ := RdVE_at h j (by rw [BindingX.rows_length]; exact hj)
  rw [BindingX.rows_at l j hj, BindingX.cells_eq] at h1
  simp only [RdVs] at h1
  obtain ⟨v0, _, rfl, k0, v1, _, rfl, k1, v2, _, rfl, k2, v3, _, rfl, k3, rfl⟩ := h1
  rw [RdV_pl] at k0 k1 k2
  subst k0 k1 k2
  obtain ⟨A, c, rfl, _, _⟩ := k3.shape
  rw [TypeX.rows_length] at k3 h3
  exact ⟨A, c, hc _ _ (h3 0 _ rfl), hc _ _ (h3 1 _ rfl), hc _ _ (h3 2 _ rfl), hc _ _ (h3 3 _ rfl), k3⟩
theorem RestB.step {w : World} {n₀ k : Nat} {l : List BindingX} {cs : Array Value} (h : RestB w n₀ k l cs) (a b c : Value) : RestB w n₀ (k + 1) l (setAt cs (k * 4 + 1) [a, b, c]) := by
  intro j hj hjk
  obtain ⟨A, d, e0, e1, e2, e3, r⟩ := h j hj (by omega)
  have hm : (k + 1) * 4 ≤ j * 4 := Nat.mul_le_mul_right _ hjk
  have hf : ∀ i, (setAt cs (k * 4 + 1) [a, b, c])[j * 4 + i]? = cs[j * 4 + i]? := fun i => setAt_far _ cs _ _ (.inr (by simp; omega))
  exact ⟨A, d, (hf 0).trans e0, (hf 1).trans e1, (hf 2).trans e2, (hf 3).trans e3, r⟩
theorem setAt_tail {cs : Array Value} {o : Nat} {v : Value} (h : cs[o]? = some v) (r : List Value) : setAt cs o (v :: r) = setAt cs (o + 1) r := by
  rw [setAt]
  congr 1
  obtain ⟨hlt, rfl⟩ := Array.getElem?_eq_some_iff.1 h
  exact Array.ext (by simp) fun i h1 h2 => by
    rw [Array.getElem_setIfInBounds]
    split
    · rename_i he; subst he; rfl
    · rfl

set_option maxRecDepth 100000 in
set_option maxHeartbeats 4000000 in
/-- Matches: nothing is copied. -/
theorem implMatches (p t : TypeX) (A C : Option Addr) (a c : Nat) (w : World) (hp32 : p.size ≤ 4294967296) (ht32 : t.size ≤ 4294967296) (hp : TypeRow w (Und w.heap.size) A a p.args_) (ht : TypeRow w (Und w.heap.size) C c t.args_) :
    Calls Tryd.prog 14 #[.agg #[.int .i64 p.kind_, .string p.name_, .slice A p.args_.length a], .agg #[.int .i64 t.kind_, .string t.name_, .slice C t.args_.length c]] w fun e w' => e = .returned (.bool (p.mat t []).isSome) ∧ Below w.heap.size w w' := by
  obtain ⟨W, hW⟩ : ∃ W, W = ((w.alloc (.cells #[.int .i64 p.kind_, .string p.name_, .slice A p.args_.length a] 26)).alloc (.cells #[.int .i64 t.kind_, .string t.name_, .slice C t.args_.length c] 26)).alloc (.cells #[.map none, .slice none 0 0] 64) := ⟨_, rfl⟩
  have hb0 : Below w.heap.size w W := by rw [hW]; exact (((Below.refl _ _).alloc (Nat.le_refl _) _).alloc (by simp) _).alloc (by simp; omega) _
  have hs0 : W.heap.size = w.heap.size + 3 := by rw [hW]; simp
  have hm0 : Whole W (w.heap.size + 1 + 1) 64 #[.map none, .slice none 0 0] := by
    have h := Whole.new ((w.alloc (.cells #[.int .i64 p.kind_, .string p.name_, .slice A p.args_.length a] 26)).alloc (.cells #[.int .i64 t.kind_, .string t.name_, .slice C t.args_.length c] 26)) 64 #[.map none, .slice none 0 0]
    simp only [World.size_alloc] at h
    rw [hW]; exact h
  have hcl : ∀ b o, Und w.heap.size b → W.cell? ⟨b, o, none⟩ = w.cell? ⟨b, o, none⟩ := fun b o h => hb0.cell (p := ⟨b, o, none⟩) h
  have hcall := implMatchM p t A C a c w.heap.size (w.heap.size + 1 + 1) W (by omega) (by omega) hp32 ht32 hm0 (hp.frame (fun _ h => h) hcl) (ht.frame (fun _ h => h) hcl)
  have HC := Lib.hid hcall
  have HW := Lib.hid hW.symm
  have HB := Lib.hid hb0
  clear hp ht hW hb0 hm0 hcl hcall
  go_enter Tryd.func14, Tryd.ntmps14
  go_wp2_with fail
  rw [HW.out]
  refine HC.out.mono ?_
  rintro e w1 ⟨rfl, _, hb1⟩
  have hbb := HB.out.trans hb1
  clear hb1
  go_wp2
  go_ret
  exact ⟨rfl, hbb⟩

end Go.Proofs.YtngbilblddngcaaDoor

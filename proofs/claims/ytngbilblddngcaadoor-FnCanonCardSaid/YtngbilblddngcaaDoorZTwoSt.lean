/- Two drawn types: a pattern in a box of the draw's own, and a type that may be made out of it. -/
import Derived.Test.YtngbilblddngcaaDoorZDrawAp
import Derived.Test.YtngbilblddngcaaDoorZSpApply
import Derived.Test.YtngbilblddngcaaDoorZApdP
import Derived.Test.YtngbilblddngcaaDoorZMatQ
namespace Go.Proofs.YtngbilblddngcaaDoor
open Go.RowKit Go.Lib

abbrev tyV (x : TypeX) (A : Option Addr) (c : Nat) : Array Value := #[.int .i64 x.kind_, .string x.name_, .slice A x.args_.length c]
/-- What was there when the draw began, and its cursor. -/
def OldG (w : World) (g : Nat) (b : Nat) : Prop := b < w.heap.size + 2 ∨ b = g
structure TwoSt (w : World) (B g N : Nat) (p : TypeX) (Bp : Nat) (A : Option Addr) (a : Nat) (u : World) : Prop where
  cur : Cur u B g
  r1 : Whole u w.heap.size 26 zeroT
  r2 : Whole u (w.heap.size + 1) 26 zeroT
  box : Whole u Bp 26 #[.int .i64 p.kind_, .string p.name_, .slice A p.args_.length a]
  row : TypeRow u (fun b => b < N ∧ ¬ OldG w g b) A a p.args_
  gB : w.heap.size + 2 ≤ g
  gP : g < Bp
  nP : N ≤ Bp
  below : Below w.heap.size w u
theorem TwoSt.but {w : World} {B g N : Nat} {p : TypeX} {Bp : Nat} {A : Option Addr} {a : Nat} {u u' : World} (h : TwoSt w B g N p Bp A a u) (hb : But g u u') (hc : Cur u' B g) : TwoSt w B g N p Bp A a u' where
  cur := hc
  r1 := whole_but h.r1 hb (by have := h.gB; omega)
  r2 := whole_but h.r2 hb (by have := h.gB; omega)
  box := whole_but h.box hb (by have := h.gP; omega)
  row := h.row.frame (fun _ h => h) fun b o hP => World.cell?_of_block (a := ⟨b, o, none⟩) (hb.block b (by have := h.nP; have := h.box.lt; have := hP.1; omega) (fun e => hP.2 (.inr e)))
  gB := h.gB
  gP := h.gP
  nP := h.nP
  below := h.below.trans (hb.to_below (by have := h.gB; omega) h.below.size)
theorem TwoSt.keep {w : World} {B g N : Nat} {p : TypeX} {Bp : Nat} {A : Option Addr} {a : Nat} {u u' : World} (h : TwoSt w B g N p Bp A a u) (hb : Below u.heap.size u u') : TwoSt w B g N p Bp A a u' := h.but (But.of_below hb) (h.cur.kept hb)
theorem TwoSt.und {w : World} {B g N : Nat} {p : TypeX} {Bp : Nat} {A : Option Addr} {a : Nat} {u : World} (h : TwoSt w B g N p Bp A a u) : TypeRow u (Und u.heap.size) A a p.args_ :=
  h.row.frame (fun b hP => by have := h.nP; have := h.box.lt; have := hP.1; show b < _; omega) fun _ _ _ => rfl
theorem oldG_lt {w u : World} {g : Nat} (hb : w.heap.size + 2 ≤ u.heap.size) (hg : g < u.heap.size) : ∀ b, OldG w g b → b < u.heap.size := fun b h => by
  rcases h with h | h
  · omega
  · omega

/-- WHAT THE DRAW OF TWO TYPES LEAVES. -/
def DrawnTwo (w : World) (e : Ending) (w' : World) : Prop := ∃ (p : TypeX) (A : Option Addr) (a : Nat) (t : TypeX) (C : Option Addr) (c : Nat),
  e = .returned (.tuple #[.agg #[.int .i64 p.kind_, .string p.name_, .slice A p.args_.length a], .agg #[.int .i64 t.kind_, .string t.name_, .slice C t.args_.length c]]) ∧
  TypeRow w' (fun b => w.heap.size ≤ b ∧ b < w'.heap.size) A a p.args_ ∧ TypeRow w' (fun b => w.heap.size ≤ b ∧ b < w'.heap.size) C c t.args_ ∧ p.size ≤ 100 ∧ p.tame ∧ p.leafy ∧ t.size ≤ 10000 ∧ t.tame ∧ Below w.heap.size w w'

mutual
/-- What takes a variable's place is tame: so is what comes of a type without arguments below variables. -/
theorem TypeX.sub_tame {f : ByteArray → Option TypeX} (hf : ∀ s y, f s = some y → y.tame) : ∀ x : TypeX, x.tame → x.leafy → (x.sub f).tame
  | .mk k n a, ht, hl => by
    rw [TypeX.leafy] at hl
    by_cases hc : (k == 1) = true ∧ (f n).isSome = true
    · rw [TypeX.sub, if_pos hc]
      obtain ⟨y, hy⟩ := Option.isSome_iff_exists.1 hc.2
      rw [hy]
      exact hf n y hy
    · rw [TypeX.sub, if_neg hc]
      rw [TypeX.tame] at ht ⊢
      exact ⟨ht.1, ht.2.1, TypeX.subL_tame hf a ht.2.2.1 hl.2, fun hk _ => by rw [hl.1 hk, TypeX.subL, TypeX.namesL]⟩
theorem TypeX.subL_tame {f : ByteArray → Option TypeX} (hf : ∀ s y, f s = some y → y.tame) : ∀ l : List TypeX, TypeX.tameL l → TypeX.leafyL l → TypeX.tameL (TypeX.subL f l)
  | [], _, _ => by rw [TypeX.subL, TypeX.tameL]; trivial
  | x :: r, h, hl => by
    rw [TypeX.tameL] at h
    rw [TypeX.leafyL] at hl
    rw [TypeX.subL, TypeX.tameL]
    exact ⟨TypeX.sub_tame hf x h.1 hl.1, TypeX.subL_tame hf r h.2 hl.2⟩
end
mutual
/-- A name of one byte that is bound to a type without variables. -/
theorem TypeX.sub_tame1 {v : ByteArray} {z : TypeX} (hv : v.size = 1) (hz : z.tame) : ∀ x : TypeX, x.tame → (x.sub (subX [.mk v z])).tame
  | .mk k n a, ht => by
    by_cases hc : (k == 1) = true ∧ (subX [.mk v z] n).isSome = true
    · rw [TypeX.sub, if_pos hc]
      obtain ⟨y, hy⟩ := Option.isSome_iff_exists.1 hc.2
      rw [hy]
      have : y = z := by
        rw [subX, lookX_one] at hy
        split at hy
        · injection hy with hy; exact hy.symm
        · cases hy
      rw [this]; exact hz
    · rw [TypeX.sub, if_neg hc]
      rw [TypeX.tame] at ht ⊢
      refine ⟨ht.1, ht.2.1, TypeX.subL_tame1 hv hz a ht.2.2.1, fun hk hs => ?_⟩
      have h0 := ht.2.2.2 hk hs
      rw [TypeX.subL_on (g := fun _ => none) a (fun s hs => by rw [h0] at hs; cases hs), TypeX.subL_none]
      exact h0
theorem TypeX.subL_tame1 {v : ByteArray} {z : TypeX} (hv : v.size = 1) (hz : z.tame) : ∀ l : List TypeX, TypeX.tameL l → TypeX.tameL (TypeX.subL (subX [.mk v z]) l)
  | [], _ => by rw [TypeX.subL, TypeX.tameL]; trivial
  | x :: r, h => by
    rw [TypeX.tameL] at h
    rw [TypeX.subL, TypeX.tameL]
    exact ⟨TypeX.sub_tame1 hv hz x h.1, TypeX.subL_tame1 hv hz r h.2⟩
end
theorem sub_size_le {f : ByteArray → Option TypeX} {x : TypeX} {M N : Nat} (hf : ∀ s y, f s = some y → y.size ≤ M) (h1 : 1 ≤ M) (hx : x.size ≤ N) : (x.sub f).size ≤ N * M :=
  Nat.le_trans (TypeX.size_sub hf h1 x) (Nat.mul_le_mul_right _ hx)

/-- The ending: the results' cells written, in one order or the other. -/
theorem two_end {w u : World} {R1 R2 : Nat} {a1 b1 d1 a2 b2 d2 : Value} {p t : TypeX} {A C : Option Addr} {a c : Nat} (hR : R1 ≠ R2) (hw1 : w.heap.size ≤ R1) (hw2 : w.heap.size ≤ R2) (h1 : Whole u R1 26 #[a1, b1, d1]) (h2 : Whole u R2 26 #[a2, b2, d2]) (hb : Below w.heap.size w u)
    (hp : TypeRow u (fun b => (w.heap.size ≤ b ∧ b < u.heap.size) ∧ b ≠ R1 ∧ b ≠ R2) A a p.args_) (ht : TypeRow u (fun b => (w.heap.size ≤ b ∧ b < u.heap.size) ∧ b ≠ R1 ∧ b ≠ R2) C c t.args_) (hps : p.size ≤ 100) (hpt : p.tame) (hpl : p.leafy) (hts : t.size ≤ 10000) (htt : t.tame) :
    ∀ w4, (w4 = (((((u.setCell ⟨R1, 0, none⟩ (.int .i64 p.kind_)).setCell ⟨R1, 1, none⟩ (.string p.name_)).setCell ⟨R1, 2, none⟩ (.slice A p.args_.length a)).setCell ⟨R2, 0, none⟩ (.int .i64 t.kind_)).setCell ⟨R2, 1, none⟩ (.string t.name_)).setCell ⟨R2, 2, none⟩ (.slice C t.args_.length c) ∨
      w4 = (((((u.setCell ⟨R2, 0, none⟩ (.int .i64 t.kind_)).setCell ⟨R2, 1, none⟩ (.string t.name_)).setCell ⟨R2, 2, none⟩ (.slice C t.args_.length c)).setCell ⟨R1, 0, none⟩ (.int .i64 p.kind_)).setCell ⟨R1, 1, none⟩ (.string p.name_)).setCell ⟨R1, 2, none⟩ (.slice A p.args_.length a)) →
      w4.cell? ⟨R1, 0, none⟩ = some (.int .i64 p.kind_) ∧ w4.cell? ⟨R1, 1, none⟩ = some (.string p.name_) ∧ w4.cell? ⟨R1, 2, none⟩ = some (.slice A p.args_.length a) ∧
      w4.cell? ⟨R2, 0, none⟩ = some (.int .i64 t.kind_) ∧ w4.cell? ⟨R2, 1, none⟩ = some (.string t.name_) ∧ w4.cell? ⟨R2, 2, none⟩ = some (.slice C t.args_.length c) ∧
      DrawnTwo w (.returned (.tuple #[.agg #[.int .i64 p.kind_, .string p.name_, .slice A p.args_.length a], .agg #[.int .i64 t.kind_, .string t.name_, .slice C t.args_.length c]])) w4 := by
  intro w4 h4
  have key : Whole w4 R1 26 #[.int .i64 p.kind_, .string p.name_, .slice A p.args_.length a] ∧ Whole w4 R2 26 #[.int .i64 t.kind_, .string t.name_, .slice C t.args_.length c] ∧ (∀ b, b ≠ R1 → b ≠ R2 → w4.heap[b]? = u.heap[b]?) ∧ w4.heap.size = u.heap.size ∧ Below w.heap.size w w4 := by
    rcases h4 with rfl | rfl
    · refine ⟨(((((h1.set_ 0 _).set_ 1 _).set_ 2 _).far hR _ _).far hR _ _).far hR _ _, ((((((h2.far hR.symm _ _).far hR.symm _ _).far hR.symm _ _).set_ 0 _).set_ 1 _).set_ 2 _), fun b h1 h2 => ?_, by simp, ?_⟩
      · rw [Below.heap_setCell _ _ _ _ (by exact h2), Below.heap_setCell _ _ _ _ (by exact h2), Below.heap_setCell _ _ _ _ (by exact h2), Below.heap_setCell _ _ _ _ (by exact h1), Below.heap_setCell _ _ _ _ (by exact h1), Below.heap_setCell _ _ _ _ (by exact h1)]
      · exact (((((hb.setCell (p := ⟨R1, 0, none⟩) hw1 _).setCell (p := ⟨R1, 1, none⟩) hw1 _).setCell (p := ⟨R1, 2, none⟩) hw1 _).setCell (p := ⟨R2, 0, none⟩) hw2 _).setCell (p := ⟨R2, 1, none⟩) hw2 _).setCell (p := ⟨R2, 2, none⟩) hw2 _
    · refine ⟨((((((h1.far hR _ _).far hR _ _).far hR _ _).set_ 0 _).set_ 1 _).set_ 2 _), (((((h2.set_ 0 _).set_ 1 _).set_ 2 _).far hR.symm _ _).far hR.symm _ _).far hR.symm _ _, fun b h1 h2 => ?_, by simp, ?_⟩
      · rw [Below.heap_setCell _ _ _ _ (by exact h1), Below.heap_setCell _ _ _ _ (by exact h1), Below.heap_setCell _ _ _ _ (by exact h1), Below.heap_setCell _ _ _ _ (by exact h2), Below.heap_setCell _ _ _ _ (by exact h2), Below.heap_setCell _ _ _ _ (by exact h2)]
      · exact (((((hb.setCell (p := ⟨R2, 0, none⟩) hw2 _).setCell (p := ⟨R2, 1, none⟩) hw2 _).setCell (p := ⟨R2, 2, none⟩) hw2 _).setCell (p := ⟨R1, 0, none⟩) hw1 _).setCell (p := ⟨R1, 1, none⟩) hw1 _).setCell (p := ⟨R1, 2, none⟩) hw1 _
  obtain ⟨k1, k2, k3, k4, k5⟩ := key
  obtain ⟨c0, c1, c2⟩ := cells3 k1
  obtain ⟨d0, d1, d2⟩ := cells3 k2
  exact ⟨c0, c1, c2, d0, d1, d2, p, A, a, t, C, c, rfl, hp.frame (fun b h => ⟨h.1.1, by rw [k4]; exact h.1.2⟩) (fun b o h => World.cell?_of_block (a := ⟨b, o, none⟩) (k3 b h.2.1 h.2.2)), ht.frame (fun b h => ⟨h.1.1, by rw [k4]; exact h.1.2⟩) (fun b o h => World.cell?_of_block (a := ⟨b, o, none⟩) (k3 b h.2.1 h.2.2)), hps, hpt, hpl, hts, htt, k5⟩
/-- The same, where the stores' region draws its order. -/
theorem two_endD {w u : World} {R1 R2 : Nat} {a1 b1 d1 a2 b2 d2 : Value} {p t : TypeX} {A C : Option Addr} {a c : Nat} (hR : R1 ≠ R2) (hw1 : w.heap.size ≤ R1) (hw2 : w.heap.size ≤ R2) (h1 : Whole u R1 26 #[a1, b1, d1]) (h2 : Whole u R2 26 #[a2, b2, d2]) (hb : Below w.heap.size w u)
    (hp : TypeRow u (fun b => (w.heap.size ≤ b ∧ b < u.heap.size) ∧ b ≠ R1 ∧ b ≠ R2) A a p.args_) (ht : TypeRow u (fun b => (w.heap.size ≤ b ∧ b < u.heap.size) ∧ b ≠ R1 ∧ b ≠ R2) C c t.args_) (hps : p.size ≤ 100) (hpt : p.tame) (hpl : p.leafy) (hts : t.size ≤ 10000) (htt : t.tame) :
    ∀ w4, w4 = ((((((u.setCell ⟨R1, 0, none⟩ (.int .i64 p.kind_)).setCell ⟨R1, 1, none⟩ (.string p.name_)).setCell ⟨R1, 2, none⟩ (.slice A p.args_.length a)).setCell ⟨R2, 0, none⟩ (.int .i64 t.kind_)).setCell ⟨R2, 1, none⟩ (.string t.name_)).setCell ⟨R2, 2, none⟩ (.slice C t.args_.length c)).drew →
      w4.cell? ⟨R1, 0, none⟩ = some (.int .i64 p.kind_) ∧ w4.cell? ⟨R1, 1, none⟩ = some (.string p.name_) ∧ w4.cell? ⟨R1, 2, none⟩ = some (.slice A p.args_.length a) ∧
      w4.cell? ⟨R2, 0, none⟩ = some (.int .i64 t.kind_) ∧ w4.cell? ⟨R2, 1, none⟩ = some (.string t.name_) ∧ w4.cell? ⟨R2, 2, none⟩ = some (.slice C t.args_.length c) ∧
      DrawnTwo w (.returned (.tuple #[.agg #[.int .i64 p.kind_, .string p.name_, .slice A p.args_.length a], .agg #[.int .i64 t.kind_, .string t.name_, .slice C t.args_.length c]])) w4 := by
  intro w4 h4
  obtain ⟨w5, h5⟩ : ∃ w5, w5 = (((((u.setCell ⟨R1, 0, none⟩ (.int .i64 p.kind_)).setCell ⟨R1, 1, none⟩ (.string p.name_)).setCell ⟨R1, 2, none⟩ (.slice A p.args_.length a)).setCell ⟨R2, 0, none⟩ (.int .i64 t.kind_)).setCell ⟨R2, 1, none⟩ (.string t.name_)).setCell ⟨R2, 2, none⟩ (.slice C t.args_.length c) := ⟨_, rfl⟩
  obtain ⟨k0, k1, k2, k3, k4, k5, p', A', a', t', C', c', e, hp', ht', q1, q2, q3, q4, q5, hb'⟩ := two_end hR hw1 hw2 h1 h2 hb hp ht hps hpt hpl hts htt w5 (.inl h5)
  rw [← h5] at h4
  subst h4
  exact ⟨k0, k1, k2, k3, k4, k5, p', A', a', t', C', c', e, hp'.frame (fun _ h => h) (fun _ _ _ => rfl), ht'.frame (fun _ h => h) (fun _ _ _ => rfl), q1, q2, q3, q4, q5, hb'.drew⟩
end Go.Proofs.YtngbilblddngcaaDoor

/- An S-expression that came in: what its reading gives the walks. -/
import Derived.Test.YtbcfeoobhemdcaaZSx
import Derived.Deep.Slices
import Derived.Lib.SmallJoins
import Derived.ProofKit
namespace Go.Proofs.Ytbcfeoobhemdcaa
open Go.ChangeShapes Go.WideShapes Go.ChangeAt Go.RowKit Go.Deep

section
variable {H : Type} {enc : TypeId × Value → H} {P : Program} {w : World} {base : Nat} {spare : Nat → Bool} {held : Bool}

theorem sx_of {T TL TS : TypeId} {f0 f1 : Field} (hT : P.underlying T = some (.struct #[f0, f1])) (h0 : f0.type = TS ∧ f0.offset = 0) (h1 : f1.type = TL ∧ f1.offset = 1) (hS : P.underlying TS = some .string) (hL : P.underlying TL = some (.slice T))
    (cT : P.cellsOf T = 2) (cS : P.cellsOf TS = 1) (cL : P.cellsOf TL = 1) :
    ∀ (F fuel : Nat) (cs : List Value) (y : DataW H × List MemPlace), fuel ≤ F → DataW.trod enc P w base spare held fuel T cs = some y →
      ∃ (x : SX) (A : Option Addr) (c : Nat), cs = [.string x.atom, .slice A x.list.length c] ∧ ListAt w (Lt w.heap.size) A x.list ∧ x.ok := by
  intro F
  induction F with
  | zero =>
    intro fuel cs y hf h
    obtain rfl : fuel = 0 := by omega
    simp [DataW.trod] at h
  | succ F ih =>
    intro fuel cs y hf h
    obtain ⟨xs, n, rfl, _, hcl, hxl, hfs⟩ := DataW.trod_struct hT h
    rw [cT] at hcl
    match cs, hcl with
    | [v0, v1], _ =>
      have hx2 : xs.length = 2 := by simpa using hxl
      have g0 := hfs 0 f0 rfl
      have g1 := hfs 1 f1 rfl
      rw [h0.1, h0.2, cS, List.getElem?_eq_getElem (by omega)] at g0
      rw [h1.1, h1.2, cL, List.getElem?_eq_getElem (by omega)] at g1
      simp only [List.drop_zero, List.take_succ_cons, List.take_zero, List.drop_succ_cons] at g0 g1
      obtain ⟨s, e0, _, hs⟩ := DataW.trod_string hS g0
      simp only [List.cons.injEq, and_true] at e0
      subst e0
      rcases DataW.trod_slice hL g1 with ⟨e1, _⟩ | ⟨a, len, cap, elems, rest, m, rfl, e1, _, _, hlc, hcm, hel, hes, _, _⟩
      · simp only [List.cons.injEq, and_true] at e1
        subst e1
        exact ⟨.mk s [], none, 0, rfl, .inl rfl, by rw [SX.ok]; exact ⟨by unfold maxLen at hs; omega, by simp, by rw [SX.okL]; trivial⟩⟩
      · simp only [List.cons.injEq, and_true] at e1
        subst e1
        have each : ∀ i, i < len → ∃ x : SX, x.ok ∧ w.cell? (a.add (i * 2)) = some (.string x.atom) ∧ ∃ A c, w.cell? (a.add (i * 2 + 1)) = some (.slice A x.list.length c) ∧ ListAt w (Lt w.heap.size) A x.list := by
          intro i hi
          have h2 := hes i hi
          rw [List.getElem?_eq_getElem (by omega)] at h2
          obtain ⟨cs', hc, ht⟩ := Option.bind_eq_some_iff.1 h2
          obtain ⟨x, A, c, e, hl, ho⟩ := ih m cs' _ (by omega) ht
          obtain ⟨_, _, hat⟩ := World.cells?_some hc
          rw [cT] at hat
          have a0 := hat 0 (by omega)
          have a1 := hat 1 (by omega)
          rw [add_add, e] at a0 a1
          exact ⟨x, ho, a0, A, c, a1, hl⟩
        haveI : Inhabited SX := ⟨.mk ByteArray.empty []⟩
        obtain ⟨f, hf2⟩ := choose_lt each
        refine ⟨.mk s ((List.range len).map f), some a, cap, by simp [SX.atom, SX.list], ?_, ?_⟩
        · show ListAt w _ (some a) ((List.range len).map f)
          by_cases hz : len = 0
          · subst hz; exact .inl rfl
          · obtain ⟨b, o, spot⟩ := a
            have hspot : spot = none := by
              have := (hf2 0 (by omega)).2.1
              simpa [Addr.add] using World.cell?_spot this
            subst hspot
            have hb : b < w.heap.size := by
              have := World.block_lt_of_cell? w _ (hf2 0 (by omega)).2.1
              simpa [Addr.add] using this
            refine .inr ⟨b, o, rfl, hb, RdE_of _ _ _ fun j hj => ?_⟩
            have hjl : j < len := by simpa using hj
            obtain ⟨_, q0, A, c, q1, ql⟩ := hf2 j hjl
            rw [Go.WideShapes.add_plain] at q0 q1
            simp only [List.getElem_map, List.getElem_range]
            exact RdX_iff.2 ⟨q0, A, c, by rw [Nat.add_assoc]; exact q1, ql⟩
        · rw [SX.ok]
          refine ⟨by unfold maxLen at hs; omega, by simp; unfold maxLen at hcm; omega, ?_⟩
          have gen : ∀ l : List SX, (∀ j (h : j < l.length), l[j].ok) → SX.okL l := by
            intro l
            induction l with
            | nil => intro _; rw [SX.okL]; trivial
            | cons x r ihr =>
              intro h
              rw [SX.okL]
              exact ⟨h 0 (by simp), ihr fun j hj => h (j + 1) (by simpa using hj)⟩
          refine gen _ fun j hj => ?_
          simp only [List.getElem_map, List.getElem_range]
          exact (hf2 j (by simpa using hj)).1
end
end Go.Proofs.Ytbcfeoobhemdcaa

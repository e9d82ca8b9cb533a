/- Texts that the claims share, joined. -/
import Derived.Test.YtmacnanocofoaaaQ1
import Derived.RangeFuncNested
import Derived.RangeFuncBound
import Derived.Lib.Hide
import Derived.RegionTactic
import Derived.Deep.QuietTactic
import Derived.BigQuiet
import Derived.Deep.CutRange
import Derived.RangeFuncCalls
import Derived.Outline
import Derived.Lib.AppendZeros
import Derived.Lib.AppendZerosOnto
import Derived.Lib.SliceRun
import Derived.Deep.Slices
import Derived.Lib.SmallJoins
import Derived.ProofKit
import Derived.Test.YtmacnanocofoaaaProg
namespace Go.Proofs.Ytmacnanocofoaaa
open Go.RowKit Go.Lib

mutual
/-- What the bindings become when the pattern is matched; nothing where it doesn't. -/
def TypeX.mat : TypeX → TypeX → List BindingX → Option (List BindingX)
  | .mk k n a, t, acc =>
    if k = 1 then
      match lookX n acc with
      | some y => if y.same t = true then some acc else none
      | none => some (acc ++ [.mk n t])
    else if k = t.kind_ ∧ n = t.name_ ∧ a.length = t.args_.length then TypeX.matL a t.args_ acc else none
def TypeX.matL : List TypeX → List TypeX → List BindingX → Option (List BindingX)
  | [], _, acc => some acc
  | _ :: _, [], _ => none
  | x :: r, y :: s, acc =>
    match x.mat y acc with
    | some acc2 => TypeX.matL r s acc2
    | none => none
end
/-- Matching at all positions. -/
def matAll (ps ts : List TypeX) : Option (List BindingX) := if ps.length = ts.length then TypeX.matL ps ts [] else none
theorem TypeX.mat_met {p t y : TypeX} {acc : List BindingX} (hk : p.kind_ = 1) (hl : lookX p.name_ acc = some y) : p.mat t acc = if y.same t = true then some acc else none := by
  cases p with | mk k n a =>
  simp only [TypeX.kind_, TypeX.name_] at hk hl
  rw [TypeX.mat, if_pos hk, hl]
theorem TypeX.mat_new {p t : TypeX} {acc : List BindingX} (hk : p.kind_ = 1) (hl : lookX p.name_ acc = none) : p.mat t acc = some (acc ++ [.mk p.name_ t]) := by
  cases p with | mk k n a =>
  simp only [TypeX.kind_, TypeX.name_] at hk hl
  rw [TypeX.mat, if_pos hk, hl]
  rfl
theorem TypeX.mat_no {p t : TypeX} {acc : List BindingX} (hk : p.kind_ ≠ 1) (h : ¬ (p.kind_ = t.kind_ ∧ p.name_ = t.name_ ∧ p.args_.length = t.args_.length)) : p.mat t acc = none := by
  cases p with | mk k n a =>
  have hk : k ≠ 1 := hk
  have h : ¬ (k = t.kind_ ∧ n = t.name_ ∧ a.length = t.args_.length) := h
  rw [TypeX.mat, if_neg hk, if_neg h]
theorem TypeX.mat_args {p t : TypeX} {acc : List BindingX} (hk : p.kind_ ≠ 1) (h : p.kind_ = t.kind_ ∧ p.name_ = t.name_ ∧ p.args_.length = t.args_.length) : p.mat t acc = TypeX.matL p.args_ t.args_ acc := by
  cases p with | mk k n a =>
  have hk : k ≠ 1 := hk
  have h : k = t.kind_ ∧ n = t.name_ ∧ a.length = t.args_.length := h
  rw [TypeX.mat, if_neg hk, if_pos h]
  rfl
/-- One position more. -/
theorem TypeX.matL_step : ∀ (ps ts : List TypeX) (acc : List BindingX) (k : Nat) (hp : k < ps.length) (ht : k < ts.length), TypeX.matL (ps.take (k + 1)) (ts.take (k + 1)) acc = (TypeX.matL (ps.take k) (ts.take k) acc).bind fun a2 => ps[k].mat ts[k] a2
  | x :: r, y :: s, acc, 0, _, _ => by
    simp only [Nat.zero_add, List.take_succ_cons, List.take_zero, TypeX.matL, Option.bind_some, List.getElem_cons_zero]
    cases x.mat y acc <;> rfl
  | x :: r, y :: s, acc, k + 1, hp, ht => by
    rw [List.take_succ_cons, List.take_succ_cons, List.take_succ_cons, List.take_succ_cons, TypeX.matL, TypeX.matL]
    cases x.mat y acc with
    | none => rfl
    | some a2 =>
      simp only [List.getElem_cons_succ]
      exact TypeX.matL_step r s a2 k (by simpa using hp) (by simpa using ht)
/-- Once it fails it fails. -/
theorem TypeX.matL_none : ∀ (ps ts : List TypeX) (acc : List BindingX) (k : Nat), ps.length = ts.length → TypeX.matL (ps.take k) (ts.take k) acc = none → TypeX.matL ps ts acc = none
  | [], _, acc, k, _, h => by rw [List.take_nil, TypeX.matL] at h; cases h
  | x :: r, [], acc, k, hl, h => by simp at hl
  | x :: r, y :: s, acc, 0, hl, h => by rw [List.take_zero, List.take_zero, TypeX.matL] at h; cases h
  | x :: r, y :: s, acc, k + 1, hl, h => by
    rw [List.take_succ_cons, List.take_succ_cons, TypeX.matL] at h
    rw [TypeX.matL]
    cases hm : x.mat y acc with
    | none => rfl
    | some a2 =>
      rw [hm] at h
      exact TypeX.matL_none r s a2 k (by simpa using hl) h
mutual
/-- What is bound is small, and there is no more of it than the pattern is large. -/
theorem TypeX.mat_small {M : Nat} : ∀ (p t : TypeX) (acc a2 : List BindingX), (∀ b ∈ acc, b.type_.size ≤ M) → t.size ≤ M → p.mat t acc = some a2 → (∀ b ∈ a2, b.type_.size ≤ M) ∧ a2.length ≤ acc.length + p.size
  | .mk k n a, t, acc, a2, ha, ht, h => by
    rw [TypeX.mat] at h
    rw [TypeX.size]
    by_cases hk : k = 1
    · rw [if_pos hk] at h
      cases hl : lookX n acc with
      | some y =>
        rw [hl] at h
        by_cases hs : y.same t = true
        · simp only [hs, if_true, Option.some.injEq] at h
          subst h; exact ⟨ha, by omega⟩
        · simp [hs] at h
      | none =>
        rw [hl] at h
        simp only [Option.some.injEq] at h
        subst h
        refine ⟨fun b hb => ?_, by rw [List.length_append, List.length_singleton]; omega⟩
        rcases List.mem_append.1 hb with hb | hb
        · exact ha b hb
        · rw [List.mem_singleton.1 hb]; exact ht
    · rw [if_neg hk] at h
      by_cases hc : k = t.kind_ ∧ n = t.name_ ∧ a.length = t.args_.length
      · rw [if_pos hc] at h
        have := TypeX.matL_small a t.args_ acc a2 ha (by rw [TypeX.size_eq] at ht; omega) h
        exact ⟨this.1, by omega⟩
      · rw [if_neg hc] at h; cases h
theorem TypeX.matL_small {M : Nat} : ∀ (ps ts : List TypeX) (acc a2 : List BindingX), (∀ b ∈ acc, b.type_.size ≤ M) → TypeX.sizeL ts ≤ M → TypeX.matL ps ts acc = some a2 → (∀ b ∈ a2, b.type_.size ≤ M) ∧ a2.length ≤ acc.length + TypeX.sizeL ps
  | [], ts, acc, a2, ha, ht, h => by
    rw [TypeX.matL] at h
    injection h with h
    subst h; exact ⟨ha, by omega⟩
  | x :: r, [], acc, a2, ha, ht, h => by rw [TypeX.matL] at h; cases h
  | x :: r, y :: s, acc, a2, ha, ht, h => by
    rw [TypeX.matL] at h
    rw [TypeX.sizeL] at ht
    rw [TypeX.sizeL]
    cases hm : x.mat y acc with
    | none => rw [hm] at h; cases h
    | some a1 =>
      rw [hm] at h
      have h1 := TypeX.mat_small x y acc a1 ha (by omega) hm
      have h2 := TypeX.matL_small r s a1 a2 h1.1 (by omega) h
      exact ⟨h2.1, by omega⟩
end
end Go.Proofs.Ytmacnanocofoaaa
namespace Go.Proofs.Ytmacnanocofoaaa
open Go.RowKit

abbrev PairX := TypeX × TypeX
/-- What stands below a pair. -/
def pairsX (p t : TypeX) : List PairX := if p.kind_ = 1 then [] else p.args_.zip t.args_
/-- What the walk may go on below. -/
def GoodP (p t : TypeX) : Prop := p.kind_ = 1 ∨ p.args_.length = t.args_.length
mutual
def TypeX.walkP (d : Nat) : TypeX → TypeX → List (Nat × PairX)
  | .mk k n a, t => (d, .mk k n a, t) :: (if k = 1 then [] else TypeX.walkPL (d + 1) a t.args_)
def TypeX.walkPL (d : Nat) : List TypeX → List TypeX → List (Nat × PairX)
  | [], _ => []
  | _ :: _, [] => []
  | x :: r, y :: s => x.walkP d y ++ TypeX.walkPL d r s
end
def walkPs (d : Nat) : List PairX → List (Nat × PairX)
  | [] => []
  | q :: r => q.1.walkP d q.2 ++ walkPs d r
theorem walkPL_zip (d : Nat) : ∀ a b : List TypeX, TypeX.walkPL d a b = walkPs d (a.zip b)
  | [], _ => by rw [TypeX.walkPL, List.zip_nil_left, walkPs]
  | _ :: _, [] => by rw [TypeX.walkPL, List.zip_nil_right, walkPs]
  | x :: r, y :: s => by rw [TypeX.walkPL, List.zip_cons_cons, walkPs, walkPL_zip d r s]
theorem walkP_eq (d : Nat) (p t : TypeX) : p.walkP d t = (d, p, t) :: walkPs (d + 1) (pairsX p t) := by
  cases p with | mk k n a =>
  rw [TypeX.walkP, pairsX]
  by_cases h : k = 1
  · rw [if_pos h, if_pos (show (TypeX.mk k n a).kind_ = 1 from h), walkPs]
  · rw [if_neg h, if_neg (show ¬ (TypeX.mk k n a).kind_ = 1 from h), walkPL_zip]; rfl
/-- What the lists of a stack (the top one first) have still to give. -/
def todoP : List (List PairX) → List (Nat × PairX)
  | [] => []
  | l :: r => walkPs r.length l ++ todoP r
theorem todoP_pop (r : List (List PairX)) : todoP ([] :: r) = todoP r := by rw [todoP, walkPs]; rfl
theorem todoP_step (p t : TypeX) (l : List PairX) (r : List (List PairX)) : todoP (((p, t) :: l) :: r) = (r.length, p, t) :: todoP (pairsX p t :: l :: r) := by
  rw [todoP, todoP, todoP, walkPs, walkP_eq, List.length_cons]
  simp
theorem todoP_start (p t : TypeX) : todoP [[(p, t)]] = p.walkP 0 t := by simp [todoP, walkPs]
theorem pairsX_length {p t : TypeX} (h : GoodP p t) : (pairsX p t).length = if p.kind_ = 1 then 0 else p.args_.length := by
  rw [pairsX]
  by_cases hk : p.kind_ = 1
  · rw [if_pos hk, if_pos hk]; rfl
  · rw [if_neg hk, if_neg hk, List.length_zip]
    rcases h with h | h
    · exact absurd h hk
    · omega
theorem pairsX_at {p t : TypeX} (hk : p.kind_ ≠ 1) {j : Nat} (h : j < (pairsX p t).length) (h1 : j < p.args_.length) (h2 : j < t.args_.length) : (pairsX p t)[j] = (p.args_[j], t.args_[j]) := by
  simp only [pairsX, if_neg hk, List.getElem_zip]
mutual
theorem walkP_length (d : Nat) : ∀ p t : TypeX, (p.walkP d t).length ≤ p.size
  | .mk k n a, t => by
    rw [TypeX.walkP, TypeX.size, List.length_cons]
    have := walkPL_length (d + 1) a t.args_
    split
    · simp
    · omega
theorem walkPL_length (d : Nat) : ∀ a b : List TypeX, (TypeX.walkPL d a b).length ≤ TypeX.sizeL a
  | [], _ => by rw [TypeX.walkPL]; simp
  | _ :: _, [] => by rw [TypeX.walkPL]; simp
  | x :: r, y :: s => by
    have := walkP_length d x y
    have := walkPL_length d r s
    rw [TypeX.walkPL, TypeX.sizeL, List.length_append]; omega
end
mutual
theorem walkP_small (d : Nat) : ∀ (p t : TypeX), ∀ q ∈ p.walkP d t, q.2.2.size ≤ t.size
  | .mk k n a, t, q, h => by
    rw [TypeX.walkP] at h
    rcases List.mem_cons.1 h with rfl | h
    · exact Nat.le_refl _
    · by_cases hk : k = 1
      · rw [if_pos hk] at h; cases h
      · rw [if_neg hk] at h
        have := walkPL_small (d + 1) a t.args_ q h
        rw [TypeX.size_eq t]; omega
theorem walkPL_small (d : Nat) : ∀ (a b : List TypeX), ∀ q ∈ TypeX.walkPL d a b, q.2.2.size ≤ TypeX.sizeL b
  | [], _, q, h => by rw [TypeX.walkPL] at h; cases h
  | _ :: _, [], q, h => by rw [TypeX.walkPL] at h; cases h
  | x :: r, y :: s, q, h => by
    rw [TypeX.walkPL] at h
    rw [TypeX.sizeL]
    rcases List.mem_append.1 h with h | h
    · have := walkP_small d x y q h; omega
    · have := walkPL_small d r s q h; omega
end
mutual
theorem walkP_left (d : Nat) : ∀ (p t : TypeX), ∀ q ∈ p.walkP d t, q.2.1.size ≤ p.size
  | .mk k n a, t, q, h => by
    rw [TypeX.walkP] at h
    rcases List.mem_cons.1 h with rfl | h
    · exact Nat.le_refl _
    · by_cases hk : k = 1
      · rw [if_pos hk] at h; cases h
      · rw [if_neg hk] at h
        have := walkPL_left (d + 1) a t.args_ q h
        rw [TypeX.size]; omega
theorem walkPL_left (d : Nat) : ∀ (a b : List TypeX), ∀ q ∈ TypeX.walkPL d a b, q.2.1.size ≤ TypeX.sizeL a
  | [], _, q, h => by rw [TypeX.walkPL] at h; cases h
  | _ :: _, [], q, h => by rw [TypeX.walkPL] at h; cases h
  | x :: r, y :: s, q, h => by
    rw [TypeX.walkPL] at h
    rw [TypeX.sizeL]
    rcases List.mem_append.1 h with h | h
    · have := walkP_left d x y q h; omega
    · have := walkPL_left d r s q h; omega
end

/-- What one pair makes of the bindings. -/
def stepP (q : PairX) (acc : List BindingX) : Option (List BindingX) :=
  if q.1.kind_ = 1 then
    match lookX q.1.name_ acc with
    | some y => if y.same q.2 = true then some acc else none
    | none => some (acc ++ [.mk q.1.name_ q.2])
  else if q.1.kind_ = q.2.kind_ ∧ q.1.name_ = q.2.name_ ∧ q.1.args_.length = q.2.args_.length then some acc else none
def stepsP : List (Nat × PairX) → List BindingX → Option (List BindingX)
  | [], acc => some acc
  | q :: r, acc => (stepP q.2 acc).bind (stepsP r)
theorem stepsP_app : ∀ (a b : List (Nat × PairX)) (acc : List BindingX), stepsP (a ++ b) acc = (stepsP a acc).bind (stepsP b)
  | [], b, acc => rfl
  | q :: r, b, acc => by
    rw [List.cons_append, stepsP, stepsP]
    cases stepP q.2 acc with
    | none => rfl
    | some a2 => exact stepsP_app r b a2
theorem stepsP_one (q : Nat × PairX) (acc : List BindingX) : stepsP [q] acc = stepP q.2 acc := by
  rw [stepsP]
  cases stepP q.2 acc <;> rfl
theorem stepP_met {q : PairX} {y : TypeX} {acc : List BindingX} (hk : q.1.kind_ = 1) (hl : lookX q.1.name_ acc = some y) : stepP q acc = if y.same q.2 = true then some acc else none := by
  rw [stepP, if_pos hk, hl]
theorem stepP_new {q : PairX} {acc : List BindingX} (hk : q.1.kind_ = 1) (hl : lookX q.1.name_ acc = none) : stepP q acc = some (acc ++ [.mk q.1.name_ q.2]) := by
  rw [stepP, if_pos hk, hl]
theorem stepP_root {q : PairX} {acc : List BindingX} (hk : q.1.kind_ ≠ 1) : stepP q acc = if q.1.kind_ = q.2.kind_ ∧ q.1.name_ = q.2.name_ ∧ q.1.args_.length = q.2.args_.length then some acc else none := by
  rw [stepP, if_neg hk]
theorem stepP_yes {q : PairX} {acc : List BindingX} (hk : q.1.kind_ ≠ 1) (hc : q.1.kind_ = q.2.kind_ ∧ q.1.name_ = q.2.name_ ∧ q.1.args_.length = q.2.args_.length) : stepP q acc = some acc := by
  rw [stepP_root hk, if_pos hc]
theorem stepP_no {q : PairX} {acc : List BindingX} (hk : q.1.kind_ ≠ 1) (hc : ¬ (q.1.kind_ = q.2.kind_ ∧ q.1.name_ = q.2.name_ ∧ q.1.args_.length = q.2.args_.length)) : stepP q acc = none := by
  rw [stepP_root hk, if_neg hc]
theorem stepP_good {q : PairX} {acc a2 : List BindingX} (h : stepP q acc = some a2) : GoodP q.1 q.2 := by
  by_cases hk : q.1.kind_ = 1
  · exact .inl hk
  · rw [stepP_root hk] at h
    by_cases hc : q.1.kind_ = q.2.kind_ ∧ q.1.name_ = q.2.name_ ∧ q.1.args_.length = q.2.args_.length
    · exact .inr hc.2.2
    · rw [if_neg hc] at h; cases h
mutual
theorem stepsP_walk (d : Nat) : ∀ (p t : TypeX) (acc : List BindingX), stepsP (p.walkP d t) acc = p.mat t acc
  | .mk k n a, t, acc => by
    rw [TypeX.walkP, stepsP]
    by_cases hk : k = 1
    · rw [if_pos hk]
      cases hl : lookX n acc with
      | some y =>
        rw [stepP_met (q := (.mk k n a, t)) hk hl, TypeX.mat_met (p := .mk k n a) hk hl]
        by_cases hs : y.same t = true
        · simp only [hs, if_true, Option.bind_some, stepsP]
        · rw [if_neg hs]; rfl
      | none =>
        rw [stepP_new (q := (.mk k n a, t)) hk hl, TypeX.mat_new (p := .mk k n a) hk hl]
        rfl
    · rw [if_neg hk]
      by_cases hc : k = t.kind_ ∧ n = t.name_ ∧ a.length = t.args_.length
      · rw [stepP_yes (q := (.mk k n a, t)) hk hc, TypeX.mat_args (p := .mk k n a) hk hc, Option.bind_some]
        exact stepsP_walkL (d + 1) a t.args_ acc hc.2.2
      · rw [stepP_no (q := (.mk k n a, t)) hk hc, TypeX.mat_no (p := .mk k n a) hk hc]; rfl
theorem stepsP_walkL (d : Nat) : ∀ (a b : List TypeX) (acc : List BindingX), a.length = b.length → stepsP (TypeX.walkPL d a b) acc = TypeX.matL a b acc
  | [], _, acc, _ => by rw [TypeX.walkPL, stepsP, TypeX.matL]
  | _ :: _, [], acc, h => by simp at h
  | x :: r, y :: s, acc, h => by
    rw [TypeX.walkPL, stepsP_app, stepsP_walk d x y, TypeX.matL]
    cases x.mat y acc with
    | none => rfl
    | some a2 => exact stepsP_walkL d r s a2 (by simpa using h)
end
/-- Once it fails it fails. -/
theorem stepsP_none {a b : List (Nat × PairX)} {acc : List BindingX} (h : stepsP a acc = none) : stepsP (a ++ b) acc = none := by rw [stepsP_app, h]; rfl
theorem stepP_small {M : Nat} {q : PairX} {acc a2 : List BindingX} (ha : ∀ b ∈ acc, b.type_.size ≤ M) (hq : q.2.size ≤ M) (h : stepP q acc = some a2) : (∀ b ∈ a2, b.type_.size ≤ M) ∧ a2.length ≤ acc.length + 1 := by
  by_cases hk : q.1.kind_ = 1
  · cases hl : lookX q.1.name_ acc with
    | some y =>
      rw [stepP_met hk hl] at h
      by_cases hs : y.same q.2 = true
      · rw [if_pos hs] at h; injection h with h; subst h; exact ⟨ha, by omega⟩
      · rw [if_neg hs] at h; cases h
    | none =>
      rw [stepP_new hk hl] at h
      injection h with h
      subst h
      refine ⟨fun b hb => ?_, by rw [List.length_append]; simp⟩
      rcases List.mem_append.1 hb with hb | hb
      · exact ha b hb
      · rw [List.mem_singleton.1 hb]; exact hq
  · rw [stepP_root hk] at h
    by_cases hc : q.1.kind_ = q.2.kind_ ∧ q.1.name_ = q.2.name_ ∧ q.1.args_.length = q.2.args_.length
    · rw [if_pos hc] at h; injection h with h; subst h; exact ⟨ha, by omega⟩
    · rw [if_neg hc] at h; cases h
theorem stepsP_small {M : Nat} : ∀ {l : List (Nat × PairX)} {acc a2 : List BindingX}, (∀ b ∈ acc, b.type_.size ≤ M) → (∀ q ∈ l, q.2.2.size ≤ M) → stepsP l acc = some a2 → (∀ b ∈ a2, b.type_.size ≤ M) ∧ a2.length ≤ acc.length + l.length
  | [], acc, a2, ha, hl, h => by rw [stepsP] at h; injection h with h; subst h; exact ⟨ha, by simp⟩
  | q :: r, acc, a2, ha, hl, h => by
    rw [stepsP] at h
    cases hs : stepP q.2 acc with
    | none => rw [hs] at h; cases h
    | some a1 =>
      rw [hs] at h
      obtain ⟨h1, h2⟩ := stepP_small ha (hl q List.mem_cons_self) hs
      obtain ⟨h3, h4⟩ := stepsP_small h1 (fun q hq => hl q (List.mem_cons_of_mem _ hq)) h
      exact ⟨h3, by rw [List.length_cons]; omega⟩
end Go.Proofs.Ytmacnanocofoaaa
namespace Go.Proofs.Ytmacnanocofoaaa
open Go.RowKit

/-- What a round keeps: what lay below n₀, and the iterator's own blocks. -/
structure KeepsM (n₀ : Nat) (M : Nat → Prop) (W W' : World) : Prop where
  below : Below n₀ W W'
  own : ∀ b, M b → W'.heap[b]? = W.heap[b]?
theorem KeepsM.refl (n₀ : Nat) (M : Nat → Prop) (W : World) : KeepsM n₀ M W W := ⟨Below.refl _ _, fun _ _ => rfl⟩
theorem KeepsM.trans {n₀ : Nat} {M : Nat → Prop} {A B C : World} (h : KeepsM n₀ M A B) (k : KeepsM n₀ M B C) : KeepsM n₀ M A C := ⟨h.below.trans k.below, fun b hb => (k.own b hb).trans (h.own b hb)⟩
theorem KeepsM.putObj {n₀ : Nat} {M : Nat → Prop} {W : World} {l : Nat} {o' : Obj} (hn : n₀ ≤ l) (hl : l < W.heap.size) (hM : ¬ M l) : KeepsM n₀ M W (W.putObj l o') :=
  ⟨(Below.refl n₀ W).grown (grownBy_putObj' W l o') (by omega) (fun k e => by cases e; exact hn), fun b hb => World.putObj_heap_other (fun e => hM (e ▸ hb))⟩
theorem KeepsM.alloc {n₀ : Nat} {M : Nat → Prop} {W : World} (hn : n₀ ≤ W.heap.size) (hM : ∀ b, M b → b < W.heap.size) (o : Obj) : KeepsM n₀ M W (W.alloc o) :=
  ⟨(Below.refl n₀ W).alloc hn o, fun b hb => Below.heap_alloc W o b (hM b hb)⟩
theorem KeepsM.setCell {n₀ : Nat} {M : Nat → Prop} {W : World} {b : Nat} {o : Nat} (hn : n₀ ≤ b) (hM : ¬ M b) (v : Value) : KeepsM n₀ M W (W.setCell ⟨b, o, none⟩ v) :=
  ⟨(Below.refl n₀ W).setCell (p := ⟨b, o, none⟩) hn v, fun k hk => Below.heap_setCell W _ v k (fun e => hM (by rw [← show k = b from e]; exact hk))⟩
theorem KeepsM.grown {n₀ : Nat} {M : Nat → Prop} {W W' : World} {row : Option Nat} (hg : W.grownBy W' row) (hn : n₀ ≤ W.heap.size) (hM : ∀ b, M b → b < W.heap.size) (hr : ∀ k, row = some k → n₀ ≤ k ∧ ¬ M k) : KeepsM n₀ M W W' :=
  ⟨(Below.refl n₀ W).grown hg hn (fun k e => (hr k e).1), fun b hb => hg.block b (hM b hb) (fun e => (hr b e.symm).2 hb)⟩
theorem KeepsM.of_below {n₀ : Nat} {M : Nat → Prop} {W W' : World} (hb : Below W.heap.size W W') (hn : n₀ ≤ W.heap.size) (hM : ∀ b, M b → b < W.heap.size) : KeepsM n₀ M W W' :=
  ⟨hb.mono hn, fun b hb' => hb.block b (hM b hb')⟩
theorem grown_none {A B : World} (h : Below A.heap.size A B) : A.grownBy B none := ⟨h.os, h.tape, h.output, h.size, fun k hk _ => h.block k hk⟩
theorem grownBy_setCell'' (W : World) (b o : Nat) (v : Value) : W.grownBy (W.setCell ⟨b, o, none⟩ v) (some b) :=
  ⟨rfl, rfl, rfl, by simp, fun k _ hk => Below.heap_setCell _ _ _ k (fun e => hk (by rw [e]))⟩
theorem KeepsFrom.of_below {B : Nat} {W W' : World} (hb : Below W.heap.size W W') : KeepsFrom B W W' :=
  ⟨hb.size, fun k _ _ hk _ => (hb.block k (Array.getElem?_eq_some_iff.1 hk).1).trans hk⟩

/-- THE ITERATOR's CONTRACT: J and Jx are the caller's; M: the blocks that the iterator has made; Rd: those that it only reads. -/
def SeqM {α : Type} (F : Fence) (n : Nat) (P : Program) (g : Nat) (lb : Array Value) (encs : α → Array Value) (Ok : List α → α → Prop) (S : List α → Prop) (n₀ : Nat) (Rd : Nat → Prop) (w : World) : Prop :=
  ∀ (l : Nat) (J : (Nat → Prop) → List α → World → Prop) (Jx : List α → World → Prop) (W : World), Below w.heap.size w W →
    (∀ M s A B row, J M s A → A.grownBy B row → (∀ r, row = some r → M r) → J (fun b => M b ∨ (A.heap.size ≤ b ∧ b < B.heap.size)) s B) →
    (∀ M pre x W1, J M pre W1 → Ok pre x → YieldAt F (n - 1) P l (encs x) W1 fun e W' =>
      (e = .returned (.bool true) ∧ J M (pre ++ [x]) W' ∧ KeepsM n₀ (fun b => M b ∨ Rd b) W1 W') ∨ (e = .returned (.bool false) ∧ Jx (pre ++ [x]) W')) →
    J (fun _ => False) [] W →
    CallsIn F n P g (#[.func (.yield l) #[] #[]] ++ lb) W fun e W' => (∃ v, e = .returned v) ∧ ((∃ M xs, S xs ∧ J M xs W') ∨ (∃ pre, Jx pre W'))

/-- THE CALLER's INVARIANT abides the iterator's steps, and the turns of what is no cells, from B on. -/
def OwnM {β : Type} (B : Nat) (I : (Nat → Prop) → β → World → Prop) : Prop :=
  ∀ M M' s A A' row, I M s A → A.grownBy A' row → (∀ r, row = some r → B ≤ r ∧ (M r ∨ ∃ o : Obj, A.heap[r]? = some o ∧ o.isCells = false)) → (∀ b, M' b → M b ∨ A.heap.size ≤ b) → I M' s A'
theorem OwnM.and {β : Type} {B : Nat} {I I' : (Nat → Prop) → β → World → Prop} (h : OwnM B I) (h' : OwnM B I') : OwnM B (fun M s W => I M s W ∧ I' M s W) :=
  fun M M' s A A' row hs hg hr hM => ⟨h M M' s A A' row hs.1 hg hr hM, h' M M' s A A' row hs.2 hg hr hM⟩
theorem OwnM.from {β : Type} {B : Nat} {I : (Nat → Prop) → β → World → Prop} (h : OwnM B I) (M : Nat → Prop) : OwnFrom B (I M) :=
  fun s A A' row hs hg hr => h M M s A A' row hs hg (fun r e => ⟨(hr r e).1, .inr (hr r e).2⟩) (fun _ hb => .inl hb)
theorem ownM_pure {β : Type} (B : Nat) (p : β → Prop) : OwnM B (fun _ s (_ : World) => p s) := fun _ _ _ _ _ _ hs _ _ _ => hs
theorem ownM_below {β : Type} {B n₀ : Nat} {w : World} (hn : n₀ ≤ B) (hs : n₀ ≤ w.heap.size) : OwnM B (fun _ (_ : β) W => Below n₀ w W) :=
  fun _ _ _ A A' row h hg hr _ => h.grown hg (by have := h.size; omega) (fun k e => by have := (hr k e).1; omega)
theorem ownM_boxed {β : Type} {B Bx : Nat} (t : TypeId) (f : β → Value) (hx : Bx < B) : OwnM B (fun _ s W => Boxed W Bx t (f s)) :=
  fun _ _ _ _ _ _ hs hg hr _ => hs.kept hg (fun e => by have := (hr _ e.symm).1; omega)
/-- A box that holds a slice with memory of its own, none of it the iterator's. -/
theorem ownM_row {β : Type} (n₀ : Nat) {B Bx : Nat} (t e : TypeId) (size : Nat) (k : β → Nat) (f : β → List Value) (G : β → Value → Prop) (hx : Bx < B) :
    OwnM B (fun M s W => ∃ v, Boxed W Bx t v ∧ W.ownsRow n₀ e size v (k s) (f s) ∧ (∀ b, v.ownBlock = some b → ¬ M b) ∧ G s v) := by
  rintro M M' s A A' row ⟨v, hv, hr, hn, hG⟩ hg hrow hM
  refine ⟨v, hv.kept hg (fun e' => by have := (hrow _ e'.symm).1; omega), hr.kept hg ?_, fun b hb h' => ?_, hG⟩
  · rcases hr.2 with ⟨rfl, _⟩ | ⟨g, cap, cur, rfl, _, hgb, _⟩
    · exact .inl rfl
    · refine .inr fun e' => ?_
      have e2 : row = some g := by simpa [Value.ownBlock] using e'.symm
      rcases (hrow g e2).2 with h | ⟨o, ho, hc⟩
      · exact hn g rfl h
      · rw [hgb] at ho; cases ho; cases hc
  · rcases hM b h' with h | h
    · exact hn b hb h
    · have := (hr.lt b hb).2; omega

theorem boxed_set_int {W : World} {B : Nat} {t : TypeId} {v : Value} {z z' : Int} (h : Boxed W B t v) (e : z = z') : Boxed (W.setCell ⟨B, 0, none⟩ (.int .i64 z)) B t (.int .i64 z') := e ▸ h.set _
theorem whole_kept {W W' : World} {row : Option Nat} {B : Nat} {t : TypeId} {cs : Array Value} (h : Whole W B t cs) (hg : W.grownBy W' row) (hr : ∀ r, row = some r → ∃ o : Obj, W.heap[r]? = some o ∧ o.isCells = false) : Whole W' B t cs :=
  (hg.block B h.lt (fun e => by obtain ⟨o, ho, hc⟩ := hr B e.symm; rw [show W.heap[B]? = _ from h] at ho; cases ho; cases hc)).trans h
/-- A new block of the round's. -/
theorem OwnM.alloc_ {β : Type} {B : Nat} {I : (Nat → Prop) → β → World → Prop} (h : OwnM B I) {M : Nat → Prop} {s : β} {W : World} {o : Obj} (hs : I M s W) (_hM : ∀ b, M b → B < b) : I M s (W.alloc o) :=
  h M M s W _ none hs (World.grownBy_alloc W o none) (fun r e => by cases e) (fun _ hb => .inl hb)

/-- HOW THE BODY OF A ROUND MAY BE LEFT. -/
def ownPostM {α : Type} (B n₀ : Nat) (Rd : Nat → Prop) (I : (Nat → Prop) → List α → World → Prop) (Ix : Code → List α → World → Prop) (M : Nat → Prop) (xs : List α) (W : World) : Exit → Act → World → Prop
  | .normal, _, W' => KeepsFrom B W W' ∧ KeepsM n₀ (fun b => M b ∨ Rd b) W W' ∧ I M xs W'
  | .ret, _, W' => KeepsFrom B W W' ∧ Ix .ret xs W'
  | .exit id, _, W' => KeepsFrom B W W' ∧ Ix (.exit id) xs W'
  | .goto t, _, W' => KeepsFrom B W W' ∧ Ix (.goto t) xs W'
  | .panic _, _, _ => False
  | .outgrown, _, _ => False

variable {F : Fence} {n : Nat} {P : Program}

theorem wpIn_rangeFunc_ownM {α : Type} {g : Operand} {ps : Array Tmp} {assign body : Code} {Q : Exit → Act → World → Prop} {a : Act} {w : World}
    (hro : F.round = none) (h1 : 1 ≤ n) {gf : Nat} {lb : Array Value} (hg : a.eval g = .func (.func gf) #[] lb) (hFg : F.fn gf) (eg : ∀ args w, (callFunc gf args).run P w = .ok (.enter gf args) w)
    {encs : α → Array Value} {Ok : List α → α → Prop} {S : List α → Prop} {n₀ : Nat} {Rd : Nat → Prop} {w0 : World} (hseq : SeqM F (n - 1) P gf lb encs Ok S n₀ Rd w0) (hRd : ∀ b, Rd b → b < w.heap.size)
    (hb0 : Below w0.heap.size w0 w) (hn0 : n₀ ≤ w.heap.size) (hps : ∀ x, (encs x).size = ps.size)
    (I : (Nat → Prop) → List α → World → Prop) (Ix : Code → List α → World → Prop) (hI : OwnM w.heap.size I) (hIx : ∀ c, OwnFrom w.heap.size (Ix c)) (h0 : ∀ M : Nat → Prop, (∀ b, M b → w.heap.size ≤ b) → I M [] w) (Ax : α → Act → World → Prop) (hAx : ∀ x a', OwnFrom w.heap.size (fun (_ : Unit) W => Ax x a' W))
    (hassign : ∀ (l : Nat) (M : Nat → Prop) (pre : List α) (x : α) (W : World) (K : Act → World → Prop), (∀ b, M b → w.heap.size < b) → (∀ b, M b ∨ Rd b → b < W.heap.size) → w.heap.size + 1 < W.heap.size → I M pre W → Ok pre x → (∀ a' W', KeepsFrom w.heap.size W W' → KeepsM n₀ (fun b => M b ∨ Rd b) W W' → I M pre W' → Ax x a' W' → K a' W') →
      assign.wpIn (F.inRound l) (n - 1 - 1) P (Exit.then K (fun _ _ _ => False)) { tmps := (ps.zip (encs x)).foldl (fun t (p, v) => t.setIfInBounds p v) a.tmps, defers := [] } W)
    (hbody : ∀ (l : Nat) (M : Nat → Prop) (pre : List α) (x : α) (a' : Act) (W : World), (∀ b, M b → w.heap.size < b) → (∀ b, M b ∨ Rd b → b < W.heap.size) → w.heap.size + 1 < W.heap.size → I M pre W → Ax x a' W → Ok pre x → body.wpIn (F.inRound l) (n - 1 - 1) P (ownPostM w.heap.size n₀ Rd I Ix M (pre ++ [x]) W) a' W)
    (hdone : ∀ (D : Nat) (M : Nat → Prop) (xs : List α) (W : World), w.heap.size ≤ D → S xs → I M xs W → W.heap[D]? = some (.deferred (some [])) → Q .normal { a with defers := { target := .collected D, args := #[] } :: a.defers } W)
    (hstop : ∀ (D : Nat) (c : Code) (pre : List α) (W : World), w.heap.size ≤ D → Ix c pre W → W.heap[D]? = some (.deferred (some [])) → c.wpIn F n P Q { a with defers := { target := .collected D, args := #[] } :: a.defers } W) :
    (Code.rangeFunc g ps assign body).wpIn F n P Q a w := by
  refine wpIn_rangeFunc ?_
  intro fn hfn
  rw [hro]
  obtain ⟨rec, hrec⟩ : ∃ rec : LoopState → Option Code → Loop, rec = fun st pe => { state := st, pending := pe, fn, tmps := a.tmps, params := ps, assign, body, defers := w.heap.size } := ⟨_, rfl⟩
  obtain ⟨W1, hW1⟩ : ∃ W1, (w.alloc (.deferred (some []))).alloc (.loop (rec .ready none)) = W1 := ⟨_, rfl⟩
  have hsz : W1.heap.size = w.heap.size + 2 := by rw [← hW1]; simp
  have hL1 : W1.heap[w.heap.size + 1]? = some (.loop (rec .ready none)) := by
    rw [← hW1]; have := World.alloc_heap_new (w.alloc (.deferred (some []))) (.loop (rec .ready none)); rwa [World.size_alloc] at this
  have hK1 : W1.heap[w.heap.size]? = some (.deferred (some [])) := by
    rw [← hW1]; exact (Below.heap_alloc _ _ _ (by simp)).trans (World.alloc_heap_new w _)
  have hI1 : I (fun _ => False) [] W1 := by
    have h := h0 (fun _ => False) (fun _ h => h.elim)
    rw [← hW1]; exact (hI.from _).alloc _ ((hI.from _).alloc _ h)
  have hb1 : Below w0.heap.size w0 W1 := by
    rw [← hW1]; exact hb0.trans ((((Below.refl _ w).alloc (Nat.le_refl _) _).alloc (by simp) _).mono hb0.size)
  refine ⟨w.heap.size + 1, [{ target := .collected w.heap.size, args := #[] }], W1, { target := .fn (.func gf) lb, args := #[.func (.yield (w.heap.size + 1)) #[] #[]] }, W1, gf,
    #[.func (.yield (w.heap.size + 1)) #[] #[]] ++ lb, W1, ?_, ?_, ?_, ?_, fun _ => h1, ?_⟩
  · rw [← hW1, hrec]; exact run_enterLoop_outer _ _ _ _ _
  · simp only [resolve, hg]
    simp [go_sem]
  · intro f' hf'; simp [Target.leads] at hf'; subst hf'; exact hFg
  · simp [invoke, go_sem, eg]
  · refine (hseq (w.heap.size + 1)
      (fun M pre W => (∀ b, M b → w.heap.size + 2 ≤ b ∧ b < W.heap.size) ∧ I M pre W ∧ W.heap[w.heap.size + 1]? = some (.loop (rec .ready none)) ∧ W.heap[w.heap.size]? = some (.deferred (some [])))
      (fun pre W => ∃ c, Ix c pre W ∧ W.heap[w.heap.size + 1]? = some (.loop (rec .done (some c))) ∧ W.heap[w.heap.size]? = some (.deferred (some [])))
      W1 hb1 ?_ ?_ ⟨fun _ h => h.elim, hI1, hL1, hK1⟩).mono ?_
    · rintro M s A B row ⟨hM, hi, hl, hk⟩ hg' hr
      have hlt : w.heap.size + 1 < A.heap.size := (Array.getElem?_eq_some_iff.1 hl).1
      have hsz' := hg'.size
      refine ⟨fun b hb => ?_, hI M _ s A B row hi hg' (fun r e => ⟨by have := (hM r (hr r e)).1; omega, .inl (hr r e)⟩) (fun b hb => hb.imp_right (fun h => h.1)), ?_, ?_⟩
      · rcases hb with hb | hb
        · have := hM b hb; omega
        · omega
      · exact (hg'.block _ hlt (fun e => by have := (hM _ (hr _ e.symm)).1; omega)).trans hl
      · exact (hg'.block _ (by omega) (fun e => by have := (hM _ (hr _ e.symm)).1; omega)).trans hk
    · rintro M pre x W ⟨hM, hi, hl, hk⟩ hok
      have hlt : w.heap.size + 1 < W.heap.size := (Array.getElem?_eq_some_iff.1 hl).1
      have hy := run_yield (P := P) (args := encs x) hl (by rw [hrec]; exact hps x)
      rw [hrec] at hy
      refine ⟨fn, _, assign, body, hy, roundIn_of_wpIn hfn (hassign _ M pre x W _ (fun b hb => by have := hM b hb; omega) (fun b hb => hb.elim (fun h => (hM b h).2) (fun h => by have := hRd b h; omega)) hlt hi hok ?_)⟩
      clear hy
      intro a' Wa hkfa hkpa hia hax
      replace hl := hkfa.same _ _ (by omega) hl rfl
      replace hk := hkfa.same _ _ (Nat.le_refl _) hk rfl
      replace hlt : w.heap.size + 1 < Wa.heap.size := (Array.getElem?_eq_some_iff.1 hl).1
      replace hM : ∀ b, M b → w.heap.size + 2 ≤ b ∧ b < Wa.heap.size := fun b hb => ⟨(hM b hb).1, by have := (hM b hb).2; have := hkfa.size; omega⟩
      replace hi := hia
      clear hia
      revert hkpa hkfa
      generalize W = Wb
      intro hkfa hkpa
      obtain ⟨W, rfl⟩ : ∃ W, W = Wa := ⟨_, rfl⟩
      refine ⟨_, run_beginRound hl (by rw [hrec]), ?_⟩
      have hl2 : (W.putObj (w.heap.size + 1) (.loop { rec .ready none with state := .busy })).heap[w.heap.size + 1]? = some (.loop { rec .ready none with state := .busy }) := World.putObj_heap_same hlt
      have hk2 : (W.putObj (w.heap.size + 1) (.loop { rec .ready none with state := .busy })).heap[w.heap.size]? = some (.deferred (some [])) := (World.putObj_heap_other (by omega)).trans hk
      have hw2 : KeepsM n₀ (fun b => M b ∨ Rd b) W (W.putObj (w.heap.size + 1) (.loop { rec .ready none with state := .busy })) := KeepsM.putObj (by omega) hlt (fun h => h.elim (fun h => by have := (hM _ h).1; omega) (fun h => by have := hRd _ h; omega))
      refine wpIn_mono (hbody _ M pre x a' _ (fun b hb => by have := hM b hb; omega) (fun b hb => by simp; exact hb.elim (fun h => (hM b h).2) (fun h => by have := hRd b h; omega)) (by simp; omega) ((hI.from M).putObj _ hi (by omega) hl rfl) ((hAx x a').putObj (s := ()) _ hax (by omega) hl rfl) hok) ?_
      have fin : ∀ (jump : Option Code) (W3 : World), KeepsFrom w.heap.size (W.putObj (w.heap.size + 1) (.loop { rec .ready none with state := .busy })) W3 →
          (Instr.endRound (w.heap.size + 1) jump).run P W3 = .ok (.bool jump.isNone) (W3.putObj (w.heap.size + 1) (.loop (rec (if jump.isNone then .ready else .done) jump))) ∧
          W3.heap[w.heap.size + 1]? = some (.loop { rec .ready none with state := .busy }) ∧
          (W3.putObj (w.heap.size + 1) (.loop (rec (if jump.isNone then .ready else .done) jump))).heap[w.heap.size + 1]? = some (.loop (rec (if jump.isNone then .ready else .done) jump)) ∧
          (W3.putObj (w.heap.size + 1) (.loop (rec (if jump.isNone then .ready else .done) jump))).heap[w.heap.size]? = some (.deferred (some [])) := fun jump W3 hk3 => by
        have hl3 := hk3.same _ _ (by omega) hl2 rfl
        have := run_endRound (P := P) jump hl3
        rw [hrec] at this ⊢
        exact ⟨this, by rw [hrec] at hl3; exact hl3, World.putObj_heap_same (Array.getElem?_eq_some_iff.1 hl3).1, (World.putObj_heap_other (by omega)).trans (hk3.same _ _ (Nat.le_refl _) hk2 rfl)⟩
      rintro e a3 W3 hp
      cases e with
      | normal =>
        obtain ⟨hk3, hkp3, hi3⟩ := hp
        obtain ⟨hr, hl3, hl4, hk4⟩ := fin none W3 hk3
        have hlt3 := (Array.getElem?_eq_some_iff.1 hl3).1
        have hsz3 := hk3.size
        simp at hsz3
        exact ⟨_, _, hr, .inl ⟨rfl, ⟨fun b hb => by have := hM b hb; simp; omega, (hI.from M).putObj _ hi3 (by omega) hl3 rfl, hl4, hk4⟩, hkpa.trans ((hw2.trans hkp3).trans (KeepsM.putObj (by omega) hlt3 (fun h => h.elim (fun h => by have := (hM _ h).1; omega) (fun h => by have := hRd _ h; omega))))⟩⟩
      | ret =>
        obtain ⟨hk3, hi3⟩ := hp
        obtain ⟨hr, hl3, hl4, hk4⟩ := fin (some .ret) W3 hk3
        exact ⟨_, _, hr, .inr ⟨rfl, .ret, (hIx _).putObj _ hi3 (by omega) hl3 rfl, hl4, hk4⟩⟩
      | exit id =>
        obtain ⟨hk3, hi3⟩ := hp
        obtain ⟨hr, hl3, hl4, hk4⟩ := fin (some (.exit id)) W3 hk3
        exact ⟨_, _, hr, .inr ⟨rfl, .exit id, (hIx _).putObj _ hi3 (by omega) hl3 rfl, hl4, hk4⟩⟩
      | goto t =>
        obtain ⟨hk3, hi3⟩ := hp
        obtain ⟨hr, hl3, hl4, hk4⟩ := fin (some (.goto t)) W3 hk3
        exact ⟨_, _, hr, .inr ⟨rfl, .goto t, (hIx _).putObj _ hi3 (by omega) hl3 rfl, hl4, hk4⟩⟩
      | panic ch => exact hp.elim
      | outgrown => exact hp.elim
    · rintro e W2 ⟨⟨v, rfl⟩, (⟨M, xs, hS, hM, hi, hl, hk⟩ | ⟨pre, c, hi, hl, hk⟩)⟩
      · exact ⟨none, _, by have := run_endLoop (P := P) hl (by rw [hrec]; simp); rw [hrec] at this; exact this, hdone _ M xs _ (Nat.le_refl _) hS ((hI.from M).putObj _ hi (by omega) hl rfl) ((World.putObj_heap_other (by omega)).trans hk)⟩
      · exact ⟨some c, _, by have := run_endLoop (P := P) hl (by rw [hrec]; simp); rw [hrec] at this; exact this, hstop _ c pre _ (Nat.le_refl _) ((hIx c).putObj _ hi (by omega) hl rfl) ((World.putObj_heap_other (by omega)).trans hk)⟩
end Go.Proofs.Ytmacnanocofoaaa
namespace Go.Proofs.Ytmacnanocofoaaa
open Go.RowKit

/-- THE ITERATOR's CONTRACT, where the body lets pass only what is Good: J and Jx are the caller's; M: the blocks that the iterator has made; Rd: those that it only reads. -/
def SeqG {α : Type} (F : Fence) (n : Nat) (P : Program) (g : Nat) (lb : Array Value) (encs : α → Array Value) (Ok : List α → α → Prop) (S : List α → Prop) (Good : α → Prop) (n₀ : Nat) (Rd : Nat → Prop) (w : World) : Prop :=
  ∀ (l : Nat) (J : (Nat → Prop) → List α → World → Prop) (Jx : List α → World → Prop) (W : World), Below w.heap.size w W →
    (∀ M s A B row, J M s A → A.grownBy B row → (∀ r, row = some r → M r) → J (fun b => M b ∨ (A.heap.size ≤ b ∧ b < B.heap.size)) s B) →
    (∀ M pre x W1, J M pre W1 → Ok pre x → YieldAt F (n - 1) P l (encs x) W1 fun e W' =>
      (e = .returned (.bool true) ∧ J M (pre ++ [x]) W' ∧ KeepsM n₀ (fun b => M b ∨ Rd b) W1 W') ∨ (e = .returned (.bool false) ∧ Jx (pre ++ [x]) W')) →
    (∀ M pre x W1, J M (pre ++ [x]) W1 → Good x) →
    J (fun _ => False) [] W →
    CallsIn F n P g (#[.func (.yield l) #[] #[]] ++ lb) W fun e W' => (∃ v, e = .returned v) ∧ ((∃ M xs, S xs ∧ J M xs W') ∨ (∃ pre, Jx pre W'))

variable {F : Fence} {n : Nat} {P : Program}

theorem wpIn_rangeFunc_ownG {α : Type} {g : Operand} {ps : Array Tmp} {assign body : Code} {Q : Exit → Act → World → Prop} {a : Act} {w : World}
    (hro : F.round = none) (h1 : 1 ≤ n) {gf : Nat} {lb : Array Value} (hg : a.eval g = .func (.func gf) #[] lb) (hFg : F.fn gf) (eg : ∀ args w, (callFunc gf args).run P w = .ok (.enter gf args) w)
    {encs : α → Array Value} {Ok : List α → α → Prop} {S : List α → Prop} {Good : α → Prop} {n₀ : Nat} {Rd : Nat → Prop} {w0 : World} (hseq : SeqG F (n - 1) P gf lb encs Ok S Good n₀ Rd w0) (hRd : ∀ b, Rd b → b < w.heap.size)
    (hb0 : Below w0.heap.size w0 w) (hn0 : n₀ ≤ w.heap.size) (hps : ∀ x, (encs x).size = ps.size)
    (I : (Nat → Prop) → List α → World → Prop) (Ix : Code → List α → World → Prop) (hI : OwnM w.heap.size I) (hG : ∀ M pre x W, I M (pre ++ [x]) W → Good x) (hIx : ∀ c, OwnFrom w.heap.size (Ix c)) (h0 : ∀ M : Nat → Prop, (∀ b, M b → w.heap.size ≤ b) → I M [] w) (Ax : α → Act → World → Prop) (hAx : ∀ x a', OwnFrom w.heap.size (fun (_ : Unit) W => Ax x a' W))
    (hassign : ∀ (l : Nat) (M : Nat → Prop) (pre : List α) (x : α) (W : World) (K : Act → World → Prop), (∀ b, M b → w.heap.size < b) → (∀ b, M b ∨ Rd b → b < W.heap.size) → w.heap.size + 1 < W.heap.size → I M pre W → Ok pre x → (∀ a' W', KeepsFrom w.heap.size W W' → KeepsM n₀ (fun b => M b ∨ Rd b) W W' → I M pre W' → Ax x a' W' → K a' W') →
      assign.wpIn (F.inRound l) (n - 1 - 1) P (Exit.then K (fun _ _ _ => False)) { tmps := (ps.zip (encs x)).foldl (fun t (p, v) => t.setIfInBounds p v) a.tmps, defers := [] } W)
    (hbody : ∀ (l : Nat) (M : Nat → Prop) (pre : List α) (x : α) (a' : Act) (W : World), (∀ b, M b → w.heap.size < b) → (∀ b, M b ∨ Rd b → b < W.heap.size) → w.heap.size + 1 < W.heap.size → I M pre W → Ax x a' W → Ok pre x → body.wpIn (F.inRound l) (n - 1 - 1) P (ownPostM w.heap.size n₀ Rd I Ix M (pre ++ [x]) W) a' W)
    (hdone : ∀ (D : Nat) (M : Nat → Prop) (xs : List α) (W : World), w.heap.size ≤ D → S xs → I M xs W → W.heap[D]? = some (.deferred (some [])) → Q .normal { a with defers := { target := .collected D, args := #[] } :: a.defers } W)
    (hstop : ∀ (D : Nat) (c : Code) (pre : List α) (W : World), w.heap.size ≤ D → Ix c pre W → W.heap[D]? = some (.deferred (some [])) → c.wpIn F n P Q { a with defers := { target := .collected D, args := #[] } :: a.defers } W) :
    (Code.rangeFunc g ps assign body).wpIn F n P Q a w := by
  refine wpIn_rangeFunc ?_
  intro fn hfn
  rw [hro]
  obtain ⟨rec, hrec⟩ : ∃ rec : LoopState → Option Code → Loop, rec = fun st pe => { state := st, pending := pe, fn, tmps := a.tmps, params := ps, assign, body, defers := w.heap.size } := ⟨_, rfl⟩
  obtain ⟨W1, hW1⟩ : ∃ W1, (w.alloc (.deferred (some []))).alloc (.loop (rec .ready none)) = W1 := ⟨_, rfl⟩
  have hsz : W1.heap.size = w.heap.size + 2 := by rw [← hW1]; simp
  have hL1 : W1.heap[w.heap.size + 1]? = some (.loop (rec .ready none)) := by
    rw [← hW1]; have := World.alloc_heap_new (w.alloc (.deferred (some []))) (.loop (rec .ready none)); rwa [World.size_alloc] at this
  have hK1 : W1.heap[w.heap.size]? = some (.deferred (some [])) := by
    rw [← hW1]; exact (Below.heap_alloc _ _ _ (by simp)).trans (World.alloc_heap_new w _)
  have hI1 : I (fun _ => False) [] W1 := by
    have h := h0 (fun _ => False) (fun _ h => h.elim)
    rw [← hW1]; exact (hI.from _).alloc _ ((hI.from _).alloc _ h)
  have hb1 : Below w0.heap.size w0 W1 := by
    rw [← hW1]; exact hb0.trans ((((Below.refl _ w).alloc (Nat.le_refl _) _).alloc (by simp) _).mono hb0.size)
  refine ⟨w.heap.size + 1, [{ target := .collected w.heap.size, args := #[] }], W1, { target := .fn (.func gf) lb, args := #[.func (.yield (w.heap.size + 1)) #[] #[]] }, W1, gf,
    #[.func (.yield (w.heap.size + 1)) #[] #[]] ++ lb, W1, ?_, ?_, ?_, ?_, fun _ => h1, ?_⟩
  · rw [← hW1, hrec]; exact run_enterLoop_outer _ _ _ _ _
  · simp only [resolve, hg]
    simp [go_sem]
  · intro f' hf'; simp [Target.leads] at hf'; subst hf'; exact hFg
  · simp [invoke, go_sem, eg]
  · refine (hseq (w.heap.size + 1)
      (fun M pre W => (∀ b, M b → w.heap.size + 2 ≤ b ∧ b < W.heap.size) ∧ I M pre W ∧ W.heap[w.heap.size + 1]? = some (.loop (rec .ready none)) ∧ W.heap[w.heap.size]? = some (.deferred (some [])))
      (fun pre W => ∃ c, Ix c pre W ∧ W.heap[w.heap.size + 1]? = some (.loop (rec .done (some c))) ∧ W.heap[w.heap.size]? = some (.deferred (some [])))
      W1 hb1 ?_ ?_ (fun M pre x W1 h => hG M pre x W1 h.2.1) ⟨fun _ h => h.elim, hI1, hL1, hK1⟩).mono ?_
    · rintro M s A B row ⟨hM, hi, hl, hk⟩ hg' hr
      have hlt : w.heap.size + 1 < A.heap.size := (Array.getElem?_eq_some_iff.1 hl).1
      have hsz' := hg'.size
      refine ⟨fun b hb => ?_, hI M _ s A B row hi hg' (fun r e => ⟨by have := (hM r (hr r e)).1; omega, .inl (hr r e)⟩) (fun b hb => hb.imp_right (fun h => h.1)), ?_, ?_⟩
      · rcases hb with hb | hb
        · have := hM b hb; omega
        · omega
      · exact (hg'.block _ hlt (fun e => by have := (hM _ (hr _ e.symm)).1; omega)).trans hl
      · exact (hg'.block _ (by omega) (fun e => by have := (hM _ (hr _ e.symm)).1; omega)).trans hk
    · rintro M pre x W ⟨hM, hi, hl, hk⟩ hok
      have hlt : w.heap.size + 1 < W.heap.size := (Array.getElem?_eq_some_iff.1 hl).1
      have hy := run_yield (P := P) (args := encs x) hl (by rw [hrec]; exact hps x)
      rw [hrec] at hy
      refine ⟨fn, _, assign, body, hy, roundIn_of_wpIn hfn (hassign _ M pre x W _ (fun b hb => by have := hM b hb; omega) (fun b hb => hb.elim (fun h => (hM b h).2) (fun h => by have := hRd b h; omega)) hlt hi hok ?_)⟩
      clear hy
      intro a' Wa hkfa hkpa hia hax
      replace hl := hkfa.same _ _ (by omega) hl rfl
      replace hk := hkfa.same _ _ (Nat.le_refl _) hk rfl
      replace hlt : w.heap.size + 1 < Wa.heap.size := (Array.getElem?_eq_some_iff.1 hl).1
      replace hM : ∀ b, M b → w.heap.size + 2 ≤ b ∧ b < Wa.heap.size := fun b hb => ⟨(hM b hb).1, by have := (hM b hb).2; have := hkfa.size; omega⟩
      replace hi := hia
      clear hia
      revert hkpa hkfa
      generalize W = Wb
      intro hkfa hkpa
      obtain ⟨W, rfl⟩ : ∃ W, W = Wa := ⟨_, rfl⟩
      refine ⟨_, run_beginRound hl (by rw [hrec]), ?_⟩
      have hl2 : (W.putObj (w.heap.size + 1) (.loop { rec .ready none with state := .busy })).heap[w.heap.size + 1]? = some (.loop { rec .ready none with state := .busy }) := World.putObj_heap_same hlt
      have hk2 : (W.putObj (w.heap.size + 1) (.loop { rec .ready none with state := .busy })).heap[w.heap.size]? = some (.deferred (some [])) := (World.putObj_heap_other (by omega)).trans hk
      have hw2 : KeepsM n₀ (fun b => M b ∨ Rd b) W (W.putObj (w.heap.size + 1) (.loop { rec .ready none with state := .busy })) := KeepsM.putObj (by omega) hlt (fun h => h.elim (fun h => by have := (hM _ h).1; omega) (fun h => by have := hRd _ h; omega))
      refine wpIn_mono (hbody _ M pre x a' _ (fun b hb => by have := hM b hb; omega) (fun b hb => by simp; exact hb.elim (fun h => (hM b h).2) (fun h => by have := hRd b h; omega)) (by simp; omega) ((hI.from M).putObj _ hi (by omega) hl rfl) ((hAx x a').putObj (s := ()) _ hax (by omega) hl rfl) hok) ?_
      have fin : ∀ (jump : Option Code) (W3 : World), KeepsFrom w.heap.size (W.putObj (w.heap.size + 1) (.loop { rec .ready none with state := .busy })) W3 →
          (Instr.endRound (w.heap.size + 1) jump).run P W3 = .ok (.bool jump.isNone) (W3.putObj (w.heap.size + 1) (.loop (rec (if jump.isNone then .ready else .done) jump))) ∧
          W3.heap[w.heap.size + 1]? = some (.loop { rec .ready none with state := .busy }) ∧
          (W3.putObj (w.heap.size + 1) (.loop (rec (if jump.isNone then .ready else .done) jump))).heap[w.heap.size + 1]? = some (.loop (rec (if jump.isNone then .ready else .done) jump)) ∧
          (W3.putObj (w.heap.size + 1) (.loop (rec (if jump.isNone then .ready else .done) jump))).heap[w.heap.size]? = some (.deferred (some [])) := fun jump W3 hk3 => by
        have hl3 := hk3.same _ _ (by omega) hl2 rfl
        have := run_endRound (P := P) jump hl3
        rw [hrec] at this ⊢
        exact ⟨this, by rw [hrec] at hl3; exact hl3, World.putObj_heap_same (Array.getElem?_eq_some_iff.1 hl3).1, (World.putObj_heap_other (by omega)).trans (hk3.same _ _ (Nat.le_refl _) hk2 rfl)⟩
      rintro e a3 W3 hp
      cases e with
      | normal =>
        obtain ⟨hk3, hkp3, hi3⟩ := hp
        obtain ⟨hr, hl3, hl4, hk4⟩ := fin none W3 hk3
        have hlt3 := (Array.getElem?_eq_some_iff.1 hl3).1
        have hsz3 := hk3.size
        simp at hsz3
        exact ⟨_, _, hr, .inl ⟨rfl, ⟨fun b hb => by have := hM b hb; simp; omega, (hI.from M).putObj _ hi3 (by omega) hl3 rfl, hl4, hk4⟩, hkpa.trans ((hw2.trans hkp3).trans (KeepsM.putObj (by omega) hlt3 (fun h => h.elim (fun h => by have := (hM _ h).1; omega) (fun h => by have := hRd _ h; omega))))⟩⟩
      | ret =>
        obtain ⟨hk3, hi3⟩ := hp
        obtain ⟨hr, hl3, hl4, hk4⟩ := fin (some .ret) W3 hk3
        exact ⟨_, _, hr, .inr ⟨rfl, .ret, (hIx _).putObj _ hi3 (by omega) hl3 rfl, hl4, hk4⟩⟩
      | exit id =>
        obtain ⟨hk3, hi3⟩ := hp
        obtain ⟨hr, hl3, hl4, hk4⟩ := fin (some (.exit id)) W3 hk3
        exact ⟨_, _, hr, .inr ⟨rfl, .exit id, (hIx _).putObj _ hi3 (by omega) hl3 rfl, hl4, hk4⟩⟩
      | goto t =>
        obtain ⟨hk3, hi3⟩ := hp
        obtain ⟨hr, hl3, hl4, hk4⟩ := fin (some (.goto t)) W3 hk3
        exact ⟨_, _, hr, .inr ⟨rfl, .goto t, (hIx _).putObj _ hi3 (by omega) hl3 rfl, hl4, hk4⟩⟩
      | panic ch => exact hp.elim
      | outgrown => exact hp.elim
    · rintro e W2 ⟨⟨v, rfl⟩, (⟨M, xs, hS, hM, hi, hl, hk⟩ | ⟨pre, c, hi, hl, hk⟩)⟩
      · exact ⟨none, _, by have := run_endLoop (P := P) hl (by rw [hrec]; simp); rw [hrec] at this; exact this, hdone _ M xs _ (Nat.le_refl _) hS ((hI.from M).putObj _ hi (by omega) hl rfl) ((World.putObj_heap_other (by omega)).trans hk)⟩
      · exact ⟨some c, _, by have := run_endLoop (P := P) hl (by rw [hrec]; simp); rw [hrec] at this; exact this, hstop _ c pre _ (Nat.le_refl _) ((hIx c).putObj _ hi (by omega) hl rfl) ((World.putObj_heap_other (by omega)).trans hk)⟩
end Go.Proofs.Ytmacnanocofoaaa
namespace Go.Proofs.Ytmacnanocofoaaa
open Go.RowKit Go.Lib

/-- What comes: a level, a pattern, a type, where their own lists lie. -/
structure PairIt where
  lvl : Nat
  p : TypeX
  t : TypeX
  A : Option Addr
  a : Nat
  C : Option Addr
  c : Nat
def PairIt.key (x : PairIt) : Nat × PairX := (x.lvl, x.p, x.t)
def PairIt.enc (x : PairIt) : Array Value := #[.int .i64 (x.lvl : Nat), .agg #[.int .i64 x.p.kind_, .string x.p.name_, .slice x.A x.p.args_.length x.a, .int .i64 x.t.kind_, .string x.t.name_, .slice x.C x.t.args_.length x.c]]

/-- The list at A: its pairs lie in blocks of R; what they lead to lies below n₀. -/
def TopPair (w : World) (n₀ : Nat) (R : Nat → Prop) (A : Option Addr) (l : List PairX) : Prop :=
  ∀ (j : Nat) (hj : j < l.length), ∃ (b o : Nat) (A2 : Option Addr) (a2 : Nat) (C2 : Option Addr) (c2 : Nat), A = some ⟨b, o, none⟩ ∧ R b ∧
    w.cell? ⟨b, o + j * 6, none⟩ = some (.int .i64 l[j].1.kind_) ∧ w.cell? ⟨b, o + j * 6 + 1, none⟩ = some (.string l[j].1.name_) ∧ w.cell? ⟨b, o + j * 6 + 2, none⟩ = some (.slice A2 l[j].1.args_.length a2) ∧
    w.cell? ⟨b, o + j * 6 + 3, none⟩ = some (.int .i64 l[j].2.kind_) ∧ w.cell? ⟨b, o + j * 6 + 4, none⟩ = some (.string l[j].2.name_) ∧ w.cell? ⟨b, o + j * 6 + 5, none⟩ = some (.slice C2 l[j].2.args_.length c2) ∧
    TypeRow w (Und n₀) A2 a2 l[j].1.args_ ∧ TypeRow w (Und n₀) C2 c2 l[j].2.args_
theorem TopPair.frame {w w' : World} {n₀ : Nat} {R R' : Nat → Prop} {A : Option Addr} {l : List PairX} (h : TopPair w n₀ R A l) (hR : ∀ b, R b → R' b) (hk : ∀ b, b < n₀ ∨ R b → w'.heap[b]? = w.heap[b]?) : TopPair w' n₀ R' A l := by
  intro j hj
  obtain ⟨b, o, A2, a2, C2, c2, hA, hb, h0, h1, h2, h3, h4, h5, hr, hs⟩ := h j hj
  have hc : ∀ b i, (b < n₀ ∨ R b) → w'.cell? ⟨b, i, none⟩ = w.cell? ⟨b, i, none⟩ := fun b i h => World.cell?_of_block (a := ⟨b, i, none⟩) (hk b h)
  exact ⟨b, o, A2, a2, C2, c2, hA, hR b hb, (hc _ _ (.inr hb)).trans h0, (hc _ _ (.inr hb)).trans h1, (hc _ _ (.inr hb)).trans h2, (hc _ _ (.inr hb)).trans h3, (hc _ _ (.inr hb)).trans h4, (hc _ _ (.inr hb)).trans h5,
    hr.frame (fun _ h => h) (fun b i h => hc b i (.inl h)), hs.frame (fun _ h => h) (fun b i h => hc b i (.inl h))⟩
theorem TopPair.tail {w : World} {n₀ b o : Nat} {R : Nat → Prop} {x : PairX} {l : List PairX} (h : TopPair w n₀ R (some ⟨b, o, none⟩) (x :: l)) : TopPair w n₀ R (some ⟨b, o + 6, none⟩) l := by
  intro j hj
  obtain ⟨b', o', A2, a2, C2, c2, hA, hb, h0, h1, h2, h3, h4, h5, k1, k2⟩ := h (j + 1) (by simpa using hj)
  injection hA with hA
  injection hA with e1 e2
  subst e1 e2
  have e : o + (j + 1) * 6 = o + 6 + j * 6 := by omega
  rw [e] at h0 h1 h2 h3 h4 h5
  exact ⟨b, o + 6, A2, a2, C2, c2, rfl, hb, h0, h1, h2, h3, h4, h5, k1, k2⟩
theorem TopPair.nil (w : World) (n₀ : Nat) (R : Nat → Prop) (A : Option Addr) : TopPair w n₀ R A [] := fun j hj => absurd hj (Nat.not_lt_zero j)

/-- The stack's slices, the top one last. -/
def TopsPair (w : World) (n₀ : Nat) (R : Nat → Prop) : List (List PairX) → List Value → Prop
  | [], vs => vs = []
  | l :: r, vs => ∃ (vs0 : List Value) (A : Option Addr) (c : Nat), vs = vs0 ++ [.slice A l.length c] ∧ l.length ≤ c ∧ c ≤ 9223372036854775807 ∧ TopPair w n₀ R A l ∧ TopsPair w n₀ R r vs0
theorem TopsPair.length {w : World} {n₀ : Nat} {R : Nat → Prop} : ∀ {rs : List (List PairX)} {vs : List Value}, TopsPair w n₀ R rs vs → vs.length = rs.length
  | [], vs, h => by rw [TopsPair] at h; rw [h]; rfl
  | l :: r, vs, h => by
    obtain ⟨vs0, A, c, rfl, _, _, _, h2⟩ := h
    rw [List.length_append, h2.length]; rfl
theorem TopsPair.frame {w w' : World} {n₀ : Nat} {R R' : Nat → Prop} (hR : ∀ b, R b → R' b) (hk : ∀ b, b < n₀ ∨ R b → w'.heap[b]? = w.heap[b]?) : ∀ {rs : List (List PairX)} {vs : List Value}, TopsPair w n₀ R rs vs → TopsPair w' n₀ R' rs vs
  | [], vs, h => h
  | l :: r, vs, h => by
    obtain ⟨vs0, A, c, rfl, h1, h2, h3, h4⟩ := h
    exact ⟨vs0, A, c, rfl, h1, h2, h3.frame hR hk, h4.frame hR hk⟩

/-- The iterator between two steps: its stack rv, in blocks of M; the rows that it points to lie in blocks of R, none of them the stack's own. -/
structure PrePairSt (J : (Nat → Prop) → List PairIt → World → Prop) (w : World) (n₀ b0 : Nat) (Rd : Nat → Prop) (M R : Nat → Prop) (pre : List PairIt) (rs : List (List PairX)) (vs : List Value) (rv : Value) (wr : World) : Prop where
  j : J M pre wr
  own : wr.ownsRow (b0 + 1) 149 1 rv rs.length vs
  mown : ∀ b, rv.ownBlock = some b → M b
  rm : ∀ b, R b → M b
  rown : ∀ b, rv.ownBlock = some b → ¬ R b
  tops : TopsPair wr n₀ R rs vs
  below : Below n₀ w wr
  rd : ∀ b, Rd b → b < w.heap.size → wr.heap[b]? = w.heap[b]?
  lt : ∀ b, M b → b0 ≤ b ∧ b < wr.heap.size
  size : b0 < wr.heap.size
section
variable {J : (Nat → Prop) → List PairIt → World → Prop} {w : World} {n₀ b0 : Nat} {Rd M R : Nat → Prop} {pre : List PairIt} {rs : List (List PairX)} {vs : List Value} {rv : Value} {wr : World}
theorem PrePairSt.grow (HJ : ∀ M s A B row, J M s A → A.grownBy B row → (∀ r, row = some r → M r) → J (fun b => M b ∨ (A.heap.size ≤ b ∧ b < B.heap.size)) s B) (hnb : n₀ ≤ b0) (hwb : w.heap.size ≤ b0)
    (h : PrePairSt J w n₀ b0 Rd M R pre rs vs rv wr) {w2 : World} (hb : Below wr.heap.size wr w2) : PrePairSt J w n₀ b0 Rd (fun b => M b ∨ (wr.heap.size ≤ b ∧ b < w2.heap.size)) R pre rs vs rv w2 where
  j := HJ _ _ _ _ none h.j (grown_none hb) (fun _ e => by cases e)
  own := own_same h.own fun b hv => hb.block b (h.own.lt b hv).2
  mown := fun b hb' => .inl (h.mown b hb')
  rm := fun b hb' => .inl (h.rm b hb')
  rown := h.rown
  tops := h.tops.frame (fun _ h => h) fun b hb' => hb.block b (by
    have := h.size
    rcases hb' with h' | h'
    · omega
    · exact (h.lt b (h.rm b h')).2)
  below := h.below.trans (hb.mono (by have := h.size; omega))
  rd := fun b hr hlt => (hb.block b (by have := h.size; omega)).trans (h.rd b hr hlt)
  lt := fun b hb' => by
    have := h.size
    rcases hb' with h' | h'
    · exact ⟨(h.lt b h').1, Nat.lt_of_lt_of_le (h.lt b h').2 hb.size⟩
    · exact ⟨by omega, h'.2⟩
  size := Nat.lt_of_lt_of_le h.size hb.size
theorem PrePairSt.round (h : PrePairSt J w n₀ b0 Rd M R pre rs vs rv wr) {w2 : World} {y : PairIt} (hk : KeepsM n₀ (fun b => M b ∨ Rd b) wr w2) (hj : J M (pre ++ [y]) w2) : PrePairSt J w n₀ b0 Rd M R (pre ++ [y]) rs vs rv w2 where
  j := hj
  own := own_same h.own fun b hv => hk.own b (.inl (h.mown b hv))
  mown := h.mown
  rm := h.rm
  rown := h.rown
  tops := h.tops.frame (fun _ h => h) fun b hb' => by
    rcases hb' with h' | h'
    · exact hk.below.block b h'
    · exact hk.own _ (.inl (h.rm b h'))
  below := h.below.trans hk.below
  rd := fun b hr hlt => (hk.own b (.inr hr)).trans (h.rd b hr hlt)
  lt := fun b hb => ⟨(h.lt b hb).1, Nat.lt_of_lt_of_le (h.lt b hb).2 hk.below.size⟩
  size := Nat.lt_of_lt_of_le h.size hk.below.size
theorem PrePairSt.store (HJ : ∀ M s A B row, J M s A → A.grownBy B row → (∀ r, row = some r → M r) → J (fun b => M b ∨ (A.heap.size ≤ b ∧ b < B.heap.size)) s B) (hnb : n₀ ≤ b0) (hwb : w.heap.size ≤ b0)
    {y : PairX} {l : List PairX} {vs0 : List Value} {v : Value} {g cap : Nat} (h : PrePairSt J w n₀ b0 Rd M R pre ((y :: l) :: rs) (vs0 ++ [v]) (.slice (some ⟨g, 0, none⟩) (rs.length + 1) cap) wr) (h0 : TopsPair wr n₀ R rs vs0)
    {A3 : Option Addr} {c3 : Nat} (hl : l.length ≤ c3) (hc : c3 ≤ 9223372036854775807) (hT : TopPair wr n₀ R A3 l) :
    PrePairSt J w n₀ b0 Rd (fun b => M b ∨ (wr.heap.size ≤ b ∧ b < (wr.setCell ⟨g, rs.length, none⟩ (.slice A3 l.length c3)).heap.size)) R pre (l :: rs) (vs0 ++ [.slice A3 l.length c3]) (.slice (some ⟨g, 0, none⟩) (rs.length + 1) cap) (wr.setCell ⟨g, rs.length, none⟩ (.slice A3 l.length c3)) := by
  have hg : b0 + 1 ≤ g := (h.own.lt g rfl).1
  have hgR : ¬ R g := h.rown g rfl
  have hfar : ∀ b, b ≠ g → (wr.setCell ⟨g, rs.length, none⟩ (.slice A3 l.length c3)).heap[b]? = wr.heap[b]? := fun b hb => Below.heap_setCell wr _ _ b hb
  have hfr : ∀ b, b < n₀ ∨ R b → (wr.setCell ⟨g, rs.length, none⟩ (.slice A3 l.length c3)).heap[b]? = wr.heap[b]? := fun b hb => hfar b (by
    rcases hb with h' | h'
    · omega
    · intro e; exact hgR (e ▸ h'))
  have hst := World.ownsRow.stored h.own rs.length (.slice A3 l.length c3)
  refine ⟨HJ _ _ _ _ (some g) h.j (grownBy_setCell'' wr g rs.length _) (fun r e => by cases e; exact h.mown g rfl), ?_, fun b hb => .inl (h.mown b hb), fun b hb => .inl (h.rm b hb), fun b hb => h.rown b hb, ?_, h.below.setCell (p := ⟨g, rs.length, none⟩) (by simp; omega) _, fun b hr hlt => (hfar b (by omega)).trans (h.rd b hr hlt), fun b hb => ?_, by simpa using h.size⟩
  · have e : (vs0 ++ [v]).set rs.length (.slice A3 l.length c3) = vs0 ++ [.slice A3 l.length c3] := by
      rw [List.set_append_right _ _ (by rw [h0.length]; exact Nat.le_refl _), h0.length, Nat.sub_self]; rfl
    rw [← e]; exact hst.1
  · exact ⟨vs0, A3, c3, rfl, hl, hc, hT.frame (fun _ h => h) hfr, h0.frame (fun _ h => h) hfr⟩
  · have := h.size
    rcases hb with h' | h'
    · exact ⟨(h.lt b h').1, by simpa using (h.lt b h').2⟩
    · exact ⟨by omega, h'.2⟩
theorem PrePairSt.push (HJ : ∀ M s A B row, J M s A → A.grownBy B row → (∀ r, row = some r → M r) → J (fun b => M b ∨ (A.heap.size ≤ b ∧ b < B.heap.size)) s B) (hnb : n₀ ≤ b0) (hwb : w.heap.size ≤ b0)
    (h : PrePairSt J w n₀ b0 Rd M R pre rs vs rv wr) {w2 : World} {v' : Value} {l : List PairX} {A : Option Addr} {c : Nat} {R' : Nat → Prop} (hRR : ∀ b, R b → R' b) (hRM : ∀ b, R' b → M b) (hRv : ∀ b, rv.ownBlock = some b → ¬ R' b)
    (hg : wr.grownBy w2 rv.ownBlock) (hown : w2.ownsRow (b0 + 1) 149 1 v' (rs.length + 1) (vs ++ [.slice A l.length c]))
    (hv : v'.ownBlock = rv.ownBlock ∨ v'.ownBlock = some wr.heap.size) (hl : l.length ≤ c) (hc : c ≤ 9223372036854775807) (hT : TopPair wr n₀ R' A l) :
    PrePairSt J w n₀ b0 Rd (fun b => M b ∨ (wr.heap.size ≤ b ∧ b < w2.heap.size)) R' pre (l :: rs) (vs ++ [.slice A l.length c]) v' w2 := by
  have hs := h.size
  have hfar : ∀ b, b < n₀ ∨ R' b → w2.heap[b]? = wr.heap[b]? := fun b hb => by
    rcases hb with h' | h'
    · exact hg.block b (by omega) (fun e => by have := (h.own.lt b e.symm).1; omega)
    · exact hg.block b (h.lt b (hRM b h')).2 (fun e => hRv b e.symm h')
  refine ⟨HJ _ _ _ _ _ h.j hg h.mown, hown, fun b hb => ?_, fun b hb => .inl (hRM b hb), fun b hb => ?_, ⟨vs, A, c, rfl, hl, hc, hT.frame (fun _ h => h) hfar, (h.tops.frame hRR (fun _ _ => rfl)).frame (fun _ h => h) hfar⟩,
    h.below.grown hg (by omega) (fun k e => by have := (h.own.lt k e).1; omega), fun b hr hlt => (hg.block b (by omega) (fun e => by have := (h.own.lt b e.symm).1; omega)).trans (h.rd b hr hlt), fun b hb => ?_, Nat.lt_of_lt_of_le hs hg.size⟩
  · rcases hv with hv | hv
    · exact .inl (h.mown b (hv ▸ hb))
    · rw [hv] at hb; injection hb with hb; subst hb
      exact .inr ⟨Nat.le_refl _, (hown.lt _ hv).2⟩
  · rcases hv with hv | hv
    · exact hRv b (hv ▸ hb)
    · rw [hv] at hb; injection hb with hb; subst hb
      intro hr
      have := (h.lt _ (hRM _ hr)).2
      omega
  · rcases hb with h' | h'
    · exact ⟨(h.lt b h').1, Nat.lt_of_lt_of_le (h.lt b h').2 hg.size⟩
    · exact ⟨by omega, h'.2⟩
end
end Go.Proofs.Ytmacnanocofoaaa
namespace Go.Proofs.Ytmacnanocofoaaa
open Go.RowKit Go.Lib

theorem infoPair : (Try.prog.info? 132).map (fun i => (i.zero, i.size, i.bytes)) = some (some (.agg #[.int .i64 0, .string ByteArray.empty, .slice none 0 0, .int .i64 0, .string ByteArray.empty, .slice none 0 0]), 6, 96) := by kernel_rfl
theorem setAt_far : ∀ (vs : List Value) (cs : Array Value) (o i : Nat), i < o ∨ o + vs.length ≤ i → (setAt cs o vs)[i]? = cs[i]?
  | [], _, _, _, _ => rfl
  | v :: r, cs, o, i, h => by
    rw [List.length_cons] at h
    rw [setAt, setAt_far r _ (o + 1) i (by omega), Array.getElem?_setIfInBounds_ne (by omega)]
theorem setAt_at : ∀ (vs : List Value) (cs : Array Value) (o i : Nat), i < vs.length → o + vs.length ≤ cs.size → (setAt cs o vs)[o + i]? = vs[i]?
  | v :: r, cs, o, 0, _, h => by
    rw [List.length_cons] at h
    rw [setAt, setAt_far r _ (o + 1) (o + 0) (by omega), Nat.add_zero, Array.getElem?_setIfInBounds_self_of_lt (by omega)]
    rfl
  | v :: r, cs, o, i + 1, hi, h => by
    rw [List.length_cons] at h hi
    rw [setAt, show o + (i + 1) = o + 1 + i by omega, setAt_at r _ (o + 1) i (by omega) (by simp; omega)]
    rfl
/-- The first k pairs lie in these cells. -/
def FilledP (w : World) (n₀ k : Nat) (L : List PairX) (cs : Array Value) : Prop := ∀ (j : Nat) (hj : j < L.length), j < k → ∃ (A2 : Option Addr) (a2 : Nat) (C2 : Option Addr) (c2 : Nat),
  cs[j * 6]? = some (.int .i64 L[j].1.kind_) ∧ cs[j * 6 + 1]? = some (.string L[j].1.name_) ∧ cs[j * 6 + 2]? = some (.slice A2 L[j].1.args_.length a2) ∧
  cs[j * 6 + 3]? = some (.int .i64 L[j].2.kind_) ∧ cs[j * 6 + 4]? = some (.string L[j].2.name_) ∧ cs[j * 6 + 5]? = some (.slice C2 L[j].2.args_.length c2) ∧
  TypeRow w (Und n₀) A2 a2 L[j].1.args_ ∧ TypeRow w (Und n₀) C2 c2 L[j].2.args_
theorem FilledP.step {w : World} {n₀ k : Nat} {L : List PairX} {cs : Array Value} (h : FilledP w n₀ k L cs) (hk : k < L.length) (hcs : cs.size = L.length * 6) {A2 C2 : Option Addr} {a2 c2 : Nat}
    (h1 : TypeRow w (Und n₀) A2 a2 L[k].1.args_) (h2 : TypeRow w (Und n₀) C2 c2 L[k].2.args_) :
    FilledP w n₀ (k + 1) L (setAt cs (k * 6) [.int .i64 L[k].1.kind_, .string L[k].1.name_, .slice A2 L[k].1.args_.length a2, .int .i64 L[k].2.kind_, .string L[k].2.name_, .slice C2 L[k].2.args_.length c2]) := by
  have hm : (k + 1) * 6 ≤ L.length * 6 := Nat.mul_le_mul_right _ hk
  intro j hj hjk
  by_cases he : j = k
  · subst he
    have hat : ∀ i, i < 6 → (setAt cs (j * 6) [.int .i64 L[j].1.kind_, .string L[j].1.name_, .slice A2 L[j].1.args_.length a2, .int .i64 L[j].2.kind_, .string L[j].2.name_, .slice C2 L[j].2.args_.length c2])[j * 6 + i]? = _ := fun i hi => setAt_at _ cs (j * 6) i hi (by simp; omega)
    exact ⟨A2, a2, C2, c2, hat 0 (by omega), hat 1 (by omega), hat 2 (by omega), hat 3 (by omega), hat 4 (by omega), hat 5 (by omega), h1, h2⟩
  · have hlt : j < k := by omega
    have hm2 : (j + 1) * 6 ≤ k * 6 := Nat.mul_le_mul_right _ hlt
    obtain ⟨A3, a3, C3, c3, e0, e1, e2, e3, e4, e5, r1, r2⟩ := h j hj hlt
    have hf : ∀ i, i < 6 → (setAt cs (k * 6) [.int .i64 L[k].1.kind_, .string L[k].1.name_, .slice A2 L[k].1.args_.length a2, .int .i64 L[k].2.kind_, .string L[k].2.name_, .slice C2 L[k].2.args_.length c2])[j * 6 + i]? = cs[j * 6 + i]? := fun i hi => setAt_far _ cs (k * 6) _ (.inl (by omega))
    exact ⟨A3, a3, C3, c3, (hf 0 (by omega)).trans e0, (hf 1 (by omega)).trans e1, (hf 2 (by omega)).trans e2, (hf 3 (by omega)).trans e3, (hf 4 (by omega)).trans e4, (hf 5 (by omega)).trans e5, r1, r2⟩
theorem FilledP.top {w w' : World} {n₀ g : Nat} {L : List PairX} {cs : Array Value} {t : TypeId} {R : Nat → Prop} (h : FilledP w n₀ L.length L cs) (hw : Whole w' g t cs) (hR : R g) (hk : ∀ b, b < n₀ → w'.heap[b]? = w.heap[b]?) : TopPair w' n₀ R (some ⟨g, 0, none⟩) L := by
  intro j hj
  obtain ⟨A3, a3, C3, c3, e0, e1, e2, e3, e4, e5, r1, r2⟩ := h j hj hj
  refine ⟨g, 0, A3, a3, C3, c3, rfl, hR, ?_, ?_, ?_, ?_, ?_, ?_, r1.frame (fun _ h => h) (fun b o h => World.cell?_of_block (a := ⟨b, o, none⟩) (hk b h)), r2.frame (fun _ h => h) (fun b o h => World.cell?_of_block (a := ⟨b, o, none⟩) (hk b h))⟩ <;> rw [hw.cell, Nat.zero_add] <;> assumption
theorem cells6 {w : World} {g : Nat} {t : TypeId} {a b c d e f : Value} (h : Whole w g t #[a, b, c, d, e, f]) : w.cell? ⟨g, 0, none⟩ = some a ∧ w.cell? ⟨g, 1, none⟩ = some b ∧ w.cell? ⟨g, 2, none⟩ = some c ∧ w.cell? ⟨g, 3, none⟩ = some d ∧ w.cell? ⟨g, 4, none⟩ = some e ∧ w.cell? ⟨g, 5, none⟩ = some f := by
  refine ⟨?_, ?_, ?_, ?_, ?_, ?_⟩ <;> rw [h.cell] <;> rfl

theorem whole_more {W : World} {g : Nat} {t : TypeId} {cs : Array Value} (h : Whole W g t cs) (o : Obj) : Whole (W.alloc o).drew g t cs := h.below ((Below.refl W.heap.size W).alloc (Nat.le_refl _) o).drew h.lt
/-- What argumentPairs leaves. -/
def PairsOut (p t : TypeX) (n₀ : Nat) (w : World) (e : Ending) (w' : World) : Prop := ∃ (A2 : Option Addr) (c2 : Nat), e = .returned (.slice A2 (pairsX p t).length c2) ∧ (pairsX p t).length ≤ c2 ∧ c2 ≤ 9223372036854775807 ∧ TopPair w' n₀ (fun b => w.heap.size ≤ b ∧ b < w'.heap.size) A2 (pairsX p t) ∧ Below w.heap.size w w'

set_option maxRecDepth 100000 in
set_option maxHeartbeats 4000000 in
theorem implArgPairs (p t : TypeX) (A C : Option Addr) (a c n₀ : Nat) (w : World) (hn : n₀ ≤ w.heap.size) (hg : GoodP p t) (hsz : p.args_.length ≤ 4294967296) (hp : TypeRow w (Und n₀) A a p.args_) (ht : TypeRow w (Und n₀) C c t.args_) :
    Calls Try.prog 116 #[.agg #[.int .i64 p.kind_, .string p.name_, .slice A p.args_.length a, .int .i64 t.kind_, .string t.name_, .slice C t.args_.length c]] w (PairsOut p t n₀ w) := by
  have hb0 : Below w.heap.size w (w.alloc (.cells #[.int .i64 p.kind_, .string p.name_, .slice A p.args_.length a, .int .i64 t.kind_, .string t.name_, .slice C t.args_.length c] 132)) := (Below.refl _ _).alloc (Nat.le_refl _) _
  have hx0 := Whole.new w 132 #[.int .i64 p.kind_, .string p.name_, .slice A p.args_.length a, .int .i64 t.kind_, .string t.name_, .slice C t.args_.length c]
  have HB0 := Lib.hid hb0
  have HX0 := Lib.hid hx0
  have HP := Lib.hid hp
  have HT := Lib.hid ht
  have hs0 : (w.alloc (.cells #[.int .i64 p.kind_, .string p.name_, .slice A p.args_.length a, .int .i64 t.kind_, .string t.name_, .slice C t.args_.length c] 132)).heap.size = w.heap.size + 1 := by simp
  have HS0 := Lib.hid hs0
  clear hb0 hx0 hp ht hs0
  by_cases hk : p.kind_ = 1
  · have hkb : (p.kind_ == 1) = true := by rw [hk]; rfl
    have hpx : pairsX p t = [] := by rw [pairsX, if_pos hk]
    unfold PairsOut
    rw [hpx]
    clear hk hpx hg
    go_enter Try.func116, Try.ntmps116
    go_wp2_with fail
    refine (implIsVar _ _ _ _ _ _).mono ?_
    rintro e w1 ⟨rfl, hb1⟩
    rw [hkb]
    have hbb := HB0.out.trans (hb1.mono HB0.out.size)
    clear hb1
    go_wp2
    go_ret
    exact ⟨none, 0, rfl, Nat.le_refl _, by decide, TopPair.nil _ _ _ _, hbb⟩
  · have hkb : (p.kind_ == 1) = false := by simpa using hk
    have hlen : p.args_.length = t.args_.length := hg.elim (fun h => absurd h hk) id
    obtain ⟨L, hL⟩ : ∃ L, L = pairsX p t := ⟨_, rfl⟩
    have hLn : L.length = p.args_.length := by rw [hL, pairsX_length hg, if_neg hk]
    have hLat : ∀ (j : Nat) (h : j < L.length) (h1 : j < p.args_.length) (h2 : j < t.args_.length), L[j] = (p.args_[j], t.args_[j]) := by subst hL; exact fun j h h1 h2 => pairsX_at hk h h1 h2
    obtain ⟨i0, hi, hz0, hz1, hz2⟩ := info_parts infoPair
    have km := fun (w : World) => run_make (P := Try.prog) w 149 132 i0 (.agg #[.int .i64 0, .string ByteArray.empty, .slice none 0 0, .int .i64 0, .string ByteArray.empty, .slice none 0 0]) Try.underlying149 hi hz0 .i64 .i64 (p.args_.length : Int) (p.args_.length : Int) (by omega) (by omega) (by rw [hz2]; omega) (by omega)
    simp only [Int.toNat_natCast, hz1] at km
    have hms : (madeCells (Value.agg #[.int .i64 0, .string ByteArray.empty, .slice none 0 0, .int .i64 0, .string ByteArray.empty, .slice none 0 0]).cells (p.args_.length * 6)).size = p.args_.length * 6 := size_madeCells _ _
    generalize madeCells (Value.agg #[.int .i64 0, .string ByteArray.empty, .slice none 0 0, .int .i64 0, .string ByteArray.empty, .slice none 0 0]).cells (p.args_.length * 6) = cs0 at *
    unfold PairsOut
    rw [← hL]
    have HM := Lib.hid hms
    have HLA := Lib.hid hLat
    have HLN := Lib.hid hLn
    have HLE := Lib.hid hlen
    clear hk hg hL hLn hLat hms hi hz0 hz1 hz2 hlen
    go_enter Try.func116, Try.ntmps116
    go_wp2_with fail
    refine (implIsVar _ _ _ _ _ _).mono ?_
    rintro e w1 ⟨rfl, hb1⟩
    rw [hkb]
    have hx1 := HX0.out.below hb1 (by have := HS0.out; omega)
    have hs1 : w.heap.size + 1 ≤ w1.heap.size := by have := hb1.size; have := HS0.out; omega
    have hbb := HB0.out.trans (hb1.mono HB0.out.size)
    have hwl1 : w.heap.size < w1.heap.size := by omega
    obtain ⟨x0, x1, x2, x3, x4, x5⟩ := cells6 hx1
    have HX1 := Lib.hid hx1
    have HB1 := Lib.hid hbb
    clear hb1 hx1 hbb HB0 HX0 HS0
    go_wp2
    clear km x0 x1 x2 x3 x4 x5
    have hbq : Below w1.heap.size w1 (w1.alloc (.cells cs0 132)) := (Below.refl _ _).alloc (Nat.le_refl _) _
    have hw0 := Whole.new w1 132 cs0
    go_loopw [18] (fun iv wr => ∃ (k : Nat) (cs : Array Value), k ≤ L.length ∧ iv = .int .i64 k ∧ Whole wr w1.heap.size 132 cs ∧ cs.size = L.length * 6 ∧ FilledP w n₀ k L cs ∧ Below w1.heap.size w1 wr) (fun iv _ => L.length - (Go.RowKit.intOf iv).toNat)
    case atStart => exact ⟨0, cs0, Nat.zero_le _, rfl, hw0, by rw [HLN.out]; exact HM.out, fun j hj h => absurd h (Nat.not_lt_zero j), hbq⟩
    case round =>
      obtain ⟨k, cs, hk, rfl, hwr, hcs, hF, hb⟩ := hrel
      clear hw0 hbq
      have hln := HLN.out
      have hle := HLE.out
      have hbw : Below w.heap.size w wr := HB1.out.trans (hb.mono HB1.out.size)
      by_cases hlt : k < L.length
      · have hlt1 : k < p.args_.length := by omega
        have hlt2 : k < t.args_.length := by omega
        have hat := HLA.out k hlt hlt1 hlt2
        obtain ⟨b, o, A3, c3, rfl, hPb, p0, p1, p2, h3⟩ := HP.out.at_ hlt1
        obtain ⟨b2, o2, C3, d3, rfl, hPb2, r0, r1, r2, h4⟩ := HT.out.at_ hlt2
        have hbn : b < w.heap.size := Nat.lt_of_lt_of_le hPb hn
        have hbn2 : b2 < w.heap.size := Nat.lt_of_lt_of_le hPb2 hn
        have hstep := hF.step hlt hcs (A2 := A3) (C2 := C3) (a2 := c3) (c2 := d3) (by rw [hat]; exact h3) (by rw [hat]; exact h4)
        rw [hat] at hstep
        have q0 := (hbw.cell (p := ⟨b, o + k * 3, none⟩) hbn).trans p0
        have q1 := (hbw.cell (p := ⟨b, o + k * 3 + 1, none⟩) hbn).trans p1
        have q2 := (hbw.cell (p := ⟨b, o + k * 3 + 2, none⟩) hbn).trans p2
        have t0 := (hbw.cell (p := ⟨b2, o2 + k * 3, none⟩) hbn2).trans r0
        have t1 := (hbw.cell (p := ⟨b2, o2 + k * 3 + 1, none⟩) hbn2).trans r1
        have t2 := (hbw.cell (p := ⟨b2, o2 + k * 3 + 2, none⟩) hbn2).trans r2
        obtain ⟨x0, x1, x2, x3, x4, x5⟩ := cells6 (HX1.out.below hb (by omega))
        have hm6 : (k + 1) * 6 ≤ L.length * 6 := Nat.mul_le_mul_right _ hlt
        have hold : ∀ i, i < 6 → ∃ v, wr.cell? ⟨w1.heap.size, k * 6 + i, none⟩ = some v := fun i hi => by rw [hwr.cell]; exact ⟨_, Array.getElem?_eq_getElem (by omega)⟩
        obtain ⟨y0, e0⟩ := hold 0 (by omega)
        obtain ⟨y1, e1⟩ := hold 1 (by omega)
        obtain ⟨y2, e2⟩ := hold 2 (by omega)
        obtain ⟨y3, e3⟩ := hold 3 (by omega)
        obtain ⟨y4, e4⟩ := hold 4 (by omega)
        obtain ⟨y5, e5⟩ := hold 5 (by omega)
        rw [Nat.add_zero] at e0
        have f0 := hwr.frozen (k * 6)
        have f1 := hwr.frozen (k * 6 + 1)
        have f2 := hwr.frozen (k * 6 + 2)
        have f3 := hwr.frozen (k * 6 + 3)
        have f4 := hwr.frozen (k * 6 + 4)
        have f5 := hwr.frozen (k * 6 + 5)
        have hwl := hwr.lt
        have hxl : w.heap.size < wr.heap.size := by omega
        have hbl : b < wr.heap.size := by omega
        have hbl2 : b2 < wr.heap.size := by omega
        have HSTEP := Lib.hid hstep
        have HWR := Lib.hid hwr
        have HBX := Lib.hid hb
        clear hstep hwr hb hbw hF p0 p1 p2 r0 r1 r2 h3 h4 hold hat hPb hPb2
        go_upto_region 7 with (fail)
        go_region
        go_wp2
        go_roundw
        case rel => exact ⟨k + 1, setAt cs (k * 6) [.int .i64 p.args_[k].kind_, .string p.args_[k].name_, .slice A3 p.args_[k].args_.length c3, .int .i64 t.args_[k].kind_, .string t.args_[k].name_, .slice C3 t.args_[k].args_.length d3], by omega, by go_num, whole_more (show Whole _ _ _ (setAt cs (k * 6) [.int .i64 p.args_[k].kind_, .string p.args_[k].name_, .slice A3 p.args_[k].args_.length c3, .int .i64 t.args_[k].kind_, .string t.args_[k].name_, .slice C3 t.args_[k].args_.length d3]) from ((((((HWR.out.set_ _ _).set_ _ _).set_ _ _).set_ _ _).set_ _ _).set_ _ _)) _, by rw [setAt_size]; exact hcs, HSTEP.out, ((((((((HBX.out.setCell (Nat.le_refl _) _).setCell (Nat.le_refl _) _).setCell (Nat.le_refl _) _).setCell (Nat.le_refl _) _).setCell (Nat.le_refl _) _).setCell (Nat.le_refl _) _).alloc (by simp; omega) _).drew)⟩
        case measure => simp [Go.RowKit.intOf]; omega
      · obtain rfl : k = L.length := by omega
        have hls : L.length ≤ 4294967296 := by omega
        have htop := hF.top (w' := wr) (R := fun b => w.heap.size ≤ b ∧ b < wr.heap.size) hwr ⟨by omega, hwr.lt⟩ (fun b h => hbw.block b (by omega))
        have HTOP := Lib.hid htop
        clear hF hwr hb htop
        go_wp2
        go_ret
        exact ⟨some ⟨w1.heap.size, 0, none⟩, p.args_.length, by rw [hln]; rfl, by omega, by omega, HTOP.out, hbw⟩
end Go.Proofs.Ytmacnanocofoaaa
namespace Go.Proofs.Ytmacnanocofoaaa
open Go.RowKit
theorem boxed_below {W W' : World} {B : Nat} {t : TypeId} {v : Value} (h : Boxed W B t v) (hb : Below W.heap.size W W') : Boxed W' B t v := (hb.block _ h.lt).trans h
theorem boxed_far {W : World} {B b o : Nat} {t : TypeId} {v u : Value} (h : Boxed W B t v) (hne : B ≠ b) : Boxed (W.setCell ⟨b, o, none⟩ u) B t v := (Below.heap_setCell W _ u B hne).trans h
theorem boxed_bool {W : World} {B : Nat} {t : TypeId} {v : Value} {z z' : Bool} (h : Boxed W B t v) (e : z = z') : Boxed (W.setCell ⟨B, 0, none⟩ (.bool z)) B t (.bool z') := e ▸ h.set _
theorem boxed_putObj {W : World} {B l : Nat} {t : TypeId} {v : Value} {o : Obj} (h : Boxed W B t v) (hne : B ≠ l) : Boxed (W.putObj l o) B t v := (World.putObj_heap_other hne).trans h
theorem below_putObj {n₀ D : Nat} {w W : World} (h : Below n₀ w W) (o : Obj) (hn : n₀ ≤ w.heap.size) (hD : n₀ ≤ D) : Below n₀ w (W.putObj D o) :=
  h.grown (grownBy_putObj' W D o) (by have := h.size; omega) (fun k e => by cases e; exact hD)
theorem keepsFrom_set {W W' : World} {B b o : Nat} {u : Value} (h : KeepsFrom B W W') : KeepsFrom B W (W'.setCell ⟨b, o, none⟩ u) := h.trans ((KeepsOthers.setCell _ _ _).from _)
theorem keepsFrom_alloc {W W' : World} {B : Nat} {o : Obj} (h : KeepsFrom B W W') : KeepsFrom B W (W'.alloc o) := h.trans ((KeepsOthers.alloc _ _).from _)
end Go.Proofs.Ytmacnanocofoaaa
namespace Go.Proofs.Ytmacnanocofoaaa
open Go.RowKit Go.Lib

theorem news4 (w : World) (t : TypeId) (a b c d : Value) : ∀ (j : Nat) (u : Value), [a, b, c, d][j]? = some u → (w.alloc (.cells #[a, b, c, d] t)).cell? ((⟨w.heap.size, 0, none⟩ : Addr).add j) = some u := by
  intro j u hj
  match j, hj with
  | 0, hj => simp at hj; subst hj; simp [Addr.add]
  | 1, hj => simp at hj; subst hj; simp [Addr.add]
  | 2, hj => simp at hj; subst hj; simp [Addr.add]
  | 3, hj => simp at hj; subst hj; simp [Addr.add]
theorem one4 (s t : ByteArray) (k : Int) (A : Option Addr) (n c : Nat) : ∀ u ∈ [Value.string s, .int .i64 k, .string t, .slice A n c], u.oneCell' = true := by
  intro u hu
  simp at hu
  rcases hu with rfl | rfl | rfl | rfl <;> rfl
/-- One element more on a row of the call's own. -/
theorem row_push {w w6 w7 : World} {B K n : Nat} {e : TypeId} {xs : List (List DV)} {x : List DV} {V V' : Value} {vs news : List Value} {bs' b2 : List Nat} {O : Obj}
    (ho : w.ownsRow B e K V n vs) (hE : OwVE w B K xs vs bs') (hnd : (V.ownBlock.toList ++ bs').Nodup) (hb : Below w.heap.size w w6) (hx : OwVs w6 w.heap.size x news b2) (hn2 : b2.Nodup) (hk : x.length = K) (hB : B ≤ w.heap.size)
    (hl : n = xs.length) (hown7 : w7.ownsRow B e K V' (n + 1) (vs ++ news)) (hg : (w6.alloc O).grownBy w7 V.ownBlock) (hv : V'.ownBlock = V.ownBlock ∨ V'.ownBlock = some (w6.heap.size + 1)) :
    OwV w7 B (.row e K (xs ++ [x])) V' (V'.ownBlock.toList ++ (bs' ++ b2)) ∧ (V'.ownBlock.toList ++ (bs' ++ b2)).Nodup := by
  have hs := hb.size
  have hEl := OwVE_lt _ hE
  have hxl := OwVs_lt _ hx
  rw [List.nodup_append] at hnd
  obtain ⟨hd1, hd2, hd3⟩ := hnd
  have hVb : ∀ b, V.ownBlock = some b → B ≤ b ∧ b < w.heap.size := ho.lt
  have hE7 : OwVE w7 B K xs vs bs' := OwVE_frame _ (fun b hm => by
    have hlt := (hEl b hm).2
    rw [hg.block b (by rw [World.size_alloc]; omega) (fun e => hd3 b (by rw [← e]; simp) b hm rfl), Below.heap_alloc _ _ _ (by omega)]
    exact hb.block b hlt) hE
  have hx7 : OwVs w7 B x news b2 := OwVs_wide hB _ (OwVs_frame _ (fun b hm => by
    have hlt := hxl b hm
    rw [hg.block b (by rw [World.size_alloc]; omega) (fun e => by have := (hVb b e.symm).2; omega), Below.heap_alloc _ _ _ hlt.2]) hx)
  have hbb : (bs' ++ b2).Nodup := by
    rw [List.nodup_append]
    exact ⟨hd2, hn2, fun a ha b hb' e => by have := (hEl a ha).2; have := (hxl b hb').1; omega⟩
  refine ⟨?_, ?_⟩
  · rw [OwV]
    exact ⟨vs ++ news, bs' ++ b2, by rw [List.length_append, List.length_singleton, ← hl]; exact hown7, OwVE_snoc hE7 hk hx7, rfl⟩
  · rw [List.nodup_append]
    refine ⟨?_, hbb, fun a ha b hb' e => ?_⟩
    · cases hV' : V'.ownBlock with
      | none => simp
      | some g => simp
    · subst e
      rcases hv with h | h
      · rw [h] at ha
        rcases List.mem_append.1 hb' with hb' | hb'
        · exact hd3 a ha a hb' rfl
        · have := (hVb a (by simpa using ha)).2; have := (hxl a hb').1; omega
      · rw [h] at ha
        simp at ha
        rcases List.mem_append.1 hb' with hb' | hb'
        · have := (hEl a hb').2; omega
        · have := (hxl a hb').2; omega
theorem infoBd : (Try.prog.info? 82).map (fun i => (i.zero, i.size, i.bytes)) = some (some (.agg #[.string ByteArray.empty, .int .i64 0, .string ByteArray.empty, .slice none 0 0]), 4, 64) := by kernel_rfl
/-- The row of what has been kept. -/
def KeptAt (B : Nat) (acc : List BindingX) (V : Value) (w : World) : Prop := ∃ (vs : List Value) (bs : List Nat), w.ownsRow B 82 4 V acc.length vs ∧ OwVE w B 4 (BindingX.rows acc) vs bs ∧ (V.ownBlock.toList ++ bs).Nodup
theorem KeptAt.row {B : Nat} {acc : List BindingX} {V : Value} {w : World} (h : KeptAt B acc V w) : ∃ bs, OwV w B (.row 82 4 (BindingX.rows acc)) V bs ∧ bs.Nodup := by
  obtain ⟨vs, bs, h1, h2, h3⟩ := h
  refine ⟨_, ?_, h3⟩
  rw [OwV, BindingX.rows_length]
  exact ⟨vs, bs, h1, h2, rfl⟩
theorem KeptAt.below {B : Nat} {acc : List BindingX} {V : Value} {w w' : World} (h : KeptAt B acc V w) (hb : Below w.heap.size w w') : KeptAt B acc V w' := by
  obtain ⟨vs, bs, h1, h2, h3⟩ := h
  exact ⟨vs, bs, owns_below h1 hb, OwVE_frame _ (fun b hm => hb.block b (OwVE_lt _ h2 b hm).2) h2, h3⟩
theorem KeptAt.push {w w6 w7 : World} {B : Nat} {acc : List BindingX} {x : BindingX} {V V' : Value} {vs : List Value} {A : Option Addr} {c : Nat} {bs' b2 : List Nat} {O : Obj}
    (ho : w.ownsRow B 82 4 V acc.length vs) (hE : OwVE w B 4 (BindingX.rows acc) vs bs') (hnd : (V.ownBlock.toList ++ bs').Nodup) (hb : Below w.heap.size w w6)
    (hx : OwVs w6 w.heap.size x.type_.cells [.int .i64 x.type_.kind_, .string x.type_.name_, .slice A x.type_.args_.length c] b2) (hn2 : b2.Nodup) (hB : B ≤ w.heap.size)
    (hown7 : w7.ownsRow B 82 4 V' (acc.length + 1) (vs ++ [.string x.var_, .int .i64 x.type_.kind_, .string x.type_.name_, .slice A x.type_.args_.length c])) (hg : (w6.alloc O).grownBy w7 V.ownBlock) (hv : V'.ownBlock = V.ownBlock ∨ V'.ownBlock = some (w6.heap.size + 1)) :
    KeptAt B (acc ++ [x]) V' w7 := by
  have hx' : OwVs w6 w.heap.size x.cells [.string x.var_, .int .i64 x.type_.kind_, .string x.type_.name_, .slice A x.type_.args_.length c] b2 := by
    rw [TypeX.cells_eq] at hx
    rw [BindingX.cells_eq, OwVs]
    exact ⟨_, _, [], b2, rfl, rfl, by rw [OwV]; exact ⟨rfl, rfl⟩, hx⟩
  obtain ⟨h1, h2⟩ := row_push ho hE hnd hb hx' hn2 (BindingX.cells_length x) hB (BindingX.rows_length acc).symm hown7 hg hv
  rw [← BindingX.rows_snoc, OwV, BindingX.rows_length] at h1
  obtain ⟨vs', bs'', h3, h4, h5⟩ := h1
  rw [h5] at h2
  exact ⟨vs', bs'', h3, h4, h2⟩

theorem news3 (w : World) (t : TypeId) (a b c : Value) : ∀ (j : Nat) (u : Value), [a, b, c][j]? = some u → (w.alloc (.cells #[a, b, c] t)).cell? ((⟨w.heap.size, 0, none⟩ : Addr).add j) = some u := by
  intro j u hj
  match j, hj with
  | 0, hj => simp at hj; subst hj; simp [Addr.add]
  | 1, hj => simp at hj; subst hj; simp [Addr.add]
  | 2, hj => simp at hj; subst hj; simp [Addr.add]
theorem one3 (k : Int) (t : ByteArray) (A : Option Addr) (n c : Nat) : ∀ u ∈ [Value.int .i64 k, .string t, .slice A n c], u.oneCell' = true := by
  intro u hu
  simp at hu
  rcases hu with rfl | rfl | rfl <;> rfl
/-- A row of types under way. -/
def MoreT (B : Nat) (acc : List TypeX) (V : Value) (w : World) : Prop := ∃ (vs : List Value) (bs : List Nat), w.ownsRow B 27 3 V acc.length vs ∧ OwVE w B 3 (TypeX.rows acc) vs bs ∧ (V.ownBlock.toList ++ bs).Nodup
theorem MoreT.row {B : Nat} {acc : List TypeX} {V : Value} {w : World} (h : MoreT B acc V w) : ∃ bs, OwV w B (.row 27 3 (TypeX.rows acc)) V bs ∧ bs.Nodup := by
  obtain ⟨vs, bs, h1, h2, h3⟩ := h
  refine ⟨_, ?_, h3⟩
  rw [OwV, TypeX.rows_length]
  exact ⟨vs, bs, h1, h2, rfl⟩
theorem MoreT.below {B : Nat} {acc : List TypeX} {V : Value} {w w' : World} (h : MoreT B acc V w) (hb : Below w.heap.size w w') : MoreT B acc V w' := by
  obtain ⟨vs, bs, h1, h2, h3⟩ := h
  exact ⟨vs, bs, owns_below h1 hb, OwVE_frame _ (fun b hm => hb.block b (OwVE_lt _ h2 b hm).2) h2, h3⟩
theorem MoreT.push {w w6 w7 : World} {B B6 : Nat} {acc : List TypeX} {x : TypeX} {V V' : Value} {vs : List Value} {A : Option Addr} {c : Nat} {bs' b2 : List Nat} {O : Obj}
    (ho : w.ownsRow B 27 3 V acc.length vs) (hE : OwVE w B 3 (TypeX.rows acc) vs bs') (hnd : (V.ownBlock.toList ++ bs').Nodup) (hb : Below w.heap.size w w6) (hB6 : B6 = w.heap.size)
    (hx : OwVs w6 B6 x.cells [.int .i64 x.kind_, .string x.name_, .slice A x.args_.length c] b2) (hn2 : b2.Nodup) (hB : B ≤ w.heap.size)
    (hown7 : w7.ownsRow B 27 3 V' (acc.length + 1) (vs ++ [.int .i64 x.kind_, .string x.name_, .slice A x.args_.length c])) (hg : (w6.alloc O).grownBy w7 V.ownBlock) (hv : V'.ownBlock = V.ownBlock ∨ V'.ownBlock = some (w6.heap.size + 1)) :
    MoreT B (acc ++ [x]) V' w7 := by
  subst hB6
  obtain ⟨h1, h2⟩ := row_push ho hE hnd hb hx hn2 (TypeX.cells_length x) hB (TypeX.rows_length acc).symm hown7 hg hv
  rw [← TypeX.rows_snoc, OwV, TypeX.rows_length] at h1
  obtain ⟨vs', bs'', h3, h4, h5⟩ := h1
  rw [h5] at h2
  exact ⟨vs', bs'', h3, h4, h2⟩
/-- A type's cells out of its row. -/
theorem cells_own {w : World} {B : Nat} {k : Int} {s : ByteArray} {l : List TypeX} {V : Value} {bs : List Nat} (h : OwV w B (.row 27 3 (TypeX.rows l)) V bs) : OwVs w B (TypeX.mk k s l).cells [.int .i64 k, .string s, V] bs := by
  rw [TypeX.cells]
  simp only [OwVs]
  exact ⟨_, _, [], _, rfl, rfl, by rw [OwV]; exact ⟨rfl, rfl⟩, _, _, [], _, rfl, rfl, by rw [OwV]; exact ⟨rfl, rfl⟩, V, [], _, [], rfl, (List.append_nil _).symm, h, rfl, rfl⟩
end Go.Proofs.Ytmacnanocofoaaa
namespace Go.Proofs.Ytmacnanocofoaaa
open Go.RowKit

mutual
def TypeX.walk (d : Nat) : TypeX → List (Nat × TypeX)
  | .mk a b c => (d, .mk a b c) :: TypeX.walkL (d + 1) c
def TypeX.walkL (d : Nat) : List TypeX → List (Nat × TypeX)
  | [] => []
  | x :: r => x.walk d ++ TypeX.walkL d r
end
theorem TypeX.walk_eq (d : Nat) (x : TypeX) : x.walk d = (d, x) :: TypeX.walkL (d + 1) x.args_ := by cases x with | mk a b c => rw [TypeX.walk]; rfl
/-- What the lists of a stack (the top one first) have still to give. -/
def todoType : List (List TypeX) → List (Nat × TypeX)
  | [] => []
  | l :: r => TypeX.walkL r.length l ++ todoType r
theorem todoType_pop (r : List (List TypeX)) : todoType ([] :: r) = todoType r := by rw [todoType, TypeX.walkL]; rfl
theorem todoType_step (x : TypeX) (l : List TypeX) (r : List (List TypeX)) : todoType ((x :: l) :: r) = (r.length, x) :: todoType (x.args_ :: l :: r) := by
  rw [todoType, todoType, todoType, TypeX.walkL, TypeX.walk_eq, List.length_cons]
  simp
theorem todoType_start (x : TypeX) : todoType [[x]] = x.walk 0 := by simp [todoType, TypeX.walkL]
end Go.Proofs.Ytmacnanocofoaaa
namespace Go.Proofs.Ytmacnanocofoaaa
open Go.RowKit

def addNew (acc : List ByteArray) (x : ByteArray) : List ByteArray := if has acc x then acc else acc ++ [x]
/-- The elements of the second list that are new, each once, behind the first. -/
def uniF (acc l : List ByteArray) : List ByteArray := l.foldl addNew acc
theorem uniF_take {acc l : List ByteArray} {k : Nat} (h : k < l.length) : uniF acc (l.take (k + 1)) = addNew (uniF acc (l.take k)) l[k] := by
  rw [List.take_succ_eq_append_getElem h, uniF, List.foldl_append]
  rfl
theorem uniF_append (acc a b : List ByteArray) : uniF acc (a ++ b) = uniF (uniF acc a) b := by simp [uniF]
theorem addNew_old {acc : List ByteArray} {x : ByteArray} (h : has acc x = true) : addNew acc x = acc := by rw [addNew, h]; rfl
theorem addNew_new {acc : List ByteArray} {x : ByteArray} (h : has acc x = false) : addNew acc x = acc ++ [x] := by rw [addNew, h]; rfl
theorem uniF_len : ∀ (l acc : List ByteArray), (uniF acc l).length ≤ acc.length + l.length
  | [], acc => by simp [uniF]
  | x :: r, acc => by
    have h := uniF_len r (addNew acc x)
    have e : uniF acc (x :: r) = uniF (addNew acc x) r := rfl
    rw [e]
    have : (addNew acc x).length ≤ acc.length + 1 := by
      unfold addNew
      split <;> simp
    simp only [List.length_cons]
    omega
theorem uniF_eq : ∀ (l acc : List ByteArray), (uniF acc l).length = acc.length + l.length → uniF acc l = acc ++ l
  | [], acc, _ => by simp [uniF]
  | x :: r, acc, h => by
    have e : uniF acc (x :: r) = uniF (addNew acc x) r := rfl
    rw [e] at h ⊢
    cases hx : has acc x with
    | true =>
      rw [addNew_old hx] at h
      have := uniF_len r acc
      simp only [List.length_cons] at h
      omega
    | false =>
      rw [addNew_new hx] at h ⊢
      rw [uniF_eq r (acc ++ [x]) (by rw [h]; simp; omega), List.append_assoc]
      rfl
theorem has_addNew (acc : List ByteArray) (x s : ByteArray) : has (addNew acc x) s = (has acc s || x.data.toList == s.data.toList) := by
  cases h : has acc x with
  | true =>
    rw [addNew_old h]
    cases he : x.data.toList == s.data.toList with
    | true => rw [← data_inj (eq_of_beq he), h]; rfl
    | false => rw [Bool.or_false]
  | false => rw [addNew_new h, has_snoc]
theorem has_uniF (s : ByteArray) : ∀ (l acc : List ByteArray), has (uniF acc l) s = (has acc s || has l s)
  | [], acc => by simp [uniF, has]
  | x :: r, acc => by
    have e : uniF acc (x :: r) = uniF (addNew acc x) r := rfl
    rw [e, has_uniF s r, has_addNew, Bool.or_assoc]
    rfl
theorem uniF_mem {x : ByteArray} {l : List ByteArray} (h : x ∈ uniF [] l) : x ∈ l := by
  rw [← has_iff] at h ⊢
  rw [has_uniF] at h
  exact h
/-- No two elements are equal. -/
def distinct (ss : List ByteArray) : Bool := decide ((uniF [] ss).length = ss.length)
theorem distinct_yes {ss : List ByteArray} (h : uniF [] ss = ss) : distinct ss = true := by rw [distinct, h]; simp
theorem distinct_no {ss : List ByteArray} {k : Nat} (hk : k < ss.length) (he : uniF [] (ss.take k) = ss.take k) (hh : has (ss.take k) ss[k] = true) : distinct ss = false := by
  have e : uniF [] ss = uniF (ss.take k) (ss.drop (k + 1)) := by
    have h1 : uniF [] ss = uniF (uniF [] (ss.take (k + 1))) (ss.drop (k + 1)) := by rw [← uniF_append, List.take_append_drop]
    rw [h1, uniF_take hk, he, addNew_old hh]
  have h2 := uniF_len (ss.drop (k + 1)) (ss.take k)
  rw [← e] at h2
  simp only [List.length_take, List.length_drop] at h2
  rw [distinct, decide_eq_false_iff_not]
  omega
theorem distinct_step {ss : List ByteArray} {k : Nat} (hk : k < ss.length) (he : uniF [] (ss.take k) = ss.take k) (hh : has (ss.take k) ss[k] = false) : uniF [] (ss.take (k + 1)) = ss.take (k + 1) := by
  rw [uniF_take hk, he, addNew_new hh, ← List.take_succ_eq_append_getElem hk]

theorem uniF_uniF : ∀ (l acc : List ByteArray), uniF [] acc = acc → uniF [] (uniF acc l) = uniF acc l
  | [], acc, h => h
  | x :: r, acc, h => by
    have e : uniF acc (x :: r) = uniF (addNew acc x) r := rfl
    rw [e]
    refine uniF_uniF r _ ?_
    cases hx : has acc x with
    | true => rw [addNew_old hx]; exact h
    | false =>
      rw [addNew_new hx, uniF_append, h]
      exact addNew_new hx
theorem distinct_uni (l : List ByteArray) : distinct (uniF [] l) = true := distinct_yes (uniF_uniF l [] rfl)

theorem Strs.take {w : World} {A : Option Addr} {ss : List ByteArray} (h : Strs w A ss) (k : Nat) : Strs w A (ss.take k) := by
  rcases h with h | ⟨g, o, hA, hg, hc⟩
  · exact .inl (by rw [h]; simp)
  · refine .inr ⟨g, o, hA, hg, fun j s hj => hc j s ?_⟩
    rw [List.getElem?_take] at hj
    split at hj
    · exact hj
    · cases hj
/-- A NEW ROW of these strings, owned. -/
def RowOf (d : List ByteArray) (w : World) (e : Ending) (w' : World) : Prop :=
  ∃ V, e = .returned V ∧ w'.ownsRow w.heap.size 9 1 V d.length (d.map Value.string) ∧ Below w.heap.size w w'
end Go.Proofs.Ytmacnanocofoaaa
namespace Go.Proofs.Ytmacnanocofoaaa
open Go.RowKit Go.Lib

/-- What the strings of one row add to a row of the call's own. -/
theorem run_append_strs {w : World} (base : Nat) (V : Value) (d : List ByteArray) (hown : w.ownsRow base 9 1 V d.length (d.map Value.string)) (A : Option Addr) (c : Nat) (ss : List ByteArray) (hA : Strs w A ss)
    (hd : d.length ≤ 17179869184) (hs : ss.length ≤ 17179869184) (hbase : base ≤ w.heap.size) (ty : TypeId) :
    ∃ v' w', (Builtin.append_ #[33, 33] ty #[V, .slice A ss.length c]).run Try.prog w = .ok v' w' ∧ w'.ownsRow base 9 1 v' (d ++ ss).length ((d ++ ss).map Value.string) ∧ w.grownBy w' V.ownBlock := by
  obtain ⟨i0, hi, hz0, hz1, hz2⟩ := info_parts infoString
  by_cases h0 : ss = []
  · subst h0
    simp only [List.append_nil, List.length_nil]
    cases A with
    | none => exact ⟨V, w, run_append_nil base _ ty _ i0 1 Try.underlying33 hi V d.length c _ hown, hown, ⟨rfl, rfl, rfl, Nat.le_refl _, fun _ _ _ => rfl⟩⟩
    | some ad =>
      obtain ⟨v', w', hr, h2, h3, _, _⟩ := _root_.Go.run_append_own_at (P := Try.prog) (w := w) base _ ty _ i0 _ 1 16 Try.underlying33 hi hz0 hz1 hz2 rfl (by decide) V d.length _ hown ad 0 c [] (by simp) (by simp) (by simp) (by unfold maxLen; omega) (by omega) hbase
      exact ⟨v', w', hr, by simpa using h2, h3⟩
  · rcases hA with hA | ⟨g, o, rfl, hg, hc⟩
    · exact absurd hA h0
    · obtain ⟨v', w', hr, h2, h3, _, _⟩ := _root_.Go.run_append_own_at (P := Try.prog) (w := w) base _ ty _ i0 _ 1 16 Try.underlying33 hi hz0 hz1 hz2 rfl (by decide) V d.length _ hown ⟨g, o, none⟩ ss.length c (ss.map Value.string) (by simp)
        (fun j u hj => by
          rw [List.getElem?_map] at hj
          cases hs : ss[j]? with
          | none => rw [hs] at hj; cases hj
          | some s =>
            rw [hs] at hj
            simp at hj
            subst hj
            have := hc j s hs
            rw [Go.WideShapes.add_plain]
            exact this)
        (fun u hu => by
          rw [List.mem_map] at hu
          obtain ⟨s, _, rfl⟩ := hu
          rfl) (by unfold maxLen; omega) (by omega) hbase
      exact ⟨v', w', hr, by rw [List.length_append, List.map_append]; exact h2, h3⟩

set_option maxRecDepth 100000 in
set_option maxHeartbeats 1000000 in
/-- Room for n strings: an empty row of the call's own. -/
theorem slicesGrow (n : Nat) (w : World) (hn : n ≤ 17179869184) :
    Calls Try.prog 127 #[.slice none 0 0, .int .i64 n] w (RowOf [] w) := by
  by_cases h0 : n = 0
  · subst h0
    go_enter Try.func127, Try.ntmps127
    go_wp2
    go_ret
    exact ⟨_, rfl, World.ownsRow_nil _ _ _ _, Below.refl _ _⟩
  · obtain ⟨G, cs, hrun, hsz, hnG, hG⟩ : ∃ (G : Nat) (cs : Array Value), (∀ ty, (Builtin.append_ #[33, 3] ty #[.slice none 0 0, .int .i64 n]).run Try.prog w = .ok (.slice (some ⟨w.heap.size, 0, none⟩) n G) (w.drew.alloc (.cells cs 9))) ∧ cs.size = G ∧ n ≤ G ∧ G ≤ maxLen := by
      obtain ⟨i0, hi, hz0, hz1, hz2⟩ := info_parts infoString
      have hge := grownCap_ge w n 0 9
      refine ⟨grownCap w n 0 9, #[] ++ Builtin.zeroCells (Value.string ByteArray.empty).cells n ++ Builtin.zeroCells (Value.string ByteArray.empty).cells (grownCap w n 0 9 - n), fun ty => ?_, ?_, hge, grownCap_le_maxLen w n 0 _ (by unfold maxLen; omega)⟩
      · have h := run_append_grow_zeros (P := Try.prog) w 33 3 ty 9 i0 (.string ByteArray.empty) .i64 .i64 Try.underlying33 Try.underlying3 hi hz0 none 0 0 [] (run_firstCells_none w.drew i0.size 0 0 0) n (by omega) (by omega) (by omega) (by omega)
          (by rw [hz2]; omega) (by rw [Nat.zero_add]; exact growslice_fits (by omega) (by rw [hz2]; omega))
        simp only [Nat.zero_add] at h
        exact h
      · rw [Array.size_append, Array.size_append, size_zeroCells, size_zeroCells]
        simp [Value.cells]
        omega
    have hG63 : G ≤ 9223372036854775807 := by unfold maxLen at hG; omega
    have hown : (w.drew.alloc (.cells cs 9)).ownsRow w.heap.size 9 1 (.slice (some ⟨w.heap.size, 0, none⟩) 0 G) 0 [] := World.ownsRow_made w.drew cs G (Nat.le_refl _) hG (by omega)
    have hb : Below w.heap.size w (w.drew.alloc (.cells cs 9)) := ((Below.refl w.heap.size w).drew).alloc (Nat.le_refl _) _
    have HO := Lib.hid hown
    have HB := Lib.hid hb
    clear hown hb hsz
    go_enter Try.func127, Try.ntmps127
    go_wp2_with (at_builtin; refine Lib.wpList_append_run _ rfl _ _ _ _ rfl _ _ rfl rfl _ _ (hrun _) ?_)
    all_goals (
      go_ret
      exact ⟨_, rfl, HO.out, HB.out⟩)

set_option maxRecDepth 100000 in
set_option maxHeartbeats 2000000 in
/-- Two lists, one behind the other: a row of the call's own. -/
theorem slicesConcat (A B : Option Addr) (ca cb g : Nat) (a b : List ByteArray) (w : World) (hA : Strs w A a) (hB : Strs w B b) (hg : Whole w g 33 #[.slice A a.length ca, .slice B b.length cb]) (ha : a.length ≤ 4294967296) (hb : b.length ≤ 4294967296) :
    Calls Try.prog 113 #[.slice (some ⟨g, 0, none⟩) 2 2] w (RowOf (a ++ b) w) := by
  have c0 : w.cell? ⟨g, 0, none⟩ = some (.slice A a.length ca) := hg.cell 0
  have c1 : w.cell? ⟨g, 1, none⟩ = some (.slice B b.length cb) := hg.cell 1
  have HA := Lib.hid hA
  have HB := Lib.hid hB
  have HG := Lib.hid hg
  clear hA hB hg
  go_enter Try.func113, Try.ntmps113
  go_wp2
  refine wp_loop_rounds 3 ?_
  rw [rounds_succ]
  go_wp2
  rw [rounds_succ]
  go_wp2
  rw [rounds_succ]
  go_wp2_with fail
  have hgr := slicesGrow (a.length + b.length) w (by omega)
  rw [Int.natCast_add] at hgr
  refine hgr.mono ?_
  clear hgr
  rintro e w1 ⟨V, rfl, hown1, hb1⟩
  have hglt := HG.out.lt
  have c0' := (hb1.cell (p := ⟨g, 0, none⟩) hglt).trans c0
  clear c0
  obtain ⟨V1, w2, hr1, hown2, hg2⟩ := run_append_strs w.heap.size V [] hown1 A ca a (HA.out.below hb1) (by simp) (by omega) hb1.size 33
  have hb2 : Below w.heap.size w w2 := hb1.grown hg2 hb1.size (fun k hk => (hown1.lt k hk).1)
  rw [List.nil_append] at hown2
  have c1' := (hb2.cell (p := ⟨g, 1, none⟩) hglt).trans c1
  clear c1
  obtain ⟨V2, w3, hr2, hown3, hg3⟩ := run_append_strs w.heap.size V1 a hown2 B cb b (HB.out.below hb2) (by omega) (by omega) hb2.size 33
  have hb3 : Below w.heap.size w w3 := hb2.grown hg3 hb2.size (fun k hk => (hown2.lt k hk).1)
  have HO := Lib.hid hown3
  have HW := Lib.hid hb3
  clear hown1 hown2 hown3 hg2 hg3 hb1 hb2 hb3 HA HB HG
  go_wp2
  refine wp_loop_rounds 3 ?_
  rw [rounds_succ]
  go_wp2_with (at_builtin; refine Lib.wpList_append_run _ rfl _ _ _ _ rfl _ _ rfl rfl _ _ hr1 ?_)
  rw [rounds_succ]
  go_wp2_with (at_builtin; refine Lib.wpList_append_run _ rfl _ _ _ _ rfl _ _ rfl rfl _ _ hr2 ?_)
  rw [rounds_succ]
  go_wp2
  go_ret
  exact ⟨_, rfl, HO.out, HW.out⟩
end Go.Proofs.Ytmacnanocofoaaa
namespace Go.Proofs.Ytmacnanocofoaaa
open Go.RowKit Go.Lib

theorem Seen.below {P : Program} {k e : TypeId} {w w' : World} {b n : Nat} {l : List ByteArray} (h : Seen P k e w b n l) (hb : Below w.heap.size w w') : Seen P k e w' b n l :=
  h.kept (row := none) ⟨hb.os, hb.tape, hb.output, hb.size, fun j hj _ => hb.block j hj⟩ (by simp)
theorem own_wide {w : World} {B B' size n : Nat} {e : TypeId} {v : Value} {xs : List Value} (h : w.ownsRow B e size v n xs) (hB : B' ≤ B) : w.ownsRow B' e size v n xs := by
  refine ⟨h.1, ?_⟩
  rcases h.2 with hn | ⟨g, cap, cur, rfl, hbg, rest⟩
  · exact .inl hn
  · exact .inr ⟨g, cap, cur, rfl, by omega, rest⟩

set_option maxRecDepth 100000 in
set_option maxHeartbeats 2000000 in
theorem implUnion (A B : Option Addr) (c c' : Nat) (a b : List ByteArray) (w : World) (hA : Strs w A a) (hB : Strs w B b) (ha : a.length ≤ 4294967296) (hb : b.length ≤ 4294967296) (hz : ∀ x ∈ a ++ b, x.size ≤ 9223372036854775807) :
    Calls Try.prog 75 #[.slice A a.length c, .slice B b.length c'] w (RowOf (uniF [] (a ++ b)) w) := by
  obtain ⟨i0, hi, hz0, hz1, hz2⟩ := info_parts infoString
  have hmm := @run_makeMap Try.prog
  have hal : Below w.heap.size w ((w.alloc (.map #[] 0)).alloc (.cells #[.slice A a.length c, .slice B b.length c'] 33)) := ((Below.refl _ _).alloc (Nat.le_refl _) _).alloc (by simp) _
  have hs0 : Seen Try.prog 9 4 ((w.alloc (.map #[] 0)).alloc (.cells #[.slice A a.length c, .slice B b.length c'] 33)) w.heap.size 0 [] := (Seen.made w).below ((Below.refl _ _).alloc (Nat.le_refl _) _)
  have hg0 := Whole.new (w.alloc (.map #[] 0)) 33 #[.slice A a.length c, .slice B b.length c']
  rw [World.size_alloc] at hg0
  have hcc := slicesConcat A B c c' (w.heap.size + 1) a b _ (hA.below hal) (hB.below hal) hg0 ha hb
  have HC := Lib.hid hcc
  have HAL := Lib.hid hal
  have HS0 := Lib.hid hs0
  have HZ := Lib.hid hz
  clear hcc hal hs0 hg0 hA hB hz
  go_enter Try.func75, Try.ntmps75
  go_wp2_with fail
  refine HC.out.mono ?_
  rintro e w1 ⟨V, rfl, hownL, hb1⟩
  have hll : (a ++ b).length ≤ 8589934592 := by rw [List.length_append]; omega
  have hs1 := HS0.out.below hb1
  have hbw := HAL.out.trans (hb1.mono HAL.out.size)
  have hsz1 := hb1.size
  simp only [World.size_alloc] at hownL hsz1
  clear HC HAL HS0 hb1
  obtain ⟨L, hL⟩ : ∃ L, L = a ++ b := ⟨_, rfl⟩
  rw [← hL] at hownL hll HZ ⊢
  have HLQ := Lib.hid hL
  clear hL ha hb
  obtain ⟨AL, cL, rfl, hSL⟩ := strs_own hownL
  clear hSL
  go_wp2
  go_loopw [5, 15] (fun v i wr => ∃ (k : Nat) (d : List ByteArray), k ≤ L.length ∧ i = .int .i64 k ∧ d = uniF [] (L.take k) ∧ wr.ownsRow w1.heap.size 9 1 v d.length (d.map Value.string) ∧ Seen Try.prog 9 4 wr w.heap.size d.length d ∧
    wr.ownsRow (w.heap.size + 1 + 1) 9 1 (.slice AL L.length cL) L.length (L.map Value.string) ∧ w1.heap.size ≤ wr.heap.size ∧ Below w.heap.size w wr) (fun _ i _ => L.length - (Go.RowKit.intOf i).toNat)
  case atStart => exact ⟨0, [], Nat.zero_le _, rfl, rfl, World.ownsRow_nil _ _ _ _, hs1, hownL, Nat.le_refl _, hbw⟩
  case round =>
    have hlt1 : ∀ q, (Value.slice AL L.length cL).ownBlock = some q → q < w1.heap.size := fun q hq => (hownL.lt q hq).2
    have HLT1 := Lib.hid hlt1
    clear hownL hs1 hbw hlt1
    obtain ⟨k, d, hk, rfl, hd, hown, hseen, hownL, hsz, hbl⟩ := hrel
    have hdl : d.length ≤ 8589934592 := by
      have := uniF_len (L.take k) []
      rw [← hd] at this
      rw [List.length_take] at this
      simp at this
      omega
    by_cases hlt : k < L.length
    · obtain ⟨AL', cL', e, hSL⟩ := strs_own hownL
      injection e with e1 _ e3
      subst e1 e3
      obtain ⟨g, o, rfl, hc⟩ := hSL.at_ hlt
      obtain ⟨x, hx⟩ : ∃ x, x = L[k] := ⟨_, rfl⟩
      have hxs : x.size ≤ 9223372036854775807 := HZ.out x (by rw [hx]; exact List.getElem_mem hlt)
      have hst := uniF_take (acc := []) hlt
      rw [← hd, ← hx] at hst
      rw [← hx] at hc
      have hold := @addNew_old d x
      have hnew := @addNew_new d x
      rw [← hst] at hold hnew
      have HO := Lib.hid hold
      have HN := Lib.hid hnew
      clear hd hst hold hnew hx hSL
      have hlk := hseen.look Try.underlying89 Try.underlying9 Try.underlying4 (zeroBool _) x hxs
      cases hh : has d x with
      | true =>
        have h1 := HO.out hh
        have H1 := Lib.hid h1
        rw [hh] at hlk
        clear h1 hh
        go_wp2
        go_roundw
        case rel => exact ⟨k + 1, d, by omega, by go_num, H1.out.symm, hown, hseen, hownL, hsz, hbl⟩
        case measure => simp [Go.RowKit.intOf]; omega
      | false =>
        have h1 := HN.out hh
        have H1 := Lib.hid h1
        rw [hh] at hlk
        clear h1 hh
        obtain ⟨w2, e2, hs2, hg2⟩ := hseen.store Try.underlying89 Try.underlying9 Try.underlying4 (by omega) x hxs
        have hml : w.heap.size < w1.heap.size := by omega
        have hown2 := hown.kept hg2 (.inr fun e => by have := (hown.lt _ e).1; omega)
        have hownL2 := hownL.kept hg2 (.inr fun e => by have := (hownL.lt _ e).1; omega)
        have hbl2 : Below w.heap.size w w2 := hbl.grown hg2 hbl.size (fun j hj => by cases hj; exact Nat.le_refl _)
        have hsz2 : w1.heap.size ≤ w2.heap.size := Nat.le_trans hsz hg2.size

        go_wp2_with (at_builtin; refine wpList_append_own _ rfl _ _ 33 rfl w1.heap.size 9 i0 (.string ByteArray.empty) 1 16 Try.underlying33 hi hz0 hz1 hz2 rfl (by decide) _ _ _ rfl (hown2.alloc _) ⟨w2.heap.size, 0, none⟩ 1 1 [.string x] rfl rfl (news_one w2 _ _) (one_string _) (by unfold maxLen; omega) (by omega) (by simp; omega) ?_)
        intro v' w3 hown3 hgrow _
        have hall := (World.grownBy_alloc w2 _ _).trans hgrow
        have hb3 : Below w.heap.size w w3 := hbl2.grown hall hbl2.size (fun k hk => by have := (hown2.lt k hk).1; omega)
        have hs3 := hs2.kept hall (fun e => by have := (hown2.lt _ e.symm).1; omega)
        have hownL3 := hownL2.kept hall (.inr fun e => by have h1 := HLT1.out g rfl; have h2 := (hown2.lt g e.symm).1; omega)
        have hsz3 : w1.heap.size ≤ w3.heap.size := Nat.le_trans hsz2 hall.size
        rw [strs_map] at hown3
        go_wp2
        go_roundw
        case rel => exact ⟨k + 1, d ++ [x], by omega, by go_num, H1.out.symm, by simpa using hown3, by simpa using hs3, hownL3, hsz3, hb3⟩
        case measure => simp [Go.RowKit.intOf]; omega
    · have hkl : k = L.length := by omega
      subst hkl
      rw [List.take_length] at hd
      have HD := Lib.hid hd
      clear hd
      go_wp2
      go_ret
      rw [← HLQ.out, ← HD.out]
      exact ⟨_, rfl, own_wide hown (by omega), hbl⟩

end Go.Proofs.Ytmacnanocofoaaa
namespace Go.Proofs.Ytmacnanocofoaaa
open Go.ChangeShapes Go.WideShapes Go.ChangeAt Go.RowKit Go.Deep

/-- The fields lie one behind another. -/
def contig (P : Program) : Nat → Nat → List Field → Prop
  | off, n, [] => off = n
  | off, n, f :: r => f.offset = off ∧ contig P (off + P.cellsOf f.type) n r
/-- A type that is made of types of G alone. -/
def KindOk (P : Program) (G : TypeId → Prop) (t : TypeId) : Prop :=
  P.underlying t = some (.int .i64) ∨ P.underlying t = some .string ∨ P.underlying t = some .bool ∨ (∃ e, P.underlying t = some (.slice e) ∧ G e ∧ 0 < P.cellsOf e) ∨
  (∃ fs : Array Field, P.underlying t = some (.struct fs) ∧ (∀ f ∈ fs.toList, G f.type) ∧ contig P 0 (P.cellsOf t) fs.toList)
/-- The shape of a type's data. -/
def Fits (P : Program) (φ : TypeId → TypeId) : Nat → TypeId → List DV → Prop
  | 0, _, _ => False
  | n + 1, t, ds =>
    (P.underlying t = some (.int .i64) ∧ ∃ z, ds = [.pl (.int .i64 z)]) ∨ (P.underlying t = some .string ∧ ∃ s, ds = [.pl (.string s)]) ∨ (P.underlying t = some .bool ∧ ∃ b, ds = [.pl (.bool b)]) ∨
    (∃ e, P.underlying t = some (.slice e) ∧ ∃ xs, ds = [.row (φ e) (P.cellsOf e) xs] ∧ ∀ x ∈ xs, Fits P φ n e x) ∨
    (∃ fs : Array Field, P.underlying t = some (.struct fs) ∧ ∃ parts : List (List DV), ds = parts.flatten ∧ parts.length = fs.size ∧ ∀ (i : Nat) (f : Field) (p : List DV), fs[i]? = some f → parts[i]? = some p → Fits P φ n f.type p)

theorem RdVs_app {w : World} {Q : Nat → Prop} : ∀ {ds : List DV} {vs : List Value}, RdVs w Q ds vs → ∀ {es : List DV} {us : List Value}, RdVs w Q es us → RdVs w Q (ds ++ es) (vs ++ us)
  | [], vs, h, es, us, h' => by rw [RdVs] at h; subst h; exact h'
  | d :: r, vs, h, es, us, h' => by
    rw [RdVs] at h
    obtain ⟨v, vs', rfl, h1, h2⟩ := h
    rw [List.cons_append, RdVs]
    exact ⟨v, _, rfl, h1, RdVs_app h2 h'⟩
theorem okL_app : ∀ {ds es : List DV}, DV.okL ds → DV.okL es → DV.okL (ds ++ es)
  | [], es, _, h => h
  | d :: r, es, h, h' => by
    rw [DV.okL] at h
    rw [List.cons_append, DV.okL]
    exact ⟨h.1, okL_app h.2 h'⟩
theorem okE_of : ∀ {xs : List (List DV)}, (∀ x ∈ xs, DV.okL x) → DV.okE xs
  | [], _ => by rw [DV.okE]; trivial
  | x :: r, h => by
    rw [DV.okE]
    exact ⟨h x (by simp), okE_of fun y hy => h y (List.mem_cons_of_mem _ hy)⟩
theorem RdVE_of {w : World} {Q : Nat → Prop} {k b : Nat} : ∀ (xs : List (List DV)) (o : Nat), (∀ (j : Nat) (h : j < xs.length), xs[j].length = k ∧ ∃ vs : List Value, RdVs w Q xs[j] vs ∧ ∀ (i : Nat) (v : Value), vs[i]? = some v → w.cell? ⟨b, o + j * k + i, none⟩ = some v) →
    ∃ vs : List Value, RdVE w Q k xs vs ∧ ∀ (i : Nat) (v : Value), vs[i]? = some v → w.cell? ⟨b, o + i, none⟩ = some v
  | [], o, _ => ⟨[], by rw [RdVE], by simp⟩
  | x :: r, o, h => by
    obtain ⟨hk, vs, h1, h2⟩ := h 0 (by simp)
    have hk' : x.length = k := hk
    have h1' : RdVs w Q x vs := h1
    obtain ⟨us, h3, h4⟩ := RdVE_of r (o + k) fun j hj => by
      obtain ⟨hk2, us, g1, g2⟩ := h (j + 1) (by simpa using hj)
      refine ⟨by simpa using hk2, us, by simpa using g1, fun i v hi => ?_⟩
      have := g2 i v hi
      rw [show o + (j + 1) * k + i = o + k + j * k + i by rw [Nat.add_mul]; omega] at this
      exact this
    have hvl : vs.length = k := by rw [RdVs_length h1', hk']
    refine ⟨vs ++ us, by rw [RdVE]; exact ⟨vs, us, rfl, hk', h1', h3⟩, fun i v hi => ?_⟩
    by_cases hlt : i < vs.length
    · rw [List.getElem?_append_left hlt] at hi
      have := h2 i v hi
      rw [Nat.zero_mul, Nat.add_zero] at this
      exact this
    · rw [List.getElem?_append_right (by omega)] at hi
      have := h4 _ v hi
      rw [show o + k + (i - vs.length) = o + i by omega] at this
      exact this

section
variable {H : Type} {enc : TypeId × Value → H} {P : Program} {w : World} {base : Nat} {spare : Nat → Bool} {held : Bool} {φ : TypeId → TypeId} {G : TypeId → Prop}

theorem fits_fields {m n : Nat} {cs : List Value} (ih : ∀ (t : TypeId) (cs : List Value) (y : DataW H × List MemPlace), G t → DataW.trod enc P w base spare held m t cs = some y → ∃ ds, Fits P φ n t ds ∧ RdVs w (Und w.heap.size) ds cs ∧ DV.okL ds) :
    ∀ (fl : List Field) (off : Nat), contig P off cs.length fl → (∀ f ∈ fl, G f.type ∧ ∃ y, DataW.trod enc P w base spare held m f.type ((cs.drop f.offset).take (P.cellsOf f.type)) = some y) →
      ∃ parts : List (List DV), parts.length = fl.length ∧ (∀ (i : Nat) (f : Field) (p : List DV), fl[i]? = some f → parts[i]? = some p → Fits P φ n f.type p) ∧ RdVs w (Und w.heap.size) parts.flatten (cs.drop off) ∧ DV.okL parts.flatten
  | [], off, hc, _ => by
    rw [contig] at hc
    subst hc
    exact ⟨[], rfl, by simp, by rw [List.drop_length]; rfl, by rw [List.flatten_nil, DV.okL]; trivial⟩
  | f :: r, off, hc, hf => by
    rw [contig] at hc
    obtain ⟨rfl, hc⟩ := hc
    obtain ⟨hg, y, hy⟩ := hf f (by simp)
    obtain ⟨ds, d1, d2, d3⟩ := ih _ _ _ hg hy
    obtain ⟨parts, p1, p2, p3, p4⟩ := fits_fields ih r _ hc fun g hg => hf g (List.mem_cons_of_mem _ hg)
    refine ⟨ds :: parts, by simp [p1], fun i g p hi hp => ?_, ?_, ?_⟩
    · match i, hi, hp with
      | 0, hi, hp =>
        simp at hi hp
        subst hi hp
        exact d1
      | i + 1, hi, hp => exact p2 i g p (by simpa using hi) (by simpa using hp)
    · rw [List.flatten_cons]
      have h := RdVs_app d2 p3
      rw [← List.drop_drop, List.take_append_drop] at h
      exact h
    · rw [List.flatten_cons]; exact okL_app d3 p4

theorem trod_fits (hG : ∀ t, G t → KindOk P G t) : ∀ (F fuel : Nat) (t : TypeId) (cs : List Value) (y : DataW H × List MemPlace), fuel ≤ F → G t → DataW.trod enc P w base spare held fuel t cs = some y →
    ∃ ds, Fits P φ F t ds ∧ RdVs w (Und w.heap.size) ds cs ∧ DV.okL ds := by
  intro F
  induction F with
  | zero =>
    intro fuel t cs y hf _ h
    obtain rfl : fuel = 0 := by omega
    simp [DataW.trod] at h
  | succ F ih =>
    intro fuel t cs y hf hg h
    rcases hG t hg with hk | hk | hk | ⟨e, hk, he, hpos⟩ | ⟨fs, hk, hfs, hct⟩
    · obtain ⟨z, rfl, _, hz⟩ := DataW.trod_int hk h
      refine ⟨[.pl (.int .i64 z)], by rw [Fits]; exact .inl ⟨hk, z, rfl⟩, by rw [RdVs]; exact ⟨_, [], rfl, by rw [RdV], by rw [RdVs]⟩, ?_⟩
      simp only [DV.okL, DV.ok, uok, and_true]
      have := hz
      simp [Lit.wf] at this
      exact ⟨this.1, this.2⟩
    · obtain ⟨s, rfl, _, hs⟩ := DataW.trod_string hk h
      refine ⟨[.pl (.string s)], by rw [Fits]; exact .inr (.inl ⟨hk, s, rfl⟩), by rw [RdVs]; exact ⟨_, [], rfl, by rw [RdV], by rw [RdVs]⟩, ?_⟩
      simp only [DV.okL, DV.ok, uok, and_true]
      unfold maxLen at hs; omega
    · obtain ⟨b, rfl, _⟩ := DataW.trod_bool hk h
      refine ⟨[.pl (.bool b)], by rw [Fits]; exact .inr (.inr (.inl ⟨hk, b, rfl⟩)), by rw [RdVs]; exact ⟨_, [], rfl, by rw [RdV], by rw [RdVs]⟩, ?_⟩
      simp only [DV.okL, DV.ok, uok, and_true]
    · rcases DataW.trod_slice hk h with ⟨rfl, _⟩ | ⟨a, len, cap, elems, rest, m, rfl, rfl, _, _, hlc, hcm, hel, hes, _, _⟩
      · refine ⟨[.row (φ e) (P.cellsOf e) []], by rw [Fits]; exact .inr (.inr (.inr (.inl ⟨e, hk, [], rfl, by simp⟩))), by rw [RdVs]; exact ⟨_, [], rfl, RdV_row.2 ⟨none, 0, rfl, Nat.le_refl _, by omega, .inl rfl⟩, by rw [RdVs]⟩, ?_⟩
        simp [DV.okL, DV.ok, DV.okE]
      · have each : ∀ i, i < len → ∃ ds, Fits P φ F e ds ∧ DV.okL ds ∧ ds.length = P.cellsOf e ∧ ∃ vs : List Value, RdVs w (Und w.heap.size) ds vs ∧ ∀ j, j < P.cellsOf e → w.cell? ((a.add (i * P.cellsOf e)).add j) = vs[j]? := by
          intro i hi
          have h2 := hes i hi
          rw [List.getElem?_eq_getElem (by omega)] at h2
          obtain ⟨cs', hc, ht⟩ := Option.bind_eq_some_iff.1 h2
          obtain ⟨ds, d1, d2, d3⟩ := ih m e cs' _ (by omega) he ht
          obtain ⟨_, hl, hat⟩ := World.cells?_some hc
          exact ⟨ds, d1, d3, by rw [← RdVs_length d2, hl], cs', d2, hat⟩
        obtain ⟨f, hf2⟩ := choose_lt each
        have hxl : ((List.range len).map f).length = len := by simp
        refine ⟨[.row (φ e) (P.cellsOf e) ((List.range len).map f)], by
          rw [Fits]
          refine .inr (.inr (.inr (.inl ⟨e, hk, _, rfl, fun x hx => ?_⟩)))
          obtain ⟨i, hi, rfl⟩ := List.mem_map.1 hx
          exact (hf2 i (by simpa using hi)).1, ?_, ?_⟩
        · rw [RdVs]
          refine ⟨_, [], rfl, RdV_row.2 ⟨some a, cap, by rw [hxl], by rw [hxl]; exact hlc, by unfold maxLen at hcm; omega, ?_⟩, by rw [RdVs]⟩
          by_cases hz : len = 0
          · exact .inl (by rw [hz]; rfl)
          · obtain ⟨b, o, spot⟩ := a
            obtain ⟨_, _, hl0, vs0, hr0, hc0⟩ := hf2 0 (by omega)
            have hv0 : 0 < vs0.length := by rw [RdVs_length hr0, hl0]; exact hpos
            have c00 := hc0 0 hpos
            rw [List.getElem?_eq_getElem hv0] at c00
            have hspot : spot = none := by simpa [Addr.add] using World.cell?_spot c00
            subst hspot
            have hb : b < w.heap.size := by
              have := World.block_lt_of_cell? w _ c00
              simpa [Addr.add] using this
            obtain ⟨vs, h1, h2⟩ := RdVE_of (w := w) (Q := Und w.heap.size) (k := P.cellsOf e) (b := b) ((List.range len).map f) o fun j hj => by
              have hjl : j < len := by simpa using hj
              obtain ⟨_, _, hlj, vsj, hrj, hcj⟩ := hf2 j hjl
              simp only [List.getElem_map, List.getElem_range]
              refine ⟨hlj, vsj, hrj, fun i v hi => ?_⟩
              have hil : i < P.cellsOf e := by
                rw [← hlj, ← RdVs_length hrj]
                exact (List.getElem?_eq_some_iff.1 hi).1
              have := hcj i hil
              rw [Go.WideShapes.add_plain, Go.WideShapes.add_plain, hi] at this
              exact this
            exact .inr ⟨b, o, rfl, hb, vs, h1, h2⟩
        · simp only [DV.okL, DV.ok, and_true]
          refine ⟨by rw [hxl]; unfold maxLen at hcm; omega, okE_of fun x hx => ?_⟩
          obtain ⟨i, hi, rfl⟩ := List.mem_map.1 hx
          exact (hf2 i (by simpa using hi)).2.1
    · obtain ⟨xs, m, rfl, _, hcl, hxl, hat⟩ := DataW.trod_struct hk h
      rw [← hcl] at hct
      obtain ⟨parts, p1, p2, p3, p4⟩ := fits_fields (φ := φ) (G := G) (m := m) (n := F) (cs := cs) (fun t cs y hg' h' => ih m t cs y (by omega) hg' h') fs.toList 0 hct fun f hf => by
        refine ⟨hfs f hf, ?_⟩
        obtain ⟨i, hi, rfl⟩ := List.mem_iff_getElem.1 hf
        have hi' : i < fs.size := by simpa using hi
        refine ⟨xs[i]'(by omega), ?_⟩
        rw [hat i _ (by simp [hi']), List.getElem?_eq_getElem (by omega)]
      refine ⟨parts.flatten, ?_, by simpa using p3, p4⟩
      rw [Fits]
      exact .inr (.inr (.inr (.inr ⟨fs, hk, parts, rfl, by simpa using p1, fun i f p hi hp => p2 i f p (by simpa using hi) hp⟩)))
end
end Go.Proofs.Ytmacnanocofoaaa
namespace Go.Proofs.Ytmacnanocofoaaa
open Go.ChangeShapes Go.WideShapes Go.ChangeAt Go.RowKit Go.Deep

/-- The laws' types by the program's. -/
def toImplT (t : TypeId) : TypeId := if t = 51 then 27 else t
def typeG (t : TypeId) : Prop := t = 51 ∨ t = 49 ∨ t = 3 ∨ t = 9
theorem typeG_ok : ∀ t, typeG t → KindOk Try.prog typeG t := by
  rintro t (rfl | rfl | rfl | rfl)
  · refine .inr (.inr (.inr (.inr ⟨_, Try.underlying51, ?_, ?_⟩)))
    · intro f hf
      simp only [List.mem_cons, List.not_mem_nil, or_false] at hf
      rcases hf with rfl | rfl | rfl
      · exact .inr (.inr (.inl rfl))
      · exact .inr (.inr (.inr rfl))
      · exact .inr (.inl rfl)
    · simp only [contig]
      exact ⟨trivial, by kernel_rfl, by kernel_rfl, by kernel_rfl⟩
  · exact .inr (.inr (.inr (.inl ⟨_, Try.underlying49, .inl rfl, by rw [show Try.prog.cellsOf 51 = 3 by kernel_rfl]; decide⟩)))
  · exact .inl Try.underlying3
  · exact .inr (.inl Try.underlying9)

/-- Only one of a type's five shapes is its own. -/
theorem fits_int {φ : TypeId → TypeId} {P : Program} {n : Nat} {t : TypeId} {ds : List DV} (hu : P.underlying t = some (.int .i64)) (h : Fits P φ n t ds) : ∃ z, ds = [.pl (.int .i64 z)] := by
  cases n with
  | zero => rw [Fits] at h; exact h.elim
  | succ n =>
    rw [Fits, hu] at h
    rcases h with ⟨_, h⟩ | ⟨h, _⟩ | ⟨h, _⟩ | ⟨_, h, _⟩ | ⟨_, h, _⟩
    · exact h
    all_goals cases h
theorem fits_string {φ : TypeId → TypeId} {P : Program} {n : Nat} {t : TypeId} {ds : List DV} (hu : P.underlying t = some .string) (h : Fits P φ n t ds) : ∃ s, ds = [.pl (.string s)] := by
  cases n with
  | zero => rw [Fits] at h; exact h.elim
  | succ n =>
    rw [Fits, hu] at h
    rcases h with ⟨h, _⟩ | ⟨_, h⟩ | ⟨h, _⟩ | ⟨_, h, _⟩ | ⟨_, h, _⟩
    · cases h
    · exact h
    all_goals cases h
theorem fits_bool {φ : TypeId → TypeId} {P : Program} {n : Nat} {t : TypeId} {ds : List DV} (hu : P.underlying t = some .bool) (h : Fits P φ n t ds) : ∃ b, ds = [.pl (.bool b)] := by
  cases n with
  | zero => rw [Fits] at h; exact h.elim
  | succ n =>
    rw [Fits, hu] at h
    rcases h with ⟨h, _⟩ | ⟨h, _⟩ | ⟨_, h⟩ | ⟨_, h, _⟩ | ⟨_, h, _⟩
    · cases h
    · cases h
    · exact h
    all_goals cases h
theorem fits_slice {φ : TypeId → TypeId} {P : Program} {n : Nat} {t e : TypeId} {ds : List DV} (hu : P.underlying t = some (.slice e)) (h : Fits P φ n t ds) : ∃ (m : Nat) (xs : List (List DV)), n = m + 1 ∧ ds = [.row (φ e) (P.cellsOf e) xs] ∧ ∀ x ∈ xs, Fits P φ m e x := by
  cases n with
  | zero => rw [Fits] at h; exact h.elim
  | succ n =>
    rw [Fits, hu] at h
    rcases h with ⟨h, _⟩ | ⟨h, _⟩ | ⟨h, _⟩ | ⟨e', h, xs, h1, h2⟩ | ⟨_, h, _⟩
    · cases h
    · cases h
    · cases h
    · injection h with h; injection h with h; subst h; exact ⟨n, xs, rfl, h1, h2⟩
    · cases h
theorem fits_struct {φ : TypeId → TypeId} {P : Program} {n : Nat} {t : TypeId} {fs : Array Field} {ds : List DV} (hu : P.underlying t = some (.struct fs)) (h : Fits P φ n t ds) : ∃ (m : Nat) (parts : List (List DV)), n = m + 1 ∧ ds = parts.flatten ∧ parts.length = fs.size ∧ ∀ (i : Nat) (f : Field) (p : List DV), fs[i]? = some f → parts[i]? = some p → Fits P φ m f.type p := by
  cases n with
  | zero => rw [Fits] at h; exact h.elim
  | succ n =>
    rw [Fits, hu] at h
    rcases h with ⟨h, _⟩ | ⟨h, _⟩ | ⟨h, _⟩ | ⟨_, h, _⟩ | ⟨fs', h, parts, h1, h2, h3⟩
    · cases h
    · cases h
    · cases h
    · cases h
    · injection h with h; injection h with h; subst h; exact ⟨n, parts, rfl, h1, h2, h3⟩
/-- Each of these is one of those: all of them are. -/
theorem list_of {α β : Type} (f : α → β) : ∀ (l : List β), (∀ x ∈ l, ∃ a, x = f a) → ∃ l' : List α, l = l'.map f
  | [], _ => ⟨[], rfl⟩
  | x :: r, h => by
    obtain ⟨a, rfl⟩ := h x (by simp)
    obtain ⟨l', rfl⟩ := list_of f r fun y hy => h y (List.mem_cons_of_mem _ hy)
    exact ⟨a :: l', rfl⟩

theorem cellsOf_Type : Try.prog.cellsOf 51 = 3 := by kernel_rfl
theorem fits_Type : ∀ (N n : Nat) (ds : List DV), n ≤ N → Fits Try.prog toImplT n 51 ds → ∃ x : TypeX, ds = x.cells
  | 0, n, ds, hn, h => by
    obtain rfl : n = 0 := by omega
    rw [Fits] at h; exact h.elim
  | N + 1, n, ds, hn, h => by
    obtain ⟨m, parts, rfl, rfl, hl, hp⟩ := fits_struct Try.underlying51 h
    match parts, hl with
    | [p0, p1, p2], _ =>
      obtain ⟨z, rfl⟩ := fits_int Try.underlying3 (hp 0 _ p0 rfl rfl)
      obtain ⟨s, rfl⟩ := fits_string Try.underlying9 (hp 1 _ p1 rfl rfl)
      obtain ⟨m', xs, rfl, rfl, hx⟩ := fits_slice Try.underlying49 (hp 2 _ p2 rfl rfl)
      obtain ⟨l, rfl⟩ := list_of TypeX.cells xs fun y hy => fits_Type N m' y (by omega) (hx y hy)
      exact ⟨.mk z s l, by rw [TypeX.cells, TypeX.rows_map, cellsOf_Type]; rfl⟩

theorem type_arg {H : Type} {enc : TypeId × Value → H} {w : World} {base : Nat} {spare : Nat → Bool} {held : Bool} {fuel : Nat} {cs : List Value} {y : DataW H × List MemPlace} (h : DataW.trod enc Try.prog w base spare held fuel 51 cs = some y) :
    ∃ x : TypeX, TypeAt w (Und w.heap.size) x (.agg cs.toArray) ∧ DV.okL x.cells := by
  obtain ⟨ds, h1, h2, h3⟩ := trod_fits (φ := toImplT) typeG_ok fuel fuel _ _ _ (Nat.le_refl _) (.inl rfl) h
  obtain ⟨x, rfl⟩ := fits_Type fuel fuel ds (Nat.le_refl _) h1
  exact ⟨x, TypeAt.of_reads h2, h3⟩
end Go.Proofs.Ytmacnanocofoaaa
namespace Go.Proofs.Ytmacnanocofoaaa
open Go.ChangeShapes Go.WideShapes Go.ChangeAt Go.RowKit Go.Deep

/-- The laws' types by the program's. -/
def toImplB (t : TypeId) : TypeId := if t = 51 then 27 else if t = 102 then 82 else t
def bindG (t : TypeId) : Prop := t = 51 ∨ t = 49 ∨ t = 3 ∨ t = 9 ∨ t = 102 ∨ t = 59
theorem bindG_ok : ∀ t, bindG t → KindOk Try.prog bindG t := by
  rintro t (rfl | rfl | rfl | rfl | rfl | rfl)
  · refine .inr (.inr (.inr (.inr ⟨_, Try.underlying51, ?_, ?_⟩)))
    · intro f hf
      simp only [List.mem_cons, List.not_mem_nil, or_false] at hf
      rcases hf with rfl | rfl | rfl
      · exact .inr (.inr (.inl rfl))
      · exact .inr (.inr (.inr (.inl rfl)))
      · exact .inr (.inl rfl)
    · simp only [contig]
      exact ⟨trivial, by kernel_rfl, by kernel_rfl, by kernel_rfl⟩
  · exact .inr (.inr (.inr (.inl ⟨_, Try.underlying49, .inl rfl, by rw [show Try.prog.cellsOf 51 = 3 by kernel_rfl]; decide⟩)))
  · exact .inl Try.underlying3
  · exact .inr (.inl Try.underlying9)
  · refine .inr (.inr (.inr (.inr ⟨_, Try.underlying102, ?_, ?_⟩)))
    · intro f hf
      simp only [List.mem_cons, List.not_mem_nil, or_false] at hf
      rcases hf with rfl | rfl
      · exact .inr (.inr (.inr (.inl rfl)))
      · exact .inl rfl
    · simp only [contig]
      exact ⟨trivial, by kernel_rfl, by kernel_rfl⟩
  · exact .inr (.inr (.inr (.inl ⟨_, Try.underlying59, .inr (.inr (.inr (.inr (.inl rfl)))), by rw [show Try.prog.cellsOf 102 = 4 by kernel_rfl]; decide⟩)))
theorem cellsOf_Binding : Try.prog.cellsOf 102 = 4 := by kernel_rfl
theorem fitsB_Type : ∀ (N n : Nat) (ds : List DV), n ≤ N → Fits Try.prog toImplB n 51 ds → ∃ x : TypeX, ds = x.cells
  | 0, n, ds, hn, h => by
    obtain rfl : n = 0 := by omega
    rw [Fits] at h; exact h.elim
  | N + 1, n, ds, hn, h => by
    obtain ⟨m, parts, rfl, rfl, hl, hp⟩ := fits_struct Try.underlying51 h
    match parts, hl with
    | [p0, p1, p2], _ =>
      obtain ⟨z, rfl⟩ := fits_int Try.underlying3 (hp 0 _ p0 rfl rfl)
      obtain ⟨s, rfl⟩ := fits_string Try.underlying9 (hp 1 _ p1 rfl rfl)
      obtain ⟨m', xs, rfl, rfl, hx⟩ := fits_slice Try.underlying49 (hp 2 _ p2 rfl rfl)
      obtain ⟨l, rfl⟩ := list_of TypeX.cells xs fun y hy => fitsB_Type N m' y (by omega) (hx y hy)
      exact ⟨.mk z s l, by rw [TypeX.cells, TypeX.rows_map, cellsOf_Type]; rfl⟩
theorem fits_Binding (n : Nat) (ds : List DV) (h : Fits Try.prog toImplB n 102 ds) : ∃ x : BindingX, ds = x.cells := by
  obtain ⟨m, parts, rfl, rfl, hl, hp⟩ := fits_struct Try.underlying102 h
  match parts, hl with
  | [p0, p1], _ =>
    obtain ⟨s, rfl⟩ := fits_string Try.underlying9 (hp 0 _ p0 rfl rfl)
    obtain ⟨x, rfl⟩ := fitsB_Type m m p1 (Nat.le_refl _) (hp 1 _ p1 rfl rfl)
    refine ⟨.mk s x, ?_⟩
    rw [BindingX.cells, TypeX.cells_eq]
    rfl

section
variable {H : Type} {enc : TypeId × Value → H} {w : World} {base : Nat} {spare : Nat → Bool} {held : Bool} {fuel : Nat} {A : Option Addr} {n c : Nat} {y : DataW H × List MemPlace}
theorem row_in {e : TypeId} {k : Nat} {xs : List (List DV)} {N : Nat} (hx : xs.length = N) (h2 : RdVs w (Und w.heap.size) [.row e k xs] [.slice A n c]) : n = N ∧ RdV w (Und w.heap.size) (.row e k xs) (.slice A N c) := by
  rw [RdVs] at h2
  obtain ⟨v, vs', e1, h3, h4⟩ := h2
  injection e1 with e1 _
  subst e1
  have h5 := h3
  rw [RdV] at h5
  obtain ⟨A', c', e2, _⟩ := h5
  injection e2 with _ e2 _
  rw [hx] at e2
  subst e2
  exact ⟨rfl, h3⟩
theorem binds_arg (h : DataW.trod enc Try.prog w base spare held fuel 59 [.slice A n c] = some y) :
    ∃ l : List BindingX, n = l.length ∧ BindingRow w (Und w.heap.size) A c l ∧ DV.okE (BindingX.rows l) ∧ l.length ≤ 9223372036854775807 := by
  obtain ⟨ds, h1, h2, h3⟩ := trod_fits (φ := toImplB) bindG_ok fuel fuel _ _ _ (Nat.le_refl _) (.inr (.inr (.inr (.inr (.inr rfl))))) h
  obtain ⟨m, xs, hf, rfl, hx⟩ := fits_slice Try.underlying59 h1
  obtain ⟨l, rfl⟩ := list_of BindingX.cells xs fun y hy => fits_Binding m y (hx y hy)
  rw [cellsOf_Binding] at h2 h3
  obtain ⟨hn, hr⟩ := row_in (BindingX.rows_length l) h2
  simp only [DV.okL, DV.ok] at h3
  exact ⟨l, hn, hr, h3.1.2, by have := h3.1.1; rwa [List.length_map] at this⟩
theorem types_arg (h : DataW.trod enc Try.prog w base spare held fuel 49 [.slice A n c] = some y) :
    ∃ l : List TypeX, n = l.length ∧ TypeRow w (Und w.heap.size) A c l ∧ DV.okE (TypeX.rows l) ∧ l.length ≤ 9223372036854775807 := by
  obtain ⟨ds, h1, h2, h3⟩ := trod_fits (φ := toImplB) bindG_ok fuel fuel _ _ _ (Nat.le_refl _) (.inr (.inl rfl)) h
  obtain ⟨m, xs, hf, rfl, hx⟩ := fits_slice Try.underlying49 h1
  obtain ⟨l, rfl⟩ := list_of TypeX.cells xs fun y hy => fitsB_Type m m y (Nat.le_refl _) (hx y hy)
  rw [cellsOf_Type] at h2 h3
  rw [← TypeX.rows_map] at h2 h3
  obtain ⟨hn, hr⟩ := row_in (TypeX.rows_length l) h2
  simp only [DV.okL, DV.ok] at h3
  exact ⟨l, hn, hr, h3.1.2, by have := h3.1.1; rwa [TypeX.rows_length] at this⟩
end
end Go.Proofs.Ytmacnanocofoaaa

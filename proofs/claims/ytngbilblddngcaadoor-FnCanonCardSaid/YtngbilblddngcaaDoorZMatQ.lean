/- What a match makes of the pattern, and which variables it binds. -/
import Derived.Test.YtngbilblddngcaaDoorQ2
import Derived.Test.YtngbilblddngcaaDoorQ1
import Derived.Test.YtngbilblddngcaaDoorZApplyI
import Derived.Test.YtngbilblddngcaaDoorZTyVars
namespace Go.Proofs.YtngbilblddngcaaDoor
open Go.RowKit Go.Lib

mutual
theorem TypeX.mat_more : ∀ (p t : TypeX) (acc a2 : List BindingX), p.mat t acc = some a2 → ∃ c, a2 = acc ++ c
  | .mk k n a, t, acc, a2, h => by
    by_cases hk : k = 1
    · cases hl : lookX n acc with
      | some y =>
        rw [TypeX.mat_met (p := .mk k n a) hk hl] at h
        by_cases hs : y.same t = true
        · rw [if_pos hs] at h; injection h with h; exact ⟨[], by rw [h, List.append_nil]⟩
        · rw [if_neg hs] at h; cases h
      | none =>
        rw [TypeX.mat_new (p := .mk k n a) hk hl] at h
        injection h with h
        exact ⟨_, h.symm⟩
    · by_cases hc : k = t.kind_ ∧ n = t.name_ ∧ a.length = t.args_.length
      · rw [TypeX.mat_args (p := .mk k n a) hk hc] at h
        exact TypeX.matL_more a t.args_ acc a2 h
      · rw [TypeX.mat_no (p := .mk k n a) hk hc] at h; cases h
theorem TypeX.matL_more : ∀ (a b : List TypeX) (acc a2 : List BindingX), TypeX.matL a b acc = some a2 → ∃ c, a2 = acc ++ c
  | [], _, acc, a2, h => by rw [TypeX.matL] at h; injection h with h; exact ⟨[], by rw [h, List.append_nil]⟩
  | _ :: _, [], acc, a2, h => by rw [TypeX.matL] at h; cases h
  | x :: r, y :: s, acc, a2, h => by
    rw [TypeX.matL] at h
    cases hm : x.mat y acc with
    | none => rw [hm] at h; cases h
    | some a1 =>
      rw [hm] at h
      obtain ⟨c, rfl⟩ := TypeX.mat_more x y acc a1 hm
      obtain ⟨d, rfl⟩ := TypeX.matL_more r s _ a2 h
      exact ⟨c ++ d, by rw [List.append_assoc]⟩
end
theorem look_more {s : ByteArray} {l c : List BindingX} {y : TypeX} (h : lookX s l = some y) : lookX s (l ++ c) = some y := by rw [lookX_append, h]; rfl
theorem look_new {s : ByteArray} {l c : List BindingX} {y : TypeX} (h : lookX s l = none) : lookX s ((l ++ [.mk s y]) ++ c) = some y := by
  apply look_more
  rw [lookX_append, h, lookX_one]
  rw [if_pos (by simp [BindingX.var_])]
  rfl
mutual
/-- The pattern becomes the type. -/
theorem TypeX.mat_sub : ∀ (p t : TypeX) (acc a2 c : List BindingX), p.mat t acc = some a2 → p.sub (subX (a2 ++ c)) = t
  | .mk k n a, t, acc, a2, c, h => by
    by_cases hk : k = 1
    · cases hl : lookX n acc with
      | some y =>
        rw [TypeX.mat_met (p := .mk k n a) hk hl] at h
        by_cases hs : y.same t = true
        · rw [if_pos hs] at h; injection h with h; subst h
          rw [(TypeX.same_iff y t).1 hs] at hl
          exact TypeX.sub_some (x := .mk k n a) hk (look_more hl)
        · rw [if_neg hs] at h; cases h
      | none =>
        rw [TypeX.mat_new (p := .mk k n a) hk hl] at h
        injection h with h
        subst h
        exact TypeX.sub_some (x := .mk k n a) hk (look_new hl)
    · by_cases hc : k = t.kind_ ∧ n = t.name_ ∧ a.length = t.args_.length
      · rw [TypeX.mat_args (p := .mk k n a) hk hc] at h
        have hL := TypeX.matL_sub a t.args_ acc a2 c hc.2.2 h
        rw [TypeX.sub_else (x := .mk k n a) (fun hh => hk hh.1)]
        cases t with | mk k' n' a' =>
        simp only [TypeX.kind_, TypeX.name_, TypeX.args_] at hc hL ⊢
        rw [hL, hc.1, hc.2.1]
      · rw [TypeX.mat_no (p := .mk k n a) hk hc] at h; cases h
theorem TypeX.matL_sub : ∀ (a b : List TypeX) (acc a2 c : List BindingX), a.length = b.length → TypeX.matL a b acc = some a2 → TypeX.subL (subX (a2 ++ c)) a = b
  | [], b, acc, a2, c, hl, _ => by rw [TypeX.subL]; exact (List.eq_nil_of_length_eq_zero hl.symm).symm
  | _ :: _, [], acc, a2, c, hl, _ => by simp at hl
  | x :: r, y :: s, acc, a2, c, hl, h => by
    rw [TypeX.matL] at h
    cases hm : x.mat y acc with
    | none => rw [hm] at h; cases h
    | some a1 =>
      rw [hm] at h
      obtain ⟨d, rfl⟩ := TypeX.matL_more r s a1 a2 h
      have h1 := TypeX.mat_sub x y acc a1 (d ++ c) hm
      rw [← List.append_assoc] at h1
      rw [TypeX.subL, h1, TypeX.matL_sub r s a1 (a1 ++ d) c (by simpa using hl) h]
end
theorem look_has (s : ByteArray) : ∀ l : List BindingX, (lookX s l).isSome = has (l.map BindingX.var_) s
  | [] => rfl
  | b :: r => by
    rw [lookX, List.map_cons]
    have ih := look_has s r
    rw [has] at ih ⊢
    rw [List.any_cons, ← ih]
    cases h : (b.var_.data.toList == s.data.toList) with
    | true => simp
    | false => simp
mutual
/-- The variables bound are the pattern's, in the order in which they come. -/
theorem TypeX.mat_vars : ∀ (p t : TypeX) (acc a2 : List BindingX), p.leafy → p.mat t acc = some a2 → a2.map BindingX.var_ = p.vars (acc.map BindingX.var_)
  | .mk k n a, t, acc, a2, hf, h => by
    rw [TypeX.leafy] at hf
    rw [TypeX.vars_eq]
    by_cases hk : k = 1
    · have ha := hf.1 hk
      subst ha
      rw [if_pos (show (TypeX.mk k n []).kind_ = 1 from hk)]
      show _ = TypeX.varsL (addNew (acc.map BindingX.var_) n) []
      rw [TypeX.varsL, addNew, ← look_has]
      cases hl : lookX n acc with
      | some y =>
        rw [TypeX.mat_met (p := .mk k n []) hk hl] at h
        by_cases hs : y.same t = true
        · rw [if_pos hs] at h; injection h with h; rw [← h]; rfl
        · rw [if_neg hs] at h; cases h
      | none =>
        rw [TypeX.mat_new (p := .mk k n []) hk hl] at h
        injection h with h
        rw [← h, List.map_append]
        rfl
    · rw [if_neg (show ¬ (TypeX.mk k n a).kind_ = 1 from hk)]
      by_cases hc : k = t.kind_ ∧ n = t.name_ ∧ a.length = t.args_.length
      · rw [TypeX.mat_args (p := .mk k n a) hk hc] at h
        exact TypeX.matL_vars a t.args_ acc a2 hf.2 h
      · rw [TypeX.mat_no (p := .mk k n a) hk hc] at h; cases h
theorem TypeX.matL_vars : ∀ (a b : List TypeX) (acc a2 : List BindingX), TypeX.leafyL a → TypeX.matL a b acc = some a2 → a2.map BindingX.var_ = TypeX.varsL (acc.map BindingX.var_) a
  | [], _, acc, a2, _, h => by rw [TypeX.matL] at h; injection h with h; rw [TypeX.varsL, h]
  | _ :: _, [], acc, a2, _, h => by rw [TypeX.matL] at h; cases h
  | x :: r, y :: s, acc, a2, hf, h => by
    rw [TypeX.leafyL] at hf
    rw [TypeX.matL] at h
    cases hm : x.mat y acc with
    | none => rw [hm] at h; cases h
    | some a1 =>
      rw [hm] at h
      rw [TypeX.varsL, ← TypeX.mat_vars x y acc a1 hf.1 hm]
      exact TypeX.matL_vars r s a1 a2 hf.2 h
end
theorem matAll_sub {ps ts : List TypeX} {a2 : List BindingX} (h : matAll ps ts = some a2) : TypeX.subL (subX a2) ps = ts := by
  rw [matAll] at h
  by_cases hl : ps.length = ts.length
  · rw [if_pos hl] at h
    have := TypeX.matL_sub ps ts [] a2 [] hl h
    rwa [List.append_nil] at this
  · rw [if_neg hl] at h; cases h
theorem mat_sub0 {p t : TypeX} {a2 : List BindingX} (h : p.mat t [] = some a2) : p.sub (subX a2) = t := by
  have := TypeX.mat_sub p t [] a2 [] h
  rwa [List.append_nil] at this
theorem mat_vars0 {p t : TypeX} {a2 : List BindingX} (hf : p.leafy) (h : p.mat t [] = some a2) : a2.length = (p.vars []).length := by
  have := TypeX.mat_vars p t [] a2 hf h
  rw [← List.length_map (f := BindingX.var_), this]; rfl
end Go.Proofs.YtngbilblddngcaaDoor

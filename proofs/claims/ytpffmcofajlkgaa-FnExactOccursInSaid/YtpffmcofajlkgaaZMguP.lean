/- Unification as plain data. -/
import Derived.Test.YtpffmcofajlkgaaZMatQ
import Derived.Test.YtpffmcofajlkgaaZSubP
import Derived.Test.YtpffmcofajlkgaaQ1
namespace Go.Proofs.Ytpffmcofajlkgaa
open Go.RowKit Go.Lib

/-- A new binding: applied to the types of all bindings, then appended. -/
def boundX (acc : List BindingX) (v : ByteArray) (t : TypeX) : List BindingX := acc.map (fun b => .mk b.var_ (b.type_.sub (subX [.mk v t]))) ++ [.mk v t]
/-- All positions, one after another. -/
def mguL (f : TypeX → TypeX → List BindingX → Option (List BindingX)) : List TypeX → List TypeX → List BindingX → Option (List BindingX)
  | [], _, acc => some acc
  | _ :: _, [], _ => none
  | x :: r, y :: s, acc => match f x y acc with
    | some a2 => mguL f r s a2
    | none => none
/-- One pair, the substitution applied already; f: the pairs below it. -/
def mguAt (f : TypeX → TypeX → List BindingX → Option (List BindingX)) (x y : TypeX) (acc : List BindingX) : Option (List BindingX) :=
  if x.same y = true then some acc
  else if 4000 < x.size + y.size then none
  else if x.kind_ = 1 then (if 0 < y.cntV x.name_ then none else some (boundX acc x.name_ y))
  else if y.kind_ = 1 then (if 0 < x.cntV y.name_ then none else some (boundX acc y.name_ x))
  else if x.kind_ = y.kind_ ∧ x.name_ = y.name_ ∧ x.args_.length = y.args_.length then mguL f x.args_ y.args_ acc else none
/-- Unification, at most N levels deep. -/
def mgu : Nat → TypeX → TypeX → List BindingX → Option (List BindingX)
  | 0, _, _, _ => none
  | N + 1, a, b, acc => mguAt (mgu N) (a.sub (subX acc)) (b.sub (subX acc)) acc

theorem look_inX {s : ByteArray} {y : TypeX} : ∀ {l : List BindingX}, lookX s l = some y → ∃ b ∈ l, b.var_ = s ∧ b.type_ = y
  | [], h => by simp [lookX] at h
  | b :: r, h => by
    rw [lookX] at h
    by_cases hb : (b.var_.data.toList == s.data.toList) = true
    · rw [if_pos hb] at h; injection h with h; exact ⟨b, List.mem_cons_self, data_eq.1 hb, h⟩
    · rw [if_neg hb] at h
      obtain ⟨b', h1, h2⟩ := look_inX h
      exact ⟨b', List.mem_cons_of_mem _ h1, h2⟩
theorem look_single (s v : ByteArray) (t : TypeX) : lookX s [.mk v t] = if v = s then some t else none := by
  rw [lookX_one]
  by_cases h : v = s
  · rw [if_pos h]; exact if_pos (data_eq.2 h)
  · rw [if_neg h]; exact if_neg (fun e => h (data_eq.1 e))
theorem look_map (s : ByteArray) (g : TypeX → TypeX) : ∀ l : List BindingX, lookX s (l.map fun b => .mk b.var_ (g b.type_)) = (lookX s l).map g
  | [] => rfl
  | b :: r => by
    rw [List.map_cons, lookX, lookX, look_map s g r]
    show (if b.var_.data.toList == s.data.toList then _ else _) = _
    split <;> rfl
theorem look_bound (s : ByteArray) (acc : List BindingX) (v : ByteArray) (t : TypeX) : lookX s (boundX acc v t) = ((lookX s acc).map (TypeX.sub (subX [.mk v t]))).or (if v = s then some t else none) := by
  rw [boundX, lookX_append, look_map s (TypeX.sub (subX [.mk v t])), look_single]
mutual
/-- Whose names stand in what replacement makes. -/
theorem names_sub {f : ByteArray → Option TypeX} {u : ByteArray} : ∀ x : TypeX, u ∈ (x.sub f).names → (u ∈ x.names ∧ f u = none) ∨ ∃ s y, s ∈ x.names ∧ f s = some y ∧ u ∈ y.names
  | .mk k n a, h => by
    by_cases hc : (k == 1) = true ∧ (f n).isSome = true
    · rw [TypeX.sub, if_pos hc] at h
      obtain ⟨y, hy⟩ := Option.isSome_iff_exists.1 hc.2
      rw [hy] at h
      have hk : k = 1 := by simpa using hc.1
      exact .inr ⟨n, y, by rw [TypeX.names, if_pos hk]; simp, hy, h⟩
    · rw [TypeX.sub, if_neg hc, TypeX.names, List.mem_append] at h
      rcases h with h | h
      · by_cases hk : k = 1
        · rw [if_pos hk] at h
          have hu : u = n := by simpa using h
          have hn : f n = none := by
            cases hf : f n with
            | none => rfl
            | some y => exact absurd ⟨by simpa using hk, by rw [hf]; rfl⟩ hc
          exact .inl ⟨by rw [TypeX.names, if_pos hk, hu]; simp, by rw [hu]; exact hn⟩
        · rw [if_neg hk] at h; cases h
      · rcases namesL_sub a h with ⟨h1, h2⟩ | ⟨s, y, h1, h2, h3⟩
        · exact .inl ⟨by rw [TypeX.names]; exact List.mem_append_right _ h1, h2⟩
        · exact .inr ⟨s, y, by rw [TypeX.names]; exact List.mem_append_right _ h1, h2, h3⟩
theorem namesL_sub {f : ByteArray → Option TypeX} {u : ByteArray} : ∀ l : List TypeX, u ∈ TypeX.namesL (TypeX.subL f l) → (u ∈ TypeX.namesL l ∧ f u = none) ∨ ∃ s y, s ∈ TypeX.namesL l ∧ f s = some y ∧ u ∈ y.names
  | [], h => by rw [TypeX.subL, TypeX.namesL] at h; cases h
  | x :: r, h => by
    rw [TypeX.subL, TypeX.namesL, List.mem_append] at h
    rw [TypeX.namesL]
    rcases h with h | h
    · rcases names_sub x h with ⟨h1, h2⟩ | ⟨s, y, h1, h2, h3⟩
      · exact .inl ⟨List.mem_append_left _ h1, h2⟩
      · exact .inr ⟨s, y, List.mem_append_left _ h1, h2, h3⟩
    · rcases namesL_sub r h with ⟨h1, h2⟩ | ⟨s, y, h1, h2, h3⟩
      · exact .inl ⟨List.mem_append_right _ h1, h2⟩
      · exact .inr ⟨s, y, List.mem_append_right _ h1, h2, h3⟩
end
mutual
/-- One replacement behind another. -/
theorem TypeX.sub_comp {f g h : ByteArray → Option TypeX} (hs : ∀ s y, f s = some y → h s = some (y.sub g)) (hn : ∀ s, f s = none → h s = g s) : ∀ x : TypeX, (x.sub f).sub g = x.sub h
  | .mk k n a => by
    by_cases hc : (k == 1) = true ∧ (f n).isSome = true
    · obtain ⟨y, hy⟩ := Option.isSome_iff_exists.1 hc.2
      rw [TypeX.sub, if_pos hc, hy, TypeX.sub, if_pos ⟨hc.1, by rw [hs n y hy]; rfl⟩, hs n y hy]
      rfl
    · rw [TypeX.sub, if_neg hc, TypeX.sub, TypeX.sub, TypeX.subL_comp hs hn a]
      by_cases hk : (k == 1) = true
      · have hf : f n = none := by
          cases hf : f n with
          | none => rfl
          | some y => exact absurd ⟨hk, by rw [hf]; rfl⟩ hc
        rw [hn n hf]
      · rw [if_neg (fun e => hk e.1), if_neg (fun e => hk e.1)]
theorem TypeX.subL_comp {f g h : ByteArray → Option TypeX} (hs : ∀ s y, f s = some y → h s = some (y.sub g)) (hn : ∀ s, f s = none → h s = g s) : ∀ l : List TypeX, TypeX.subL g (TypeX.subL f l) = TypeX.subL h l
  | [] => by rw [TypeX.subL, TypeX.subL, TypeX.subL]
  | x :: r => by rw [TypeX.subL, TypeX.subL, TypeX.subL, TypeX.sub_comp hs hn x, TypeX.subL_comp hs hn r]
end
/-- No type of the list names a bound variable. -/
def Idem (acc : List BindingX) : Prop := ∀ b ∈ acc, ∀ u ∈ b.type_.names, lookX u acc = none
/-- The type names no bound variable. -/
def Fresh (acc : List BindingX) (x : TypeX) : Prop := ∀ u ∈ x.names, lookX u acc = none
theorem Idem.nil : Idem [] := fun b hb => by cases hb
theorem Fresh.same {acc : List BindingX} {x : TypeX} (h : Fresh acc x) : x.sub (subX acc) = x := by
  rw [TypeX.sub_on (f := subX acc) (g := fun _ => none) x (fun s hs => h s hs), TypeX.sub_none]
theorem Idem.fresh {acc : List BindingX} (h : Idem acc) (x : TypeX) : Fresh acc (x.sub (subX acc)) := fun u hu => by
  rcases names_sub x hu with ⟨_, h2⟩ | ⟨s, y, _, h2, h3⟩
  · exact h2
  · obtain ⟨b, hb, _, rfl⟩ := look_inX h2
    exact h b hb u h3
theorem cnt_names {y : TypeX} {v : ByteArray} (h : ¬ 0 < y.cntV v) : v ∉ y.names := fun hm => by have := TypeX.names_cnt y v hm; omega
theorem look_bound_none {acc : List BindingX} {v u : ByteArray} {t : TypeX} (h : lookX u acc = none) (hv : v ≠ u) : lookX u (boundX acc v t) = none := by rw [look_bound, h, if_neg hv]; rfl
theorem look_bound_new {acc : List BindingX} {v : ByteArray} {t : TypeX} (h : lookX v acc = none) : lookX v (boundX acc v t) = some t := by rw [look_bound, h, if_pos rfl]; rfl
theorem Idem.bound {acc : List BindingX} {v : ByteArray} {t : TypeX} (h : Idem acc) (ht : Fresh acc t) (hv : v ∉ t.names) : Idem (boundX acc v t) := by
  have ht2 : Fresh (boundX acc v t) t := fun u hu => look_bound_none (ht u hu) (fun e => hv (e ▸ hu))
  intro b hb u hu
  rw [boundX, List.mem_append] at hb
  rcases hb with hb | hb
  · obtain ⟨b0, hb0, rfl⟩ := List.mem_map.1 hb
    have hu : u ∈ (b0.type_.sub (subX [.mk v t])).names := hu
    rcases names_sub _ hu with ⟨h1, h2⟩ | ⟨s, y, h1, h2, h3⟩
    · rw [subX, look_single] at h2
      refine look_bound_none (h b0 hb0 u h1) (fun e => ?_)
      rw [if_pos e] at h2; cases h2
    · rw [subX, look_single] at h2
      split at h2
      · injection h2 with h2; subst h2; exact ht2 u h3
      · cases h2
  · rw [List.mem_singleton.1 hb] at hu
    exact ht2 u hu
/-- What the later substitution makes does not ask whether the earlier one has been applied. -/
def Ext (acc a2 : List BindingX) : Prop := ∀ x : TypeX, (x.sub (subX acc)).sub (subX a2) = x.sub (subX a2)
theorem Ext.refl {acc : List BindingX} (h : Idem acc) : Ext acc acc := fun x => (h.fresh x).same
theorem Ext.trans {a b c : List BindingX} (h : Ext a b) (k : Ext b c) : Ext a c := fun x => by rw [← k (x.sub (subX a)), h x, k x]
theorem Ext.bound {acc : List BindingX} {v : ByteArray} {t : TypeX} (h : Idem acc) : Ext acc (boundX acc v t) := fun x => by
  refine TypeX.sub_comp (fun s y hs => ?_) (fun s _ => rfl) x
  have hy : Fresh acc y := fun u hu => by
    obtain ⟨b, hb, _, rfl⟩ := look_inX hs
    exact h b hb u hu
  have e : y.sub (subX (boundX acc v t)) = y.sub (subX [.mk v t]) := TypeX.sub_on y fun u hu => by
    rw [subX, subX, look_bound, hy u hu, look_single]; rfl
  rw [e]
  have hs' : lookX s acc = some y := hs
  rw [subX, look_bound, hs']; rfl

/-- What unification of a list gives. -/
theorem mguL_sound {f : TypeX → TypeX → List BindingX → Option (List BindingX)} (hf : ∀ x y acc a2, Idem acc → f x y acc = some a2 → Idem a2 ∧ Ext acc a2 ∧ x.sub (subX a2) = y.sub (subX a2)) :
    ∀ (l m : List TypeX) (acc a2 : List BindingX), l.length = m.length → Idem acc → mguL f l m acc = some a2 → Idem a2 ∧ Ext acc a2 ∧ TypeX.subL (subX a2) l = TypeX.subL (subX a2) m
  | [], m, acc, a2, hl, hi, h => by
    rw [mguL] at h
    injection h with h
    subst h
    rw [List.eq_nil_of_length_eq_zero hl.symm]
    exact ⟨hi, Ext.refl hi, rfl⟩
  | _ :: _, [], acc, a2, hl, hi, h => by simp at hl
  | x :: r, y :: s, acc, a2, hl, hi, h => by
    rw [mguL] at h
    cases h1 : f x y acc with
    | none => rw [h1] at h; cases h
    | some a1 =>
      rw [h1] at h
      obtain ⟨i1, e1, q1⟩ := hf x y acc a1 hi h1
      obtain ⟨i2, e2, q2⟩ := mguL_sound hf r s a1 a2 (by simpa using hl) i1 h
      refine ⟨i2, e1.trans e2, ?_⟩
      rw [TypeX.subL, TypeX.subL, q2, ← e2 x, ← e2 y, q1]
/-- A UNIFIER MAKES BOTH TYPES EQUAL; the bindings stay idempotent. -/
theorem mgu_sound : ∀ (N : Nat) (a b : TypeX) (acc a2 : List BindingX), Idem acc → mgu N a b acc = some a2 → Idem a2 ∧ Ext acc a2 ∧ a.sub (subX a2) = b.sub (subX a2)
  | 0, a, b, acc, a2, hi, h => by rw [mgu] at h; cases h
  | N + 1, a, b, acc, a2, hi, h => by
    rw [mgu] at h
    have fx := hi.fresh a
    have fy := hi.fresh b
    have key : ∀ x y : TypeX, x = a.sub (subX acc) → y = b.sub (subX acc) → Fresh acc x → Fresh acc y → mguAt (mgu N) x y acc = some a2 → Idem a2 ∧ Ext acc a2 ∧ x.sub (subX a2) = y.sub (subX a2) := by
      intro x y _ _ hx hy h
      rw [mguAt] at h
      by_cases hs : x.same y = true
      · rw [if_pos hs] at h; injection h with h; subst h
        exact ⟨hi, Ext.refl hi, by rw [(TypeX.same_iff x y).1 hs]⟩
      rw [if_neg hs] at h
      by_cases hz : 4000 < x.size + y.size
      · rw [if_pos hz] at h; cases h
      rw [if_neg hz] at h
      by_cases hxk : x.kind_ = 1
      · rw [if_pos hxk] at h
        by_cases ho : 0 < y.cntV x.name_
        · rw [if_pos ho] at h; cases h
        rw [if_neg ho] at h; injection h with h; subst h
        have hv := cnt_names ho
        have hl : lookX x.name_ acc = none := hx _ (by cases x with | mk k n l => rw [TypeX.names, if_pos (show k = 1 from hxk)]; simp [TypeX.name_])
        refine ⟨hi.bound hy hv, Ext.bound hi, ?_⟩
        rw [TypeX.sub_some hxk (look_bound_new hl)]
        exact (Fresh.same (acc := boundX acc x.name_ y) (fun u hu => look_bound_none (hy u hu) (fun e => hv (e.symm ▸ hu)))).symm
      rw [if_neg hxk] at h
      by_cases hyk : y.kind_ = 1
      · rw [if_pos hyk] at h
        by_cases ho : 0 < x.cntV y.name_
        · rw [if_pos ho] at h; cases h
        rw [if_neg ho] at h; injection h with h; subst h
        have hv := cnt_names ho
        have hl : lookX y.name_ acc = none := hy _ (by cases y with | mk k n l => rw [TypeX.names, if_pos (show k = 1 from hyk)]; simp [TypeX.name_])
        refine ⟨hi.bound hx hv, Ext.bound hi, ?_⟩
        rw [TypeX.sub_some hyk (look_bound_new hl)]
        exact Fresh.same (acc := boundX acc y.name_ x) (fun u hu => look_bound_none (hx u hu) (fun e => hv (e.symm ▸ hu)))
      rw [if_neg hyk] at h
      by_cases hc : x.kind_ = y.kind_ ∧ x.name_ = y.name_ ∧ x.args_.length = y.args_.length
      · rw [if_pos hc] at h
        obtain ⟨i2, e2, q2⟩ := mguL_sound (fun x y acc a2 => mgu_sound N x y acc a2) x.args_ y.args_ acc a2 hc.2.2 hi h
        refine ⟨i2, e2, ?_⟩
        rw [TypeX.sub_else (fun e => hxk e.1), TypeX.sub_else (fun e => hyk e.1), q2, hc.1, hc.2.1]
      · rw [if_neg hc] at h; cases h
    obtain ⟨i2, e2, q2⟩ := key _ _ rfl rfl fx fy h
    exact ⟨i2, e2, by rw [← e2 a, ← e2 b, q2]⟩
end Go.Proofs.Ytpffmcofajlkgaa

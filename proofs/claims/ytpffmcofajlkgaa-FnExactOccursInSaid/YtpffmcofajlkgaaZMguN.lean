/- How deep unification goes: fewer variables, or smaller types. -/
import Derived.Test.YtpffmcofajlkgaaZMguP
import Derived.Test.YtpffmcofajlkgaaQ1
namespace Go.Proofs.Ytpffmcofajlkgaa
open Go.RowKit Go.Lib

/-- How many different names. -/
def cardN (l : List ByteArray) : Nat := (uniF [] l).length
theorem uniF_has {x : ByteArray} {l : List ByteArray} (h : x ∈ l) : x ∈ uniF [] l := by
  rw [← has_iff] at h ⊢
  rw [has_uniF, h]; simp
theorem addNew_nodup {acc : List ByteArray} {x : ByteArray} (h : acc.Nodup) : (addNew acc x).Nodup := by
  cases hx : has acc x with
  | true => rw [addNew_old hx]; exact h
  | false =>
    rw [addNew_new hx, List.nodup_append]
    refine ⟨h, by simp, fun a ha b hb e => ?_⟩
    rw [List.mem_singleton.1 hb] at e
    rw [e] at ha
    rw [has_iff.2 ha] at hx; cases hx
theorem uniF_nodup : ∀ (l acc : List ByteArray), acc.Nodup → (uniF acc l).Nodup
  | [], _, h => h
  | x :: r, acc, h => uniF_nodup r (addNew acc x) (addNew_nodup h)
theorem filter_lt {x : ByteArray} : ∀ m : List ByteArray, x ∈ m → (m.filter fun y => decide (y ≠ x)).length + 1 ≤ m.length
  | z :: m, h => by
    by_cases hz : z = x
    · have := List.length_filter_le (fun y => decide (y ≠ x)) m
      rw [List.filter_cons, if_neg (by simp [hz]), List.length_cons]; omega
    · have hm : x ∈ m := (List.mem_cons.1 h).resolve_left (fun e => hz e.symm)
      have := filter_lt m hm
      rw [List.filter_cons, if_pos (by simp [hz]), List.length_cons, List.length_cons]; omega
theorem nodup_le : ∀ (l m : List ByteArray), l.Nodup → (∀ x ∈ l, x ∈ m) → l.length ≤ m.length
  | [], m, _, _ => Nat.zero_le _
  | x :: r, m, hn, hs => by
    rw [List.nodup_cons] at hn
    have hx := hs x List.mem_cons_self
    have h := nodup_le r (m.filter fun y => decide (y ≠ x)) hn.2 (fun y hy => List.mem_filter.2 ⟨hs y (List.mem_cons_of_mem _ hy), by
      have : y ≠ x := fun e => hn.1 (by rw [← e]; exact hy)
      simp [this]⟩)
    have := filter_lt m hx
    rw [List.length_cons]; omega
theorem cardN_le {l m : List ByteArray} (h : ∀ x ∈ l, x ∈ m) : cardN l ≤ cardN m :=
  nodup_le _ _ (uniF_nodup l [] List.nodup_nil) fun x hx => uniF_has (h x (uniF_mem hx))
theorem cardN_lt {l m : List ByteArray} {v : ByteArray} (h : ∀ x ∈ l, x ∈ m) (hv : v ∈ m) (hn : v ∉ l) : cardN l < cardN m := by
  have h1 := nodup_le (v :: uniF [] l) (uniF [] m) (List.nodup_cons.2 ⟨fun e => hn (uniF_mem e), uniF_nodup l [] List.nodup_nil⟩) (fun x hx => by
    rcases List.mem_cons.1 hx with rfl | hx
    · exact uniF_has hv
    · exact uniF_has (h x (uniF_mem hx)))
  rw [List.length_cons] at h1
  exact h1
theorem cardN_len (l : List ByteArray) : cardN l ≤ l.length := by have := uniF_len l []; rw [List.length_nil] at this; unfold cardN; omega

/-- How many levels a pair may need, the substitution applied already. -/
def needP (x y : TypeX) : Nat := if 4000 < x.size + y.size then 1 else cardN (x.names ++ y.names) * 4001 + (x.size + y.size) + 1
theorem needP_pos (x y : TypeX) : 0 < needP x y := by unfold needP; split <;> omega
theorem needP_le (x y : TypeX) : needP x y ≤ 16012002 := by
  unfold needP
  by_cases h : 4000 < x.size + y.size
  · rw [if_pos h]; omega
  · rw [if_neg h]
    have h1 := cardN_len (x.names ++ y.names)
    have h2 := x.names_len
    have h3 := y.names_len
    rw [List.length_append] at h1
    generalize cardN (x.names ++ y.names) = q at *
    omega
/-- The names V stand for types whose names lie in V. -/
def Closed (V : List ByteArray) (acc : List BindingX) : Prop := ∀ s ∈ V, ∀ y, lookX s acc = some y → ∀ u ∈ y.names, u ∈ V
theorem Closed.sub {V : List ByteArray} {acc : List BindingX} (h : Closed V acc) {x : TypeX} (hx : ∀ u ∈ x.names, u ∈ V) : ∀ u ∈ (x.sub (subX acc)).names, u ∈ V := fun u hu => by
  rcases names_sub x hu with ⟨h1, _⟩ | ⟨s, y, h1, h2, h3⟩
  · exact hx u h1
  · exact h s (hx s h1) y h2 u h3
theorem Closed.bound {V : List ByteArray} {acc : List BindingX} {v : ByteArray} {t : TypeX} (h : Closed V acc) (ht : ∀ u ∈ t.names, u ∈ V) : Closed V (boundX acc v t) := by
  intro s hs y hy u hu
  rw [look_bound] at hy
  cases hl : lookX s acc with
  | some z =>
    rw [hl] at hy
    injection hy with hy
    subst hy
    rcases names_sub z hu with ⟨h1, _⟩ | ⟨s', y', _, h2, h3⟩
    · exact h s hs z hl u h1
    · rw [subX, look_single] at h2
      split at h2
      · injection h2 with h2; subst h2; exact ht u h3
      · cases h2
  | none =>
    rw [hl] at hy
    have hy : (if v = s then some t else none) = some y := hy
    split at hy
    · injection hy with hy; subst hy; exact ht u hu
    · cases hy
theorem mguL_closed {V : List ByteArray} {f : TypeX → TypeX → List BindingX → Option (List BindingX)} (hf : ∀ x y acc a2, (∀ u ∈ x.names, u ∈ V) → (∀ u ∈ y.names, u ∈ V) → Closed V acc → f x y acc = some a2 → Closed V a2) :
    ∀ (l m : List TypeX) (acc a2 : List BindingX), (∀ u ∈ TypeX.namesL l, u ∈ V) → (∀ u ∈ TypeX.namesL m, u ∈ V) → Closed V acc → mguL f l m acc = some a2 → Closed V a2
  | [], m, acc, a2, _, _, hc, h => by rw [mguL] at h; injection h with h; subst h; exact hc
  | _ :: _, [], acc, a2, _, _, hc, h => by rw [mguL] at h; cases h
  | x :: r, y :: s, acc, a2, hl, hm, hc, h => by
    rw [TypeX.namesL] at hl hm
    rw [mguL] at h
    cases h1 : f x y acc with
    | none => rw [h1] at h; cases h
    | some a1 =>
      rw [h1] at h
      exact mguL_closed hf r s a1 a2 (fun u hu => hl u (List.mem_append_right _ hu)) (fun u hu => hm u (List.mem_append_right _ hu))
        (hf x y acc a1 (fun u hu => hl u (List.mem_append_left _ hu)) (fun u hu => hm u (List.mem_append_left _ hu)) hc h1) h
theorem names_args {x : TypeX} {u : ByteArray} (h : u ∈ TypeX.namesL x.args_) : u ∈ x.names := by
  cases x with | mk k n a => rw [TypeX.names]; exact List.mem_append_right _ h
theorem names_self {x : TypeX} (h : x.kind_ = 1) : x.name_ ∈ x.names := by
  cases x with | mk k n a => rw [TypeX.names, if_pos (show k = 1 from h)]; simp [TypeX.name_]
theorem mguAt_closed {V : List ByteArray} {f : TypeX → TypeX → List BindingX → Option (List BindingX)} (hf : ∀ x y acc a2, (∀ u ∈ x.names, u ∈ V) → (∀ u ∈ y.names, u ∈ V) → Closed V acc → f x y acc = some a2 → Closed V a2)
    {x y : TypeX} {acc a2 : List BindingX} (hx : ∀ u ∈ x.names, u ∈ V) (hy : ∀ u ∈ y.names, u ∈ V) (hc : Closed V acc) (h : mguAt f x y acc = some a2) : Closed V a2 := by
  rw [mguAt] at h
  by_cases hs : x.same y = true
  · rw [if_pos hs] at h; injection h with h; subst h; exact hc
  rw [if_neg hs] at h
  by_cases hz : 4000 < x.size + y.size
  · rw [if_pos hz] at h; cases h
  rw [if_neg hz] at h
  by_cases hxk : x.kind_ = 1
  · rw [if_pos hxk] at h
    split at h
    · cases h
    · injection h with h; subst h; exact hc.bound hy
  rw [if_neg hxk] at h
  by_cases hyk : y.kind_ = 1
  · rw [if_pos hyk] at h
    split at h
    · cases h
    · injection h with h; subst h; exact hc.bound hx
  rw [if_neg hyk] at h
  split at h
  · exact mguL_closed hf _ _ acc a2 (fun u hu => hx u (names_args hu)) (fun u hu => hy u (names_args hu)) hc h
  · cases h
theorem mgu_closed {V : List ByteArray} : ∀ (N : Nat) (a b : TypeX) (acc a2 : List BindingX), (∀ u ∈ a.names, u ∈ V) → (∀ u ∈ b.names, u ∈ V) → Closed V acc → mgu N a b acc = some a2 → Closed V a2
  | 0, a, b, acc, a2, _, _, _, h => by rw [mgu] at h; cases h
  | N + 1, a, b, acc, a2, ha, hb, hc, h => by
    rw [mgu] at h
    exact mguAt_closed (fun x y acc a2 => mgu_closed N x y acc a2) (hc.sub ha) (hc.sub hb) hc h
theorem names_at : ∀ (l : List TypeX) (k : Nat) (h : k < l.length), ∀ u ∈ l[k].names, u ∈ TypeX.namesL l
  | x :: r, 0, _, u, hu => by rw [TypeX.namesL]; exact List.mem_append_left _ hu
  | x :: r, k + 1, h, u, hu => by rw [TypeX.namesL]; exact List.mem_append_right _ (names_at r k (by simpa using h) u hu)
theorem namesL_take : ∀ (l : List TypeX) (k : Nat), ∀ u ∈ TypeX.namesL (l.take k), u ∈ TypeX.namesL l
  | [], k, u, hu => by rw [List.take_nil] at hu; exact hu
  | x :: r, 0, u, hu => by rw [List.take_zero, TypeX.namesL] at hu; cases hu
  | x :: r, k + 1, u, hu => by
    rw [List.take_succ_cons, TypeX.namesL, List.mem_append] at hu
    rw [TypeX.namesL, List.mem_append]
    exact hu.imp id (namesL_take r k u)
/-- A pair of arguments needs fewer levels, whatever the pairs before it have bound. -/
theorem need_child {f : TypeX → TypeX → List BindingX → Option (List BindingX)} (hfs : ∀ x y acc a2, Idem acc → f x y acc = some a2 → Idem a2 ∧ Ext acc a2 ∧ x.sub (subX a2) = y.sub (subX a2))
    (hfc : ∀ V x y acc a2, (∀ u ∈ x.names, u ∈ V) → (∀ u ∈ y.names, u ∈ V) → Closed V acc → f x y acc = some a2 → Closed V a2)
    {x y : TypeX} {acc ak : List BindingX} (hi : Idem acc) (hx : Fresh acc x) (hy : Fresh acc y) (hz : x.size + y.size ≤ 4000) (hlen : x.args_.length = y.args_.length) {k : Nat} (hk : k < x.args_.length) (hk2 : k < y.args_.length)
    (h : mguL f (x.args_.take k) (y.args_.take k) acc = some ak) : Idem ak ∧ needP (x.args_[k].sub (subX ak)) (y.args_[k].sub (subX ak)) < needP x y := by
  obtain ⟨hik, _, _⟩ := mguL_sound hfs _ _ acc ak (by rw [List.length_take, List.length_take, hlen]) hi h
  refine ⟨hik, ?_⟩
  have hV : ∀ u ∈ x.names ++ y.names, lookX u acc = none := fun u hu => (List.mem_append.1 hu).elim (hx u) (hy u)
  have hc0 : Closed (x.names ++ y.names) acc := fun s hs z hz => by rw [hV s hs] at hz; cases hz
  have hck := mguL_closed (hfc (x.names ++ y.names)) _ _ acc ak (fun u hu => List.mem_append_left _ (names_args (namesL_take _ _ u hu))) (fun u hu => List.mem_append_right _ (names_args (namesL_take _ _ u hu))) hc0 h
  have hcx : ∀ u ∈ x.args_[k].names, u ∈ x.names ++ y.names := fun u hu => List.mem_append_left _ (names_args (names_at _ k hk u hu))
  have hcy : ∀ u ∈ y.args_[k].names, u ∈ x.names ++ y.names := fun u hu => List.mem_append_right _ (names_args (names_at _ k hk2 u hu))
  have hsub : ∀ u ∈ (x.args_[k].sub (subX ak)).names ++ (y.args_[k].sub (subX ak)).names, u ∈ x.names ++ y.names := fun u hu => (List.mem_append.1 hu).elim (hck.sub hcx u) (hck.sub hcy u)
  have hsx := TypeX.size_eq x
  have hsy := TypeX.size_eq y
  have hax := TypeX.sizeL_at x.args_ k hk
  have hay := TypeX.sizeL_at y.args_ k hk2
  rw [needP, needP, if_neg (show ¬ 4000 < x.size + y.size by omega)]
  by_cases hbig : 4000 < (x.args_[k].sub (subX ak)).size + (y.args_[k].sub (subX ak)).size
  · rw [if_pos hbig]; omega
  rw [if_neg hbig]
  by_cases hf : (∀ u ∈ x.args_[k].names, lookX u ak = none) ∧ (∀ u ∈ y.args_[k].names, lookX u ak = none)
  · have ex : x.args_[k].sub (subX ak) = x.args_[k] := Fresh.same hf.1
    have ey : y.args_[k].sub (subX ak) = y.args_[k] := Fresh.same hf.2
    have hle := cardN_le hsub
    rw [ex, ey] at hle ⊢
    have := Nat.mul_le_mul_right 4001 hle
    omega
  · have : ∃ v, v ∈ x.names ++ y.names ∧ lookX v ak ≠ none := by
      by_cases h1 : ∀ u ∈ x.args_[k].names, lookX u ak = none
      · by_cases h2 : ∀ u ∈ y.args_[k].names, lookX u ak = none
        · exact absurd ⟨h1, h2⟩ hf
        · simp only [Classical.not_forall] at h2
          obtain ⟨v, hv, hn⟩ := h2
          exact ⟨v, hcy v hv, hn⟩
      · simp only [Classical.not_forall] at h1
        obtain ⟨v, hv, hn⟩ := h1
        exact ⟨v, hcx v hv, hn⟩
    obtain ⟨v, hv, hn⟩ := this
    have hlt := cardN_lt hsub hv (fun hm => by
      rcases List.mem_append.1 hm with hm | hm
      · exact hn (hik.fresh _ v hm)
      · exact hn (hik.fresh _ v hm))
    have := Nat.mul_le_mul_right 4001 (show cardN ((x.args_[k].sub (subX ak)).names ++ (y.args_[k].sub (subX ak)).names) + 1 ≤ cardN (x.names ++ y.names) by omega)
    rw [Nat.add_mul] at this
    omega
/-- One position more; once it fails it fails. -/
theorem mguL_step (f : TypeX → TypeX → List BindingX → Option (List BindingX)) : ∀ (l m : List TypeX) (acc : List BindingX) (k : Nat) (h : k < l.length) (h' : k < m.length), mguL f (l.take (k + 1)) (m.take (k + 1)) acc = (mguL f (l.take k) (m.take k) acc).bind fun a2 => f l[k] m[k] a2
  | x :: r, y :: s, acc, 0, _, _ => by
    simp only [Nat.zero_add, List.take_succ_cons, List.take_zero, mguL, Option.bind_some, List.getElem_cons_zero]
    cases f x y acc <;> rfl
  | x :: r, y :: s, acc, k + 1, h, h' => by
    rw [List.take_succ_cons, List.take_succ_cons, List.take_succ_cons, List.take_succ_cons, mguL, mguL]
    cases f x y acc with
    | none => rfl
    | some a2 =>
      simp only [List.getElem_cons_succ]
      exact mguL_step f r s a2 k (by simpa using h) (by simpa using h')
theorem mguL_none (f : TypeX → TypeX → List BindingX → Option (List BindingX)) : ∀ (l m : List TypeX) (acc : List BindingX) (k : Nat), l.length = m.length → mguL f (l.take k) (m.take k) acc = none → mguL f l m acc = none
  | [], _, acc, k, _, h => by rw [List.take_nil, mguL] at h; cases h
  | x :: r, [], acc, k, hl, h => by simp at hl
  | x :: r, y :: s, acc, 0, hl, h => by rw [List.take_zero, List.take_zero, mguL] at h; cases h
  | x :: r, y :: s, acc, k + 1, hl, h => by
    rw [List.take_succ_cons, List.take_succ_cons, mguL] at h
    rw [mguL]
    cases hm : f x y acc with
    | none => rfl
    | some a2 =>
      rw [hm] at h
      exact mguL_none f r s a2 k (by simpa using hl) h
/-- ENOUGH LEVELS ARE ENOUGH. -/
theorem mgu_more : ∀ (N M : Nat) (a b : TypeX) (acc : List BindingX), Idem acc → needP (a.sub (subX acc)) (b.sub (subX acc)) ≤ N → N ≤ M → mgu M a b acc = mgu N a b acc
  | 0, M, a, b, acc, _, hn, _ => by have := needP_pos (a.sub (subX acc)) (b.sub (subX acc)); omega
  | N + 1, 0, a, b, acc, _, _, hm => by omega
  | N + 1, M + 1, a, b, acc, hi, hn, hm => by
    rw [mgu, mgu]
    have fx := hi.fresh a
    have fy := hi.fresh b
    have key : ∀ x y : TypeX, Fresh acc x → Fresh acc y → needP x y ≤ N + 1 → mguAt (mgu M) x y acc = mguAt (mgu N) x y acc := by
      intro x y hx hy hxy
      rw [mguAt, mguAt]
      by_cases hs : x.same y = true
      · rw [if_pos hs, if_pos hs]
      rw [if_neg hs, if_neg hs]
      by_cases hz : 4000 < x.size + y.size
      · rw [if_pos hz, if_pos hz]
      rw [if_neg hz, if_neg hz]
      by_cases hxk : x.kind_ = 1
      · rw [if_pos hxk, if_pos hxk]
      rw [if_neg hxk, if_neg hxk]
      by_cases hyk : y.kind_ = 1
      · rw [if_pos hyk, if_pos hyk]
      rw [if_neg hyk, if_neg hyk]
      by_cases hc : x.kind_ = y.kind_ ∧ x.name_ = y.name_ ∧ x.args_.length = y.args_.length
      · rw [if_pos hc, if_pos hc]
        have hpre : ∀ k, k ≤ x.args_.length → mguL (mgu M) (x.args_.take k) (y.args_.take k) acc = mguL (mgu N) (x.args_.take k) (y.args_.take k) acc := by
          intro k
          induction k with
          | zero => intro _; rw [List.take_zero, List.take_zero, mguL, mguL]
          | succ k ih =>
            intro hk
            have h1 : k < x.args_.length := by omega
            have h2 : k < y.args_.length := by omega
            rw [mguL_step _ _ _ _ k h1 h2, mguL_step _ _ _ _ k h1 h2, ih (by omega)]
            cases hq : mguL (mgu N) (x.args_.take k) (y.args_.take k) acc with
            | none => rfl
            | some ak =>
              obtain ⟨hik, hlt⟩ := need_child (fun x y acc a2 => mgu_sound N x y acc a2) (fun V x y acc a2 => mgu_closed N x y acc a2) hi hx hy (by omega) hc.2.2 h1 h2 hq
              rw [Option.bind_some, Option.bind_some]
              exact mgu_more N M _ _ ak hik (by omega) (by omega)
        have := hpre x.args_.length (Nat.le_refl _)
        rwa [List.take_length, hc.2.2, List.take_length] at this
      · rw [if_neg hc, if_neg hc]
    exact key _ _ fx fy hn
end Go.Proofs.Ytpffmcofajlkgaa

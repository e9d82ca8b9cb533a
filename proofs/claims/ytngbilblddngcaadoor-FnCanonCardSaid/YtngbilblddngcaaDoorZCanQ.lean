/- Alpha equivalence and mutual matching, as data: two types whose variables have no arguments. -/
import Derived.Test.YtngbilblddngcaaDoorZCanI
import Derived.Test.YtngbilblddngcaaDoorZMatQ
import Derived.Test.YtngbilblddngcaaDoorQ2
namespace Go.Proofs.YtngbilblddngcaaDoor
open Go.RowKit Go.Lib

mutual
/-- The variables' names, as they come. -/
def TypeX.nm : TypeX → List ByteArray
  | .mk k n a => if k = 1 then n :: TypeX.nmL a else TypeX.nmL a
def TypeX.nmL : List TypeX → List ByteArray
  | [] => []
  | x :: r => x.nm ++ TypeX.nmL r
end
mutual
theorem TypeX.vars_nm : ∀ (x : TypeX) (acc : List ByteArray), x.vars acc = uniF acc x.nm
  | .mk k n a, acc => by
    rw [TypeX.vars, TypeX.nm, TypeX.varsL_nm a]
    by_cases h : k = 1
    · rw [if_pos h, if_pos h]; rfl
    · rw [if_neg h, if_neg h]
theorem TypeX.varsL_nm : ∀ (l : List TypeX) (acc : List ByteArray), TypeX.varsL acc l = uniF acc (TypeX.nmL l)
  | [], acc => by rw [TypeX.varsL, TypeX.nmL]; rfl
  | x :: r, acc => by rw [TypeX.varsL, TypeX.nmL, uniF_append, TypeX.vars_nm x, TypeX.varsL_nm r]
end
theorem varsOf_one (x : TypeX) : varsOf [x] = uniF [] x.nm := by rw [varsOf, TypeX.varsL_nm, TypeX.nmL, TypeX.nmL, List.append_nil]
theorem mem_varsOf {x : TypeX} {s : ByteArray} : s ∈ varsOf [x] ↔ s ∈ x.nm := by rw [varsOf_one, ← has_iff, has_uniF, ← has_iff (l := x.nm)]; rfl

mutual
theorem TypeX.ren_ren (f g : ByteArray → ByteArray) : ∀ x : TypeX, (x.ren f).ren g = x.ren (fun s => g (f s))
  | .mk k n a => by
    rw [TypeX.ren, TypeX.ren]
    by_cases h : k = 1
    · rw [if_pos h, if_pos h, TypeX.ren, if_pos rfl]
    · rw [if_neg h, if_neg h, TypeX.ren, if_neg h, TypeX.renL_renL f g a]
theorem TypeX.renL_renL (f g : ByteArray → ByteArray) : ∀ l : List TypeX, TypeX.renL g (TypeX.renL f l) = TypeX.renL (fun s => g (f s)) l
  | [] => by rw [TypeX.renL, TypeX.renL, TypeX.renL]
  | x :: r => by rw [TypeX.renL, TypeX.renL, TypeX.renL, TypeX.ren_ren f g x, TypeX.renL_renL f g r]
end
mutual
theorem TypeX.ren_cong {f g : ByteArray → ByteArray} : ∀ x : TypeX, (∀ s ∈ x.nm, f s = g s) → x.ren f = x.ren g
  | .mk k n a, h => by
    rw [TypeX.nm] at h
    rw [TypeX.ren, TypeX.ren]
    by_cases hk : k = 1
    · rw [if_pos hk] at h ⊢
      rw [if_pos hk, h n List.mem_cons_self]
    · rw [if_neg hk] at h ⊢
      rw [if_neg hk, TypeX.renL_cong a h]
theorem TypeX.renL_cong {f g : ByteArray → ByteArray} : ∀ l : List TypeX, (∀ s ∈ TypeX.nmL l, f s = g s) → TypeX.renL f l = TypeX.renL g l
  | [], _ => by rw [TypeX.renL, TypeX.renL]
  | x :: r, h => by
    rw [TypeX.nmL] at h
    rw [TypeX.renL, TypeX.renL, TypeX.ren_cong x fun s hs => h s (List.mem_append_left _ hs), TypeX.renL_cong r fun s hs => h s (List.mem_append_right _ hs)]
end
mutual
theorem TypeX.ren_id {f : ByteArray → ByteArray} : ∀ x : TypeX, x.leafy → (x.ren f = x ↔ ∀ s ∈ x.nm, f s = s)
  | .mk k n a, hl => by
    rw [TypeX.leafy] at hl
    rw [TypeX.ren, TypeX.nm]
    by_cases hk : k = 1
    · rw [if_pos hk, if_pos hk, hl.1 hk, hk, TypeX.nmL]
      constructor
      · intro h s hs
        rw [List.mem_singleton] at hs
        injection h with _ h
        rw [hs, h]
      · intro h; rw [h n List.mem_cons_self]
    · rw [if_neg hk, if_neg hk, ← TypeX.renL_id a hl.2]
      constructor
      · intro h; injection h
      · intro h; rw [h]
theorem TypeX.renL_id {f : ByteArray → ByteArray} : ∀ l : List TypeX, TypeX.leafyL l → (TypeX.renL f l = l ↔ ∀ s ∈ TypeX.nmL l, f s = s)
  | [], _ => by rw [TypeX.renL, TypeX.nmL]; simp
  | x :: r, hl => by
    rw [TypeX.leafyL] at hl
    rw [TypeX.renL, TypeX.nmL, List.cons.injEq, TypeX.ren_id x hl.1, TypeX.renL_id r hl.2]
    constructor
    · rintro ⟨h1, h2⟩ s hs
      rcases List.mem_append.1 hs with hs | hs
      · exact h1 s hs
      · exact h2 s hs
    · intro h
      exact ⟨fun s hs => h s (List.mem_append_left _ hs), fun s hs => h s (List.mem_append_right _ hs)⟩
end
mutual
theorem TypeX.nm_ren (f : ByteArray → ByteArray) : ∀ x : TypeX, x.leafy → (x.ren f).nm = x.nm.map f
  | .mk k n a, hl => by
    rw [TypeX.leafy] at hl
    rw [TypeX.ren, TypeX.nm]
    by_cases hk : k = 1
    · rw [if_pos hk, if_pos hk, hl.1 hk, TypeX.nm, if_pos rfl, TypeX.nmL]; rfl
    · rw [if_neg hk, if_neg hk, TypeX.nm, if_neg hk, TypeX.nmL_ren f a hl.2]
theorem TypeX.nmL_ren (f : ByteArray → ByteArray) : ∀ l : List TypeX, TypeX.leafyL l → TypeX.nmL (TypeX.renL f l) = (TypeX.nmL l).map f
  | [], _ => by rw [TypeX.renL, TypeX.nmL]; rfl
  | x :: r, hl => by
    rw [TypeX.leafyL] at hl
    rw [TypeX.renL, TypeX.nmL, TypeX.nmL, TypeX.nm_ren f x hl.1, TypeX.nmL_ren f r hl.2, List.map_append]
end
mutual
theorem TypeX.leafy_ren (f : ByteArray → ByteArray) : ∀ x : TypeX, x.leafy → (x.ren f).leafy
  | .mk k n a, hl => by
    rw [TypeX.leafy] at hl
    rw [TypeX.ren]
    by_cases hk : k = 1
    · rw [if_pos hk, TypeX.leafy, TypeX.leafyL]; exact ⟨fun _ => rfl, trivial⟩
    · rw [if_neg hk, TypeX.leafy]; exact ⟨fun h => absurd h hk, TypeX.leafyL_ren f a hl.2⟩
theorem TypeX.leafyL_ren (f : ByteArray → ByteArray) : ∀ l : List TypeX, TypeX.leafyL l → TypeX.leafyL (TypeX.renL f l)
  | [], _ => by rw [TypeX.renL, TypeX.leafyL]; trivial
  | x :: r, hl => by
    rw [TypeX.leafyL] at hl
    rw [TypeX.renL, TypeX.leafyL]
    exact ⟨TypeX.leafy_ren f x hl.1, TypeX.leafyL_ren f r hl.2⟩
end
def InjOn (f : ByteArray → ByteArray) (l : List ByteArray) : Prop := ∀ s ∈ l, ∀ t ∈ l, f s = f t → s = t
theorem uniF_map {f : ByteArray → ByteArray} : ∀ (l acc : List ByteArray), InjOn f (acc ++ l) → uniF (acc.map f) (l.map f) = (uniF acc l).map f
  | [], acc, _ => rfl
  | x :: r, acc, h => by
    have e : addNew (acc.map f) (f x) = (addNew acc x).map f := by
      rw [addNew, addNew]
      have hh : has (acc.map f) (f x) = has acc x := by
        rw [Bool.eq_iff_iff, has_iff, has_iff, List.mem_map]
        constructor
        · rintro ⟨t, ht, e⟩
          have := h t (List.mem_append_left _ ht) x (List.mem_append_right _ List.mem_cons_self) e
          rw [← this]; exact ht
        · intro hx; exact ⟨x, hx, rfl⟩
      rw [hh]
      split
      · rfl
      · rw [List.map_append]; rfl
    show uniF (addNew (acc.map f) (f x)) (r.map f) = (uniF (addNew acc x) r).map f
    rw [e]
    have hsub : ∀ s ∈ addNew acc x ++ r, s ∈ acc ++ x :: r := fun s hs => by
      rcases List.mem_append.1 hs with hs | hs
      · rw [addNew] at hs
        split at hs
        · exact List.mem_append_left _ hs
        · rcases List.mem_append.1 hs with hs | hs
          · exact List.mem_append_left _ hs
          · rw [List.mem_singleton] at hs; rw [hs]; exact List.mem_append_right _ List.mem_cons_self
      · exact List.mem_append_right _ (List.mem_cons_of_mem _ hs)
    exact uniF_map r (addNew acc x) fun s hs t ht e => h s (hsub s hs) t (hsub t ht) e
theorem idx_map {f : ByteArray → ByteArray} : ∀ (vs : List ByteArray) (k : Nat) (s : ByteArray), InjOn f (s :: vs) → idxF (f s) k (vs.map f) = idxF s k vs
  | [], k, s, _ => rfl
  | v :: r, k, s, h => by
    rw [List.map_cons, idxF, idxF]
    by_cases e : s = v
    · rw [if_pos (by rw [e]), if_pos e]
    · rw [if_neg (fun e2 => e (h s List.mem_cons_self v (List.mem_cons_of_mem _ List.mem_cons_self) e2)), if_neg e, idx_map r (k + 1) s fun a ha b hb => h a (by
        rcases List.mem_cons.1 ha with rfl | ha
        · exact List.mem_cons_self
        · exact List.mem_cons_of_mem _ (List.mem_cons_of_mem _ ha)) b (by
        rcases List.mem_cons.1 hb with rfl | hb
        · exact List.mem_cons_self
        · exact List.mem_cons_of_mem _ (List.mem_cons_of_mem _ hb))]
/-- A renaming that tells the variables apart leaves the canonical form. -/
theorem canon_ren {x : TypeX} {f : ByteArray → ByteArray} (hl : x.leafy) (hf : InjOn f x.nm) : (x.ren f).canon = x.canon := by
  rw [TypeX.canon, TypeX.canon, TypeX.ren_ren]
  refine TypeX.ren_cong x fun s hs => ?_
  rw [varsOf_one, varsOf_one, TypeX.nm_ren f x hl, show ([] : List ByteArray) = ([] : List ByteArray).map f from rfl, uniF_map x.nm [] hf]
  have hi := idx_map (f := f) (uniF [] x.nm) 0 s fun a ha b hb => hf a (by
    rcases List.mem_cons.1 ha with rfl | ha
    · exact hs
    · exact uniF_mem ha) b (by
    rcases List.mem_cons.1 hb with rfl | hb
    · exact hs
    · exact uniF_mem hb)
  have hh := idx_has s (uniF [] x.nm) 0
  rw [has_uniF, has_iff.2 hs, Bool.or_true] at hh
  rw [newN, newN, List.map_nil, hi]
  cases he : idxF s 0 (uniF [] x.nm) with
  | none => rw [he] at hh; cases hh
  | some i => rfl
theorem canName_inj {i j : Nat} (h : canName i = canName j) : i = j := by
  have h := congrArg (fun b : ByteArray => b.data.toList) h
  have h2 : (118 : UInt8) :: itoa (i : Int) = 118 :: itoa (j : Int) := by simpa [canName] using h
  injection h2 with _ h2
  have := itoa_inj h2
  omega
theorem newN_inj (vs : List ByteArray) : InjOn (newN vs) vs := fun s hs t ht h => by
  have h1 := idx_has s vs 0
  have h2 := idx_has t vs 0
  rw [has_iff.2 hs] at h1
  rw [has_iff.2 ht] at h2
  rw [newN, newN] at h
  cases hi : idxF s 0 vs with
  | none => rw [hi] at h1; cases h1
  | some i =>
    cases hj : idxF t 0 vs with
    | none => rw [hj] at h2; cases h2
    | some j =>
      rw [hi, hj] at h
      have e := canName_inj h
      subst e
      have k1 := (idx_lt hi).2.2
      have k2 := (idx_lt hj).2.2
      rw [k1] at k2
      injection k2
theorem canon_inj (x : TypeX) : InjOn (newN (varsOf [x])) x.nm := fun s hs t ht h => newN_inj _ s (mem_varsOf.2 hs) t (mem_varsOf.2 ht) h
theorem canon_canon {x : TypeX} (hl : x.leafy) : x.canon.canon = x.canon := canon_ren hl (canon_inj x)

/-- The bindings say what a renaming says. -/
def Agrees (g : ByteArray → ByteArray) (acc : List BindingX) : Prop := ∀ s y, lookX s acc = some y → y = .mk 1 (g s) []
mutual
theorem TypeX.mat_ren (g : ByteArray → ByteArray) : ∀ (x : TypeX) (acc : List BindingX), Agrees g acc → ∃ a2, x.mat (x.ren g) acc = some a2 ∧ Agrees g a2
  | .mk k n a, acc, h => by
    by_cases hk : k = 1
    · have hr : (TypeX.mk k n a).ren g = .mk 1 (g n) [] := TypeX.ren_var (x := .mk k n a) hk
      rw [hr]
      cases hlk : lookX n acc with
      | some y =>
        have hy := h n y hlk
        rw [TypeX.mat_met (p := .mk k n a) hk hlk, if_pos ((TypeX.same_iff _ _).2 hy)]
        exact ⟨acc, rfl, h⟩
      | none =>
        rw [TypeX.mat_new (p := .mk k n a) hk hlk]
        refine ⟨_, rfl, fun s y hs => ?_⟩
        rw [lookX_append] at hs
        cases hl2 : lookX s acc with
        | some z =>
          rw [hl2] at hs
          injection hs with hs
          rw [← hs]; exact h s z hl2
        | none =>
          rw [hl2, Option.none_or, lookX_one] at hs
          split at hs
          · rename_i he
            injection hs with hs
            rw [← hs, ← data_inj (beq_iff_eq.1 he)]
            rfl
          · cases hs
    · have hr : (TypeX.mk k n a).ren g = .mk k n (TypeX.renL g a) := by rw [TypeX.ren, if_neg hk]
      rw [hr, TypeX.mat_args (p := .mk k n a) (t := .mk k n (TypeX.renL g a)) hk ⟨rfl, rfl, (renL_length g a).symm⟩]
      exact TypeX.matL_ren g a acc h
theorem TypeX.matL_ren (g : ByteArray → ByteArray) : ∀ (l : List TypeX) (acc : List BindingX), Agrees g acc → ∃ a2, TypeX.matL l (TypeX.renL g l) acc = some a2 ∧ Agrees g a2
  | [], acc, h => by rw [TypeX.renL, TypeX.matL]; exact ⟨acc, rfl, h⟩
  | x :: r, acc, h => by
    obtain ⟨a1, h1, h2⟩ := TypeX.mat_ren g x acc h
    obtain ⟨a2, h3, h4⟩ := TypeX.matL_ren g r a1 h2
    rw [TypeX.renL, TypeX.matL, h1]
    exact ⟨a2, h3, h4⟩
end
/-- A renaming undone. -/
def backN (f : ByteArray → ByteArray) (l : List ByteArray) (t : ByteArray) : ByteArray := (l.find? fun s => decide (f s = t)).getD t
theorem back_at {f : ByteArray → ByteArray} {l : List ByteArray} (h : InjOn f l) {s : ByteArray} (hs : s ∈ l) : backN f l (f s) = s := by
  rw [backN]
  cases hf : l.find? fun u => decide (f u = f s) with
  | none =>
    have := List.find?_eq_none.1 hf s hs
    simp at this
  | some u =>
    have h1 := List.mem_of_find?_eq_some hf
    have h2 := List.find?_some hf
    exact h u h1 s hs (of_decide_eq_true h2)
/-- A type with the same canonical form is a renaming of it. -/
theorem canon_eq_ren {x y : TypeX} (hl : y.leafy) (h : x.canon = y.canon) : ∃ g, y = x.ren g := by
  refine ⟨fun s => backN (newN (varsOf [y])) y.nm (newN (varsOf [x]) s), ?_⟩
  rw [← TypeX.ren_ren]
  show y = x.canon.ren _
  rw [h, TypeX.canon, TypeX.ren_ren]
  exact ((TypeX.ren_id y hl).2 fun s hs => back_at (canon_inj y) hs).symm
theorem mat_of_canon {x y : TypeX} (hl : y.leafy) (h : x.canon = y.canon) : (x.mat y []).isSome = true := by
  obtain ⟨g, rfl⟩ := canon_eq_ren hl h
  obtain ⟨a2, h1, _⟩ := TypeX.mat_ren g x [] (fun s y hs => by rw [lookX] at hs; cases hs)
  rw [h1]; rfl
/-- The names that a replacement gives. -/
def nameF (f : ByteArray → Option TypeX) (s : ByteArray) : ByteArray := match f s with
  | some u => u.name_
  | none => s
mutual
theorem TypeX.sub_ren {f h : ByteArray → Option TypeX} : ∀ x : TypeX, x.leafy → (x.sub f).leafy → (x.sub f).sub h = x → x.sub f = x.ren (nameF f)
  | .mk k n a, hl, hl2, hb => by
    rw [TypeX.leafy] at hl
    by_cases hk : k = 1
    · have ha := hl.1 hk
      subst hk
      subst ha
      rw [TypeX.ren, if_pos rfl, nameF]
      cases hf : f n with
      | none =>
        rw [TypeX.sub, if_neg (by rw [hf]; simp), TypeX.subL]
      | some u =>
        have hs : (TypeX.mk 1 n []).sub f = u := TypeX.sub_some rfl hf
        rw [hs] at hl2 hb ⊢
        cases u with | mk uk un ua =>
        rw [TypeX.sub] at hb
        by_cases hu : uk = 1
        · rw [TypeX.leafy] at hl2
          rw [hl2.1 hu, hu]; rfl
        · rw [if_neg (fun e => hu (by simpa using e.1))] at hb
          injection hb with hb
          exact absurd hb hu
    · rw [TypeX.sub, if_neg (fun e => hk (by simpa using e.1))] at hl2 hb ⊢
      rw [TypeX.sub, if_neg (fun e => hk (by simpa using e.1))] at hb
      injection hb with _ _ hb
      rw [TypeX.leafy] at hl2
      rw [TypeX.ren, if_neg hk, TypeX.subL_ren a hl.2 hl2.2 hb]
theorem TypeX.subL_ren {f h : ByteArray → Option TypeX} : ∀ l : List TypeX, TypeX.leafyL l → TypeX.leafyL (TypeX.subL f l) → TypeX.subL h (TypeX.subL f l) = l → TypeX.subL f l = TypeX.renL (nameF f) l
  | [], _, _, _ => by rw [TypeX.subL, TypeX.renL]
  | x :: r, hl, hl2, hb => by
    rw [TypeX.leafyL] at hl
    rw [TypeX.subL, TypeX.leafyL] at hl2
    rw [TypeX.subL, TypeX.subL, List.cons.injEq] at hb
    rw [TypeX.subL, TypeX.renL, TypeX.sub_ren x hl.1 hl2.1 hb.1, TypeX.subL_ren r hl.2 hl2.2 hb.2]
end
theorem canon_of_mat {x y : TypeX} (hx : x.leafy) (hy : y.leafy) (h1 : (x.mat y []).isSome = true) (h2 : (y.mat x []).isSome = true) : x.canon = y.canon := by
  obtain ⟨σ, hσ⟩ := Option.isSome_iff_exists.1 h1
  obtain ⟨τ, hτ⟩ := Option.isSome_iff_exists.1 h2
  have s1 := mat_sub0 hσ
  have s2 := mat_sub0 hτ
  have r1 := TypeX.sub_ren (f := subX σ) (h := subX τ) x hx (by rw [s1]; exact hy) (by rw [s1, s2])
  have r2 := TypeX.sub_ren (f := subX τ) (h := subX σ) y hy (by rw [s2]; exact hx) (by rw [s2, s1])
  rw [s1] at r1
  rw [s2] at r2
  have e : x.ren (fun s => nameF (subX τ) (nameF (subX σ) s)) = x := by rw [← TypeX.ren_ren, ← r1, ← r2]
  have hb := (TypeX.ren_id x hx).1 e
  have hi : InjOn (nameF (subX σ)) x.nm := fun s hs t ht h => by rw [← hb s hs, ← hb t ht, h]
  rw [r1, canon_ren hx hi]
/-- ALPHA EQUIVALENCE IS MUTUAL MATCHING. -/
theorem alpha_iff {x y : TypeX} (hx : x.leafy) (hy : y.leafy) : x.canon.same y.canon = ((x.mat y []).isSome && (y.mat x []).isSome) := by
  rw [Bool.eq_iff_iff, TypeX.same_iff, Bool.and_eq_true]
  exact ⟨fun h => ⟨mat_of_canon hy h, mat_of_canon hx h.symm⟩, fun h => canon_of_mat hx hy h.1 h.2⟩
end Go.Proofs.YtngbilblddngcaaDoor

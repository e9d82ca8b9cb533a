/- Canonical names as data: the numbers of the variables, what is bound to them, and the renamed type. -/
import Derived.Test.YtngbilblddngcaaDoorQ2
import Derived.Test.YtngbilblddngcaaDoorZTyVarsI
import Derived.Test.YtngbilblddngcaaDoorQ1
import Derived.Test.YtngbilblddngcaaDoorZApplyI
namespace Go.Proofs.YtngbilblddngcaaDoor
open Go.RowKit Go.Lib

theorem itoa_small (n : Nat) (h : n ≤ 4294967296) : (⟨(itoa (n : Int)).toArray⟩ : ByteArray).size ≤ 21 := by
  have := itoa_length_le (n : Int) (by omega) (by omega)
  show (itoa (n : Int)).toArray.size ≤ 21
  rw [List.size_toArray]; exact this
def canName (i : Nat) : ByteArray := ⟨#[118]⟩ ++ ⟨(itoa (i : Int)).toArray⟩
theorem canName_small (n : Nat) (h : n ≤ 4294967296) : (canName n).size ≤ 22 := by
  have := itoa_small n h
  rw [canName, ByteArray.size_append]
  show 1 + _ ≤ 22
  omega
def canV (i : Nat) : TypeX := .mk 1 (canName i) []
def canBF : Nat → List ByteArray → List BindingX
  | _, [] => []
  | k, v :: r => .mk v (canV k) :: canBF (k + 1) r
/-- The canonical renaming of these variables. -/
def canB (vs : List ByteArray) : List BindingX := canBF 0 vs
def numF : Nat → List ByteArray → List (ByteArray × Value)
  | _, [] => []
  | k, v :: r => (v, .int .i64 (k : Nat)) :: numF (k + 1) r
def idxF (s : ByteArray) : Nat → List ByteArray → Option Nat
  | _, [] => none
  | k, v :: r => if s = v then some k else idxF s (k + 1) r
theorem find_num (s : ByteArray) : ∀ (vs : List ByteArray) (k : Nat), findV s (numF k vs) = (idxF s k vs).map fun i => Value.int .i64 (i : Nat)
  | [], k => rfl
  | v :: r, k => by
    rw [numF, findV, idxF]
    by_cases h : s = v
    · rw [if_pos h, if_pos h]; rfl
    · rw [if_neg h, if_neg h, find_num s r (k + 1)]
theorem look_can (s : ByteArray) : ∀ (vs : List ByteArray) (k : Nat), lookX s (canBF k vs) = (idxF s k vs).map canV
  | [], k => rfl
  | v :: r, k => by
    rw [canBF, lookX, idxF, show (BindingX.mk v (canV k)).var_ = v from rfl]
    by_cases h : s = v
    · rw [if_pos (by rw [h]; exact beq_self_eq_true _), if_pos h]; rfl
    · rw [if_neg (fun e => h (data_inj (beq_iff_eq.1 e)).symm), if_neg h, look_can s r (k + 1)]
theorem canBF_length : ∀ (vs : List ByteArray) (k : Nat), (canBF k vs).length = vs.length
  | [], k => rfl
  | v :: r, k => by rw [canBF, List.length_cons, List.length_cons, canBF_length r]
theorem canB_length (vs : List ByteArray) : (canB vs).length = vs.length := canBF_length vs 0
theorem canBF_snoc (s : ByteArray) : ∀ (vs : List ByteArray) (k : Nat), canBF k (vs ++ [s]) = canBF k vs ++ [.mk s (canV (k + vs.length))]
  | [], k => rfl
  | v :: r, k => by rw [List.cons_append, canBF, canBF, canBF_snoc s r, List.cons_append, List.length_cons, show k + 1 + r.length = k + (r.length + 1) by omega]
theorem canB_snoc (vs : List ByteArray) (s : ByteArray) : canB (vs ++ [s]) = canB vs ++ [.mk s (canV vs.length)] := by rw [canB, canBF_snoc, Nat.zero_add]; rfl
theorem canBF_at : ∀ (vs : List ByteArray) (k i : Nat) (h : i < vs.length) (h' : i < (canBF k vs).length), (canBF k vs)[i] = .mk vs[i] (canV (k + i))
  | v :: r, k, 0, _, _ => rfl
  | v :: r, k, i + 1, h, h' => by
    have e := canBF_at r (k + 1) i (by simpa using h) (by rw [canBF_length]; simpa using h)
    simp only [canBF, List.getElem_cons_succ]
    rw [e, show k + 1 + i = k + (i + 1) by omega]
theorem canB_at (vs : List ByteArray) (i : Nat) (h : i < vs.length) (h' : i < (canB vs).length) : (canB vs)[i] = .mk vs[i] (canV i) := by
  have e := canBF_at vs 0 i h h'
  rw [Nat.zero_add] at e
  exact e
theorem canBF_size : ∀ (vs : List ByteArray) (k : Nat), ∀ b ∈ canBF k vs, b.type_.size = 1
  | v :: r, k, b, hb => by
    rw [canBF] at hb
    rcases List.mem_cons.1 hb with rfl | hb
    · rfl
    · exact canBF_size r (k + 1) b hb
theorem numF_length : ∀ (vs : List ByteArray) (k : Nat), (numF k vs).length = vs.length
  | [], k => rfl
  | v :: r, k => by rw [numF, List.length_cons, List.length_cons, numF_length r]
theorem numF_snoc (s : ByteArray) : ∀ (vs : List ByteArray) (k : Nat), numF k (vs ++ [s]) = numF k vs ++ [(s, .int .i64 ((k + vs.length : Nat) : Int))]
  | [], k => rfl
  | v :: r, k => by rw [List.cons_append, numF, numF, numF_snoc s r, List.cons_append, List.length_cons, show k + 1 + r.length = k + (r.length + 1) by omega]
theorem num_snoc (vs : List ByteArray) (s : ByteArray) : numF 0 (vs ++ [s]) = numF 0 vs ++ [(s, .int .i64 (vs.length : Nat))] := by rw [numF_snoc, Nat.zero_add]
theorem idx_has (s : ByteArray) : ∀ (vs : List ByteArray) (k : Nat), (idxF s k vs).isSome = has vs s
  | [], k => rfl
  | v :: r, k => by
    rw [idxF, show has (v :: r) s = (v.data.toList == s.data.toList || has r s) from rfl]
    by_cases h : s = v
    · rw [if_pos h, h, beq_self_eq_true]; rfl
    · rw [if_neg h, idx_has s r, show (v.data.toList == s.data.toList) = false from by rw [beq_eq_false_iff_ne]; exact fun e => h (data_inj e).symm]; rfl
theorem idx_lt {s : ByteArray} : ∀ {vs : List ByteArray} {k i : Nat}, idxF s k vs = some i → k ≤ i ∧ i < k + vs.length ∧ vs[i - k]? = some s
  | v :: r, k, i, h => by
    rw [idxF] at h
    by_cases hs : s = v
    · rw [if_pos hs] at h
      injection h with h
      subst h
      exact ⟨Nat.le_refl _, by rw [List.length_cons]; omega, by rw [Nat.sub_self, hs]; rfl⟩
    · rw [if_neg hs] at h
      obtain ⟨h1, h2, h3⟩ := idx_lt h
      refine ⟨by omega, by rw [List.length_cons]; omega, ?_⟩
      rw [show i - k = (i - (k + 1)) + 1 by omega, List.getElem?_cons_succ]
      exact h3
theorem numF_mem {s : ByteArray} {v : Value} : ∀ {vs : List ByteArray} {k : Nat}, (s, v) ∈ numF k vs → ∃ i, i < vs.length ∧ vs[i]? = some s ∧ v = .int .i64 ((k + i : Nat) : Int)
  | u :: r, k, h => by
    rw [numF] at h
    rcases List.mem_cons.1 h with h | h
    · injection h with h1 h2
      exact ⟨0, by simp, by rw [h1]; rfl, h2⟩
    · obtain ⟨i, h1, h2, h3⟩ := numF_mem h
      exact ⟨i + 1, by simpa using h1, by simpa using h2, by rw [h3, show k + 1 + i = k + (i + 1) by omega]⟩
theorem numF_names : ∀ (vs : List ByteArray) (k : Nat), (numF k vs).map (·.1) = vs
  | [], k => rfl
  | v :: r, k => by rw [numF, List.map_cons, numF_names r]
/-- At names that differ an entry is known by its name. -/
theorem numF_one {vs : List ByteArray} (hn : vs.Nodup) {p q : ByteArray × Value} {k : Nat} (hp : p ∈ numF k vs) (hq : q ∈ numF k vs) (h : p.1 = q.1) : p = q := by
  obtain ⟨s, v⟩ := p
  obtain ⟨t, u⟩ := q
  simp only at h
  subst h
  obtain ⟨i, h1, h2, h3⟩ := numF_mem hp
  obtain ⟨j, k1, k2, k3⟩ := numF_mem hq
  have e : i = j := by
    rw [List.getElem?_eq_getElem h1] at h2
    rw [List.getElem?_eq_getElem k1] at k2
    injection h2 with h2
    injection k2 with k2
    exact (List.getElem_inj hn).1 (h2.trans k2.symm)
  rw [h3, k3, e]

/-- An entry that says what its name is already. -/
def isCan (p : ByteArray × Value) : Bool := match p.2 with
  | .int _ i => decide (p.1 = canName i.toNat)
  | _ => false
/-- What is left of the numbers, with these still to come. -/
def canL (vs : List ByteArray) (todo : List (ByteArray × Value)) : List (ByteArray × Value) := (numF 0 vs).filter fun p => !isCan p || todo.any (fun q => isN p.1 q)
theorem canL_start (vs : List ByteArray) : canL vs (numF 0 vs) = numF 0 vs := by
  refine List.filter_eq_self.2 fun p hp => ?_
  rw [show (numF 0 vs).any (fun q => isN p.1 q) = true from List.any_eq_true.2 ⟨p, hp, by simp [isN]⟩, Bool.or_true]
theorem any_filter (s t : ByteArray) : ∀ todo : List (ByteArray × Value), (todo.filter fun q => !isN s q).any (fun q => isN t q) = (!decide (t = s) && todo.any (fun q => isN t q))
  | [] => by simp
  | q :: r => by
    have ih := any_filter s t r
    rw [List.filter_cons]
    by_cases h : q.1 = s
    · have : isN s q = true := decide_eq_true h
      rw [this]
      simp only [Bool.not_true, Bool.false_eq_true, if_false, List.any_cons]
      rw [ih]
      by_cases ht : t = s
      · rw [decide_eq_true ht]; rfl
      · have : isN t q = false := decide_eq_false fun e => ht (e.symm.trans h)
        rw [this, Bool.false_or]
    · have : isN s q = false := decide_eq_false h
      rw [this]
      simp only [Bool.not_false, if_true, List.any_cons]
      rw [ih]
      by_cases ht : t = s
      · have : isN t q = false := decide_eq_false fun e => h (e.trans ht)
        rw [decide_eq_true ht, this]; rfl
      · rw [decide_eq_false ht]
        cases isN t q <;> cases r.any (fun q => isN t q) <;> rfl
theorem canL_struck {vs : List ByteArray} (hn : vs.Nodup) {s : ByteArray} {v : Value} (hm : (s, v) ∈ numF 0 vs) (hc : isCan (s, v) = true) (todo : List (ByteArray × Value)) :
    (canL vs todo).filter (fun q => !isN s q) = canL vs (todo.filter fun q => !isN s q) := by
  rw [canL, canL, List.filter_filter]
  refine filter_same fun p hp => ?_
  rw [any_filter]
  by_cases h : p.1 = s
  · have e := numF_one hn hp hm h
    subst e
    rw [hc, show isN s (s, v) = true from decide_eq_true rfl]
    simp
  · rw [show isN s p = false from decide_eq_false h, decide_eq_false h]
    simp
theorem canL_stays {vs : List ByteArray} (hn : vs.Nodup) {s : ByteArray} {v : Value} (hm : (s, v) ∈ numF 0 vs) (hc : isCan (s, v) = false) (todo : List (ByteArray × Value)) :
    canL vs todo = canL vs (todo.filter fun q => !isN s q) := by
  rw [canL, canL]
  refine filter_same fun p hp => ?_
  rw [any_filter]
  by_cases h : p.1 = s
  · have e := numF_one hn hp hm h
    subst e
    rw [hc]; simp
  · rw [decide_eq_false h]; simp
theorem filter_twice (s : ByteArray) (l : List (ByteArray × Value)) : (l.filter fun q => !isN s q).filter (fun q => !isN s q) = l.filter fun q => !isN s q := by
  rw [List.filter_filter]
  exact filter_same fun q _ => Bool.and_self _
theorem find_filter (f : ByteArray × Value → Bool) (s : ByteArray) : ∀ {l : List (ByteArray × Value)}, (∀ p q, p ∈ l → q ∈ l → p.1 = q.1 → p = q) → findV s (l.filter f) = (match findV s l with
      | none => none
      | some v => if f (s, v) then some v else none)
  | [], _ => rfl
  | p :: r, h => by
    have ih := find_filter f s (l := r) fun a b ha hb => h a b (List.mem_cons_of_mem _ ha) (List.mem_cons_of_mem _ hb)
    rw [List.filter_cons, findV]
    by_cases hs : s = p.1
    · rw [if_pos hs]
      simp only []
      cases hf : f p with
      | true => rw [if_pos rfl, findV, if_pos hs, hs, show ((p.1, p.2) : ByteArray × Value) = p from rfl, hf]; rfl
      | false =>
        rw [if_neg (by simp), ih, hs, show ((p.1, p.2) : ByteArray × Value) = p from rfl, hf]
        cases hr : findV p.1 r with
        | none => rfl
        | some u =>
          have hm : ∃ q ∈ r, q.1 = p.1 ∧ q.2 = u := by
            clear ih h hf hs
            induction r with
            | nil => simp [findV] at hr
            | cons q r ih =>
              rw [findV] at hr
              by_cases hq : p.1 = q.1
              · rw [if_pos hq] at hr
                injection hr with hr
                exact ⟨q, List.mem_cons_self, hq.symm, hr⟩
              · rw [if_neg hq] at hr
                obtain ⟨x, hx, hy⟩ := ih hr
                exact ⟨x, List.mem_cons_of_mem _ hx, hy⟩
          obtain ⟨q, hq, hq1, hq2⟩ := hm
          have e := h q p (List.mem_cons_of_mem _ hq) List.mem_cons_self hq1
          rw [e] at hq2
          simp only [← hq2, show ((p.1, p.2) : ByteArray × Value) = p from rfl, hf, Bool.false_eq_true, if_false]
    · rw [if_neg hs]
      cases hf : f p with
      | true => rw [if_pos rfl, findV, if_neg hs, ih]
      | false => rw [if_neg (by simp), ih]

/-- The new name of a variable. -/
def newN (vs : List ByteArray) (s : ByteArray) : ByteArray := match idxF s 0 vs with
  | some i => canName i
  | none => s
/-- What the look-up among the numbers that are left answers gives the new name. -/
theorem find_left {vs : List ByteArray} (hn : vs.Nodup) (s : ByteArray) :
    (findV s (canL vs []) = none ∧ newN vs s = s) ∨ ∃ i : Nat, findV s (canL vs []) = some (.int .i64 (i : Nat)) ∧ newN vs s = canName i ∧ i < vs.length := by
  rw [canL, find_filter _ s (fun p q hp hq h => numF_one hn hp hq h), find_num, newN]
  cases hi : idxF s 0 vs with
  | none => exact .inl ⟨rfl, rfl⟩
  | some i =>
    have hil := (idx_lt hi).2.1
    rw [Nat.zero_add] at hil
    simp only [Option.map_some, List.any_nil, Bool.or_false, isCan]
    by_cases h : s = canName i
    · left
      have hb : (!decide (s = canName (((i : Nat) : Int).toNat))) = false := by rw [Int.toNat_natCast, decide_eq_true h]; rfl
      rw [hb]
      exact ⟨rfl, h.symm⟩
    · right
      have hb : (!decide (s = canName (((i : Nat) : Int).toNat))) = true := by rw [Int.toNat_natCast, decide_eq_false h]; rfl
      rw [hb]
      exact ⟨i, rfl, rfl, hil⟩
mutual
/-- The variables under new names, without arguments. -/
def TypeX.ren (g : ByteArray → ByteArray) : TypeX → TypeX
  | .mk k n a => if k = 1 then .mk 1 (g n) [] else .mk k n (TypeX.renL g a)
def TypeX.renL (g : ByteArray → ByteArray) : List TypeX → List TypeX
  | [] => []
  | x :: r => x.ren g :: TypeX.renL g r
end
theorem TypeX.renL_map (g : ByteArray → ByteArray) : ∀ l : List TypeX, TypeX.renL g l = l.map (TypeX.ren g)
  | [] => by rw [TypeX.renL]; rfl
  | x :: r => by rw [TypeX.renL, TypeX.renL_map g r]; rfl
theorem TypeX.ren_var {g : ByteArray → ByteArray} {x : TypeX} (h : x.kind_ = 1) : x.ren g = .mk 1 (g x.name_) [] := by
  cases x with | mk k n a =>
  have h : k = 1 := h
  rw [TypeX.ren, if_pos h]; rfl
theorem TypeX.ren_else {g : ByteArray → ByteArray} {x : TypeX} (h : ¬ x.kind_ = 1) : x.ren g = .mk x.kind_ x.name_ (x.args_.map (TypeX.ren g)) := by
  cases x with | mk k n a =>
  have h : ¬ k = 1 := h
  rw [TypeX.ren, if_neg h, TypeX.renL_map]; rfl
mutual
theorem TypeX.ren_sub {vs : List ByteArray} (d : Nat) : ∀ x : TypeX, (∀ s ∈ varW (x.walk d), s ∈ vs) → x.ren (newN vs) = x.sub (subX (canB vs))
  | .mk k n a, h => by
    rw [TypeX.walk, varW] at h
    rw [TypeX.ren, TypeX.sub]
    have hl : subX (canB vs) n = (idxF n 0 vs).map canV := look_can n vs 0
    by_cases hk : k = 1
    · have hm : n ∈ vs := h n (by
        show n ∈ (if k = 1 then n :: varW (TypeX.walkL (d + 1) a) else varW (TypeX.walkL (d + 1) a))
        rw [if_pos hk]; exact List.mem_cons_self)
      have hs := idx_has n vs 0
      rw [has_iff.2 hm] at hs
      cases hi : idxF n 0 vs with
      | none => rw [hi] at hs; cases hs
      | some i =>
        rw [if_pos hk, newN, hl, hi, if_pos ⟨by rw [hk]; rfl, rfl⟩]
        rfl
    · rw [if_neg hk, if_neg (fun e => hk (by simpa using e.1)), TypeX.renL_sub (d + 1) a fun s hs => h s (by
        show s ∈ (if k = 1 then n :: varW (TypeX.walkL (d + 1) a) else varW (TypeX.walkL (d + 1) a))
        rw [if_neg hk]; exact hs)]
theorem TypeX.renL_sub {vs : List ByteArray} (d : Nat) : ∀ l : List TypeX, (∀ s ∈ varW (TypeX.walkL d l), s ∈ vs) → TypeX.renL (newN vs) l = TypeX.subL (subX (canB vs)) l
  | [], _ => by rw [TypeX.renL, TypeX.subL]
  | x :: r, h => by
    rw [TypeX.walkL, varW_app] at h
    rw [TypeX.renL, TypeX.subL, TypeX.ren_sub d x fun s hs => h s (List.mem_append_left _ hs), TypeX.renL_sub d r fun s hs => h s (List.mem_append_right _ hs)]
end
/-- The variables of a row of types, each once. -/
def varsOf (l : List TypeX) : List ByteArray := TypeX.varsL [] l
theorem varsOf_walk (l : List TypeX) (d : Nat) : varsOf l = uniF [] (varW (TypeX.walkL d l)) := (TypeX.walkL_vars d l []).symm
theorem renL_canon (l : List TypeX) : TypeX.renL (newN (varsOf l)) l = TypeX.subL (subX (canB (varsOf l))) l :=
  TypeX.renL_sub 0 l fun s hs => by
    rw [← has_iff, varsOf_walk l 0, has_uniF, has_iff.2 hs, Bool.or_true]
theorem uniF_nodup : ∀ (l acc : List ByteArray), acc.Nodup → (uniF acc l).Nodup
  | [], acc, h => h
  | x :: r, acc, h => by
    refine uniF_nodup r (addNew acc x) ?_
    rw [addNew]
    split
    · exact h
    · rename_i hx
      refine List.nodup_append.2 ⟨h, by simp, fun a ha b hb e => ?_⟩
      rw [List.mem_singleton] at hb
      rw [e, hb] at ha
      exact hx (has_iff.2 ha)
theorem varsOf_nodup (l : List TypeX) : (varsOf l).Nodup := by rw [varsOf_walk l 0]; exact uniF_nodup _ _ List.nodup_nil
theorem varsOf_len (l : List TypeX) : (varsOf l).length ≤ TypeX.sizeL l := by
  rw [varsOf_walk l 0]
  have h1 := uniF_len (varW (TypeX.walkL 0 l)) []
  have h2 := varW_len (TypeX.walkL 0 l)
  rw [TypeX.walkL_size] at h2
  rw [List.length_nil] at h1
  omega
theorem canB_small (vs : List ByteArray) : SmallX (canB vs) := fun s y h => by
  have hl : subX (canB vs) s = (idxF s 0 vs).map canV := look_can s vs 0
  rw [show lookX s (canB vs) = subX (canB vs) s from rfl, hl] at h
  cases hi : idxF s 0 vs with
  | none => rw [hi] at h; cases h
  | some i =>
    rw [hi] at h
    injection h with h
    rw [← h]
    show 1 ≤ 4294967296
    omega
end Go.Proofs.YtngbilblddngcaaDoor

/- The program's substitution under way: values as they were bound, not brought up to date, and what they stand for. -/
import Derived.Test.YtpffmcofajlkgaaZMguG
import Derived.Test.YtpffmcofajlkgaaQ1
namespace Go.Proofs.Ytpffmcofajlkgaa
open Go.RowKit Go.Lib

/-- A variable that is bound. -/
def BoundV (acc : List BindingX) (x : TypeX) : Prop := x.kind_ = 1 ∧ (lookX x.name_ acc).isSome = true
theorem some_vars {s : ByteArray} {l m : List BindingX} (h : l.map BindingX.var_ = m.map BindingX.var_) : (lookX s l).isSome = (lookX s m).isSome := by rw [look_has, look_has, h]
theorem none_vars {s : ByteArray} {l m : List BindingX} (h : l.map BindingX.var_ = m.map BindingX.var_) (hn : lookX s l = none) : lookX s m = none := by
  have := some_vars (s := s) h
  rw [hn] at this
  simpa using this.symm
/-- What stands for the values: once brought up to date they are acc's; 'cl': how long the way from a name can be. -/
structure Tri (σ acc : List BindingX) : Prop where
  vars : σ.map BindingX.var_ = acc.map BindingX.var_
  nodup : (acc.map BindingX.var_).Nodup
  idem : Idem acc
  full : ∀ s y, lookX s σ = some y → lookX s acc = some (y.sub (subX acc))
  way : ∃ cl : ByteArray → Nat, (∀ s, cl s ≤ σ.length) ∧ ∀ s y, lookX s σ = some y → y.kind_ = 1 → (lookX y.name_ σ).isSome = true → cl y.name_ < cl s
theorem Tri.nil : Tri [] [] := ⟨rfl, List.nodup_nil, Idem.nil, fun s y h => by simp [lookX] at h, ⟨fun _ => 0, fun _ => Nat.zero_le _, fun s y h => by simp [lookX] at h⟩⟩
theorem Tri.len {σ acc : List BindingX} (h : Tri σ acc) : σ.length = acc.length := by have := congrArg List.length h.vars; simpa using this
/-- One step on the way. -/
theorem Tri.step {σ acc : List BindingX} (h : Tri σ acc) {t y : TypeX} (hk : t.kind_ = 1) (hl : lookX t.name_ σ = some y) : y.sub (subX acc) = t.sub (subX acc) := (TypeX.sub_some hk (h.full _ _ hl)).symm
theorem Tri.end_ {σ acc : List BindingX} (h : Tri σ acc) {t : TypeX} (hn : ¬ (t.kind_ = 1 ∧ (lookX t.name_ σ).isSome = true)) : ¬ BoundV acc t := fun ⟨h1, h2⟩ => hn ⟨h1, by rw [some_vars h.vars]; exact h2⟩
/-- No bound variable: only the arguments turn. -/
theorem open_sub {acc : List BindingX} {t : TypeX} (h : ¬ BoundV acc t) : t.sub (subX acc) = .mk t.kind_ t.name_ (TypeX.subL (subX acc) t.args_) := TypeX.sub_else h
theorem open_kind {acc : List BindingX} {t : TypeX} (h : ¬ BoundV acc t) : (t.sub (subX acc)).kind_ = t.kind_ := by rw [open_sub h]; rfl
theorem open_name {acc : List BindingX} {t : TypeX} (h : ¬ BoundV acc t) : (t.sub (subX acc)).name_ = t.name_ := by rw [open_sub h]; rfl
theorem open_args {acc : List BindingX} {t : TypeX} (h : ¬ BoundV acc t) : (t.sub (subX acc)).args_ = t.args_.map (TypeX.sub (subX acc)) := by rw [open_sub h, ← TypeX.subL_map]; rfl
theorem open_len {acc : List BindingX} {t : TypeX} (h : ¬ BoundV acc t) : (t.sub (subX acc)).args_.length = t.args_.length := by rw [open_args h, List.length_map]

/-- The value of a name, once bound, is another. -/
def setX (v : ByteArray) (t : TypeX) (σ : List BindingX) : List BindingX := σ.map fun b => if b.var_ = v then .mk v t else b
theorem setX_vars (v : ByteArray) (t : TypeX) (σ : List BindingX) : (setX v t σ).map BindingX.var_ = σ.map BindingX.var_ := by
  rw [setX, List.map_map]
  refine List.map_congr_left fun b _ => ?_
  simp only [Function.comp]
  split
  · rename_i h; rw [← h]; rfl
  · rfl
theorem setX_length (v : ByteArray) (t : TypeX) (σ : List BindingX) : (setX v t σ).length = σ.length := by rw [setX, List.length_map]
theorem look_set (s v : ByteArray) (t : TypeX) : ∀ σ : List BindingX, lookX s (setX v t σ) = if v = s then (lookX s σ).map fun _ => t else lookX s σ
  | [] => by simp [setX, lookX]
  | b :: r => by
    have ih := look_set s v t r
    rw [setX] at ih ⊢
    rw [List.map_cons, lookX, lookX, ih]
    by_cases hb : b.var_ = v
    · rw [if_pos hb]
      by_cases hs : v = s
      · rw [if_pos (show (BindingX.mk v t).var_.data.toList == s.data.toList from data_eq.2 hs), if_pos (data_eq.2 (hb.trans hs)), if_pos hs]; rfl
      · rw [if_neg (show ¬ ((BindingX.mk v t).var_.data.toList == s.data.toList) = true from fun e => hs (data_eq.1 e)), if_neg (fun e => hs (hb.symm.trans (data_eq.1 e))), if_neg hs]
    · rw [if_neg hb]
      by_cases hs : v = s
      · rw [if_neg (fun e => hb ((data_eq.1 e).trans hs.symm)), if_neg (fun e => hb ((data_eq.1 e).trans hs.symm))]
      · simp only [if_neg hs]
/-- A name on the way is bound to what the way comes to. -/
theorem Tri.set {σ acc : List BindingX} (h : Tri σ acc) {v : ByteArray} {t : TypeX} (hv : lookX v acc = some (t.sub (subX acc))) (ht : ¬ BoundV acc t) : Tri (setX v t σ) acc := by
  obtain ⟨cl, hc, hcl⟩ := h.way
  have hvars := (setX_vars v t σ).trans h.vars
  refine ⟨hvars, h.nodup, h.idem, fun s y hs => ?_, cl, fun s => by rw [setX_length]; exact hc s, fun s y hs hk hb => ?_⟩
  · rw [look_set] at hs
    by_cases e : v = s
    · rw [if_pos e] at hs
      cases hl : lookX s σ with
      | none => rw [hl] at hs; cases hs
      | some z => rw [hl] at hs; injection hs with hs; subst hs e; exact hv
    · rw [if_neg e] at hs; exact h.full s y hs
  · rw [some_vars hvars] at hb
    rw [look_set] at hs
    by_cases e : v = s
    · rw [if_pos e] at hs
      cases hl : lookX s σ with
      | none => rw [hl] at hs; cases hs
      | some z => rw [hl] at hs; injection hs with hs; subst hs; exact absurd ⟨hk, hb⟩ ht
    · rw [if_neg e] at hs; exact hcl s y hs hk (by rw [some_vars h.vars]; exact hb)
theorem sub_away {v : ByteArray} {t x : TypeX} (h : v ∉ x.names) : x.sub (subX [.mk v t]) = x := by
  rw [TypeX.sub_on (f := subX [.mk v t]) (g := fun _ => none) x fun s hs => ?_, TypeX.sub_none]
  rw [subX, look_single, if_neg (show ¬ v = s from fun e => h (e ▸ hs))]
/-- A new binding. -/
theorem Tri.bind {σ acc : List BindingX} (h : Tri σ acc) {v : ByteArray} {t : TypeX} (hv : lookX v acc = none) (ht : ¬ BoundV acc t) (hn : v ∉ (t.sub (subX acc)).names) : Tri (σ ++ [BindingX.mk v t]) (boundX acc v (t.sub (subX acc))) := by
  obtain ⟨cl, hc, hcl⟩ := h.way
  have hvσ : lookX v σ = none := none_vars h.vars.symm hv
  have hvars : (σ ++ [BindingX.mk v t]).map BindingX.var_ = (boundX acc v (t.sub (subX acc))).map BindingX.var_ := by rw [bound_vars, List.map_append, h.vars]; rfl
  refine ⟨hvars, ?_, h.idem.bound (h.idem.fresh t) hn, fun s y hs => ?_, fun s => if s = v then 0 else cl s + 1, fun s => ?_, fun s y hs hk hb => ?_⟩
  · rw [bound_vars, List.nodup_append]
    refine ⟨h.nodup, by simp, fun a ha b hb e => ?_⟩
    rw [List.mem_singleton] at hb
    have := look_var ha
    rw [e, hb, hv] at this
    cases this
  · rw [lookX_append] at hs
    cases hl : lookX s σ with
    | some z =>
      rw [hl] at hs
      injection hs with hs
      subst hs
      rw [look_bound, h.full s z hl, Option.map_some, Option.some_or, sub_boundX]
    | none =>
      rw [hl, Option.none_or, look_single] at hs
      by_cases e : v = s
      · rw [if_pos e] at hs
        injection hs with hs
        subst hs e
        rw [look_bound_new hv, ← sub_boundX, sub_away hn]
      · rw [if_neg e] at hs; cases hs
  · rw [List.length_append, List.length_singleton]
    have := hc s
    show (if s = v then 0 else cl s + 1) ≤ _
    split <;> omega
  · show (if y.name_ = v then 0 else cl y.name_ + 1) < (if s = v then 0 else cl s + 1)
    rw [lookX_append] at hs
    cases hl : lookX s σ with
    | some z =>
      rw [hl] at hs
      injection hs with hs
      subst hs
      have hsv : s ≠ v := fun e => by rw [e, hvσ] at hl; cases hl
      rw [if_neg hsv]
      by_cases e : z.name_ = v
      · rw [if_pos e]; omega
      · rw [if_neg e]
        have := hcl s z hl hk (by
          rw [lookX_append, look_single, if_neg (fun h => e h.symm), Option.or_none] at hb; exact hb)
        omega
    | none =>
      rw [hl, Option.none_or, look_single] at hs
      by_cases e : v = s
      · rw [if_pos e] at hs
        injection hs with hs
        subst hs
        exfalso
        rw [some_vars hvars, look_bound] at hb
        by_cases e2 : v = t.name_
        · refine hn ?_
          rw [open_sub ht]
          rw [e2]
          exact names_self (x := .mk t.kind_ t.name_ (TypeX.subL (subX acc) t.args_)) hk
        · rw [if_neg e2, Option.or_none] at hb
          exact ht ⟨hk, by simpa using hb⟩
      · rw [if_neg e] at hs; cases hs
/-- What a larger substitution makes does not ask whether the smaller has been applied. -/
theorem ext_same {acc a2 : List BindingX} (he : Ext acc a2) {x y : TypeX} (h : x.sub (subX acc) = y.sub (subX acc)) : x.sub (subX a2) = y.sub (subX a2) := by rw [← he x, ← he y, h]

/-- Two pairs that stand for the same. -/
def SameU (acc : List BindingX) (p q : PairX) : Prop := p.1.sub (subX acc) = q.1.sub (subX acc) ∧ p.2.sub (subX acc) = q.2.sub (subX acc)
theorem SameU.ext {acc a2 : List BindingX} {p q : PairX} (h : SameU acc p q) (he : Ext acc a2) : SameU a2 p q := ⟨ext_same he h.1, ext_same he h.2⟩
/-- Lists of pairs that stand for the same. -/
def SameL (acc : List BindingX) : List PairX → List PairX → Prop
  | [], m => m = []
  | p :: l, m => ∃ q r, m = q :: r ∧ SameU acc p q ∧ SameL acc l r
theorem SameL.ext {acc a2 : List BindingX} (he : Ext acc a2) : ∀ {l m : List PairX}, SameL acc l m → SameL a2 l m
  | [], m, h => h
  | p :: l, m, h => by
    obtain ⟨q, r, rfl, h1, h2⟩ := h
    exact ⟨q, r, rfl, h1.ext he, h2.ext he⟩
theorem SameL.of_args {acc : List BindingX} (hi : Idem acc) : ∀ (xs ys : List TypeX), xs.length = ys.length → SameL acc (xs.zip ys) ((TypeX.subL (subX acc) xs).zip (TypeX.subL (subX acc) ys))
  | [], ys, h => by cases ys with
    | nil => rfl
    | cons => simp at h
  | x :: xs, [], h => by simp at h
  | x :: xs, y :: ys, h => by
    rw [TypeX.subL, TypeX.subL, List.zip_cons_cons, List.zip_cons_cons]
    exact ⟨_, _, rfl, ⟨((hi.fresh x).same).symm, ((hi.fresh y).same).symm⟩, SameL.of_args hi xs ys (by simpa using h)⟩

/-- What stands on the stack, each list with its levels: what all of it comes to. -/
noncomputable def contF (Z : Nat) : List (Nat × List PairX) → List BindingX → Option (Option (List BindingX))
  | [], acc => some (some acc)
  | (N, l) :: r, acc => match mguFL (mguF Z N) (l.map Prod.fst) (l.map Prod.snd) acc with
    | some (some a2) => contF Z r a2
    | o => o
theorem contF_nil (Z N : Nat) (r : List (Nat × List PairX)) (acc : List BindingX) : contF Z ((N, []) :: r) acc = contF Z r acc := by rw [contF, List.map_nil, List.map_nil, mguFL]
theorem contF_cons (Z N : Nat) (p : PairX) (l : List PairX) (r : List (Nat × List PairX)) (acc : List BindingX) : contF Z ((N, p :: l) :: r) acc = match mguF Z N p.1 p.2 acc with
    | some (some a2) => contF Z ((N, l) :: r) a2
    | o => o := by
  rw [contF, List.map_cons, List.map_cons, mguFL]
  cases h : mguF Z N p.1 p.2 acc with
  | none => rfl
  | some o => cases o with
    | none => rfl
    | some a2 => simp only []; rw [contF]

/-- How many pairs are asked for. -/
noncomputable def cntFL (f : TypeX → TypeX → List BindingX → Option (Option (List BindingX))) (g : TypeX → TypeX → List BindingX → Nat) : List TypeX → List TypeX → List BindingX → Nat
  | [], _, _ => 0
  | _ :: _, [], _ => 0
  | x :: r, y :: s, acc => g x y acc + (match f x y acc with
    | some (some a2) => cntFL f g r s a2
    | _ => 0)
noncomputable def cntF (Z : Nat) : Nat → TypeX → TypeX → List BindingX → Nat
  | 0, _, _, _ => 0
  | N + 1, a, b, acc => cntFL (mguF Z N) (cntF Z N) (a.sub (subX acc)).args_ (b.sub (subX acc)).args_ acc + 1
noncomputable def cntC (Z : Nat) : List (Nat × List PairX) → List BindingX → Nat
  | [], _ => 0
  | (N, l) :: r, acc => cntFL (mguF Z N) (cntF Z N) (l.map Prod.fst) (l.map Prod.snd) acc + (match mguFL (mguF Z N) (l.map Prod.fst) (l.map Prod.snd) acc with
    | some (some a2) => cntC Z r a2
    | _ => 0)
theorem cntC_nil (Z N : Nat) (r : List (Nat × List PairX)) (acc : List BindingX) : cntC Z ((N, []) :: r) acc = cntC Z r acc := by rw [cntC, List.map_nil, List.map_nil, mguFL, cntFL, Nat.zero_add]
theorem cntC_cons (Z N : Nat) (p : PairX) (l : List PairX) (r : List (Nat × List PairX)) (acc : List BindingX) : cntC Z ((N, p :: l) :: r) acc = cntF Z N p.1 p.2 acc + (match mguF Z N p.1 p.2 acc with
    | some (some a2) => cntC Z ((N, l) :: r) a2
    | _ => 0) := by
  rw [cntC, List.map_cons, List.map_cons, mguFL, cntFL]
  cases h : mguF Z N p.1 p.2 acc with
  | none => rfl
  | some o => cases o with
    | none => rfl
    | some a2 => simp only []; rw [cntC, Nat.add_assoc]

/-- One pair: what remains below it, and the bindings; 'none': it fails. -/
def settleX (acc : List BindingX) (x y : TypeX) : Option (List PairX × List BindingX) :=
  if (x.sub (subX acc)).same (y.sub (subX acc)) = true then some ([], acc)
  else if 4000 < (x.sub (subX acc)).size + (y.sub (subX acc)).size then none
  else if (x.sub (subX acc)).kind_ = 1 then (if 0 < (y.sub (subX acc)).cntV (x.sub (subX acc)).name_ then none else some ([], boundX acc (x.sub (subX acc)).name_ (y.sub (subX acc))))
  else if (y.sub (subX acc)).kind_ = 1 then (if 0 < (x.sub (subX acc)).cntV (y.sub (subX acc)).name_ then none else some ([], boundX acc (y.sub (subX acc)).name_ (x.sub (subX acc))))
  else if (x.sub (subX acc)).kind_ = (y.sub (subX acc)).kind_ ∧ (x.sub (subX acc)).name_ = (y.sub (subX acc)).name_ ∧ (x.sub (subX acc)).args_.length = (y.sub (subX acc)).args_.length then some ((x.sub (subX acc)).args_.zip (y.sub (subX acc)).args_, acc) else none
theorem settleX_same {acc : List BindingX} {p q : PairX} (h : SameU acc p q) : settleX acc p.1 p.2 = settleX acc q.1 q.2 := by unfold settleX; rw [h.1, h.2]
theorem zip_fst {α β : Type} : ∀ (l : List α) (m : List β), l.length = m.length → (l.zip m).map Prod.fst = l
  | [], _, _ => by simp
  | x :: l, [], h => by simp at h
  | x :: l, y :: m, h => by rw [List.zip_cons_cons, List.map_cons, zip_fst l m (by simpa using h)]
theorem zip_snd {α β : Type} : ∀ (l : List α) (m : List β), l.length = m.length → (l.zip m).map Prod.snd = m
  | [], [], _ => by simp
  | [], y :: m, h => by simp at h
  | x :: l, [], h => by simp at h
  | x :: l, y :: m, h => by rw [List.zip_cons_cons, List.map_cons, zip_snd l m (by simpa using h)]
/-- One round of the run. -/
theorem contF_step {Z N : Nat} {p : PairX} {l : List PairX} {r : List (Nat × List PairX)} {acc : List BindingX} {o : Option (List BindingX)} (h : contF Z ((N, p :: l) :: r) acc = some o) :
    ∃ N', N = N' + 1 ∧ FitsX Z p.1 p.2 acc ∧ match settleX acc p.1 p.2 with
      | none => o = none
      | some (c, a2) => contF Z ((N', c) :: (N, l) :: r) a2 = some o ∧ cntC Z ((N', c) :: (N, l) :: r) a2 + 1 ≤ cntC Z ((N, p :: l) :: r) acc := by
  rw [contF_cons] at h
  cases N with
  | zero => rw [mguF] at h; cases h
  | succ N' =>
    refine ⟨N', rfl, ?_⟩
    rw [cntC_cons]
    by_cases hf : FitsX Z p.1 p.2 acc
    · refine ⟨hf, ?_⟩
      rw [mguF, if_pos hf] at h ⊢
      unfold settleX
      rw [mguFAt] at h ⊢
      have hpos : 1 ≤ cntF Z (N' + 1) p.1 p.2 acc := by rw [cntF]; omega
      have hcnt : cntF Z (N' + 1) p.1 p.2 acc = cntFL (mguF Z N') (cntF Z N') (p.1.sub (subX acc)).args_ (p.2.sub (subX acc)).args_ acc + 1 := by rw [cntF]
      generalize p.1.sub (subX acc) = x at *
      generalize p.2.sub (subX acc) = y at *
      by_cases h1 : x.same y = true
      · rw [if_pos h1] at h ⊢
        rw [if_pos h1]
        simp only [] at h ⊢
        rw [contF_nil, cntC_nil]
        exact ⟨h, by omega⟩
      rw [if_neg h1] at h ⊢
      rw [if_neg h1]
      by_cases h2 : 4000 < x.size + y.size
      · rw [if_pos h2] at h ⊢
        simp only [] at h ⊢
        injection h with h; exact h.symm
      rw [if_neg h2] at h ⊢
      rw [if_neg h2]
      by_cases h3 : x.kind_ = 1
      · rw [if_pos h3] at h ⊢
        rw [if_pos h3]
        by_cases h4 : 0 < y.cntV x.name_
        · rw [if_pos h4] at h ⊢
          simp only [] at h ⊢
          injection h with h; exact h.symm
        · rw [if_neg h4] at h ⊢
          rw [if_neg h4]
          simp only [] at h ⊢
          rw [contF_nil, cntC_nil]
          exact ⟨h, by omega⟩
      rw [if_neg h3] at h ⊢
      rw [if_neg h3]
      by_cases h5 : y.kind_ = 1
      · rw [if_pos h5] at h ⊢
        rw [if_pos h5]
        by_cases h4 : 0 < x.cntV y.name_
        · rw [if_pos h4] at h ⊢
          simp only [] at h ⊢
          injection h with h; exact h.symm
        · rw [if_neg h4] at h ⊢
          rw [if_neg h4]
          simp only [] at h ⊢
          rw [contF_nil, cntC_nil]
          exact ⟨h, by omega⟩
      rw [if_neg h5] at h ⊢
      rw [if_neg h5]
      by_cases h6 : x.kind_ = y.kind_ ∧ x.name_ = y.name_ ∧ x.args_.length = y.args_.length
      · rw [if_pos h6] at h ⊢
        rw [if_pos h6]
        simp only []
        rw [contF, cntC, zip_fst _ _ h6.2.2, zip_snd _ _ h6.2.2, hcnt]
        cases hm : mguFL (mguF Z N') x.args_ y.args_ acc with
        | none => rw [hm] at h; cases h
        | some o2 => cases o2 with
          | none => rw [hm] at h; simp only [] at h ⊢; exact ⟨h, by omega⟩
          | some a2 => rw [hm] at h; simp only [] at h ⊢; exact ⟨h, by omega⟩
      · rw [if_neg h6] at h ⊢
        simp only [] at h ⊢
        injection h with h; exact h.symm
    · rw [mguF, if_neg hf] at h; cases h
theorem settleX_ext {acc a2 : List BindingX} {x y : TypeX} {c : List PairX} (hi : Idem acc) (h : settleX acc x y = some (c, a2)) : Ext acc a2 := by
  unfold settleX at h
  split at h
  · injection h with h; injection h with _ h; subst h; exact Ext.refl hi
  · split at h
    · cases h
    · split at h
      · split at h
        · cases h
        · injection h with h; injection h with _ h; subst h; exact Ext.bound hi
      · split at h
        · split at h
          · cases h
          · injection h with h; injection h with _ h; subst h; exact Ext.bound hi
        · split at h
          · injection h with h; injection h with _ h; subst h; exact Ext.refl hi
          · cases h

/-- The program's stack and the run's: the same pairs under the bindings, a level less from list to list. -/
def StackU (acc : List BindingX) : Nat → List (List PairX) → List (Nat × List PairX) → Prop
  | _, [], S => S = []
  | N, l :: r, S => ∃ m S', S = (N, m) :: S' ∧ SameL acc l m ∧ StackU acc (N + 1) r S'
theorem StackU.ext {acc a2 : List BindingX} (he : Ext acc a2) : ∀ {N : Nat} {rs : List (List PairX)} {S : List (Nat × List PairX)}, StackU acc N rs S → StackU a2 N rs S
  | _, [], S, h => h
  | N, l :: r, S, h => by
    obtain ⟨m, S', rfl, h1, h2⟩ := h
    exact ⟨m, S', rfl, h1.ext he, h2.ext he⟩
end Go.Proofs.Ytpffmcofajlkgaa

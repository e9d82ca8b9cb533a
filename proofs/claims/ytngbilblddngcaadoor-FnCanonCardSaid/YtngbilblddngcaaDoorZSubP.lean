/- Replacement as plain data: which bindings it depends on, and which variables it leaves. -/
import Derived.Test.YtngbilblddngcaaDoorQ1
import Derived.Test.YtngbilblddngcaaDoorZRestrI
import Derived.Test.YtngbilblddngcaaDoorZDrawTy5
import Derived.Test.YtngbilblddngcaaDoorQ2
namespace Go.Proofs.YtngbilblddngcaaDoor
open Go.RowKit Go.Lib

theorem data_eq {a b : ByteArray} : (a.data.toList == b.data.toList) = true ↔ a = b := by
  rw [beq_iff_eq]
  constructor
  · intro h
    have := Array.ext' h
    cases a; cases b; simp_all
  · rintro rfl; rfl
theorem sub_nil (x : TypeX) : x.sub (fun s => lookX s []) = x := (TypeX.sub_cong (g := fun _ => none) (fun _ => by rw [lookX]) x).trans (TypeX.sub_none x)
mutual
/-- Replacement looks up the type's variables only. -/
theorem TypeX.sub_on {f g : ByteArray → Option TypeX} : ∀ x : TypeX, (∀ s ∈ x.names, f s = g s) → x.sub f = x.sub g
  | .mk k n a, h => by
    have ha := TypeX.subL_on (f := f) (g := g) a fun s hs => h s (by rw [TypeX.names]; exact List.mem_append_right _ hs)
    by_cases hk : k = 1
    · have hn : f n = g n := h n (by rw [TypeX.names, if_pos hk]; simp)
      rw [TypeX.sub, TypeX.sub, hn, ha]
    · have hk' : ¬ ((k == 1) = true) := by simpa using hk
      rw [TypeX.sub, TypeX.sub, if_neg (fun h => hk' h.1), if_neg (fun h => hk' h.1), ha]
theorem TypeX.subL_on {f g : ByteArray → Option TypeX} : ∀ l : List TypeX, (∀ s ∈ TypeX.namesL l, f s = g s) → TypeX.subL f l = TypeX.subL g l
  | [], _ => by rw [TypeX.subL, TypeX.subL]
  | x :: r, h => by
    rw [TypeX.subL, TypeX.subL, TypeX.sub_on x fun s hs => h s (by rw [TypeX.namesL]; exact List.mem_append_left _ hs), TypeX.subL_on r fun s hs => h s (by rw [TypeX.namesL]; exact List.mem_append_right _ hs)]
end
theorem look_kept (vars : List ByteArray) (s : ByteArray) (hs : s ∈ vars) : ∀ l : List BindingX, lookX s (keptX vars l) = lookX s l
  | [] => rfl
  | b :: r => by
    have ih := look_kept vars s hs r
    rw [keptX, List.filter_cons]
    rw [keptX] at ih
    by_cases hb : has vars b.var_ = true
    · rw [if_pos hb, lookX, lookX, ih]
    · rw [if_neg hb, lookX, ih]
      have hne : (b.var_.data.toList == s.data.toList) = false := by
        rw [Bool.eq_false_iff]
        intro e
        rw [data_eq.1 e] at hb
        exact hb (has_iff.2 hs)
      rw [hne]; rfl
theorem sub_kept (vars : List ByteArray) (l : List BindingX) (x : TypeX) (h : ∀ s ∈ x.names, s ∈ vars) : x.sub (fun s => lookX s (keptX vars l)) = x.sub (fun s => lookX s l) :=
  TypeX.sub_on x fun s hs => look_kept vars s (h s hs) l
mutual
/-- A variable that is bound to nothing stays, if what is replaced has no others below it. -/
theorem TypeX.sub_keeps {f : ByteArray → Option TypeX} (hf : ∀ s, (f s).isSome = true → s.size = 1) {v : ByteArray} (hv : f v = none) : ∀ x : TypeX, x.tame → v ∈ x.names → v ∈ (x.sub f).names
  | .mk k n a, ht, hm => by
    rw [TypeX.tame] at ht
    rw [TypeX.names, List.mem_append] at hm
    by_cases hc : (k == 1) = true ∧ (f n).isSome = true
    · have hk : k = 1 := by simpa using hc.1
      rw [if_pos hk, ht.2.2.2 hk (hf n hc.2)] at hm
      rcases hm with hm | hm
      · have : v = n := by simpa using hm
        rw [← this, hv] at hc
        simp at hc
      · simp at hm
    · rw [TypeX.sub, if_neg hc, TypeX.names, List.mem_append]
      exact hm.imp id fun h => TypeX.subL_keeps hf hv a ht.2.2.1 h
theorem TypeX.subL_keeps {f : ByteArray → Option TypeX} (hf : ∀ s, (f s).isSome = true → s.size = 1) {v : ByteArray} (hv : f v = none) : ∀ l : List TypeX, TypeX.tameL l → v ∈ TypeX.namesL l → v ∈ TypeX.namesL (TypeX.subL f l)
  | [], _, hm => by rw [TypeX.namesL] at hm; simp at hm
  | x :: r, ht, hm => by
    rw [TypeX.tameL] at ht
    rw [TypeX.namesL, List.mem_append] at hm
    rw [TypeX.subL, TypeX.namesL, List.mem_append]
    exact hm.imp (fun h => TypeX.sub_keeps hf hv x ht.1 h) fun h => TypeX.subL_keeps hf hv r ht.2 h
end
theorem look_one {l : List BindingX} (h : ∀ b ∈ l, b.var_.size = 1) : ∀ s, (lookX s l).isSome = true → s.size = 1 := by
  induction l with
  | nil => intro s hs; simp [lookX] at hs
  | cons b r ih =>
    intro s hs
    rw [lookX] at hs
    by_cases hb : (b.var_.data.toList == s.data.toList) = true
    · rw [← data_eq.1 hb]; exact h b (by simp)
    · rw [if_neg hb] at hs
      exact ih (fun b hb => h b (by simp [hb])) s hs
end Go.Proofs.YtngbilblddngcaaDoor

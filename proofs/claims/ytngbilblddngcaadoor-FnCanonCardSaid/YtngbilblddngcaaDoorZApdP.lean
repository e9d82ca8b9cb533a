/- What the draws of a substitution and a type give to the law on Apply. -/
import Derived.Test.YtngbilblddngcaaDoorZDrawAp
import Derived.Test.YtngbilblddngcaaDoorZSubP
import Derived.Test.YtngbilblddngcaaDoorZSpApply
import Derived.Test.YtngbilblddngcaaDoorZApplyI
import Derived.Test.YtngbilblddngcaaDoorQ2
namespace Go.Proofs.YtngbilblddngcaaDoor
open Go.RowKit Go.Lib

theorem okBs_look {l : List BindingX} (h : OkBs l) : ∀ s y, lookX s l = some y → y.tame ∧ y.size ≤ 100 := by
  induction l with
  | nil => intro s y hs; simp [lookX] at hs
  | cons b r ih =>
    intro s y hs
    rw [lookX] at hs
    by_cases hb : (b.var_.data.toList == s.data.toList) = true
    · rw [if_pos hb] at hs
      injection hs with hs
      have := h b (by simp)
      rw [← hs]; exact ⟨this.2.2, this.2.1⟩
    · rw [if_neg hb] at hs
      exact ih (fun b hb => h b (by simp [hb])) s y hs
theorem okBs_one {l : List BindingX} (h : OkBs l) : ∀ s, (lookX s l).isSome = true → s.size = 1 := look_one fun b hb => (h b hb).1
theorem okBs_rows : ∀ {l : List BindingX}, OkBs l → DV.okE (BindingX.rows l)
  | [], _ => by rw [BindingX.rows_map, List.map_nil, DV.okE]; trivial
  | b :: r, h => by
    have hb := h b (by simp)
    have ht := TypeX.tame_ok b.type_ hb.2.2 (by omega)
    rw [TypeX.cells_eq] at ht
    rw [BindingX.rows_map, List.map_cons, DV.okE]
    refine ⟨?_, okBs_rows fun b hb => h b (by simp [hb])⟩
    rw [BindingX.cells_eq, DV.okL]
    exact ⟨by rw [DV.ok, uok]; omega, ht⟩
mutual
theorem TypeX.sub_ok {f : ByteArray → Option TypeX} (hf : ∀ s y, f s = some y → y.tame ∧ y.size ≤ 100) : ∀ x : TypeX, x.tame → x.size ≤ 4294967296 → DV.okL (x.sub f).cells
  | .mk k n a, ht, hn => by
    by_cases hc : (k == 1) = true ∧ (f n).isSome = true
    · rw [TypeX.sub, if_pos hc]
      obtain ⟨y, hy⟩ := Option.isSome_iff_exists.1 hc.2
      rw [hy]
      exact TypeX.tame_ok y (hf n y hy).1 (by have := (hf n y hy).2; omega)
    · rw [TypeX.sub, if_neg hc]
      rw [TypeX.tame] at ht
      rw [TypeX.size] at hn
      have hl := sizeL_length a
      rw [TypeX.cells]
      simp only [DV.okL, DV.ok, uok, TypeX.rows_length, TypeX.subL_length]
      exact ⟨by omega, by omega, ⟨by omega, TypeX.subL_ok hf a ht.2.2.1 (by omega)⟩, trivial⟩
theorem TypeX.subL_ok {f : ByteArray → Option TypeX} (hf : ∀ s y, f s = some y → y.tame ∧ y.size ≤ 100) : ∀ l : List TypeX, TypeX.tameL l → TypeX.sizeL l ≤ 4294967296 → DV.okE (TypeX.rows (TypeX.subL f l))
  | [], _, _ => by rw [TypeX.subL, TypeX.rows, DV.okE]; trivial
  | x :: r, h, hn => by
    rw [TypeX.tameL] at h
    rw [TypeX.sizeL] at hn
    rw [TypeX.subL, TypeX.rows, DV.okE]
    exact ⟨TypeX.sub_ok hf x h.1 (by omega), TypeX.subL_ok hf r h.2 (by omega)⟩
end
theorem vars_has (x : TypeX) (s : ByteArray) : has (x.vars []) s = has x.names s := by rw [TypeX.vars_names, has_uniF]; rfl
/-- All that the law asks of what is drawn. -/
structure ApdFacts (l : List BindingX) (x y : TypeX) (d : List ByteArray) : Prop where
  okL : DV.okE (BindingX.rows l)
  small : SmallX l
  types : ∀ b ∈ l, b.type_.size ≤ 4294967296
  vars : ∀ b ∈ l, b.var_.size ≤ 9223372036854775807
  len : l.length ≤ 4
  okX : DV.okL x.cells
  okY : DV.okL y.cells
  sx : x.size ≤ 100
  sy : y.size ≤ 10000
  dl : d.length ≤ 100
  dy : (y.vars []).length ≤ 10000
  dz : ∀ s ∈ d, s.size ≤ 9223372036854775807
  none_ : x.sub (subX []) = x
  kept : x.sub (subX (keptX d l)) = y
  smallK : SmallX (keptX d l)
  stays : ∀ s ∈ d, (lookX s l).isSome = false → has (y.vars []) s = true
theorem apd_facts {l : List BindingX} {x : TypeX} (hl : l.length ≤ 4) (h : OkBs l) (hx : x.size ≤ 100) (ht : x.tame) : ApdFacts l x (x.sub (subX l)) (x.vars []) := by
  have hlk := okBs_look h
  have hmem : ∀ s, s ∈ x.vars [] ↔ s ∈ x.names := fun s => by rw [← has_iff, vars_has, has_iff]
  have hsy : (x.sub (subX l)).size ≤ x.size * 100 := TypeX.size_sub (fun s y hs => (hlk s y hs).2) (by decide) x
  refine ⟨okBs_rows h, fun s y hs => by have := (hlk s y hs).2; omega, fun b hb => by have := (h b hb).2.1; omega, fun b hb => by have := (h b hb).1; omega, hl, TypeX.tame_ok x ht (by omega), TypeX.sub_ok hlk x ht (by omega), hx, by omega, ?_, ?_, ?_, sub_nil x, sub_kept _ l x fun s hs => (hmem s).2 hs, ?_, ?_⟩
  · rw [TypeX.vars_names]
    have := uniF_len x.names []
    have := TypeX.names_len x
    simp at *
    omega
  · rw [TypeX.vars_names]
    have := uniF_len (x.sub (subX l)).names []
    have := TypeX.names_len (x.sub (subX l))
    rw [List.length_nil] at *
    omega
  · intro s hs
    have := x.tame_names ht s ((hmem s).1 hs)
    omega
  · intro s y hs
    have hb : OkBs (keptX (x.vars []) l) := fun b hb => h b (List.mem_filter.1 hb).1
    have := (okBs_look hb s y hs).2
    omega
  · intro s hs hn
    rw [vars_has, has_iff]
    exact TypeX.sub_keeps (okBs_one h) (by cases he : lookX s l with | none => rfl | some y => rw [he] at hn; cases hn) x ht ((hmem s).1 hs)
end Go.Proofs.YtngbilblddngcaaDoor

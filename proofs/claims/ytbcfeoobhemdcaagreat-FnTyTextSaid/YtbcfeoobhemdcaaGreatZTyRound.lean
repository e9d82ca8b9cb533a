/- A valid type's encoding: it is a valid expression, and it denotes that type, to either reader. -/
import Derived.Test.YtbcfeoobhemdcaaGreatZListWith
import Derived.Test.YtbcfeoobhemdcaaGreatZTyOf
import Derived.Test.YtbcfeoobhemdcaaGreatZTyValid
import Derived.Test.YtbcfeoobhemdcaaGreatQ1
import Derived.Test.YtbcfeoobhemdcaaGreatQ2
namespace Go.Proofs.YtbcfeoobhemdcaaGreat
open Go.RowKit Go.Lib

/-- What the program reads a list as, right or not. -/
def listRd (l : List SX) (ts : List TypeX) : TypeX :=
  match l with
  | [] => .mk 0 ⟨#[]⟩ []
  | x0 :: r => if x0.atom = ⟨#[97, 115, 115, 111, 99]⟩ then (match r with | [] => .mk 0 ⟨#[]⟩ [] | x1 :: _ => .mk 3 x1.atom (ts.drop 2)) else if x0.atom = ⟨#[100, 121, 110]⟩ then (match r with | [] => .mk 0 ⟨#[]⟩ [] | x1 :: _ => .mk 4 x1.atom (ts.drop 2)) else .mk 2 x0.atom (ts.drop 1)
mutual
def SX.rd : SX → TypeX
  | .mk a l => if a = ⟨#[]⟩ then listRd l (SX.rdL l) else atomTy a
def SX.rdL : List SX → List TypeX
  | [] => []
  | x :: r => x.rd :: SX.rdL r
end

/-- What a name is made of. -/
def Word (s : ByteArray) : Prop := 1 ≤ s.size ∧ s.size ≤ 8 ∧ s.data.toList.all okByte = true ∧ s.data.toList.headD 0 ≠ 39 ∧ s ≠ ⟨#[97, 115, 115, 111, 99]⟩ ∧ s ≠ ⟨#[100, 121, 110]⟩
theorem goodAt_ok {i : Nat} {c : UInt8} (h : goodAt i c = true) : okByte c = true ∧ c ≠ 39 := by
  rw [okByte_iff]
  simp only [goodAt, letterR, digitR, Bool.or_eq_true, Bool.and_eq_true, decide_eq_true_eq] at h
  constructor
  · omega
  · rintro rfl
    simp at h
theorem okName_word {s : ByteArray} (h : okName s = true) : Word s := by
  simp only [okName, Bool.and_eq_true, decide_eq_true_eq, Bool.not_eq_true'] at h
  obtain ⟨⟨h1, h8⟩, hk, hg⟩ := h
  have hl : s.data.toList.length = s.size := by simp
  have hat : ∀ i, (hi : i < s.size) → goodAt i (s.data.toList.getD i 0) = true := fun i hi => by
    unfold goods at hg
    rw [List.all_eq_true] at hg
    exact hg i (by simpa using hi)
  refine ⟨h1, h8, ?_, ?_, ?_, ?_⟩
  · rw [List.all_eq_true]
    intro c hc
    obtain ⟨i, hi, rfl⟩ := List.mem_iff_getElem.1 hc
    have := hat i (by omega)
    rw [List.getD_eq_getElem?_getD, List.getElem?_eq_getElem hi] at this
    exact (goodAt_ok this).1
  · have := hat 0 (by omega)
    have e : s.data.toList.getD 0 0 = s.data.toList.headD 0 := by cases s.data.toList <;> rfl
    rw [e] at this
    exact (goodAt_ok this).2
  · rintro rfl; revert hk; decide
  · rintro rfl; revert hk; decide
theorem isBase_word {s : ByteArray} (h : isBase s = true) : Word s := by
  rw [isBase, decide_eq_true_eq] at h
  rcases h with rfl | rfl
  · exact ⟨by decide, by decide, by decide, by decide, by decide, by decide⟩
  · exact ⟨by decide, by decide, by decide, by decide, by decide, by decide⟩
theorem headOk_all {k : Int} {s : ByteArray} {n : Nat} (h : headOk k s n = true) : Word s ∧ KindIn k ∧ (k = 1 → n = 0) ∧ (k = 4 → n = 0) ∧ (k = 3 → n = 1) := by
  rw [headOk] at h
  split at h
  · rename_i hk
    simp only [Bool.and_eq_true, beq_iff_eq] at h
    exact ⟨okName_word h.1, by unfold KindIn; omega, fun _ => h.2, fun _ => h.2, fun e => by omega⟩
  · rename_i hk
    split at h
    · rename_i hk3
      simp only [Bool.and_eq_true, beq_iff_eq] at h
      exact ⟨okName_word h.1, by unfold KindIn; omega, fun e => by omega, fun e => by omega, fun _ => h.2⟩
    · rename_i hk3
      split at h
      · rename_i hk2
        refine ⟨?_, by unfold KindIn; omega, fun e => by omega, fun e => by omega, fun e => by omega⟩
        rw [Bool.or_eq_true, Bool.and_eq_true, Bool.and_eq_true] at h
        rcases h with h | h
        · exact okName_word h.1
        · exact isBase_word h.1
      · cases h

mutual
theorem form_brief : ∀ x : TypeX, x.form = true → x.brief ∧ x.kinds
  | .mk k s l, h => by
    rw [TypeX.form, Bool.and_eq_true] at h
    have h1 := headOk_all h.1
    have h2 := formL_brief l h.2
    rw [TypeX.brief, TypeX.kinds]
    have := h1.1.2.1
    exact ⟨⟨by omega, h2.1⟩, h1.2.1, h2.2⟩
theorem formL_brief : ∀ l : List TypeX, TypeX.formL l = true → TypeX.briefL l ∧ TypeX.kindsL l
  | [], _ => by rw [TypeX.briefL, TypeX.kindsL]; exact ⟨trivial, trivial⟩
  | x :: r, h => by
    rw [TypeX.formL, Bool.and_eq_true] at h
    have h1 := form_brief x h.1
    have h2 := formL_brief r h.2
    rw [TypeX.briefL, TypeX.kindsL]
    exact ⟨⟨h1.1, h2.1⟩, h1.2, h2.2⟩
end

theorem word_atom {s : ByteArray} (h : Word s) : okAtom s = true ∧ ¬ s.size = 0 := by
  obtain ⟨h1, h8, ha, _⟩ := h
  exact ⟨by rw [okAtom, ha, Bool.true_and, decide_eq_true_eq]; omega, by omega⟩
theorem quote_atom {s : ByteArray} (h : Word s) : okAtom (⟨#[39]⟩ ++ s) = true ∧ ¬ (⟨#[39]⟩ ++ s : ByteArray).size = 0 := by
  obtain ⟨h1, h8, ha, _⟩ := h
  have hsz : (⟨#[39]⟩ ++ s : ByteArray).size = 1 + s.size := by rw [ByteArray.size_append]; rfl
  have hd : (⟨#[39]⟩ ++ s : ByteArray).data.toList = 39 :: s.data.toList := by rw [ByteArray.data_append]; simp
  refine ⟨?_, by omega⟩
  rw [okAtom, hd, List.all_cons, ha, hsz, Bool.and_true, Bool.and_eq_true, decide_eq_true_eq]
  exact ⟨by decide, by omega⟩
theorem nodes_word (s : ByteArray) : (SX.mk s []).nodes = 1 := by rw [SX.nodes, SX.nodesL]
theorem depth_word {s : ByteArray} (h : ¬ s.size = 0) : (SX.mk s []).depth = 0 := by rw [SX.depth, if_neg h]
theorem form_word {s : ByteArray} (h : okAtom s = true) (h0 : ¬ s.size = 0) : (SX.mk s []).form = true := by rw [SX.form, if_neg h0, h]; rfl

theorem sz0 : (⟨#[]⟩ : ByteArray).size = 0 := rfl
mutual
theorem sx_ok : ∀ x : TypeX, x.form = true → x.sx.form = true ∧ x.sx.nodes ≤ 3 * x.size ∧ x.sx.depth ≤ x.depth + 1
  | .mk k s l, h => by
    rw [TypeX.form, Bool.and_eq_true] at h
    obtain ⟨hw, hk, h1, h4, h3⟩ := headOk_all h.1
    have hL := sxL_ok l h.2
    obtain ⟨ha, ha0⟩ := word_atom hw
    rw [TypeX.size, TypeX.depth]
    rcases hk with rfl | rfl | rfl | rfl
    · obtain ⟨hq, hq0⟩ := quote_atom hw
      rw [sx_var]
      exact ⟨form_word hq hq0, by rw [nodes_word]; omega, by rw [depth_word hq0]; omega⟩
    · cases l with
      | nil =>
        rw [sx_con]
        exact ⟨form_word ha ha0, by rw [nodes_word]; omega, by rw [depth_word ha0]; omega⟩
      | cons y r =>
        rw [sx_list s (by decide) (by decide) (by simp) (by decide)]
        refine ⟨?_, ?_, ?_⟩
        · rw [SX.form, if_pos sz0, SX.formL, form_word ha ha0, hL.1]; rfl
        · rw [SX.nodes, SX.nodesL, nodes_word]; omega
        · rw [SX.depth, if_pos sz0, SX.depthL, depth_word ha0]
          have := hL.2.2
          omega
    · have hl := h3 rfl
      rw [sx_proj]
      refine ⟨?_, ?_, ?_⟩
      · rw [SX.form, if_pos sz0, SX.formL, SX.formL, form_word (by decide) (by decide), form_word ha ha0, hL.1]; rfl
      · rw [SX.nodes, SX.nodesL, SX.nodesL, nodes_word, nodes_word]; omega
      · rw [SX.depth, if_pos sz0, SX.depthL, SX.depthL, depth_word (by decide), depth_word ha0]
        have := hL.2.2
        omega
    · rw [sx_dyn]
      refine ⟨?_, ?_, ?_⟩
      · rw [SX.form, if_pos sz0, SX.formL, SX.formL, SX.formL, form_word (by decide) (by decide), form_word ha ha0]; rfl
      · rw [SX.nodes, SX.nodesL, SX.nodesL, SX.nodesL, nodes_word, nodes_word]; omega
      · rw [SX.depth, if_pos sz0, SX.depthL, SX.depthL, SX.depthL, depth_word (by decide), depth_word ha0]
        omega
theorem sxL_ok : ∀ l : List TypeX, TypeX.formL l = true → SX.formL (TypeX.sxL l) = true ∧ SX.nodesL (TypeX.sxL l) ≤ 3 * TypeX.sizeL l ∧ SX.depthL (TypeX.sxL l) ≤ TypeX.depthL l
  | [], _ => by rw [TypeX.sxL, SX.formL, SX.nodesL, SX.depthL]; exact ⟨rfl, Nat.zero_le _, Nat.zero_le _⟩
  | x :: r, h => by
    rw [TypeX.formL, Bool.and_eq_true] at h
    have h1 := sx_ok x h.1
    have h2 := sxL_ok r h.2
    rw [TypeX.sxL, SX.formL, SX.nodesL, SX.depthL, TypeX.sizeL, TypeX.depthL]
    refine ⟨by rw [h1.1, h2.1]; rfl, by omega, by omega⟩
end
theorem valid_parts {x : TypeX} (h : x.valid = true) : x.size ≤ 60 ∧ x.depth ≤ 6 ∧ x.form = true := by
  simpa only [TypeX.valid, Bool.and_eq_true, decide_eq_true_eq] using h
theorem sx_valid {x : TypeX} (h : x.valid = true) : x.sx.valid = true := by
  obtain ⟨h1, h2, h3⟩ := valid_parts h
  obtain ⟨h4, h5, h6⟩ := sx_ok x h3
  exact SX.valid_iff.2 ⟨by omega, h4, by omega⟩

theorem extract_quote (s : ByteArray) : (⟨#[39]⟩ ++ s : ByteArray).extract 1 (⟨#[39]⟩ ++ s : ByteArray).size = s := by
  have hsz : (⟨#[39]⟩ ++ s : ByteArray).size = 1 + s.size := by rw [ByteArray.size_append]; rfl
  apply ByteArray.ext
  rw [ByteArray.data_extract, ByteArray.data_append, hsz]
  apply Array.toList_inj.1
  simp
  exact List.take_of_length_le (by simp)
theorem atomTy_quote (s : ByteArray) : atomTy (⟨#[39]⟩ ++ s) = .mk 1 s [] := by
  have hd : (⟨#[39]⟩ ++ s : ByteArray).data.toList = 39 :: s.data.toList := by rw [ByteArray.data_append]; simp
  rw [atomTy, hd, extract_quote]
  rfl
theorem atomTy_word {s : ByteArray} (h : Word s) : atomTy s = .mk 2 s [] := by rw [atomTy, if_neg h.2.2.2.1]
theorem ne_empty {s : ByteArray} (h : ¬ s.size = 0) : s ≠ ⟨#[]⟩ := by rintro rfl; exact h rfl
mutual
theorem sx_ty : ∀ x : TypeX, x.form = true → x.sx.ty = x ∧ x.sx.rd = x
  | .mk k s l, h => by
    rw [TypeX.form, Bool.and_eq_true] at h
    obtain ⟨hw, hk, h1, h4, h3⟩ := headOk_all h.1
    obtain ⟨hL, hM⟩ := sxL_ty l h.2
    obtain ⟨ha, ha0⟩ := word_atom hw
    have hne := ne_empty ha0
    rcases hk with rfl | rfl | rfl | rfl
    · obtain ⟨hq, hq0⟩ := quote_atom hw
      obtain rfl := List.eq_nil_of_length_eq_zero (h1 rfl)
      rw [sx_var, SX.ty, SX.rd, if_neg (ne_empty hq0), if_neg (ne_empty hq0), atomTy_quote]
      exact ⟨rfl, rfl⟩
    · cases l with
      | nil =>
        rw [sx_con, SX.ty, SX.rd, if_neg hne, if_neg hne, atomTy_word hw]
        exact ⟨rfl, rfl⟩
      | cons y r =>
        rw [sx_list s (by decide) (by decide) (by simp) (by decide), SX.ty, SX.rd, if_pos rfl, if_pos rfl, SX.tyL, SX.rdL, hL, hM, TypeX.sxL]
        refine ⟨?_, ?_⟩
        · show listTy (.mk s [] :: y.sx :: TypeX.sxL r) (y :: r) = _
          simp [listTy, SX.mk_atom, hw.2.2.2.2.1, hw.2.2.2.2.2]
        · simp [listRd, SX.mk_atom, hw.2.2.2.2.1, hw.2.2.2.2.2]
    · match l, h3 rfl, hL, hM with
      | [y], _, hL, hM =>
        rw [sx_proj, SX.ty, SX.rd, if_pos rfl, if_pos rfl, SX.tyL, SX.tyL, SX.rdL, SX.rdL, hL, hM]
        refine ⟨?_, rfl⟩
        show listTy (.mk ⟨#[97, 115, 115, 111, 99]⟩ [] :: .mk s [] :: TypeX.sxL [y]) ((SX.mk s []).ty :: [y]) = _
        simp [listTy, SX.mk_atom, TypeX.sxL, hne]
    · obtain rfl := List.eq_nil_of_length_eq_zero (h4 rfl)
      rw [sx_dyn, SX.ty, SX.rd, if_pos rfl, if_pos rfl, SX.tyL, SX.tyL, SX.tyL, SX.rdL, SX.rdL, SX.rdL]
      refine ⟨?_, rfl⟩
      simp [listTy, SX.mk_atom, hne]
theorem sxL_ty : ∀ l : List TypeX, TypeX.formL l = true → SX.tyL (TypeX.sxL l) = l ∧ SX.rdL (TypeX.sxL l) = l
  | [], _ => ⟨rfl, rfl⟩
  | x :: r, h => by
    rw [TypeX.formL, Bool.and_eq_true] at h
    have h1 := sx_ty x h.1
    have h2 := sxL_ty r h.2
    rw [TypeX.sxL, SX.tyL, SX.rdL, h1.1, h1.2, h2.1, h2.2]
    exact ⟨rfl, rfl⟩
end
/-- BOTH READERS TAKE JUST THE SAME EXPRESSIONS, and for the same types. -/
theorem read_same (y : SX) : (y.ty.valid && y.ty.sx.same y) = (y.valid && (y.rd.valid && y.rd.sx.same y)) ∧ ((y.ty.valid && y.ty.sx.same y) = true → y.rd = y.ty) := by
  have key : ∀ t : TypeX, t.valid = true → t.sx = y → y.ty = t ∧ y.rd = t ∧ y.valid = true := fun t ht e => by
    subst e
    have := sx_ty t (valid_parts ht).2.2
    exact ⟨this.1, this.2, sx_valid ht⟩
  have h2 : (y.ty.valid && y.ty.sx.same y) = true → y.rd = y.ty := fun h => by
    rw [Bool.and_eq_true] at h
    exact (key _ h.1 ((SX.same_iff _ _).1 h.2)).2.1
  refine ⟨?_, h2⟩
  rw [Bool.eq_iff_iff]
  constructor
  · intro h
    have e := h2 h
    rw [Bool.and_eq_true] at h
    rw [e, h.1, h.2, (key _ h.1 ((SX.same_iff _ _).1 h.2)).2.2]
    rfl
  · intro h
    rw [Bool.and_eq_true, Bool.and_eq_true] at h
    have e := (key _ h.2.1 ((SX.same_iff _ _).1 h.2.2)).1
    rw [e, h.2.1, h.2.2]
    rfl
end Go.Proofs.YtbcfeoobhemdcaaGreat

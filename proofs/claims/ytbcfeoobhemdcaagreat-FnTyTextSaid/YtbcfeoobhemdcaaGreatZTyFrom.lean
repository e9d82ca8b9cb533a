/- SExprToType: the reference model's and the program's. -/
import Derived.Test.YtbcfeoobhemdcaaGreatZRdTy
import Derived.Test.YtbcfeoobhemdcaaGreatZEncT
import Derived.Test.YtbcfeoobhemdcaaGreatZEqualImpl
import Derived.Test.YtbcfeoobhemdcaaGreatZTyValidI
import Derived.Test.YtbcfeoobhemdcaaGreatQ2
import Derived.Test.YtbcfeoobhemdcaaGreatZSxOwV
import Derived.Deep.CutRange
namespace Go.Proofs.YtbcfeoobhemdcaaGreat
open Go.RowKit Go.Lib

theorem okT_iff (k : Int) (s : ByteArray) (l : List TypeX) : DV.okL (TypeX.mk k s l).cells ↔ (-9223372036854775808 ≤ k ∧ k ≤ 9223372036854775807) ∧ s.size ≤ 9223372036854775807 ∧ l.length ≤ 9223372036854775807 ∧ DV.okE (TypeX.rows l) := by
  rw [TypeX.cells]
  simp only [DV.okL, DV.ok, uok, TypeX.rows_length, and_true]
theorem okE_drop : ∀ (l : List TypeX) (n : Nat), DV.okE (TypeX.rows l) → DV.okE (TypeX.rows (l.drop n))
  | _, 0, h => h
  | [], n + 1, h => by rw [List.drop_nil]; exact h
  | x :: r, n + 1, h => by rw [TypeX.rows, DV.okE] at h; rw [List.drop_succ_cons]; exact okE_drop r n h.2
theorem okT_atom {a : ByteArray} (h : a.size ≤ 9223372036854775807) : DV.okL (atomTy a).cells := by
  rw [atomTy]
  split
  · refine (okT_iff _ _ _).2 ⟨by omega, ?_, by simp, by rw [TypeX.rows, DV.okE]; trivial⟩
    rw [ByteArray.size_extract]; omega
  · exact (okT_iff _ _ _).2 ⟨by omega, h, by simp, by rw [TypeX.rows, DV.okE]; trivial⟩
theorem okT_none : DV.okL (TypeX.mk 0 ⟨#[]⟩ []).cells := (okT_iff _ _ _).2 ⟨by omega, by decide, by simp, by rw [TypeX.rows, DV.okE]; trivial⟩
theorem sx_ok_of {a : ByteArray} {l : List SX} (h : (SX.mk a l).ok) : a.size ≤ 9223372036854775807 ∧ l.length ≤ 9223372036854775807 ∧ SX.okL l := by rw [SX.ok] at h; exact h
theorem rdL_len : ∀ l : List SX, (SX.rdL l).length = l.length
  | [] => by rw [SX.rdL]; rfl
  | x :: r => by rw [SX.rdL, List.length_cons, List.length_cons, rdL_len r]
theorem atom_ok {x : SX} (h : x.ok) : x.atom.size ≤ 9223372036854775807 := by cases x with | mk a l => exact (sx_ok_of h).1
mutual
theorem ty_ok : ∀ x : SX, x.ok → DV.okL x.ty.cells ∧ DV.okL x.rd.cells
  | .mk a l, h => by
    obtain ⟨h1, h2, h3⟩ := sx_ok_of h
    obtain ⟨hE, hF⟩ := tyL_ok l h3
    rw [SX.ty, SX.rd]
    split
    · have e1 := tyL_len l
      have e2 := rdL_len l
      constructor
      · unfold listTy
        split
        · rename_i x0 x1 r
          have hx0 := atom_ok (by rw [SX.okL] at h3; exact h3.1)
          have hx1 := atom_ok (by rw [SX.okL, SX.okL] at h3; exact h3.2.1)
          simp only [List.length_cons] at h2 e1
          split
          · exact (okT_iff _ _ _).2 ⟨by omega, hx1, by simp; omega, okE_drop _ _ (okE_drop _ _ hE)⟩
          · split
            · exact (okT_iff _ _ _).2 ⟨by omega, hx1, by simp, by rw [TypeX.rows, DV.okE]; trivial⟩
            · exact (okT_iff _ _ _).2 ⟨by omega, hx0, by simp; omega, okE_drop _ _ hE⟩
        · exact okT_none
      · unfold listRd
        split
        · exact okT_none
        · rename_i x0 r
          have hx0 := atom_ok (by rw [SX.okL] at h3; exact h3.1)
          simp only [List.length_cons] at h2 e2
          split
          · split
            · exact okT_none
            · rename_i x1 r'
              have hx1 := atom_ok (by rw [SX.okL, SX.okL] at h3; exact h3.2.1)
              exact (okT_iff _ _ _).2 ⟨by omega, hx1, by simp; omega, okE_drop _ _ hF⟩
          · split
            · split
              · exact okT_none
              · rename_i x1 r'
                have hx1 := atom_ok (by rw [SX.okL, SX.okL] at h3; exact h3.2.1)
                exact (okT_iff _ _ _).2 ⟨by omega, hx1, by simp; omega, okE_drop _ _ hF⟩
            · exact (okT_iff _ _ _).2 ⟨by omega, hx0, by simp; omega, okE_drop _ _ hF⟩
    · exact ⟨okT_atom h1, okT_atom h1⟩
theorem tyL_ok : ∀ l : List SX, SX.okL l → DV.okE (TypeX.rows (SX.tyL l)) ∧ DV.okE (TypeX.rows (SX.rdL l))
  | [], _ => by rw [SX.tyL, SX.rdL, TypeX.rows, DV.okE]; exact ⟨trivial, trivial⟩
  | x :: r, h => by
    rw [SX.okL] at h
    have h1 := ty_ok x h.1
    have h2 := tyL_ok r h.2
    rw [SX.tyL, SX.rdL, TypeX.rows, TypeX.rows, DV.okE, DV.okE]
    exact ⟨⟨h1.1, h2.1⟩, h1.2, h2.2⟩
end
theorem sizeL_drop : ∀ (l : List TypeX) (n : Nat), TypeX.sizeL (l.drop n) ≤ TypeX.sizeL l
  | _, 0 => Nat.le_refl _
  | [], n + 1 => by rw [List.drop_nil]; exact Nat.le_refl _
  | x :: r, n + 1 => by rw [List.drop_succ_cons, TypeX.sizeL]; have := sizeL_drop r n; omega
theorem size_atom (a : ByteArray) : (atomTy a).size = 1 := by
  rw [atomTy]
  split <;> rw [TypeX.size, TypeX.sizeL]
theorem size_none : (TypeX.mk 0 ⟨#[]⟩ []).size = 1 := by rw [TypeX.size, TypeX.sizeL]
mutual
theorem ty_size : ∀ x : SX, x.ty.size ≤ x.nodes ∧ x.rd.size ≤ x.nodes
  | .mk a l => by
    obtain ⟨hE, hF⟩ := tyL_size l
    rw [SX.ty, SX.rd, SX.nodes]
    split
    · constructor
      · unfold listTy
        split
        · rename_i x0 x1 r
          have d1 := sizeL_drop (SX.tyL (x0 :: x1 :: r)) 1
          have d2 := sizeL_drop ((SX.tyL (x0 :: x1 :: r)).drop 1) 1
          split
          · rw [TypeX.size]; omega
          · split
            · rw [TypeX.size, TypeX.sizeL]; omega
            · rw [TypeX.size]; omega
        · rw [size_none]; omega
      · unfold listRd
        split
        · rw [size_none]; omega
        · rename_i x0 r
          have d1 := sizeL_drop (SX.rdL (x0 :: r)) 1
          have d2 := sizeL_drop (SX.rdL (x0 :: r)) 2
          split
          · split
            · rw [size_none]; omega
            · rw [TypeX.size]; omega
          · split
            · split
              · rw [size_none]; omega
              · rw [TypeX.size]; omega
            · rw [TypeX.size]; omega
    · rw [size_atom]; omega
theorem tyL_size : ∀ l : List SX, TypeX.sizeL (SX.tyL l) ≤ SX.nodesL l ∧ TypeX.sizeL (SX.rdL l) ≤ SX.nodesL l
  | [] => by rw [SX.tyL, SX.rdL, TypeX.sizeL, SX.nodesL]; exact ⟨Nat.le_refl _, Nat.le_refl _⟩
  | x :: r => by
    have h1 := ty_size x
    have h2 := tyL_size r
    rw [SX.tyL, SX.rdL, TypeX.sizeL, TypeX.sizeL, SX.nodesL]
    omega
end
/-- What both answer. -/
def SX.tyB (x : SX) : Bool := x.ty.valid && x.ty.sx.same x
def SX.tyA (x : SX) : TypeX := if x.tyB then x.ty else .mk 0 ⟨#[]⟩ []
theorem tyA_yes {x : SX} (h : x.tyB = true) : x.tyA = x.ty := by rw [SX.tyA, if_pos h]
theorem tyA_no {x : SX} (h : x.tyB = false) : x.tyA = .mk 0 ⟨#[]⟩ [] := by rw [SX.tyA, if_neg (by rw [h]; decide)]
theorem rdB_eq (x : SX) : (x.valid && (x.rd.valid && x.rd.sx.same x)) = x.tyB := (read_same x).1.symm
theorem rdA_eq {x : SX} (h : x.tyB = true) : x.rd = x.ty := (read_same x).2 h
theorem tyA_small (x : SX) : x.tyA.size ≤ 60 := by
  cases h : x.tyB with
  | false => rw [tyA_no h]; rw [TypeX.size, TypeX.sizeL]; omega
  | true =>
    rw [tyA_yes h]
    rw [SX.tyB, Bool.and_eq_true] at h
    exact (valid_parts h.1).1
mutual
theorem nodes_wt : ∀ x : SX, x.nodes ≤ x.wt + 1
  | .mk a l => by have := nodesL_wt l; rw [SX.nodes, SX.wt]; omega
theorem nodesL_wt : ∀ l : List SX, SX.nodesL l ≤ SX.wtL l
  | [] => by rw [SX.nodesL]; exact Nat.zero_le _
  | x :: r => by have := nodes_wt x; have := nodesL_wt r; rw [SX.nodesL, SX.wtL]; omega
end
/-- What they leave. -/
def TyGot (y : TypeX) (b : Bool) (w : World) (e : Ending) (w' : World) : Prop := ∃ A c, e = .returned (.tuple #[.agg #[.int .i64 y.kind_, .string y.name_, .slice A y.args_.length c], .bool b]) ∧ TypeRow w' (New w.heap.size w'.heap.size) A c y.args_ ∧ Below w.heap.size w w'
def TyOwned (y : TypeX) (b : Bool) (w : World) (e : Ending) (w' : World) : Prop := ∃ A c bs, e = .returned (.tuple #[.agg #[.int .i64 y.kind_, .string y.name_, .slice A y.args_.length c], .bool b]) ∧ OwVs w' w.heap.size y.cells [.int .i64 y.kind_, .string y.name_, .slice A y.args_.length c] bs ∧ bs.Nodup ∧ Below w.heap.size w w'
theorem TyGot.none {w w' : World} (hb : Below w.heap.size w w') : TyGot (.mk 0 ⟨#[]⟩ []) false w (.returned (.tuple #[.agg #[.int .i64 0, .string ⟨#[]⟩, .slice none 0 0], .bool false])) w' := ⟨Option.none, 0, rfl, TypeRow.nil _ _ _ _ (by decide), hb⟩
theorem TyOwned.none {w w' : World} (hb : Below w.heap.size w w') : TyOwned (.mk 0 ⟨#[]⟩ []) false w (.returned (.tuple #[.agg #[.int .i64 0, .string ⟨#[]⟩, .slice none 0 0], .bool false])) w' := ⟨Option.none, 0, [], rfl, OwVs_ty (OwV_noTy _ _), by simp, hb⟩

set_option maxRecDepth 100000 in
set_option maxHeartbeats 2000000 in
theorem specFrom (x : SX) (A : Option Addr) (c : Nat) (w : World) (hs : x.nodes ≤ 4294967296) (ho : x.ok) (hl : ListAt w (Lt w.heap.size) A x.list) :
    Calls Tryz.prog 10 #[.agg #[.string x.atom, .slice A x.list.length c]] w (TyGot x.tyA x.tyB w) := by
  obtain ⟨hb0, hbx, hrx⟩ := rdBoxes w x.atom (.slice A x.list.length c)
  have HBW := Lib.hid hb0
  have KB := Lib.hid hbx
  have KX := Lib.hid hrx
  have KL := Lib.hid (hl.grow hb0)
  have HOK := Lib.hid ho
  have HTO := Lib.hid (ty_ok x ho).1
  have hts := (ty_size x).1
  clear hb0 hbx hrx hl ho
  obtain ⟨t, ht⟩ : ∃ t, t = x.ty := ⟨_, rfl⟩
  rw [← ht] at HTO hts
  obtain ⟨B, hB⟩ : ∃ B, B = x.tyB := ⟨_, rfl⟩
  have hBt : B = (t.valid && t.sx.same x) := by rw [hB, ht]; rfl
  have hAt : B = true → x.tyA = t := fun h => by rw [tyA_yes (by rw [← hB]; exact h), ht]
  have hAf : B = false → x.tyA = .mk 0 ⟨#[]⟩ [] := fun h => tyA_no (by rw [← hB]; exact h)
  rw [← hB]
  have HT := Lib.hid ht
  have HBT := Lib.hid hBt
  have HAT := Lib.hid hAt
  have HAF := Lib.hid hAf
  clear ht hB hBt hAt hAf
  go_enter Tryz.func10, Tryz.ntmps10
  go_wp2_with fail
  refine (specTyAll _ x A c _ (Nat.le_refl _) hs KL.out).mono ?_
  rw [← HT.out]
  rintro e w1 ⟨A1, c1, rfl, hr, hb⟩
  have KT := Lib.hid (show TypeRow w1 (Und w1.heap.size) A1 c1 t.args_ from hr.frame (fun b h => h.2) fun _ _ _ => rfl)
  have hbw := HBW.out.trans (hb.mono HBW.out.size)
  have hnew : TypeRow w1 (New (w.heap.size + 2) w1.heap.size) A1 c1 t.args_ := hr.frame (fun b h => ⟨by have := h.1; simpa using this, h.2⟩) fun _ _ _ => rfl
  have KNW := Lib.hid hnew
  have KB := Lib.hid (KB.out.below hb KB.out.lt)
  have KX := Lib.hid (KX.out.below hb KX.out.lt)
  have KL := Lib.hid (KL.out.grow hb)
  clear HBW
  have HBW := Lib.hid hbw
  clear hr hb hbw hnew
  have hb : Below w1.heap.size w1 (w1.alloc (.cells #[.int .i64 t.kind_, .string t.name_, .slice A1 t.args_.length c1] 26)) := (Below.refl _ _).alloc (Nat.le_refl _) _
  have KC := Lib.hid (Whole.new w1 26 #[.int .i64 t.kind_, .string t.name_, .slice A1 t.args_.length c1])
  have hbw := HBW.out.trans (hb.mono HBW.out.size)
  have hs1 : w.heap.size + 2 ≤ w1.heap.size := by have := KX.out.lt; omega
  have KT := Lib.hid (KT.out.grow hb)
  have KB := Lib.hid (KB.out.below hb KB.out.lt)
  have KX := Lib.hid (KX.out.below hb KX.out.lt)
  have KL := Lib.hid (KL.out.grow hb)
  clear HBW
  have HBW := Lib.hid hbw
  clear hbw
  obtain ⟨W1, hW1⟩ : ∃ W1, W1 = w1.alloc (.cells #[.int .i64 t.kind_, .string t.name_, .slice A1 t.args_.length c1] 26) := ⟨_, rfl⟩
  go_upto_region 2 with (fail)
  rw [← hW1] at KC KT KB KX KL HBW hb ⊢
  have hsz : t.size ≤ 4294967296 := by omega
  have hw1s : w1.heap.size < W1.heap.size := KC.out.lt
  have HW1 := Lib.hid hb
  clear hW1 hb
  obtain ⟨p0, p1⟩ := cells2 KB.out
  have pl := KB.out.lt
  obtain ⟨t0, t1, t2⟩ := cells3 KC.out
  have tl := KC.out.lt
  go_cut [16] from 7 to 16 (fun v16 wc => v16 = .bool (!B) ∧ Below W1.heap.size W1 wc)
  case first =>
    cases hv : t.valid with
    | false =>
      have hBf : B = false := by rw [HBT.out, hv]; rfl
      subst hBf
      have HV := Lib.hid hv
      clear hv HAT HAF HBT
      go_region_with (first
        | (go_at_call 12
           refine (specValidTy t _ _ HTO.out ⟨_, _, rfl, KT.out.drew_⟩).mono ?_
           rw [HV.out]
           rintro e w7 ⟨rfl, hb7⟩
           have hb7' := (Below.refl _ W1).drew.trans hb7
           clear hb7))
      all_goals (
        go_wp2
        go_meet
        case rel => exact ⟨rfl, hb7'⟩)
    | true =>
      obtain ⟨S, hS⟩ : ∃ S, S = t.sx.same x := ⟨_, rfl⟩
      have hBS : B = S := by rw [HBT.out, hv, hS]; rfl
      subst hBS
      have hfb := form_brief t (valid_parts hv).2.2
      have HFB := Lib.hid hfb
      have hyv := SX.valid_wt (sx_valid hv)
      have hyn : t.sx.nodes ≤ 4294967296 := by omega
      have HV := Lib.hid hv
      have HS := Lib.hid hS
      clear hv hfb hyv hS HAT HAF HBT
      obtain ⟨y, hy⟩ : ∃ y, y = t.sx := ⟨_, rfl⟩
      rw [← hy] at HS hyn
      have HY := Lib.hid hy
      clear hy
      cases B with
      | false =>
        go_region_with (first
          | (go_at_call 12
             refine (specValidTy t _ _ HTO.out ⟨_, _, rfl, KT.out.drew_⟩).mono ?_
             rw [HV.out]
             rintro e w7 ⟨rfl, hb7⟩
             have hb7' := (Below.refl _ W1).drew.trans hb7
             have KT7 := Lib.hid (KT.out.grow hb7')
             have KL7 := Lib.hid (list_keep (KL.out) (Nat.le_refl _) hb7')
             obtain ⟨p0, p1⟩ := cells2 (KB.out.below hb7' KB.out.lt)
             obtain ⟨t0, t1, t2⟩ := cells3 (whole_keep KC.out hb7')
             have pl7 := (KB.out.below hb7' KB.out.lt).lt
             have tl7 := (whole_keep KC.out hb7').lt
             have hz7 := hb7'.size
             clear hb7)
          | (go_at_call 33
             refine (specSxAll _ t _ _ _ (Nat.le_refl _) hsz HFB.out.1 KT7.out).mono ?_
             rw [← HY.out]
             rintro e w8 ⟨V8, rfl, hr8, hb8⟩
             obtain ⟨A8, c8, rfl⟩ := hr8.shape
             have KY8 := Lib.hid (show ListAt w8 (Lt w8.heap.size) A8 y.list from hr8.list.frame (fun b h => h.1.2) fun _ _ _ => rfl)
             have hb8' := hb7'.trans (hb8.mono hb7'.size)
             have KL8 := Lib.hid (list_wide (list_keep KL7.out hz7 hb8) (Nat.le_trans hz7 hb8.size))
             obtain ⟨p0, p1⟩ := cells2 (KB.out.below hb8' KB.out.lt)
             have pl8 := (KB.out.below hb8' KB.out.lt).lt
             clear hb8)
          | (go_at_call 15
             refine (sameX y.nodes y x _ _ _ _ _ (Nat.le_refl _) hyn hs KY8.out KL8.out).mono ?_
             rw [← HS.out]
             rintro e w9 ⟨rfl, hb9⟩
             have hb9' := hb8'.trans (hb9.mono hb8'.size)))
        all_goals (
          go_wp2
          go_meet
          case rel => exact ⟨rfl, hb9'⟩)
      | true =>
        go_region_with (first
          | (go_at_call 12
             refine (specValidTy t _ _ HTO.out ⟨_, _, rfl, KT.out.drew_⟩).mono ?_
             rw [HV.out]
             rintro e w7 ⟨rfl, hb7⟩
             have hb7' := (Below.refl _ W1).drew.trans hb7
             have KT7 := Lib.hid (KT.out.grow hb7')
             have KL7 := Lib.hid (list_keep (KL.out) (Nat.le_refl _) hb7')
             obtain ⟨p0, p1⟩ := cells2 (KB.out.below hb7' KB.out.lt)
             obtain ⟨t0, t1, t2⟩ := cells3 (whole_keep KC.out hb7')
             have pl7 := (KB.out.below hb7' KB.out.lt).lt
             have tl7 := (whole_keep KC.out hb7').lt
             have hz7 := hb7'.size
             clear hb7)
          | (go_at_call 33
             refine (specSxAll _ t _ _ _ (Nat.le_refl _) hsz HFB.out.1 KT7.out).mono ?_
             rw [← HY.out]
             rintro e w8 ⟨V8, rfl, hr8, hb8⟩
             obtain ⟨A8, c8, rfl⟩ := hr8.shape
             have KY8 := Lib.hid (show ListAt w8 (Lt w8.heap.size) A8 y.list from hr8.list.frame (fun b h => h.1.2) fun _ _ _ => rfl)
             have hb8' := hb7'.trans (hb8.mono hb7'.size)
             have KL8 := Lib.hid (list_wide (list_keep KL7.out hz7 hb8) (Nat.le_trans hz7 hb8.size))
             obtain ⟨p0, p1⟩ := cells2 (KB.out.below hb8' KB.out.lt)
             have pl8 := (KB.out.below hb8' KB.out.lt).lt
             clear hb8)
          | (go_at_call 15
             refine (sameX y.nodes y x _ _ _ _ _ (Nat.le_refl _) hyn hs KY8.out KL8.out).mono ?_
             rw [← HS.out]
             rintro e w9 ⟨rfl, hb9⟩
             have hb9' := hb8'.trans (hb9.mono hb8'.size)))
        all_goals (
          go_wp2
          go_meet
          case rel => exact ⟨rfl, hb9'⟩)
  case rest =>
    obtain ⟨rfl, hbc⟩ := hcut
    have hbw := HBW.out.trans (hbc.mono HBW.out.size)
    have KX := Lib.hid (KX.out.below hbc KX.out.lt)
    have KC := Lib.hid (whole_keep KC.out hbc)
    clear HBW
    have HBW := Lib.hid hbw
    clear hbw p0 p1 pl t0 t1 t2 tl KT KB KL
    cases B with
    | false =>
      have HF := Lib.hid (HAF.out rfl)
      clear HAT HAF HBT
      have HE := Lib.hid (tyRet (k := 0) (s := ⟨#[]⟩) (V := .slice none 0 0) KX.out)
      obtain ⟨r0, r1, r2⟩ := cells3 KX.out
      have rf0 := KX.out.frozen 0
      have rf1 := KX.out.frozen 1
      have rf2 := KX.out.frozen 2
      have rl := KX.out.lt
      go_wp2
      obtain ⟨e0, e1, e2, hbut⟩ := HE.out _ rfl
      exact bodyPost_ret (v := .tuple #[.agg #[.int .i64 0, .string ⟨#[]⟩, .slice none 0 0], .bool false]) (by simp [results, Tryz.results10, go_sem, e0, e1, e2]) rfl (by rw [HF.out]; exact TyGot.none ((HBW.out).trans (hbut.to_below (by omega) HBW.out.size)))
    | true =>
      have HF := Lib.hid (HAT.out rfl)
      clear HAT HAF HBT
      have HE := Lib.hid (tyRet (k := t.kind_) (s := t.name_) (V := .slice A1 t.args_.length c1) KX.out)
      obtain ⟨r0, r1, r2⟩ := cells3 KX.out
      have rf0 := KX.out.frozen 0
      have rf1 := KX.out.frozen 1
      have rf2 := KX.out.frozen 2
      have rl := KX.out.lt
      obtain ⟨t0, t1, t2⟩ := cells3 KC.out
      have tl := KC.out.lt
      go_wp2
      obtain ⟨e0, e1, e2, hbut⟩ := HE.out _ rfl
      have far : ∀ b, b < w1.heap.size → b ≠ w.heap.size + 1 → ∀ W4, But (w.heap.size + 1) wc W4 → W4.heap[b]? = w1.heap[b]? := fun b h1 h2 W4 hB4 => (hB4.block b (by have := hbc.size; omega) h2).trans ((hbc.block b (by omega)).trans (HW1.out.block b h1))
      have hzc := hbc.size
      have hz4 := hbut.size
      exact bodyPost_ret (v := .tuple #[.agg #[.int .i64 t.kind_, .string t.name_, .slice A1 t.args_.length c1], .bool true]) (by simp [results, Tryz.results10, go_sem, e0, e1, e2]) rfl (by rw [HF.out]; exact ⟨A1, c1, rfl, KNW.out.frame (fun b h => ⟨by have := h.1; omega, by have := h.2; omega⟩) (fun b o h => World.cell?_of_block (a := ⟨b, o, none⟩) (far b h.2 (by have := h.1; omega) _ hbut)), HBW.out.trans (hbut.to_below (by omega) HBW.out.size)⟩)

set_option maxRecDepth 100000 in
set_option maxHeartbeats 2000000 in
theorem implFrom (x : SX) (A : Option Addr) (c : Nat) (w : World) (hs : x.nodes ≤ 4294967296) (ho : x.ok) (hl : SxRow w (Und w.heap.size) A c x.list) :
    Calls Tryz.prog 9 #[.agg #[.string x.atom, .slice A x.list.length c]] w (TyOwned x.tyA x.tyB w) := by
  obtain ⟨hb0, hbx, hrx⟩ := rdBoxes w x.atom (.slice A x.list.length c)
  have HBW := Lib.hid hb0
  have KB := Lib.hid hbx
  have KX := Lib.hid hrx
  have KL := Lib.hid (hl.grow hb0)
  have HOK := Lib.hid ho
  have HTO := Lib.hid (ty_ok x ho).2
  have hts := (ty_size x).2
  clear hb0 hbx hrx hl ho
  obtain ⟨t, ht⟩ : ∃ t, t = x.rd := ⟨_, rfl⟩
  rw [← ht] at HTO hts
  obtain ⟨B, hB⟩ : ∃ B, B = x.tyB := ⟨_, rfl⟩
  have hBt : B = (x.valid && (t.valid && t.sx.same x)) := by rw [hB, ht]; exact (rdB_eq x).symm
  have hAt : B = true → x.tyA = t := fun h => by rw [tyA_yes (by rw [← hB]; exact h), ht, rdA_eq (by rw [← hB]; exact h)]
  have hAf : B = false → x.tyA = .mk 0 ⟨#[]⟩ [] := fun h => tyA_no (by rw [← hB]; exact h)
  rw [← hB]
  have HT := Lib.hid ht
  have HAT := Lib.hid hAt
  have HAF := Lib.hid hAf
  clear ht hB hAt hAf
  go_enter Tryz.func9, Tryz.ntmps9
  go_wp2_with fail
  refine (implValid x A c _ HOK.out (SxRow_list KL.out)).mono ?_
  cases hv : x.valid with
  | false =>
    rw [hv, Bool.false_and] at hBt
    have HF := Lib.hid (HAF.out hBt)
    subst hBt
    clear hv HAT HAF
    rintro e w1 ⟨rfl, hb⟩
    have hbw := HBW.out.trans (hb.mono HBW.out.size)
    have KX := Lib.hid (KX.out.below hb KX.out.lt)
    clear HBW
    have HBW := Lib.hid hbw
    clear hb hbw
    have HE := Lib.hid (tyRet (k := 0) (s := ⟨#[]⟩) (V := .slice none 0 0) KX.out)
    obtain ⟨r0, r1, r2⟩ := cells3 KX.out
    have rf0 := KX.out.frozen 0
    have rf1 := KX.out.frozen 1
    have rf2 := KX.out.frozen 2
    have rl := KX.out.lt
    go_wp2
    obtain ⟨e0, e1, e2, hbut⟩ := HE.out _ rfl
    exact bodyPost_ret (v := .tuple #[.agg #[.int .i64 0, .string ⟨#[]⟩, .slice none 0 0], .bool false]) (by simp [results, Tryz.results9, go_sem, e0, e1, e2]) rfl (by rw [HF.out]; exact TyOwned.none ((HBW.out).trans (hbut.to_below (by omega) HBW.out.size)))
  | true =>
  rw [hv, Bool.true_and] at hBt
  have HBT := Lib.hid hBt
  clear hv hBt
  rintro e w1 ⟨rfl, hb⟩
  have hbw := HBW.out.trans (hb.mono HBW.out.size)
  have KB := Lib.hid (KB.out.below hb KB.out.lt)
  have KX := Lib.hid (KX.out.below hb KX.out.lt)
  have KL := Lib.hid (KL.out.grow hb)
  clear HBW
  have HBW := Lib.hid hbw
  clear hb hbw
  obtain ⟨p0, p1⟩ := cells2 KB.out
  have pl := KB.out.lt
  go_wp2_with fail
  refine (readTy x A c _ hs HOK.out KL.out).mono ?_
  rw [← HT.out]
  rintro e w1 ⟨A1, c1, bs, rfl, hOw, hnd, hb⟩
  have hlt := OwVs_lt _ hOw
  have KT := Lib.hid (OwVs_rowTy (P := Und w1.heap.size) (fun b hm => (hlt b hm).2) hOw)
  have hbw := HBW.out.trans (hb.mono HBW.out.size)
  have KNW := Lib.hid (OwVs_wide (show w.heap.size ≤ _ from HBW.out.size) _ hOw)
  have KND := Lib.hid hnd
  have KLT := Lib.hid (show ∀ b ∈ bs, w.heap.size + 2 ≤ b ∧ b < w1.heap.size from fun b hm => ⟨by have := (hlt b hm).1; have := KX.out.lt; omega, (hlt b hm).2⟩)
  have KB := Lib.hid (KB.out.below hb KB.out.lt)
  have KX := Lib.hid (KX.out.below hb KX.out.lt)
  have KL := Lib.hid (KL.out.grow hb)
  clear HBW p0 p1 pl
  have HBW := Lib.hid hbw
  clear hb hbw hOw hlt hnd
  have hb : Below w1.heap.size w1 (w1.alloc (.cells #[.int .i64 t.kind_, .string t.name_, .slice A1 t.args_.length c1] 26)) := (Below.refl _ _).alloc (Nat.le_refl _) _
  have KC := Lib.hid (Whole.new w1 26 #[.int .i64 t.kind_, .string t.name_, .slice A1 t.args_.length c1])
  have hbw := HBW.out.trans (hb.mono HBW.out.size)
  have hs1 : w.heap.size + 2 ≤ w1.heap.size := by have := KX.out.lt; omega
  have KT := Lib.hid (KT.out.grow hb)
  have KB := Lib.hid (KB.out.below hb KB.out.lt)
  have KX := Lib.hid (KX.out.below hb KX.out.lt)
  have KL := Lib.hid (KL.out.grow hb)
  clear HBW
  have HBW := Lib.hid hbw
  clear hbw
  obtain ⟨W1, hW1⟩ : ∃ W1, W1 = w1.alloc (.cells #[.int .i64 t.kind_, .string t.name_, .slice A1 t.args_.length c1] 26) := ⟨_, rfl⟩
  go_upto_region 4 with (fail)
  rw [← hW1] at KC KT KB KX KL HBW hb ⊢
  have hsz : t.size ≤ 4294967296 := by omega
  have hw1s : w1.heap.size < W1.heap.size := KC.out.lt
  have HW1 := Lib.hid hb
  clear hW1 hb
  obtain ⟨p0, p1⟩ := cells2 KB.out
  have pl := KB.out.lt
  obtain ⟨t0, t1, t2⟩ := cells3 KC.out
  have tl := KC.out.lt
  go_cut [20] from 11 to 20 (fun v16 wc => v16 = .bool (!B) ∧ Below W1.heap.size W1 wc)
  case first =>
    cases hv : t.valid with
    | false =>
      have hBf : B = false := by rw [HBT.out, hv]; rfl
      subst hBf
      have HV := Lib.hid hv
      clear hv HAT HAF HBT
      go_region_with (first
        | (go_at_call 19
           refine (implTyValidI t _ _ HTO.out hsz ⟨_, _, rfl, KT.out.drew_⟩).mono ?_
           rw [HV.out]
           rintro e w7 ⟨rfl, hb7⟩
           have hb7' := (Below.refl _ W1).drew.trans hb7
           clear hb7))
      all_goals (
        go_wp2
        go_meet
        case rel => exact ⟨rfl, hb7'⟩)
    | true =>
      obtain ⟨S, hS⟩ : ∃ S, S = t.sx.same x := ⟨_, rfl⟩
      have hBS : B = S := by rw [HBT.out, hv, hS]; rfl
      subst hBS
      have hfb := form_brief t (valid_parts hv).2.2
      have HFB := Lib.hid hfb
      have hyv := SX.valid_wt (sx_valid hv)
      have hyn : t.sx.nodes ≤ 4294967296 := by omega
      have HV := Lib.hid hv
      have HS := Lib.hid hS
      clear hv hfb hyv hS HAT HAF HBT
      obtain ⟨y, hy⟩ : ∃ y, y = t.sx := ⟨_, rfl⟩
      rw [← hy] at HS hyn
      have HY := Lib.hid hy
      clear hy
      cases B with
      | false =>
        go_region_with (first
          | (go_at_call 19
             refine (implTyValidI t _ _ HTO.out hsz ⟨_, _, rfl, KT.out.drew_⟩).mono ?_
             rw [HV.out]
             rintro e w7 ⟨rfl, hb7⟩
             have hb7' := (Below.refl _ W1).drew.trans hb7
             have KT7 := Lib.hid (KT.out.grow hb7')
             have KL7 := Lib.hid (list_keep (SxRow_list KL.out) (Nat.le_refl _) hb7')
             obtain ⟨p0, p1⟩ := cells2 (KB.out.below hb7' KB.out.lt)
             obtain ⟨t0, t1, t2⟩ := cells3 (whole_keep KC.out hb7')
             have pl7 := (KB.out.below hb7' KB.out.lt).lt
             have tl7 := (whole_keep KC.out hb7').lt
             have hz7 := hb7'.size
             clear hb7)
          | (go_at_call 21
             refine (encode t _ _ _ hsz HFB.out.1 HFB.out.2 KT7.out).mono ?_
             rw [← HY.out]
             rintro e w8 ⟨A8, c8, bs8, rfl, ho8, hn8, hin8, hb8⟩
             have KY8 := Lib.hid (OwX_list (P := Lt w8.heap.size) y (fun b hm => (hin8 b hm).2) ho8)
             clear ho8 hn8 hin8
             have hb8' := hb7'.trans (hb8.mono hb7'.size)
             have KL8 := Lib.hid (list_wide (list_keep KL7.out hz7 hb8) (Nat.le_trans hz7 hb8.size))
             obtain ⟨p0, p1⟩ := cells2 (KB.out.below hb8' KB.out.lt)
             have pl8 := (KB.out.below hb8' KB.out.lt).lt
             clear hb8)
          | (go_at_call 31
             refine (implEqual y x _ _ _ _ _ hyn KY8.out KL8.out).mono ?_
             rw [← HS.out]
             rintro e w9 ⟨rfl, hb9⟩
             have hb9' := hb8'.trans (hb9.mono hb8'.size)))
        all_goals (
          go_wp2
          go_meet
          case rel => exact ⟨rfl, hb9'⟩)
      | true =>
        go_region_with (first
          | (go_at_call 19
             refine (implTyValidI t _ _ HTO.out hsz ⟨_, _, rfl, KT.out.drew_⟩).mono ?_
             rw [HV.out]
             rintro e w7 ⟨rfl, hb7⟩
             have hb7' := (Below.refl _ W1).drew.trans hb7
             have KT7 := Lib.hid (KT.out.grow hb7')
             have KL7 := Lib.hid (list_keep (SxRow_list KL.out) (Nat.le_refl _) hb7')
             obtain ⟨p0, p1⟩ := cells2 (KB.out.below hb7' KB.out.lt)
             obtain ⟨t0, t1, t2⟩ := cells3 (whole_keep KC.out hb7')
             have pl7 := (KB.out.below hb7' KB.out.lt).lt
             have tl7 := (whole_keep KC.out hb7').lt
             have hz7 := hb7'.size
             clear hb7)
          | (go_at_call 21
             refine (encode t _ _ _ hsz HFB.out.1 HFB.out.2 KT7.out).mono ?_
             rw [← HY.out]
             rintro e w8 ⟨A8, c8, bs8, rfl, ho8, hn8, hin8, hb8⟩
             have KY8 := Lib.hid (OwX_list (P := Lt w8.heap.size) y (fun b hm => (hin8 b hm).2) ho8)
             clear ho8 hn8 hin8
             have hb8' := hb7'.trans (hb8.mono hb7'.size)
             have KL8 := Lib.hid (list_wide (list_keep KL7.out hz7 hb8) (Nat.le_trans hz7 hb8.size))
             obtain ⟨p0, p1⟩ := cells2 (KB.out.below hb8' KB.out.lt)
             have pl8 := (KB.out.below hb8' KB.out.lt).lt
             clear hb8)
          | (go_at_call 31
             refine (implEqual y x _ _ _ _ _ hyn KY8.out KL8.out).mono ?_
             rw [← HS.out]
             rintro e w9 ⟨rfl, hb9⟩
             have hb9' := hb8'.trans (hb9.mono hb8'.size)))
        all_goals (
          go_wp2
          go_meet
          case rel => exact ⟨rfl, hb9'⟩)
  case rest =>
    obtain ⟨rfl, hbc⟩ := hcut
    have hbw := HBW.out.trans (hbc.mono HBW.out.size)
    have KX := Lib.hid (KX.out.below hbc KX.out.lt)
    have KC := Lib.hid (whole_keep KC.out hbc)
    clear HBW
    have HBW := Lib.hid hbw
    clear hbw p0 p1 pl t0 t1 t2 tl KT KB KL
    cases B with
    | false =>
      have HF := Lib.hid (HAF.out rfl)
      clear HAT HAF HBT
      have HE := Lib.hid (tyRet (k := 0) (s := ⟨#[]⟩) (V := .slice none 0 0) KX.out)
      obtain ⟨r0, r1, r2⟩ := cells3 KX.out
      have rf0 := KX.out.frozen 0
      have rf1 := KX.out.frozen 1
      have rf2 := KX.out.frozen 2
      have rl := KX.out.lt
      go_wp2
      obtain ⟨e0, e1, e2, hbut⟩ := HE.out _ rfl
      exact bodyPost_ret (v := .tuple #[.agg #[.int .i64 0, .string ⟨#[]⟩, .slice none 0 0], .bool false]) (by simp [results, Tryz.results9, go_sem, e0, e1, e2]) rfl (by rw [HF.out]; exact TyOwned.none ((HBW.out).trans (hbut.to_below (by omega) HBW.out.size)))
    | true =>
      have HF := Lib.hid (HAT.out rfl)
      clear HAT HAF HBT
      have HE := Lib.hid (tyRet (k := t.kind_) (s := t.name_) (V := .slice A1 t.args_.length c1) KX.out)
      obtain ⟨r0, r1, r2⟩ := cells3 KX.out
      have rf0 := KX.out.frozen 0
      have rf1 := KX.out.frozen 1
      have rf2 := KX.out.frozen 2
      have rl := KX.out.lt
      obtain ⟨t0, t1, t2⟩ := cells3 KC.out
      have tl := KC.out.lt
      go_wp2
      obtain ⟨e0, e1, e2, hbut⟩ := HE.out _ rfl
      have far : ∀ b, b < w1.heap.size → b ≠ w.heap.size + 1 → ∀ W4, But (w.heap.size + 1) wc W4 → W4.heap[b]? = w1.heap[b]? := fun b h1 h2 W4 hB4 => (hB4.block b (by have := hbc.size; omega) h2).trans ((hbc.block b (by omega)).trans (HW1.out.block b h1))
      exact bodyPost_ret (v := .tuple #[.agg #[.int .i64 t.kind_, .string t.name_, .slice A1 t.args_.length c1], .bool true]) (by simp [results, Tryz.results9, go_sem, e0, e1, e2]) rfl (by rw [HF.out]; exact ⟨A1, c1, bs, rfl, OwVs_frame _ (fun b hm => far b (KLT.out b hm).2 (by have := (KLT.out b hm).1; omega) _ hbut) KNW.out, KND.out, HBW.out.trans (hbut.to_below (by omega) HBW.out.size)⟩)
end Go.Proofs.YtbcfeoobhemdcaaGreat

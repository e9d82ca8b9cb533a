/- The program's Canonicalize and AlphaEquivalent. -/
import Derived.Test.YtngbilblddngcaaDoorZCanAllI
import Derived.Test.YtngbilblddngcaaDoorZTyEqJ
import Derived.Test.YtngbilblddngcaaDoorZLawK
import Derived.Deep.RegionHeld3
namespace Go.Proofs.YtngbilblddngcaaDoor
open Go.RowKit Go.Lib

mutual
theorem TypeX.size_ren (g : ByteArray → ByteArray) : ∀ x : TypeX, (x.ren g).size ≤ x.size
  | .mk k n a => by
    rw [TypeX.ren]
    split
    · rw [TypeX.size, TypeX.size, TypeX.sizeL]; omega
    · rw [TypeX.size, TypeX.size]
      have := TypeX.sizeL_ren g a
      omega
theorem TypeX.sizeL_ren (g : ByteArray → ByteArray) : ∀ l : List TypeX, TypeX.sizeL (TypeX.renL g l) ≤ TypeX.sizeL l
  | [] => by rw [TypeX.renL]; exact Nat.le_refl _
  | x :: r => by
    rw [TypeX.renL, TypeX.sizeL, TypeX.sizeL]
    have := TypeX.size_ren g x
    have := TypeX.sizeL_ren g r
    omega
end
/-- The canonical form. -/
def TypeX.canon (x : TypeX) : TypeX := x.ren (newN (varsOf [x]))
theorem canon_list (x : TypeX) : TypeX.renL (newN (varsOf [x])) [x] = [x.canon] := by rw [TypeX.renL, TypeX.renL]; rfl
theorem canon_sub (x : TypeX) : x.canon = x.sub (subX (canB (varsOf [x]))) := by
  have h := renL_canon [x]
  rw [canon_list, TypeX.subL, TypeX.subL] at h
  injection h
theorem canon_size (x : TypeX) : x.canon.size ≤ x.size := TypeX.size_ren _ x
/-- A new row of one type. -/
theorem oneRow {w : World} {x : TypeX} {A : Option Addr} {c : Nat} (hx : TypeRow w (Und w.heap.size) A c x.args_) :
    TypeRow (w.alloc (.cells #[.int .i64 x.kind_, .string x.name_, .slice A x.args_.length c] 26)) (Und (w.alloc (.cells #[.int .i64 x.kind_, .string x.name_, .slice A x.args_.length c] 26)).heap.size) (some ⟨w.heap.size, 0, none⟩) 1 [x] := by
  have hb := (Below.refl w.heap.size w).alloc (Nat.le_refl _) (.cells #[.int .i64 x.kind_, .string x.name_, .slice A x.args_.length c] 26)
  have ho := World.ownsRow_lit (base := w.heap.size) (size := 3) (e := 26) w #[.int .i64 x.kind_, .string x.name_, .slice A x.args_.length c] 1 (Nat.le_refl _) (by decide) rfl
  obtain ⟨A2, c2, e, hr⟩ := own_typeRow (l := [x]) (P := Und (w.alloc (.cells #[.int .i64 x.kind_, .string x.name_, .slice A x.args_.length c] 26)).heap.size) ho ⟨A, c, [], rfl, hx.grow hb, rfl⟩ (fun b h => h) (fun b h => by simp [Value.ownBlock] at h; subst h; show _ < _; simp)
  injection e with e1 _ e2
  subst e1 e2
  exact hr
/-- The element of a made row of one type. -/
theorem oneOut {w : World} {B : Nat} {y : TypeX} {A : Option Addr} {c : Nat} {bs : List Nat} (h : OwV w B (.row 26 3 (TypeX.rows [y])) (.slice A 1 c) bs) (hn : bs.Nodup) :
    ∃ (g : Nat) (A3 : Option Addr) (c3 : Nat) (b1 : List Nat), A = some ⟨g, 0, none⟩ ∧ OwVs w B y.cells [.int .i64 y.kind_, .string y.name_, .slice A3 y.args_.length c3] b1 ∧ b1.Nodup ∧ g < w.heap.size ∧
      w.cell? ⟨g, 0, none⟩ = some (.int .i64 y.kind_) ∧ w.cell? ⟨g, 1, none⟩ = some (.string y.name_) ∧ w.cell? ⟨g, 2, none⟩ = some (.slice A3 y.args_.length c3) := by
  rw [OwV, TypeX.rows_length] at h
  obtain ⟨vs, bs', hrow, hE, hbs⟩ := h
  rw [TypeX.rows_map, List.map_cons, List.map_nil, OwVE] at hE
  obtain ⟨v1, v2, b1, b2, rfl, rfl, _, ho, hE2⟩ := hE
  rw [OwVE] at hE2
  obtain ⟨rfl, rfl⟩ := hE2
  obtain ⟨A3, c3, e, _⟩ := TypeAt.of_reads (OwVs_read (P := Und w.heap.size) y.cells (fun b hb' => (OwVs_lt y.cells ho b hb').2) ho)
  injection e with e
  have e : v1 = [.int .i64 y.kind_, .string y.name_, .slice A3 y.args_.length c3] := by injection e
  subst e
  rcases hrow.2 with ⟨_, h0⟩ | ⟨g, cap, cur, hv, _, hg, _, _, hsz, htk⟩
  · simp at h0
  · injection hv with hv _ _
    have hw : Whole w g 26 cur := hg
    have hcell : ∀ i u, [Value.int .i64 y.kind_, .string y.name_, .slice A3 y.args_.length c3][i]? = some u → w.cell? ⟨g, i, none⟩ = some u := fun i u hi => by
      rw [hw.cell, ← Array.getElem?_toList]
      have hil := (List.getElem?_eq_some_iff.1 hi).1
      have h3 : (cur.toList.take (1 * 3))[i]? = some u := by rw [show cur.toList.take (1 * 3) = _ from htk, List.append_nil]; exact hi
      rw [List.getElem?_take] at h3
      split at h3
      · exact h3
      · cases h3
    rw [List.append_nil] at hbs
    rw [hbs] at hn
    exact ⟨g, A3, c3, b1, hv, ho, (List.nodup_append.1 hn).2.1, hw.lt, hcell 0 _ rfl, hcell 1 _ rfl, hcell 2 _ rfl⟩

set_option maxRecDepth 100000 in
set_option maxHeartbeats 4000000 in
theorem implCanon (x : TypeX) (A : Option Addr) (c : Nat) (w : World) (hp : Pow w) (hx : x.size ≤ 4294967200) (hv : TypeRow w (Und w.heap.size) A c x.args_) :
    Calls Tryd.prog 12 #[.agg #[.int .i64 x.kind_, .string x.name_, .slice A x.args_.length c]] w (MadeV x.canon.cells w) := by
  obtain ⟨W, hW⟩ : ∃ W, W = (w.alloc (.cells #[.int .i64 x.kind_, .string x.name_, .slice A x.args_.length c] 26)).alloc (.cells #[.int .i64 0, .string ⟨#[]⟩, .slice none 0 0] 26) := ⟨_, rfl⟩
  have hb0 : Below w.heap.size w W := by rw [hW]; exact ((Below.refl _ _).alloc (Nat.le_refl _) _).alloc (by simp) _
  have hs : W.heap.size = w.heap.size + 2 := by rw [hW]; simp
  have hx1 : Whole W w.heap.size 26 #[.int .i64 x.kind_, .string x.name_, .slice A x.args_.length c] := by rw [hW]; exact (Whole.new w _ _).below ((Below.refl (w.heap.size + 1) _).alloc (by simp) _) (by omega)
  have hz : Whole W (w.heap.size + 1) 26 #[.int .i64 0, .string ⟨#[]⟩, .slice none 0 0] := by
    have h := Whole.new (w.alloc (.cells #[.int .i64 x.kind_, .string x.name_, .slice A x.args_.length c] 26)) 26 #[.int .i64 0, .string ⟨#[]⟩, .slice none 0 0]
    rw [World.size_alloc] at h; rw [hW]; exact h
  obtain ⟨W2, hW2⟩ : ∃ W2, W2 = W.alloc (.cells #[.int .i64 x.kind_, .string x.name_, .slice A x.args_.length c] 26) := ⟨_, rfl⟩
  have hb2 : Below W.heap.size W W2 := by rw [hW2]; exact (Below.refl _ _).alloc (Nat.le_refl _) _
  have hs2 : W2.heap.size = W.heap.size + 1 := by rw [hW2]; simp
  have hrow : TypeRow W2 (Und W2.heap.size) (some ⟨W.heap.size, 0, none⟩) 1 [x] := by rw [hW2]; exact oneRow (hv.grow hb0)
  have hcall := implCanAll [x] (some ⟨W.heap.size, 0, none⟩) 1 W2 (hp.below (hb0.trans (hb2.mono (by omega)))) (by rw [TypeX.sizeL, TypeX.sizeL]; omega) hrow
  rw [canon_list] at hcall
  have hz2 := hz.below hb2 hz.lt
  have HC := Lib.hid hcall
  have HB := Lib.hid (hb0.trans (hb2.mono (by omega)))
  have HZ := Lib.hid hz2
  have HS := Lib.hid hs
  have HW := Lib.hid hW.symm
  have HW2 := Lib.hid hW2.symm
  have HX1 := Lib.hid hx1
  clear hcall hb0 hz hv hs hW hx1 hb2 hrow hW2 hz2 hp
  go_enter Tryd.func12, Tryd.ntmps12
  go_upto_region 1 with (fail)
  rw [HW.out]
  obtain ⟨p0, p1, p2⟩ := cells3 HX1.out
  have plt := HX1.out.lt
  go_wp2_with fail
  rw [HW2.out]
  refine HC.out.mono ?_
  intro e w3 hm
  obtain ⟨A3, c3, bs3, rfl, hO3, hn3, -, -, hb3⟩ := madeR_get (TypeX.rows_length [x.canon]) hm
  rw [show ([x.canon] : List TypeX).length = 1 from rfl] at hO3 ⊢
  obtain ⟨g, A4, c4, b1, rfl, hO4, hn4, hgl, g0, g1, g2⟩ := oneOut hO3 hn3
  have hz3 := HZ.out.below hb3 HZ.out.lt
  obtain ⟨z0, z1, z2⟩ := cells3 hz3
  have zf0 := hz3.frozen 0
  have zf1 := hz3.frozen 1
  have zf2 := hz3.frozen 2
  have zlt := hz3.lt
  have hend := tyEndY (k := x.canon.kind_) (s := x.canon.name_) (A := A4) (n := x.canon.args_.length) (cc := c4) hz3 (by omega) (HB.out.trans (hb3.mono HB.out.size))
  have HE := Lib.hid hend
  have HO := Lib.hid hO4
  have HN := Lib.hid hn4
  clear hend hO3 hn3 hm hb3 hz3 hO4 p0 p1 p2
  go_wp2
  obtain ⟨e0, e1, e2, hbut, hb4⟩ := HE.out _ rfl
  exact bodyPost_ret (v := .agg #[.int .i64 x.canon.kind_, .string x.canon.name_, .slice A4 x.canon.args_.length c4]) (by simp [results, Tryd.results12, go_sem, e0, e1, e2]) rfl ⟨_, _, rfl, OwVs_wide (by have := HS.out; omega) _ (made_in HO.out (by have := HS.out; omega) hbut), HN.out, hb4⟩

set_option maxRecDepth 100000 in
set_option maxHeartbeats 4000000 in
theorem implAlpha (x y : TypeX) (A C : Option Addr) (a c : Nat) (w : World) (hp : Pow w) (hx : x.size ≤ 4294967200) (hy : y.size ≤ 4294967200) (hv : TypeRow w (Und w.heap.size) A a x.args_) (hv' : TypeRow w (Und w.heap.size) C c y.args_) :
    Calls Tryd.prog 11 #[.agg #[.int .i64 x.kind_, .string x.name_, .slice A x.args_.length a], .agg #[.int .i64 y.kind_, .string y.name_, .slice C y.args_.length c]] w fun e w' => e = .returned (.bool (x.canon.same y.canon)) ∧ Below w.heap.size w w' := by
  obtain ⟨W, hW⟩ : ∃ W, W = (w.alloc (.cells #[.int .i64 x.kind_, .string x.name_, .slice A x.args_.length a] 26)).alloc (.cells #[.int .i64 y.kind_, .string y.name_, .slice C y.args_.length c] 26) := ⟨_, rfl⟩
  have hb0 : Below w.heap.size w W := by rw [hW]; exact ((Below.refl _ _).alloc (Nat.le_refl _) _).alloc (by simp) _
  have hs : W.heap.size = w.heap.size + 2 := by rw [hW]; simp
  have hx1 : Whole W w.heap.size 26 #[.int .i64 x.kind_, .string x.name_, .slice A x.args_.length a] := by rw [hW]; exact (Whole.new w _ _).below ((Below.refl (w.heap.size + 1) _).alloc (by simp) _) (by omega)
  have hz : Whole W (w.heap.size + 1) 26 #[.int .i64 y.kind_, .string y.name_, .slice C y.args_.length c] := by
    have h := Whole.new (w.alloc (.cells #[.int .i64 x.kind_, .string x.name_, .slice A x.args_.length a] 26)) 26 #[.int .i64 y.kind_, .string y.name_, .slice C y.args_.length c]
    rw [World.size_alloc] at h; rw [hW]; exact h
  have hce : ∀ W', Below W.heap.size W W' → W'.cell? ⟨w.heap.size, 0, none⟩ = some (.int .i64 x.kind_) ∧ W'.cell? ⟨w.heap.size, 1, none⟩ = some (.string x.name_) ∧ W'.cell? ⟨w.heap.size, 2, none⟩ = some (.slice A x.args_.length a) ∧
      W'.cell? ⟨w.heap.size + 1, 0, none⟩ = some (.int .i64 y.kind_) ∧ W'.cell? ⟨w.heap.size + 1, 1, none⟩ = some (.string y.name_) ∧ W'.cell? ⟨w.heap.size + 1, 2, none⟩ = some (.slice C y.args_.length c) := fun W' h => by
    obtain ⟨k0, k1, k2⟩ := cells3 (hx1.below h hx1.lt)
    obtain ⟨l0, l1, l2⟩ := cells3 (hz.below h hz.lt)
    exact ⟨k0, k1, k2, l0, l1, l2⟩
  have HCE := Lib.hid hce
  have HX := Lib.hid (hv.grow hb0)
  have HY := Lib.hid (hv'.grow hb0)
  have HB := Lib.hid hb0
  have HW := Lib.hid hW.symm
  have hwlt := hz.lt
  have HP := Lib.hid (hp.below (HB.out))
  clear hce hb0 hz hv hv' hs hW hx1 hp
  go_enter Tryd.func11, Tryd.ntmps11
  go_upto_region 1 with (fail)
  rw [HW.out]
  obtain ⟨p0, p1, p2, p3, p4, p5⟩ := HCE.out _ (Below.refl _ _)
  have hcur : Below W.heap.size W W := Below.refl _ _
  go_region_held3 (fun w' => w'.cell? ⟨w.heap.size, 0, none⟩ = some (.int .i64 x.kind_) ∧ w'.cell? ⟨w.heap.size, 1, none⟩ = some (.string x.name_) ∧ w'.cell? ⟨w.heap.size, 2, none⟩ = some (.slice A x.args_.length a) ∧
      w'.cell? ⟨w.heap.size + 1, 0, none⟩ = some (.int .i64 y.kind_) ∧ w'.cell? ⟨w.heap.size + 1, 1, none⟩ = some (.string y.name_) ∧ w'.cell? ⟨w.heap.size + 1, 2, none⟩ = some (.slice C y.args_.length c))
    (first
      | go_keep
      | exact HCE.out _ hcur)
    (first
      | (go_at_call_of 12 (Value.agg #[.int .i64 x.kind_, .string x.name_, .slice A x.args_.length a])
         refine (implCanon x A a W.drew (HP.out.below ((Below.refl _ W).drew)) hx (HX.out.grow ((Below.refl _ W).drew))).mono ?_
         intro e w1 hm
         obtain ⟨vs1, bs1, A1, c1, rfl, rfl, hO1, hn1, hb1⟩ := madeT_get hm
         have hcur : Below W.heap.size W w1 := (Below.refl _ W).drew.trans hb1
         have hr1 := OwVs_read (P := Und w1.heap.size) x.canon.cells (fun b hb' => (OwVs_lt x.canon.cells hO1 b hb').2) hO1
         have HR1 := Lib.hid hr1
         have HC1 := Lib.hid hcur
         clear hm hO1 hn1 hb1 hr1)
      | (go_at_call_of 12 (Value.agg #[.int .i64 y.kind_, .string y.name_, .slice C y.args_.length c])
         refine (implCanon y C c w1 (HP.out.below HC1.out) hy (HY.out.grow HC1.out)).mono ?_
         intro e w2 hm
         obtain ⟨vs2, bs2, A2, c2, rfl, rfl, hO2, hn2, hb2⟩ := madeT_get hm
         have hcur : Below W.heap.size W w2 := HC1.out.trans (hb2.mono HC1.out.size)
         have hr2 := OwVs_read (P := Und w2.heap.size) y.canon.cells (fun b hb' => (OwVs_lt y.canon.cells hO2 b hb').2) hO2
         have hr1' := RdVs_frame (Q := Und w2.heap.size) (fun b (hb' : b < w1.heap.size) => Nat.lt_of_lt_of_le hb' hb2.size) (fun b o (hb' : b < w1.heap.size) => hb2.cell (p := ⟨b, o, none⟩) hb') x.canon.cells HR1.out
         have HR1' := Lib.hid hr1'
         have HR2 := Lib.hid hr2
         have HC2 := Lib.hid hcur
         clear hm hO2 hn2 hb2 hr2 hr1')
      | (go_at_call 42
         refine (implEqTy x.canon y.canon _ _ w2 (by have := canon_size x; omega) (TypeAt.of_reads HR1'.out) (TypeAt.of_reads HR2.out)).mono ?_
         rintro e w3 ⟨rfl, hb3⟩
         have hcur : Below W.heap.size W w3 := HC2.out.trans (hb3.mono HC2.out.size)
         have HC3 := Lib.hid hcur
         clear hb3))
  all_goals
    go_wp2
    go_ret
    exact ⟨rfl, HB.out.trans (HC3.out.mono HB.out.size)⟩
end Go.Proofs.YtngbilblddngcaaDoor

/- The reference model's Canonicalize, CanonicalizeAll and AlphaEquivalent. -/
import Derived.Test.YtngbilblddngcaaDoorZSpCan
import Derived.Test.YtngbilblddngcaaDoorZCanI
import Derived.Test.YtngbilblddngcaaDoorQ1
namespace Go.Proofs.YtngbilblddngcaaDoor
open Go.RowKit Go.Lib

theorem bigBs {vs : List ByteArray} : ∀ b ∈ canB vs, b.type_.size ≤ 4294967296 := fun b hb => by rw [canBF_size vs 0 b hb]; decide

set_option maxRecDepth 100000 in
set_option maxHeartbeats 4000000 in
theorem specCanAll (xs : List TypeX) (D : Option Addr) (d : Nat) (w : World) (hx : TypeX.sizeL xs ≤ 4294967296) (hv : TypeRow w (Und w.heap.size) D d xs) :
    Calls Tryd.prog 31 #[.slice D xs.length d] w (MadeR (.row 26 3 (TypeX.rows (TypeX.renL (newN (varsOf xs)) xs))) w) := by
  have HC := Lib.hid (specCanRen xs D d w hx hv)
  have HV := Lib.hid hv
  rw [renL_canon]
  clear hv
  go_enter Tryd.func31, Tryd.ntmps31
  go_wp2_with fail
  refine HC.out.mono ?_
  intro e w1 hm
  obtain ⟨A1, c1, bs1, rfl, -, -, hr1, -, hb1⟩ := madeR_get (BindingX.rows_length _) hm
  have HA := Lib.hid (specApplyAll (canB (varsOf xs)) A1 c1 xs D d w1 hx bigBs (rd_und hr1 (Nat.le_refl _)) (HV.out.grow hb1))
  have HB := Lib.hid hb1
  clear hm hr1 hb1
  go_wp2_with fail
  refine HA.out.mono ?_
  rintro e w2 ⟨v, bs, rfl, ho, hn, hb2⟩
  have HO := Lib.hid (OwV_wide HB.out.size _ ho)
  have HB2 := Lib.hid (HB.out.trans (hb2.mono HB.out.size))
  clear ho hb2
  go_wp2
  go_ret
  exact ⟨_, _, rfl, HO.out, hn, HB2.out⟩

set_option maxRecDepth 100000 in
set_option maxHeartbeats 4000000 in
theorem specCanon (x : TypeX) (A : Option Addr) (c : Nat) (w : World) (hx : x.size ≤ 4294967200) (hv : TypeRow w (Und w.heap.size) A c x.args_) :
    Calls Tryd.prog 26 #[.agg #[.int .i64 x.kind_, .string x.name_, .slice A x.args_.length c]] w (MadeV x.canon.cells w) := by
  obtain ⟨W, hW⟩ : ∃ W, W = (w.alloc (.cells #[.int .i64 x.kind_, .string x.name_, .slice A x.args_.length c] 26)).alloc (.cells #[.int .i64 0, .string ⟨#[]⟩, .slice none 0 0] 26) := ⟨_, rfl⟩
  have hb0 : Below w.heap.size w W := by rw [hW]; exact ((Below.refl _ _).alloc (Nat.le_refl _) _).alloc (by simp) _
  have hs : W.heap.size = w.heap.size + 2 := by rw [hW]; simp
  have hx1 : Whole W w.heap.size 26 #[.int .i64 x.kind_, .string x.name_, .slice A x.args_.length c] := by rw [hW]; exact (Whole.new w _ _).below ((Below.refl (w.heap.size + 1) _).alloc (by simp) _) (by omega)
  have hx2 : Whole W (w.heap.size + 1) 26 #[.int .i64 0, .string ⟨#[]⟩, .slice none 0 0] := by
    have h := Whole.new (w.alloc (.cells #[.int .i64 x.kind_, .string x.name_, .slice A x.args_.length c] 26)) 26 #[.int .i64 0, .string ⟨#[]⟩, .slice none 0 0]
    rw [World.size_alloc] at h; rw [hW]; exact h
  have HROW := Lib.hid (fun (V : World) (h : Below W.heap.size W V) => oneRow ((hv.grow hb0).grow h))
  have HVW := Lib.hid (hv.grow hb0)
  have HW := Lib.hid hW.symm
  have HB := Lib.hid hb0
  have HS := Lib.hid hs
  have HX1 := Lib.hid hx1
  have HX2 := Lib.hid hx2
  clear hv hW hb0 hs hx1 hx2
  rw [canon_sub]
  have HSM := Lib.hid (@bigBs (varsOf [x]))
  obtain ⟨l, hl⟩ : ∃ l, l = canB (varsOf [x]) := ⟨_, rfl⟩
  have HCR := Lib.hid (fun (V : World) (h : Below W.heap.size W V) => specCanRen [x] (some ⟨V.heap.size, 0, none⟩) 1 _ (by rw [TypeX.sizeL, TypeX.sizeL]; omega) (HROW.out V h))
  rw [← hl] at HSM HCR ⊢
  clear hl
  go_enter Tryd.func26, Tryd.ntmps26
  go_upto_region 1 with (fail)
  rw [HW.out]
  obtain ⟨p0, p1, p2⟩ := cells3 HX1.out
  obtain ⟨r0, r1, r2⟩ := cells3 HX2.out
  have rf0 := HX2.out.frozen 0
  have rf1 := HX2.out.frozen 1
  have rf2 := HX2.out.frozen 2
  have hlt := HX2.out.lt
  have hcur : Below W.heap.size W W := Below.refl _ _
  have H2E := Lib.hid (fun (w2 : World) (h : Below W.heap.size W w2) => HX2.out.below h HX2.out.lt)
  have H1E := Lib.hid (fun (w2 : World) (h : Below W.heap.size W w2) => HX1.out.below h HX1.out.lt)
  go_region_held3 (fun w' => w'.cell? ⟨w.heap.size, 0, none⟩ = some (.int .i64 x.kind_) ∧ w'.cell? ⟨w.heap.size, 1, none⟩ = some (.string x.name_) ∧ w'.cell? ⟨w.heap.size, 2, none⟩ = some (.slice A x.args_.length c))
    (first
      | go_keep
      | exact cells3 (H1E.out _ hcur))
    (first
      | (go_at_call 17
         refine (HCR.out W.drew ((Below.refl _ W).drew)).mono ?_
         intro e w1 hm
         obtain ⟨A1, c1, bs1, rfl, -, -, hr1, -, hb1⟩ := madeR_get (BindingX.rows_length _) hm
         have hcur : Below W.heap.size W w1 := (((Below.refl _ W).drew).alloc (Nat.le_refl _) _).trans (hb1.mono (by rw [World.size_alloc]; exact Nat.le_succ _))
         have HR1 := Lib.hid (rd_und hr1 (Nat.le_refl _))
         have HC1 := Lib.hid hcur
         clear hm hr1 hb1)
      | (go_at_call 39
         refine (specApply l A1 c1 x A c w1 (by omega) HSM.out HR1.out (HVW.out.grow HC1.out)).mono ?_
         intro e w3 hm
         obtain ⟨vs, bs, A3, c3, rfl, rfl, hO3, hn3, hb3⟩ := madeT_get hm
         have hcur : Below W.heap.size W w3 := HC1.out.trans (hb3.mono HC1.out.size)
         have hz3 := H2E.out w3 hcur
         obtain ⟨z0, z1, z2⟩ := cells3 hz3
         have zf0 := hz3.frozen 0
         have zf1 := hz3.frozen 1
         have zf2 := hz3.frozen 2
         have zlt := hz3.lt
         have hend := tyEndY (k := (x.sub (subX l)).kind_) (s := (x.sub (subX l)).name_) (A := A3) (n := (x.sub (subX l)).args_.length) (cc := c3) hz3 (Nat.le_succ _) (HB.out.trans (hcur.mono HB.out.size))
         have HE := Lib.hid hend
         have HO := Lib.hid hO3
         have HN := Lib.hid hn3
         clear hend hO3 hn3 hm hz3 hb3))
  all_goals
    obtain ⟨e0, e1, e2, hbut, hb4⟩ := HE.out _ rfl
    have HO4 := Lib.hid (made_in HO.out (by have := HS.out; have := HC1.out.size; omega) hbut)
    have HB4 := Lib.hid hb4
    clear hbut hb4
    go_wp2
    exact bodyPost_ret (v := .agg #[.int .i64 (x.sub (subX l)).kind_, .string (x.sub (subX l)).name_, .slice A3 (x.sub (subX l)).args_.length c3]) (by simp [results, Tryd.results26, go_sem, e0, e1, e2]) rfl ⟨_, _, rfl, OwVs_wide (show w.heap.size ≤ w1.heap.size by have := HS.out; have := HC1.out.size; omega) _ HO4.out, HN.out, HB4.out⟩

set_option maxRecDepth 100000 in
set_option maxHeartbeats 4000000 in
theorem specAlpha (x y : TypeX) (A C : Option Addr) (a c : Nat) (w : World) (hx : x.size ≤ 4294967200) (hy : y.size ≤ 4294967200) (hv : TypeRow w (Und w.heap.size) A a x.args_) (hv' : TypeRow w (Und w.heap.size) C c y.args_) :
    Calls Tryd.prog 13 #[.agg #[.int .i64 x.kind_, .string x.name_, .slice A x.args_.length a], .agg #[.int .i64 y.kind_, .string y.name_, .slice C y.args_.length c]] w fun e w' => e = .returned (.bool (x.canon.same y.canon)) ∧ Below w.heap.size w w' := by
  obtain ⟨W, hW⟩ : ∃ W, W = (w.alloc (.cells #[.int .i64 x.kind_, .string x.name_, .slice A x.args_.length a] 26)).alloc (.cells #[.int .i64 y.kind_, .string y.name_, .slice C y.args_.length c] 26) := ⟨_, rfl⟩
  have hb0 : Below w.heap.size w W := by rw [hW]; exact ((Below.refl _ _).alloc (Nat.le_refl _) _).alloc (by simp) _
  have hs : W.heap.size = w.heap.size + 2 := by rw [hW]; simp
  have hx1 : Whole W w.heap.size 26 #[.int .i64 x.kind_, .string x.name_, .slice A x.args_.length a] := by rw [hW]; exact (Whole.new w _ _).below ((Below.refl (w.heap.size + 1) _).alloc (by simp) _) (by omega)
  have hz : Whole W (w.heap.size + 1) 26 #[.int .i64 y.kind_, .string y.name_, .slice C y.args_.length c] := by
    have h := Whole.new (w.alloc (.cells #[.int .i64 x.kind_, .string x.name_, .slice A x.args_.length a] 26)) 26 #[.int .i64 y.kind_, .string y.name_, .slice C y.args_.length c]
    rw [World.size_alloc] at h; rw [hW]; exact h
  have hce : ∀ W', Below W.heap.size W W' → W'.cell? ⟨w.heap.size, 0, none⟩ = some (.int .i64 x.kind_) ∧ W'.cell? ⟨w.heap.size, 1, none⟩ = some (.string x.name_) ∧ W'.cell? ⟨w.heap.size, 2, none⟩ = some (.slice A x.args_.length a) ∧
      W'.cell? ⟨w.heap.size + 1, 0, none⟩ = some (.int .i64 y.kind_) ∧ W'.cell? ⟨w.heap.size + 1, 1, none⟩ = some (.string y.name_) ∧ W'.cell? ⟨w.heap.size + 1, 2, none⟩ = some (.slice C y.args_.length c) := fun W' h => by
    obtain ⟨k0, k1, k2⟩ := cells3 (hx1.below h hx1.lt)
    obtain ⟨l0, l1, l2⟩ := cells3 (hz.below h hz.lt)
    exact ⟨k0, k1, k2, l0, l1, l2⟩
  have HCE := Lib.hid hce
  have HX := Lib.hid (hv.grow hb0)
  have HY := Lib.hid (hv'.grow hb0)
  have HB := Lib.hid hb0
  have HW := Lib.hid hW.symm
  have hwlt := hz.lt
  clear hce hb0 hz hv hv' hs hW hx1
  go_enter Tryd.func13, Tryd.ntmps13
  go_upto_region 1 with (fail)
  rw [HW.out]
  obtain ⟨p0, p1, p2, p3, p4, p5⟩ := HCE.out _ (Below.refl _ _)
  have hcur : Below W.heap.size W W := Below.refl _ _
  go_region_held3 (fun w' => w'.cell? ⟨w.heap.size, 0, none⟩ = some (.int .i64 x.kind_) ∧ w'.cell? ⟨w.heap.size, 1, none⟩ = some (.string x.name_) ∧ w'.cell? ⟨w.heap.size, 2, none⟩ = some (.slice A x.args_.length a) ∧
      w'.cell? ⟨w.heap.size + 1, 0, none⟩ = some (.int .i64 y.kind_) ∧ w'.cell? ⟨w.heap.size + 1, 1, none⟩ = some (.string y.name_) ∧ w'.cell? ⟨w.heap.size + 1, 2, none⟩ = some (.slice C y.args_.length c))
    (first
      | go_keep
      | exact HCE.out _ hcur)
    (first
      | (go_at_call_of 26 (Value.agg #[.int .i64 x.kind_, .string x.name_, .slice A x.args_.length a])
         refine (specCanon x A a W.drew  hx (HX.out.grow ((Below.refl _ W).drew))).mono ?_
         intro e w1 hm
         obtain ⟨vs1, bs1, A1, c1, rfl, rfl, hO1, hn1, hb1⟩ := madeT_get hm
         have hcur : Below W.heap.size W w1 := (Below.refl _ W).drew.trans hb1
         have hr1 := OwVs_read (P := Und w1.heap.size) x.canon.cells (fun b hb' => (OwVs_lt x.canon.cells hO1 b hb').2) hO1
         have HR1 := Lib.hid hr1
         have HC1 := Lib.hid hcur
         clear hm hO1 hn1 hb1 hr1)
      | (go_at_call_of 26 (Value.agg #[.int .i64 y.kind_, .string y.name_, .slice C y.args_.length c])
         refine (specCanon y C c w1  hy (HY.out.grow HC1.out)).mono ?_
         intro e w2 hm
         obtain ⟨vs2, bs2, A2, c2, rfl, rfl, hO2, hn2, hb2⟩ := madeT_get hm
         have hcur : Below W.heap.size W w2 := HC1.out.trans (hb2.mono HC1.out.size)
         have hr2 := OwVs_read (P := Und w2.heap.size) y.canon.cells (fun b hb' => (OwVs_lt y.canon.cells hO2 b hb').2) hO2
         have hr1' := RdVs_frame (Q := Und w2.heap.size) (fun b (hb' : b < w1.heap.size) => Nat.lt_of_lt_of_le hb' hb2.size) (fun b o (hb' : b < w1.heap.size) => hb2.cell (p := ⟨b, o, none⟩) hb') x.canon.cells HR1.out
         have HR1' := Lib.hid hr1'
         have HR2 := Lib.hid hr2
         have HC2 := Lib.hid hcur
         clear hm hO2 hn2 hb2 hr2 hr1')
      | (go_at_call 15
         refine (specSameTy x.canon y.canon _ _ w2 (TypeAt.of_reads HR1'.out) (TypeAt.of_reads HR2.out)).mono ?_
         rintro e w3 ⟨rfl, hb3⟩
         have hcur : Below W.heap.size W w3 := HC2.out.trans (hb3.mono HC2.out.size)
         have HC3 := Lib.hid hcur
         clear hb3))
  all_goals
    go_wp2
    go_ret
    exact ⟨rfl, HB.out.trans (HC3.out.mono HB.out.size)⟩
end Go.Proofs.YtngbilblddngcaaDoor

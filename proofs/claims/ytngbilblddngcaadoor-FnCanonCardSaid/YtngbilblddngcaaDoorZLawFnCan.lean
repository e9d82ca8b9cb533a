/- The law on alpha equivalence over drawn types: it is mutual matching; the canonical form is its own. -/
import Derived.Test.YtngbilblddngcaaDoorZDrawAl
import Derived.Test.YtngbilblddngcaaDoorZCanQ
import Derived.Test.YtngbilblddngcaaDoorZSpCan2
import Derived.Test.YtngbilblddngcaaDoorZMatchI
import Derived.Test.YtngbilblddngcaaDoorQ2
import Derived.Deep.RegionHeld3
namespace Go.Proofs.YtngbilblddngcaaDoor
open Go.RowKit Go.Lib

set_option maxRecDepth 100000 in
set_option maxHeartbeats 8000000 in
theorem lawFnCan (A0 : Option Addr) (n c0 : Nat) (w : World) (hA : BytesAt w w.heap.size A0 n) (hn : n ≤ 9223372036854775807) (hpw : Pow w) :
    Calls Tryd.prog 3 #[.slice A0 n c0] w fun e w' => e = .returned (.bool true) ∧ Below w.heap.size w w' := by
  have HA := Lib.hid hA
  have HPW := Lib.hid hpw
  clear hA hpw
  by_cases hbig : n ≤ 1048576
  · go_enter Tryd.func3, Tryd.ntmps3
    go_wp2_with fail
    refine (bigNo A0 n c0 _ hbig).mono ?_
    rintro e w1 ⟨rfl, rfl⟩
    go_wp2_with fail
    refine (drawAl A0 n c0 _ HA.out (by omega)).mono ?_
    rintro e w1 ⟨p, A, a, t, C, c, rfl, hp, ht, hps, hpl, hts, htl, hb1⟩
    obtain ⟨wa, hwa⟩ : ∃ wa, wa = (w1.alloc (.cells #[.int .i64 p.kind_, .string p.name_, .slice A p.args_.length a] 26)).alloc (.cells #[.int .i64 t.kind_, .string t.name_, .slice C t.args_.length c] 26) := ⟨_, rfl⟩
    have nb : Below w1.heap.size w1 wa := by rw [hwa]; exact ((Below.refl _ _).alloc (Nat.le_refl _) _).alloc (by simp) _
    have hsa : wa.heap.size = w1.heap.size + 2 := by rw [hwa]; simp
    have hx1 : Whole wa w1.heap.size 26 #[.int .i64 p.kind_, .string p.name_, .slice A p.args_.length a] := by rw [hwa]; exact (Whole.new w1 _ _).below ((Below.refl (w1.heap.size + 1) _).alloc (by simp) _) (by omega)
    have hx2 : Whole wa (w1.heap.size + 1) 26 #[.int .i64 t.kind_, .string t.name_, .slice C t.args_.length c] := by
      have h := Whole.new (w1.alloc (.cells #[.int .i64 p.kind_, .string p.name_, .slice A p.args_.length a] 26)) 26 #[.int .i64 t.kind_, .string t.name_, .slice C t.args_.length c]
      rw [World.size_alloc] at h
      rw [hwa]; exact h
    have hal := alpha_iff hpl htl
    obtain ⟨ok, hok⟩ : ∃ ok, ok = p.canon.same t.canon := ⟨_, rfl⟩
    obtain ⟨m1, hm1⟩ : ∃ m, m = (p.mat t []).isSome := ⟨_, rfl⟩
    obtain ⟨m2, hm2⟩ : ∃ m, m = (t.mat p []).isSome := ⟨_, rfl⟩
    rw [← hok, ← hm1, ← hm2] at hal
    obtain ⟨y, hy⟩ : ∃ y, y = p.canon := ⟨_, rfl⟩
    have hyy : y.canon = y := by rw [hy, canon_canon hpl]
    have hys : y.size ≤ 100 := by rw [hy]; exact Nat.le_trans (canon_size p) hps
    have hpy : p.canon.same y.canon = true := by rw [hyy, hy, (TypeX.same_iff _ _).2 rfl]
    have HX1 := Lib.hid hx1
    have HX2 := Lib.hid hx2
    have HP := Lib.hid (hp.grow nb)
    have HT := Lib.hid (ht.grow nb)
    have HB := Lib.hid (hb1.trans (nb.mono hb1.size))
    have HWA := Lib.hid hwa.symm
    have HOK := Lib.hid hok
    have HM1 := Lib.hid hm1
    have HM2 := Lib.hid hm2
    have HY := Lib.hid hy
    have HYY := Lib.hid hyy
    have HPY := Lib.hid hpy
    have HAL := Lib.hid hal
    clear hp ht hx1 hx2 nb hwa hb1 hpl htl hok hm1 hm2 hy hyy hpy hal
    obtain ⟨p0, p1, p2⟩ := cells3 HX1.out
    obtain ⟨q0, q1, q2⟩ := cells3 HX2.out
    have pl := HX1.out.lt
    have ql := HX2.out.lt
    go_upto_region 4 with (fail)
    rw [HWA.out]
    go_wp2_with fail
    refine (implAlpha p t A C a c _ (HPW.out.below HB.out) (by omega) (by omega) HP.out HT.out).mono ?_
    rw [← HOK.out]
    rintro e w2 ⟨rfl, hcur⟩
    clear p0 p1 p2 q0 q1 q2 pl ql
    obtain ⟨p0, p1, p2⟩ := cells3 (whole_keep HX1.out hcur)
    have pl := (whole_keep HX1.out hcur).lt
    go_wp2_with fail
    refine (implCanon p A a _ (HPW.out.below (HB.out.trans (hcur.mono HB.out.size))) (by omega) (HP.out.grow hcur)).mono ?_
    rw [← HY.out]
    intro e w3 hm
    obtain ⟨vs3, bs3, D, dd, rfl, rfl, hO3, hn3, hb3⟩ := madeT_get hm
    obtain ⟨D', dd', e3, hr3⟩ := TypeAt.of_reads (OwVs_read (P := Und w3.heap.size) y.cells (fun b hb' => (OwVs_lt y.cells hO3 b hb').2) hO3)
    obtain ⟨rfl, rfl⟩ : D = D' ∧ dd = dd' := by simpa using e3
    have hcur := hcur.trans (hb3.mono hcur.size)
    obtain ⟨wb, hwb⟩ : ∃ wb, wb = w3.alloc (.cells #[.int .i64 y.kind_, .string y.name_, .slice D y.args_.length dd] 26) := ⟨_, rfl⟩
    have nb3 : Below w3.heap.size w3 wb := by rw [hwb]; exact (Below.refl _ _).alloc (Nat.le_refl _) _
    have hyx : Whole wb w3.heap.size 26 #[.int .i64 y.kind_, .string y.name_, .slice D y.args_.length dd] := by rw [hwb]; exact Whole.new _ _ _
    have hwab : Below wa.heap.size wa wb := hcur.trans (nb3.mono hcur.size)
    have RY := Lib.hid (hr3.grow nb3)
    have HYX := Lib.hid hyx
    have HPB := Lib.hid (HP.out.grow hwab)
    have HTB := Lib.hid (HT.out.grow hwab)
    have HXB1 := Lib.hid (whole_keep HX1.out hwab)
    have HXB2 := Lib.hid (whole_keep HX2.out hwab)
    have HBB := Lib.hid (HB.out.trans (hwab.mono HB.out.size))
    clear HB HP HT HX1 HX2 hcur
    have HB := HBB
    go_upto_region 6 with (fail)
    rw [← hwb]
    clear hwb hm hO3 hn3 hb3 hr3 p0 p1 p2 pl nb3 hyx hwab
    have H13 : Hid (∀ w' : World, Below wb.heap.size wb w' → Calls Tryd.prog 13 #[.agg #[.int .i64 p.kind_, .string p.name_, .slice A p.args_.length a], .agg #[.int .i64 t.kind_, .string t.name_, .slice C t.args_.length c]] w' fun e w'' => e = .returned (.bool ok) ∧ Below w'.heap.size w' w'') := Lib.hid fun w' h => by rw [HOK.out]; exact specAlpha p t A C a c w' (by omega) (by omega) (HPB.out.grow h) (HTB.out.grow h)
    have H14a : Hid (∀ w' : World, Below wb.heap.size wb w' → Calls Tryd.prog 14 #[.agg #[.int .i64 p.kind_, .string p.name_, .slice A p.args_.length a], .agg #[.int .i64 t.kind_, .string t.name_, .slice C t.args_.length c]] w' fun e w'' => e = .returned (.bool m1) ∧ Below w'.heap.size w' w'') := Lib.hid fun w' h => by rw [HM1.out]; exact implMatches p t A C a c w' (by omega) (by omega) (HPB.out.grow h) (HTB.out.grow h)
    have H14b : Hid (∀ w' : World, Below wb.heap.size wb w' → Calls Tryd.prog 14 #[.agg #[.int .i64 t.kind_, .string t.name_, .slice C t.args_.length c], .agg #[.int .i64 p.kind_, .string p.name_, .slice A p.args_.length a]] w' fun e w'' => e = .returned (.bool m2) ∧ Below w'.heap.size w' w'') := Lib.hid fun w' h => by rw [HM2.out]; exact implMatches t p C A c a w' (by omega) (by omega) (HTB.out.grow h) (HPB.out.grow h)
    have H12 : Hid (∀ w' : World, Below wb.heap.size wb w' → Calls Tryd.prog 12 #[.agg #[.int .i64 y.kind_, .string y.name_, .slice D y.args_.length dd]] w' (MadeV y.cells w')) := Lib.hid fun w' h => by
      have hc := implCanon y D dd w' (HPW.out.below (HB.out.trans (h.mono HB.out.size))) (by omega) (RY.out.grow h)
      rw [HYY.out] at hc
      exact hc
    have H11 : Hid (∀ w' : World, Below wb.heap.size wb w' → Calls Tryd.prog 11 #[.agg #[.int .i64 p.kind_, .string p.name_, .slice A p.args_.length a], .agg #[.int .i64 y.kind_, .string y.name_, .slice D y.args_.length dd]] w' fun e w'' => e = .returned (.bool true) ∧ Below w'.heap.size w' w'') := Lib.hid fun w' h => by
      rw [← HPY.out]
      exact implAlpha p y A D a dd w' (HPW.out.below (HB.out.trans (h.mono HB.out.size))) (by omega) (by omega) (HPB.out.grow h) (RY.out.grow h)
    have hcur : Below wb.heap.size wb wb.drew := (Below.refl _ wb).drew
    have KS : Hid (∀ w' : World, Below wb.heap.size wb w' → (fun w' => w'.cell? ⟨w1.heap.size, 0, none⟩ = some (.int .i64 p.kind_) ∧ w'.cell? ⟨w1.heap.size, 1, none⟩ = some (.string p.name_) ∧ w'.cell? ⟨w1.heap.size, 2, none⟩ = some (.slice A p.args_.length a) ∧ w'.cell? ⟨w1.heap.size + 1, 0, none⟩ = some (.int .i64 t.kind_) ∧ w'.cell? ⟨w1.heap.size + 1, 1, none⟩ = some (.string t.name_) ∧ w'.cell? ⟨w1.heap.size + 1, 2, none⟩ = some (.slice C t.args_.length c) ∧ w'.cell? ⟨w3.heap.size, 0, none⟩ = some (.int .i64 y.kind_) ∧ w'.cell? ⟨w3.heap.size, 1, none⟩ = some (.string y.name_) ∧ w'.cell? ⟨w3.heap.size, 2, none⟩ = some (.slice D y.args_.length dd)) w') := Lib.hid fun w' h => by
      obtain ⟨p0, p1, p2⟩ := cells3 (whole_keep HXB1.out h)
      obtain ⟨q0, q1, q2⟩ := cells3 (whole_keep HXB2.out h)
      obtain ⟨z0, z1, z2⟩ := cells3 (whole_keep HYX.out h)
      exact ⟨p0, p1, p2, q0, q1, q2, z0, z1, z2⟩
    obtain ⟨p0, p1, p2⟩ := cells3 HXB1.out
    obtain ⟨q0, q1, q2⟩ := cells3 HXB2.out
    obtain ⟨z0, z1, z2⟩ := cells3 HYX.out
    have hal := HAL.out
    clear HAL HOK HM1 HM2 HPY HXB1 HXB2 HYX
    subst hal
    cases m1 with
    | false =>
      refine wp_region_held_drew (S := fun w' => w'.cell? ⟨w1.heap.size, 0, none⟩ = some (.int .i64 p.kind_) ∧ w'.cell? ⟨w1.heap.size, 1, none⟩ = some (.string p.name_) ∧ w'.cell? ⟨w1.heap.size, 2, none⟩ = some (.slice A p.args_.length a) ∧ w'.cell? ⟨w1.heap.size + 1, 0, none⟩ = some (.int .i64 t.kind_) ∧ w'.cell? ⟨w1.heap.size + 1, 1, none⟩ = some (.string t.name_) ∧ w'.cell? ⟨w1.heap.size + 1, 2, none⟩ = some (.slice C t.args_.length c) ∧ w'.cell? ⟨w3.heap.size, 0, none⟩ = some (.int .i64 y.kind_) ∧ w'.cell? ⟨w3.heap.size, 1, none⟩ = some (.string y.name_) ∧ w'.cell? ⟨w3.heap.size, 2, none⟩ = some (.slice D y.args_.length dd)) (by kernel_rfl) (KS.out _ hcur) (fun hHeld => ?_)
      refine wpAnyH_take (i := 0) (oi := { dst := some 19, op := Op.move (Operand.tmp 5), type := 4, pos := "laws.go:387", after := #[], guard := none }) (v := ?_) rfl (by kernel_rfl) (by kernel_rfl) (by kernel_rfl) (fun _ _ _ h => h) (.inl ⟨by rfl, ?_⟩) (by assumption) ?_
      rotate_left
      · intro w' hSw
        (try dsimp only at hSw)
        go_simp
        try with_reducible rfl
      (try simp only [Act.put, List.setIfInBounds_toArray, List.set_cons_zero, List.set_cons_succ])
      refine wpAnyH_take (i := 1) (oi := { dst := some 20, op := Op.load 26 (Operand.tmp 3), type := 26, pos := "laws.go:387", after := #[], guard := none }) (v := ?_) rfl (by kernel_rfl) (by kernel_rfl) (by kernel_rfl) (fun _ _ _ h => h) (.inl ⟨by rfl, ?_⟩) (by assumption) ?_
      rotate_left
      · intro w' hSw
        (try dsimp only at hSw)
        go_simp
        try with_reducible rfl
      (try simp only [Act.put, List.setIfInBounds_toArray, List.set_cons_zero, List.set_cons_succ])
      refine wpAnyH_take (i := 2) (oi := { dst := some 21, op := Op.load 26 (Operand.tmp 4), type := 26, pos := "laws.go:387", after := #[], guard := none }) (v := ?_) rfl (by kernel_rfl) (by kernel_rfl) (by kernel_rfl) (fun _ _ _ h => h) (.inl ⟨by rfl, ?_⟩) (by assumption) ?_
      rotate_left
      · intro w' hSw
        (try dsimp only at hSw)
        go_simp
        try with_reducible rfl
      (try simp only [Act.put, List.setIfInBounds_toArray, List.set_cons_zero, List.set_cons_succ])
      refine wpAnyH_ready (rs := [3]) (by kernel_rfl) (by simp) ?_
      refine AllReadyH.cons (o := { dst := some 22, op := Op.call { callee := Callee.value (Operand.func 13), args := #[Operand.tmp 20, Operand.tmp 21], argTypes := #[26, 26] }, type := 4, pos := "laws.go:387", after := #[{ on := 1, ground := Ground.data }, { on := 2, ground := Ground.data }], guard := none }) rfl (fun K hK => ?_) ?_
      rotate_left
      · exact AllReadyH.nil
      go_simp
      refine (H13.out _ hcur).mono ?_
      rintro e w9 ⟨rfl, hb9⟩
      have hcur := hcur.trans (hb9.mono hcur.size)
      go_wp2_with fail
      refine hK.out _ _ (KS.out _ hcur) (fun hHeld => ?_)
      clear hK K
      (try simp only [Act.put, List.setIfInBounds_toArray, List.set_cons_zero, List.set_cons_succ])
      refine wpAnyH_take (i := 4) (oi := { dst := some 23, op := Op.binOp BinOp.eql 4 (Operand.tmp 19) (Operand.tmp 22) 4, type := 4, pos := "laws.go:387", after := #[{ on := 0, ground := Ground.data }, { on := 3, ground := Ground.data }], guard := none }) (v := ?_) rfl (by kernel_rfl) (by kernel_rfl) (by kernel_rfl) (fun _ _ _ h => h) (.inl ⟨by rfl, ?_⟩) (by assumption) ?_
      rotate_left
      · intro w' hSw
        (try dsimp only at hSw)
        go_simp
        try with_reducible rfl
      (try simp only [Act.put, List.setIfInBounds_toArray, List.set_cons_zero, List.set_cons_succ])
      refine wpAnyH_take (i := 5) (oi := { dst := some 24, op := Op.move (Operand.tmp 23), type := 4, pos := "laws.go:387", after := #[{ on := 4, ground := Ground.data }, { on := 3, ground := Ground.chain }], guard := none }) (v := ?_) rfl (by kernel_rfl) (by kernel_rfl) (by kernel_rfl) (fun _ _ _ h => h) (.inl ⟨by rfl, ?_⟩) (by assumption) ?_
      rotate_left
      · intro w' hSw
        (try dsimp only at hSw)
        go_simp
        try with_reducible rfl
      (try simp only [Act.put, List.setIfInBounds_toArray, List.set_cons_zero, List.set_cons_succ])
      refine wpAnyH_take (i := 6) (oi := { dst := some 25, op := Op.move (Operand.tmp 5), type := 4, pos := "laws.go:387", after := #[{ on := 5, ground := Ground.guard }], guard := some (5, true) }) (v := ?_) rfl (by kernel_rfl) (by kernel_rfl) (by kernel_rfl) (fun _ _ _ h => h) (.inl ⟨by rfl, ?_⟩) (by assumption) ?_
      rotate_left
      · intro w' hSw
        (try dsimp only at hSw)
        go_simp
        try with_reducible rfl
      (try simp only [Act.put, List.setIfInBounds_toArray, List.set_cons_zero, List.set_cons_succ])
      refine wpAnyH_take (i := 7) (oi := { dst := some 26, op := Op.load 26 (Operand.tmp 3), type := 26, pos := "laws.go:387", after := #[{ on := 5, ground := Ground.guard }], guard := some (5, true) }) (v := ?_) rfl (by kernel_rfl) (by kernel_rfl) (by kernel_rfl) (fun _ _ _ h => h) (.inl ⟨by rfl, ?_⟩) (by assumption) ?_
      rotate_left
      · intro w' hSw
        (try dsimp only at hSw)
        go_simp
        try with_reducible rfl
      (try simp only [Act.put, List.setIfInBounds_toArray, List.set_cons_zero, List.set_cons_succ])
      refine wpAnyH_take (i := 8) (oi := { dst := some 27, op := Op.load 26 (Operand.tmp 4), type := 26, pos := "laws.go:387", after := #[{ on := 5, ground := Ground.guard }], guard := some (5, true) }) (v := ?_) rfl (by kernel_rfl) (by kernel_rfl) (by kernel_rfl) (fun _ _ _ h => h) (.inl ⟨by rfl, ?_⟩) (by assumption) ?_
      rotate_left
      · intro w' hSw
        (try dsimp only at hSw)
        go_simp
        try with_reducible rfl
      (try simp only [Act.put, List.setIfInBounds_toArray, List.set_cons_zero, List.set_cons_succ])
      refine wpAnyH_ready (rs := [9]) (by kernel_rfl) (by simp) ?_
      refine AllReadyH.cons (o := { dst := some 28, op := Op.call { callee := Callee.value (Operand.func 14), args := #[Operand.tmp 26, Operand.tmp 27], argTypes := #[26, 26] }, type := 4, pos := "laws.go:387", after := #[{ on := 7, ground := Ground.data }, { on := 8, ground := Ground.data }, { on := 5, ground := Ground.chain }, { on := 5, ground := Ground.guard }], guard := some (5, true) }) rfl (fun K hK => ?_) ?_
      rotate_left
      · exact AllReadyH.nil
      go_simp
      refine (H14a.out _ hcur).mono ?_
      rintro e w9 ⟨rfl, hb9⟩
      have hcur := hcur.trans (hb9.mono hcur.size)
      go_wp2_with fail
      refine hK.out _ _ (KS.out _ hcur) (fun hHeld => ?_)
      clear hK K
      (try simp only [Act.put, List.setIfInBounds_toArray, List.set_cons_zero, List.set_cons_succ])
      refine wpAnyH_take (i := 10) (oi := { dst := some 29, op := Op.move (Operand.tmp 28), type := 4, pos := "laws.go:387", after := #[{ on := 9, ground := Ground.data }, { on := 9, ground := Ground.chain }, { on := 5, ground := Ground.guard }], guard := some (5, true) }) (v := ?_) rfl (by kernel_rfl) (by kernel_rfl) (by kernel_rfl) (fun _ _ _ h => h) (.inl ⟨by rfl, ?_⟩) (by assumption) ?_
      rotate_left
      · intro w' hSw
        (try dsimp only at hSw)
        go_simp
        try with_reducible rfl
      (try simp only [Act.put, List.setIfInBounds_toArray, List.set_cons_zero, List.set_cons_succ])
      refine wpAnyH_take (i := 11) (oi := { dst := some 30, op := Op.load 26 (Operand.tmp 4), type := 26, pos := "laws.go:387", after := #[{ on := 10, ground := Ground.guard }], guard := some (10, true) }) (v := undef) rfl (by kernel_rfl) (by kernel_rfl) (by kernel_rfl) (fun _ _ _ h => h) (.inr ⟨by rfl, rfl⟩) (by assumption) ?_
      (try simp only [Act.put, List.setIfInBounds_toArray, List.set_cons_zero, List.set_cons_succ])
      refine wpAnyH_take (i := 12) (oi := { dst := some 31, op := Op.load 26 (Operand.tmp 3), type := 26, pos := "laws.go:387", after := #[{ on := 10, ground := Ground.guard }], guard := some (10, true) }) (v := undef) rfl (by kernel_rfl) (by kernel_rfl) (by kernel_rfl) (fun _ _ _ h => h) (.inr ⟨by rfl, rfl⟩) (by assumption) ?_
      (try simp only [Act.put, List.setIfInBounds_toArray, List.set_cons_zero, List.set_cons_succ])
      refine wpAnyH_take (i := 13) (oi := { dst := some 32, op := Op.call { callee := Callee.value (Operand.func 14), args := #[Operand.tmp 30, Operand.tmp 31], argTypes := #[26, 26] }, type := 4, pos := "laws.go:387", after := #[{ on := 11, ground := Ground.data }, { on := 12, ground := Ground.data }, { on := 10, ground := Ground.chain }, { on := 10, ground := Ground.guard }], guard := some (10, true) }) (v := undef) rfl (by kernel_rfl) (by kernel_rfl) (by kernel_rfl) (fun _ _ _ h => h) (.inr ⟨by rfl, rfl⟩) (by assumption) ?_
      (try simp only [Act.put, List.setIfInBounds_toArray, List.set_cons_zero, List.set_cons_succ])
      refine wpAnyH_take (i := 14) (oi := { dst := some 33, op := Op.pick (Operand.tmp 29) (Operand.tmp 32) (Operand.const (Value.bool false)), type := 4, pos := "laws.go:387", after := #[{ on := 10, ground := Ground.data }, { on := 13, ground := Ground.data }, { on := 5, ground := Ground.guard }], guard := some (5, true) }) (v := ?_) rfl (by kernel_rfl) (by kernel_rfl) (by kernel_rfl) (fun _ _ _ h => h) (.inl ⟨by rfl, ?_⟩) (by assumption) ?_
      rotate_left
      · intro w' hSw
        (try dsimp only at hSw)
        go_simp
        try with_reducible rfl
      (try simp only [Act.put, List.setIfInBounds_toArray, List.set_cons_zero, List.set_cons_succ])
      refine wpAnyH_take (i := 15) (oi := { dst := some 34, op := Op.binOp BinOp.eql 4 (Operand.tmp 25) (Operand.tmp 33) 4, type := 4, pos := "laws.go:387", after := #[{ on := 6, ground := Ground.data }, { on := 14, ground := Ground.data }, { on := 5, ground := Ground.guard }], guard := some (5, true) }) (v := ?_) rfl (by kernel_rfl) (by kernel_rfl) (by kernel_rfl) (fun _ _ _ h => h) (.inl ⟨by rfl, ?_⟩) (by assumption) ?_
      rotate_left
      · intro w' hSw
        (try dsimp only at hSw)
        go_simp
        try with_reducible rfl
      (try simp only [Act.put, List.setIfInBounds_toArray, List.set_cons_zero, List.set_cons_succ])
      refine wpAnyH_take (i := 16) (oi := { dst := some 35, op := Op.pick (Operand.tmp 24) (Operand.tmp 34) (Operand.const (Value.bool false)), type := 4, pos := "laws.go:387", after := #[{ on := 5, ground := Ground.data }, { on := 15, ground := Ground.data }], guard := none }) (v := ?_) rfl (by kernel_rfl) (by kernel_rfl) (by kernel_rfl) (fun _ _ _ h => h) (.inl ⟨by rfl, ?_⟩) (by assumption) ?_
      rotate_left
      · intro w' hSw
        (try dsimp only at hSw)
        go_simp
        try with_reducible rfl
      (try simp only [Act.put, List.setIfInBounds_toArray, List.set_cons_zero, List.set_cons_succ])
      refine wpAnyH_take (i := 17) (oi := { dst := some 36, op := Op.move (Operand.tmp 35), type := 4, pos := "laws.go:387", after := #[{ on := 16, ground := Ground.data }, { on := 13, ground := Ground.chain }], guard := none }) (v := ?_) rfl (by kernel_rfl) (by kernel_rfl) (by kernel_rfl) (fun _ _ _ h => h) (.inl ⟨by rfl, ?_⟩) (by assumption) ?_
      rotate_left
      · intro w' hSw
        (try dsimp only at hSw)
        go_simp
        try with_reducible rfl
      (try simp only [Act.put, List.setIfInBounds_toArray, List.set_cons_zero, List.set_cons_succ])
      refine wpAnyH_take (i := 18) (oi := { dst := some 37, op := Op.load 26 (Operand.tmp 6), type := 26, pos := "laws.go:387", after := #[{ on := 17, ground := Ground.guard }], guard := some (17, true) }) (v := ?_) rfl (by kernel_rfl) (by kernel_rfl) (by kernel_rfl) (fun _ _ _ h => h) (.inl ⟨by rfl, ?_⟩) (by assumption) ?_
      rotate_left
      · intro w' hSw
        (try dsimp only at hSw)
        go_simp
        try with_reducible rfl
      (try simp only [Act.put, List.setIfInBounds_toArray, List.set_cons_zero, List.set_cons_succ])
      refine wpAnyH_take (i := 20) (oi := { dst := some 39, op := Op.load 26 (Operand.tmp 6), type := 26, pos := "laws.go:387", after := #[{ on := 17, ground := Ground.guard }], guard := some (17, true) }) (v := ?_) rfl (by kernel_rfl) (by kernel_rfl) (by kernel_rfl) (fun _ _ _ h => h) (.inl ⟨by rfl, ?_⟩) (by assumption) ?_
      rotate_left
      · intro w' hSw
        (try dsimp only at hSw)
        go_simp
        try with_reducible rfl
      (try simp only [Act.put, List.setIfInBounds_toArray, List.set_cons_zero, List.set_cons_succ])
      refine wpAnyH_ready (rs := [19]) (by kernel_rfl) (by simp) ?_
      refine AllReadyH.cons (o := { dst := some 38, op := Op.call { callee := Callee.value (Operand.func 12), args := #[Operand.tmp 37], argTypes := #[26] }, type := 26, pos := "laws.go:387", after := #[{ on := 18, ground := Ground.data }, { on := 17, ground := Ground.chain }, { on := 17, ground := Ground.guard }], guard := some (17, true) }) rfl (fun K hK => ?_) ?_
      rotate_left
      · exact AllReadyH.nil
      go_simp
      refine (H12.out _ hcur).mono ?_
      intro e w9 hm
      obtain ⟨vs9, bs9, A9, c9, rfl, rfl, hO9, hn9, hb9⟩ := madeT_get hm
      have hcur := hcur.trans (hb9.mono hcur.size)
      have R9 := Lib.hid (OwVs_read (P := Und w9.heap.size) y.cells (fun b hb' => (OwVs_lt y.cells hO9 b hb').2) hO9)
      clear hm hO9 hn9
      go_wp2_with fail
      refine hK.out _ _ (KS.out _ hcur) (fun hHeld => ?_)
      clear hK K
      (try simp only [Act.put, List.setIfInBounds_toArray, List.set_cons_zero, List.set_cons_succ])
      refine wpAnyH_ready (rs := [21]) (by kernel_rfl) (by simp) ?_
      refine AllReadyH.cons (o := { dst := some 40, op := Op.call { callee := Callee.value (Operand.func 15), args := #[Operand.tmp 38, Operand.tmp 39], argTypes := #[26, 26] }, type := 4, pos := "laws.go:387", after := #[{ on := 19, ground := Ground.data }, { on := 20, ground := Ground.data }, { on := 19, ground := Ground.chain }, { on := 17, ground := Ground.guard }], guard := some (17, true) }) rfl (fun K hK => ?_) ?_
      rotate_left
      · exact AllReadyH.nil
      go_simp
      refine (specSameTy y y _ _ _ (TypeAt.of_reads R9.out) ⟨_, _, rfl, RY.out.grow hcur⟩).mono ?_
      rw [(TypeX.same_iff y y).2 rfl]
      rintro e w9 ⟨rfl, hb9⟩
      have hcur := hcur.trans (hb9.mono hcur.size)
      go_wp2_with fail
      refine hK.out _ _ (KS.out _ hcur) (fun hHeld => ?_)
      clear hK K
      (try simp only [Act.put, List.setIfInBounds_toArray, List.set_cons_zero, List.set_cons_succ])
      refine wpAnyH_take (i := 22) (oi := { dst := some 41, op := Op.pick (Operand.tmp 36) (Operand.tmp 40) (Operand.const (Value.bool false)), type := 4, pos := "laws.go:387", after := #[{ on := 17, ground := Ground.data }, { on := 21, ground := Ground.data }], guard := none }) (v := ?_) rfl (by kernel_rfl) (by kernel_rfl) (by kernel_rfl) (fun _ _ _ h => h) (.inl ⟨by rfl, ?_⟩) (by assumption) ?_
      rotate_left
      · intro w' hSw
        (try dsimp only at hSw)
        go_simp
        try with_reducible rfl
      (try simp only [Act.put, List.setIfInBounds_toArray, List.set_cons_zero, List.set_cons_succ])
      refine wpAnyH_take (i := 23) (oi := { dst := some 42, op := Op.move (Operand.tmp 41), type := 4, pos := "laws.go:387", after := #[{ on := 22, ground := Ground.data }, { on := 21, ground := Ground.chain }], guard := none }) (v := ?_) rfl (by kernel_rfl) (by kernel_rfl) (by kernel_rfl) (fun _ _ _ h => h) (.inl ⟨by rfl, ?_⟩) (by assumption) ?_
      rotate_left
      · intro w' hSw
        (try dsimp only at hSw)
        go_simp
        try with_reducible rfl
      (try simp only [Act.put, List.setIfInBounds_toArray, List.set_cons_zero, List.set_cons_succ])
      refine wpAnyH_take (i := 24) (oi := { dst := some 43, op := Op.load 26 (Operand.tmp 3), type := 26, pos := "laws.go:387", after := #[{ on := 23, ground := Ground.guard }], guard := some (23, true) }) (v := ?_) rfl (by kernel_rfl) (by kernel_rfl) (by kernel_rfl) (fun _ _ _ h => h) (.inl ⟨by rfl, ?_⟩) (by assumption) ?_
      rotate_left
      · intro w' hSw
        (try dsimp only at hSw)
        go_simp
        try with_reducible rfl
      (try simp only [Act.put, List.setIfInBounds_toArray, List.set_cons_zero, List.set_cons_succ])
      refine wpAnyH_take (i := 25) (oi := { dst := some 44, op := Op.load 26 (Operand.tmp 6), type := 26, pos := "laws.go:387", after := #[{ on := 23, ground := Ground.guard }], guard := some (23, true) }) (v := ?_) rfl (by kernel_rfl) (by kernel_rfl) (by kernel_rfl) (fun _ _ _ h => h) (.inl ⟨by rfl, ?_⟩) (by assumption) ?_
      rotate_left
      · intro w' hSw
        (try dsimp only at hSw)
        go_simp
        try with_reducible rfl
      (try simp only [Act.put, List.setIfInBounds_toArray, List.set_cons_zero, List.set_cons_succ])
      refine wpAnyH_ready (rs := [26]) (by kernel_rfl) (by simp) ?_
      refine AllReadyH.cons (o := { dst := some 45, op := Op.call { callee := Callee.value (Operand.func 11), args := #[Operand.tmp 43, Operand.tmp 44], argTypes := #[26, 26] }, type := 4, pos := "laws.go:387", after := #[{ on := 24, ground := Ground.data }, { on := 25, ground := Ground.data }, { on := 23, ground := Ground.chain }, { on := 23, ground := Ground.guard }], guard := some (23, true) }) rfl (fun K hK => ?_) ?_
      rotate_left
      · exact AllReadyH.nil
      go_simp
      refine (H11.out _ hcur).mono ?_
      rintro e w9 ⟨rfl, hb9⟩
      have hcur := hcur.trans (hb9.mono hcur.size)
      go_wp2_with fail
      refine hK.out _ _ (KS.out _ hcur) (fun hHeld => ?_)
      clear hK K
      (try simp only [Act.put, List.setIfInBounds_toArray, List.set_cons_zero, List.set_cons_succ])
      refine wpAnyH_take (i := 27) (oi := { dst := some 46, op := Op.pick (Operand.tmp 42) (Operand.tmp 45) (Operand.const (Value.bool false)), type := 4, pos := "laws.go:387", after := #[{ on := 23, ground := Ground.data }, { on := 26, ground := Ground.data }], guard := none }) (v := ?_) rfl (by kernel_rfl) (by kernel_rfl) (by kernel_rfl) (fun _ _ _ h => h) (.inl ⟨by rfl, ?_⟩) (by assumption) ?_
      rotate_left
      · intro w' hSw
        (try dsimp only at hSw)
        go_simp
        try with_reducible rfl
      (try simp only [Act.put, List.setIfInBounds_toArray, List.set_cons_zero, List.set_cons_succ])
      refine wpAnyH_take (i := 28) (oi := { dst := some 2, op := Op.assign (Operand.tmp 46), type := 4, pos := "laws.go:387", after := #[{ on := 27, ground := Ground.data }, { on := 26, ground := Ground.chain }, { on := 0, ground := Ground.phase }, { on := 1, ground := Ground.phase }, { on := 2, ground := Ground.phase }, { on := 3, ground := Ground.phase }, { on := 4, ground := Ground.phase }, { on := 5, ground := Ground.phase }, { on := 6, ground := Ground.phase }, { on := 7, ground := Ground.phase }, { on := 8, ground := Ground.phase }, { on := 9, ground := Ground.phase }, { on := 10, ground := Ground.phase }, { on := 11, ground := Ground.phase }, { on := 12, ground := Ground.phase }, { on := 13, ground := Ground.phase }, { on := 14, ground := Ground.phase }, { on := 15, ground := Ground.phase }, { on := 16, ground := Ground.phase }, { on := 17, ground := Ground.phase }, { on := 18, ground := Ground.phase }, { on := 19, ground := Ground.phase }, { on := 20, ground := Ground.phase }, { on := 21, ground := Ground.phase }, { on := 22, ground := Ground.phase }, { on := 23, ground := Ground.phase }, { on := 24, ground := Ground.phase }, { on := 25, ground := Ground.phase }, { on := 26, ground := Ground.phase }, { on := 27, ground := Ground.phase }], guard := none }) (v := ?_) rfl (by kernel_rfl) (by kernel_rfl) (by kernel_rfl) (fun _ _ _ h => h) (.inl ⟨by rfl, ?_⟩) (by assumption) ?_
      rotate_left
      · intro w' hSw
        (try dsimp only at hSw)
        go_simp
        try with_reducible rfl
      (try simp only [Act.put, List.setIfInBounds_toArray, List.set_cons_zero, List.set_cons_succ])
      refine wpAnyH_done (by kernel_rfl) ?_ _
      go_wp2
      go_ret
      exact ⟨rfl, HB.out.trans (hcur.mono HB.out.size)⟩
    | true =>
      cases m2 with
      | false =>
        refine wp_region_held_drew (S := fun w' => w'.cell? ⟨w1.heap.size, 0, none⟩ = some (.int .i64 p.kind_) ∧ w'.cell? ⟨w1.heap.size, 1, none⟩ = some (.string p.name_) ∧ w'.cell? ⟨w1.heap.size, 2, none⟩ = some (.slice A p.args_.length a) ∧ w'.cell? ⟨w1.heap.size + 1, 0, none⟩ = some (.int .i64 t.kind_) ∧ w'.cell? ⟨w1.heap.size + 1, 1, none⟩ = some (.string t.name_) ∧ w'.cell? ⟨w1.heap.size + 1, 2, none⟩ = some (.slice C t.args_.length c) ∧ w'.cell? ⟨w3.heap.size, 0, none⟩ = some (.int .i64 y.kind_) ∧ w'.cell? ⟨w3.heap.size, 1, none⟩ = some (.string y.name_) ∧ w'.cell? ⟨w3.heap.size, 2, none⟩ = some (.slice D y.args_.length dd)) (by kernel_rfl) (KS.out _ hcur) (fun hHeld => ?_)
        refine wpAnyH_take (i := 0) (oi := { dst := some 19, op := Op.move (Operand.tmp 5), type := 4, pos := "laws.go:387", after := #[], guard := none }) (v := ?_) rfl (by kernel_rfl) (by kernel_rfl) (by kernel_rfl) (fun _ _ _ h => h) (.inl ⟨by rfl, ?_⟩) (by assumption) ?_
        rotate_left
        · intro w' hSw
          (try dsimp only at hSw)
          go_simp
          try with_reducible rfl
        (try simp only [Act.put, List.setIfInBounds_toArray, List.set_cons_zero, List.set_cons_succ])
        refine wpAnyH_take (i := 1) (oi := { dst := some 20, op := Op.load 26 (Operand.tmp 3), type := 26, pos := "laws.go:387", after := #[], guard := none }) (v := ?_) rfl (by kernel_rfl) (by kernel_rfl) (by kernel_rfl) (fun _ _ _ h => h) (.inl ⟨by rfl, ?_⟩) (by assumption) ?_
        rotate_left
        · intro w' hSw
          (try dsimp only at hSw)
          go_simp
          try with_reducible rfl
        (try simp only [Act.put, List.setIfInBounds_toArray, List.set_cons_zero, List.set_cons_succ])
        refine wpAnyH_take (i := 2) (oi := { dst := some 21, op := Op.load 26 (Operand.tmp 4), type := 26, pos := "laws.go:387", after := #[], guard := none }) (v := ?_) rfl (by kernel_rfl) (by kernel_rfl) (by kernel_rfl) (fun _ _ _ h => h) (.inl ⟨by rfl, ?_⟩) (by assumption) ?_
        rotate_left
        · intro w' hSw
          (try dsimp only at hSw)
          go_simp
          try with_reducible rfl
        (try simp only [Act.put, List.setIfInBounds_toArray, List.set_cons_zero, List.set_cons_succ])
        refine wpAnyH_ready (rs := [3]) (by kernel_rfl) (by simp) ?_
        refine AllReadyH.cons (o := { dst := some 22, op := Op.call { callee := Callee.value (Operand.func 13), args := #[Operand.tmp 20, Operand.tmp 21], argTypes := #[26, 26] }, type := 4, pos := "laws.go:387", after := #[{ on := 1, ground := Ground.data }, { on := 2, ground := Ground.data }], guard := none }) rfl (fun K hK => ?_) ?_
        rotate_left
        · exact AllReadyH.nil
        go_simp
        refine (H13.out _ hcur).mono ?_
        rintro e w9 ⟨rfl, hb9⟩
        have hcur := hcur.trans (hb9.mono hcur.size)
        go_wp2_with fail
        refine hK.out _ _ (KS.out _ hcur) (fun hHeld => ?_)
        clear hK K
        (try simp only [Act.put, List.setIfInBounds_toArray, List.set_cons_zero, List.set_cons_succ])
        refine wpAnyH_take (i := 4) (oi := { dst := some 23, op := Op.binOp BinOp.eql 4 (Operand.tmp 19) (Operand.tmp 22) 4, type := 4, pos := "laws.go:387", after := #[{ on := 0, ground := Ground.data }, { on := 3, ground := Ground.data }], guard := none }) (v := ?_) rfl (by kernel_rfl) (by kernel_rfl) (by kernel_rfl) (fun _ _ _ h => h) (.inl ⟨by rfl, ?_⟩) (by assumption) ?_
        rotate_left
        · intro w' hSw
          (try dsimp only at hSw)
          go_simp
          try with_reducible rfl
        (try simp only [Act.put, List.setIfInBounds_toArray, List.set_cons_zero, List.set_cons_succ])
        refine wpAnyH_take (i := 5) (oi := { dst := some 24, op := Op.move (Operand.tmp 23), type := 4, pos := "laws.go:387", after := #[{ on := 4, ground := Ground.data }, { on := 3, ground := Ground.chain }], guard := none }) (v := ?_) rfl (by kernel_rfl) (by kernel_rfl) (by kernel_rfl) (fun _ _ _ h => h) (.inl ⟨by rfl, ?_⟩) (by assumption) ?_
        rotate_left
        · intro w' hSw
          (try dsimp only at hSw)
          go_simp
          try with_reducible rfl
        (try simp only [Act.put, List.setIfInBounds_toArray, List.set_cons_zero, List.set_cons_succ])
        refine wpAnyH_take (i := 6) (oi := { dst := some 25, op := Op.move (Operand.tmp 5), type := 4, pos := "laws.go:387", after := #[{ on := 5, ground := Ground.guard }], guard := some (5, true) }) (v := ?_) rfl (by kernel_rfl) (by kernel_rfl) (by kernel_rfl) (fun _ _ _ h => h) (.inl ⟨by rfl, ?_⟩) (by assumption) ?_
        rotate_left
        · intro w' hSw
          (try dsimp only at hSw)
          go_simp
          try with_reducible rfl
        (try simp only [Act.put, List.setIfInBounds_toArray, List.set_cons_zero, List.set_cons_succ])
        refine wpAnyH_take (i := 7) (oi := { dst := some 26, op := Op.load 26 (Operand.tmp 3), type := 26, pos := "laws.go:387", after := #[{ on := 5, ground := Ground.guard }], guard := some (5, true) }) (v := ?_) rfl (by kernel_rfl) (by kernel_rfl) (by kernel_rfl) (fun _ _ _ h => h) (.inl ⟨by rfl, ?_⟩) (by assumption) ?_
        rotate_left
        · intro w' hSw
          (try dsimp only at hSw)
          go_simp
          try with_reducible rfl
        (try simp only [Act.put, List.setIfInBounds_toArray, List.set_cons_zero, List.set_cons_succ])
        refine wpAnyH_take (i := 8) (oi := { dst := some 27, op := Op.load 26 (Operand.tmp 4), type := 26, pos := "laws.go:387", after := #[{ on := 5, ground := Ground.guard }], guard := some (5, true) }) (v := ?_) rfl (by kernel_rfl) (by kernel_rfl) (by kernel_rfl) (fun _ _ _ h => h) (.inl ⟨by rfl, ?_⟩) (by assumption) ?_
        rotate_left
        · intro w' hSw
          (try dsimp only at hSw)
          go_simp
          try with_reducible rfl
        (try simp only [Act.put, List.setIfInBounds_toArray, List.set_cons_zero, List.set_cons_succ])
        refine wpAnyH_ready (rs := [9]) (by kernel_rfl) (by simp) ?_
        refine AllReadyH.cons (o := { dst := some 28, op := Op.call { callee := Callee.value (Operand.func 14), args := #[Operand.tmp 26, Operand.tmp 27], argTypes := #[26, 26] }, type := 4, pos := "laws.go:387", after := #[{ on := 7, ground := Ground.data }, { on := 8, ground := Ground.data }, { on := 5, ground := Ground.chain }, { on := 5, ground := Ground.guard }], guard := some (5, true) }) rfl (fun K hK => ?_) ?_
        rotate_left
        · exact AllReadyH.nil
        go_simp
        refine (H14a.out _ hcur).mono ?_
        rintro e w9 ⟨rfl, hb9⟩
        have hcur := hcur.trans (hb9.mono hcur.size)
        go_wp2_with fail
        refine hK.out _ _ (KS.out _ hcur) (fun hHeld => ?_)
        clear hK K
        (try simp only [Act.put, List.setIfInBounds_toArray, List.set_cons_zero, List.set_cons_succ])
        refine wpAnyH_take (i := 10) (oi := { dst := some 29, op := Op.move (Operand.tmp 28), type := 4, pos := "laws.go:387", after := #[{ on := 9, ground := Ground.data }, { on := 9, ground := Ground.chain }, { on := 5, ground := Ground.guard }], guard := some (5, true) }) (v := ?_) rfl (by kernel_rfl) (by kernel_rfl) (by kernel_rfl) (fun _ _ _ h => h) (.inl ⟨by rfl, ?_⟩) (by assumption) ?_
        rotate_left
        · intro w' hSw
          (try dsimp only at hSw)
          go_simp
          try with_reducible rfl
        (try simp only [Act.put, List.setIfInBounds_toArray, List.set_cons_zero, List.set_cons_succ])
        refine wpAnyH_take (i := 11) (oi := { dst := some 30, op := Op.load 26 (Operand.tmp 4), type := 26, pos := "laws.go:387", after := #[{ on := 10, ground := Ground.guard }], guard := some (10, true) }) (v := ?_) rfl (by kernel_rfl) (by kernel_rfl) (by kernel_rfl) (fun _ _ _ h => h) (.inl ⟨by rfl, ?_⟩) (by assumption) ?_
        rotate_left
        · intro w' hSw
          (try dsimp only at hSw)
          go_simp
          try with_reducible rfl
        (try simp only [Act.put, List.setIfInBounds_toArray, List.set_cons_zero, List.set_cons_succ])
        refine wpAnyH_take (i := 12) (oi := { dst := some 31, op := Op.load 26 (Operand.tmp 3), type := 26, pos := "laws.go:387", after := #[{ on := 10, ground := Ground.guard }], guard := some (10, true) }) (v := ?_) rfl (by kernel_rfl) (by kernel_rfl) (by kernel_rfl) (fun _ _ _ h => h) (.inl ⟨by rfl, ?_⟩) (by assumption) ?_
        rotate_left
        · intro w' hSw
          (try dsimp only at hSw)
          go_simp
          try with_reducible rfl
        (try simp only [Act.put, List.setIfInBounds_toArray, List.set_cons_zero, List.set_cons_succ])
        refine wpAnyH_ready (rs := [13]) (by kernel_rfl) (by simp) ?_
        refine AllReadyH.cons (o := { dst := some 32, op := Op.call { callee := Callee.value (Operand.func 14), args := #[Operand.tmp 30, Operand.tmp 31], argTypes := #[26, 26] }, type := 4, pos := "laws.go:387", after := #[{ on := 11, ground := Ground.data }, { on := 12, ground := Ground.data }, { on := 10, ground := Ground.chain }, { on := 10, ground := Ground.guard }], guard := some (10, true) }) rfl (fun K hK => ?_) ?_
        rotate_left
        · exact AllReadyH.nil
        go_simp
        refine (H14b.out _ hcur).mono ?_
        rintro e w9 ⟨rfl, hb9⟩
        have hcur := hcur.trans (hb9.mono hcur.size)
        go_wp2_with fail
        refine hK.out _ _ (KS.out _ hcur) (fun hHeld => ?_)
        clear hK K
        (try simp only [Act.put, List.setIfInBounds_toArray, List.set_cons_zero, List.set_cons_succ])
        refine wpAnyH_take (i := 14) (oi := { dst := some 33, op := Op.pick (Operand.tmp 29) (Operand.tmp 32) (Operand.const (Value.bool false)), type := 4, pos := "laws.go:387", after := #[{ on := 10, ground := Ground.data }, { on := 13, ground := Ground.data }, { on := 5, ground := Ground.guard }], guard := some (5, true) }) (v := ?_) rfl (by kernel_rfl) (by kernel_rfl) (by kernel_rfl) (fun _ _ _ h => h) (.inl ⟨by rfl, ?_⟩) (by assumption) ?_
        rotate_left
        · intro w' hSw
          (try dsimp only at hSw)
          go_simp
          try with_reducible rfl
        (try simp only [Act.put, List.setIfInBounds_toArray, List.set_cons_zero, List.set_cons_succ])
        refine wpAnyH_take (i := 15) (oi := { dst := some 34, op := Op.binOp BinOp.eql 4 (Operand.tmp 25) (Operand.tmp 33) 4, type := 4, pos := "laws.go:387", after := #[{ on := 6, ground := Ground.data }, { on := 14, ground := Ground.data }, { on := 5, ground := Ground.guard }], guard := some (5, true) }) (v := ?_) rfl (by kernel_rfl) (by kernel_rfl) (by kernel_rfl) (fun _ _ _ h => h) (.inl ⟨by rfl, ?_⟩) (by assumption) ?_
        rotate_left
        · intro w' hSw
          (try dsimp only at hSw)
          go_simp
          try with_reducible rfl
        (try simp only [Act.put, List.setIfInBounds_toArray, List.set_cons_zero, List.set_cons_succ])
        refine wpAnyH_take (i := 16) (oi := { dst := some 35, op := Op.pick (Operand.tmp 24) (Operand.tmp 34) (Operand.const (Value.bool false)), type := 4, pos := "laws.go:387", after := #[{ on := 5, ground := Ground.data }, { on := 15, ground := Ground.data }], guard := none }) (v := ?_) rfl (by kernel_rfl) (by kernel_rfl) (by kernel_rfl) (fun _ _ _ h => h) (.inl ⟨by rfl, ?_⟩) (by assumption) ?_
        rotate_left
        · intro w' hSw
          (try dsimp only at hSw)
          go_simp
          try with_reducible rfl
        (try simp only [Act.put, List.setIfInBounds_toArray, List.set_cons_zero, List.set_cons_succ])
        refine wpAnyH_take (i := 17) (oi := { dst := some 36, op := Op.move (Operand.tmp 35), type := 4, pos := "laws.go:387", after := #[{ on := 16, ground := Ground.data }, { on := 13, ground := Ground.chain }], guard := none }) (v := ?_) rfl (by kernel_rfl) (by kernel_rfl) (by kernel_rfl) (fun _ _ _ h => h) (.inl ⟨by rfl, ?_⟩) (by assumption) ?_
        rotate_left
        · intro w' hSw
          (try dsimp only at hSw)
          go_simp
          try with_reducible rfl
        (try simp only [Act.put, List.setIfInBounds_toArray, List.set_cons_zero, List.set_cons_succ])
        refine wpAnyH_take (i := 18) (oi := { dst := some 37, op := Op.load 26 (Operand.tmp 6), type := 26, pos := "laws.go:387", after := #[{ on := 17, ground := Ground.guard }], guard := some (17, true) }) (v := ?_) rfl (by kernel_rfl) (by kernel_rfl) (by kernel_rfl) (fun _ _ _ h => h) (.inl ⟨by rfl, ?_⟩) (by assumption) ?_
        rotate_left
        · intro w' hSw
          (try dsimp only at hSw)
          go_simp
          try with_reducible rfl
        (try simp only [Act.put, List.setIfInBounds_toArray, List.set_cons_zero, List.set_cons_succ])
        refine wpAnyH_take (i := 20) (oi := { dst := some 39, op := Op.load 26 (Operand.tmp 6), type := 26, pos := "laws.go:387", after := #[{ on := 17, ground := Ground.guard }], guard := some (17, true) }) (v := ?_) rfl (by kernel_rfl) (by kernel_rfl) (by kernel_rfl) (fun _ _ _ h => h) (.inl ⟨by rfl, ?_⟩) (by assumption) ?_
        rotate_left
        · intro w' hSw
          (try dsimp only at hSw)
          go_simp
          try with_reducible rfl
        (try simp only [Act.put, List.setIfInBounds_toArray, List.set_cons_zero, List.set_cons_succ])
        refine wpAnyH_ready (rs := [19]) (by kernel_rfl) (by simp) ?_
        refine AllReadyH.cons (o := { dst := some 38, op := Op.call { callee := Callee.value (Operand.func 12), args := #[Operand.tmp 37], argTypes := #[26] }, type := 26, pos := "laws.go:387", after := #[{ on := 18, ground := Ground.data }, { on := 17, ground := Ground.chain }, { on := 17, ground := Ground.guard }], guard := some (17, true) }) rfl (fun K hK => ?_) ?_
        rotate_left
        · exact AllReadyH.nil
        go_simp
        refine (H12.out _ hcur).mono ?_
        intro e w9 hm
        obtain ⟨vs9, bs9, A9, c9, rfl, rfl, hO9, hn9, hb9⟩ := madeT_get hm
        have hcur := hcur.trans (hb9.mono hcur.size)
        have R9 := Lib.hid (OwVs_read (P := Und w9.heap.size) y.cells (fun b hb' => (OwVs_lt y.cells hO9 b hb').2) hO9)
        clear hm hO9 hn9
        go_wp2_with fail
        refine hK.out _ _ (KS.out _ hcur) (fun hHeld => ?_)
        clear hK K
        (try simp only [Act.put, List.setIfInBounds_toArray, List.set_cons_zero, List.set_cons_succ])
        refine wpAnyH_ready (rs := [21]) (by kernel_rfl) (by simp) ?_
        refine AllReadyH.cons (o := { dst := some 40, op := Op.call { callee := Callee.value (Operand.func 15), args := #[Operand.tmp 38, Operand.tmp 39], argTypes := #[26, 26] }, type := 4, pos := "laws.go:387", after := #[{ on := 19, ground := Ground.data }, { on := 20, ground := Ground.data }, { on := 19, ground := Ground.chain }, { on := 17, ground := Ground.guard }], guard := some (17, true) }) rfl (fun K hK => ?_) ?_
        rotate_left
        · exact AllReadyH.nil
        go_simp
        refine (specSameTy y y _ _ _ (TypeAt.of_reads R9.out) ⟨_, _, rfl, RY.out.grow hcur⟩).mono ?_
        rw [(TypeX.same_iff y y).2 rfl]
        rintro e w9 ⟨rfl, hb9⟩
        have hcur := hcur.trans (hb9.mono hcur.size)
        go_wp2_with fail
        refine hK.out _ _ (KS.out _ hcur) (fun hHeld => ?_)
        clear hK K
        (try simp only [Act.put, List.setIfInBounds_toArray, List.set_cons_zero, List.set_cons_succ])
        refine wpAnyH_take (i := 22) (oi := { dst := some 41, op := Op.pick (Operand.tmp 36) (Operand.tmp 40) (Operand.const (Value.bool false)), type := 4, pos := "laws.go:387", after := #[{ on := 17, ground := Ground.data }, { on := 21, ground := Ground.data }], guard := none }) (v := ?_) rfl (by kernel_rfl) (by kernel_rfl) (by kernel_rfl) (fun _ _ _ h => h) (.inl ⟨by rfl, ?_⟩) (by assumption) ?_
        rotate_left
        · intro w' hSw
          (try dsimp only at hSw)
          go_simp
          try with_reducible rfl
        (try simp only [Act.put, List.setIfInBounds_toArray, List.set_cons_zero, List.set_cons_succ])
        refine wpAnyH_take (i := 23) (oi := { dst := some 42, op := Op.move (Operand.tmp 41), type := 4, pos := "laws.go:387", after := #[{ on := 22, ground := Ground.data }, { on := 21, ground := Ground.chain }], guard := none }) (v := ?_) rfl (by kernel_rfl) (by kernel_rfl) (by kernel_rfl) (fun _ _ _ h => h) (.inl ⟨by rfl, ?_⟩) (by assumption) ?_
        rotate_left
        · intro w' hSw
          (try dsimp only at hSw)
          go_simp
          try with_reducible rfl
        (try simp only [Act.put, List.setIfInBounds_toArray, List.set_cons_zero, List.set_cons_succ])
        refine wpAnyH_take (i := 24) (oi := { dst := some 43, op := Op.load 26 (Operand.tmp 3), type := 26, pos := "laws.go:387", after := #[{ on := 23, ground := Ground.guard }], guard := some (23, true) }) (v := ?_) rfl (by kernel_rfl) (by kernel_rfl) (by kernel_rfl) (fun _ _ _ h => h) (.inl ⟨by rfl, ?_⟩) (by assumption) ?_
        rotate_left
        · intro w' hSw
          (try dsimp only at hSw)
          go_simp
          try with_reducible rfl
        (try simp only [Act.put, List.setIfInBounds_toArray, List.set_cons_zero, List.set_cons_succ])
        refine wpAnyH_take (i := 25) (oi := { dst := some 44, op := Op.load 26 (Operand.tmp 6), type := 26, pos := "laws.go:387", after := #[{ on := 23, ground := Ground.guard }], guard := some (23, true) }) (v := ?_) rfl (by kernel_rfl) (by kernel_rfl) (by kernel_rfl) (fun _ _ _ h => h) (.inl ⟨by rfl, ?_⟩) (by assumption) ?_
        rotate_left
        · intro w' hSw
          (try dsimp only at hSw)
          go_simp
          try with_reducible rfl
        (try simp only [Act.put, List.setIfInBounds_toArray, List.set_cons_zero, List.set_cons_succ])
        refine wpAnyH_ready (rs := [26]) (by kernel_rfl) (by simp) ?_
        refine AllReadyH.cons (o := { dst := some 45, op := Op.call { callee := Callee.value (Operand.func 11), args := #[Operand.tmp 43, Operand.tmp 44], argTypes := #[26, 26] }, type := 4, pos := "laws.go:387", after := #[{ on := 24, ground := Ground.data }, { on := 25, ground := Ground.data }, { on := 23, ground := Ground.chain }, { on := 23, ground := Ground.guard }], guard := some (23, true) }) rfl (fun K hK => ?_) ?_
        rotate_left
        · exact AllReadyH.nil
        go_simp
        refine (H11.out _ hcur).mono ?_
        rintro e w9 ⟨rfl, hb9⟩
        have hcur := hcur.trans (hb9.mono hcur.size)
        go_wp2_with fail
        refine hK.out _ _ (KS.out _ hcur) (fun hHeld => ?_)
        clear hK K
        (try simp only [Act.put, List.setIfInBounds_toArray, List.set_cons_zero, List.set_cons_succ])
        refine wpAnyH_take (i := 27) (oi := { dst := some 46, op := Op.pick (Operand.tmp 42) (Operand.tmp 45) (Operand.const (Value.bool false)), type := 4, pos := "laws.go:387", after := #[{ on := 23, ground := Ground.data }, { on := 26, ground := Ground.data }], guard := none }) (v := ?_) rfl (by kernel_rfl) (by kernel_rfl) (by kernel_rfl) (fun _ _ _ h => h) (.inl ⟨by rfl, ?_⟩) (by assumption) ?_
        rotate_left
        · intro w' hSw
          (try dsimp only at hSw)
          go_simp
          try with_reducible rfl
        (try simp only [Act.put, List.setIfInBounds_toArray, List.set_cons_zero, List.set_cons_succ])
        refine wpAnyH_take (i := 28) (oi := { dst := some 2, op := Op.assign (Operand.tmp 46), type := 4, pos := "laws.go:387", after := #[{ on := 27, ground := Ground.data }, { on := 26, ground := Ground.chain }, { on := 0, ground := Ground.phase }, { on := 1, ground := Ground.phase }, { on := 2, ground := Ground.phase }, { on := 3, ground := Ground.phase }, { on := 4, ground := Ground.phase }, { on := 5, ground := Ground.phase }, { on := 6, ground := Ground.phase }, { on := 7, ground := Ground.phase }, { on := 8, ground := Ground.phase }, { on := 9, ground := Ground.phase }, { on := 10, ground := Ground.phase }, { on := 11, ground := Ground.phase }, { on := 12, ground := Ground.phase }, { on := 13, ground := Ground.phase }, { on := 14, ground := Ground.phase }, { on := 15, ground := Ground.phase }, { on := 16, ground := Ground.phase }, { on := 17, ground := Ground.phase }, { on := 18, ground := Ground.phase }, { on := 19, ground := Ground.phase }, { on := 20, ground := Ground.phase }, { on := 21, ground := Ground.phase }, { on := 22, ground := Ground.phase }, { on := 23, ground := Ground.phase }, { on := 24, ground := Ground.phase }, { on := 25, ground := Ground.phase }, { on := 26, ground := Ground.phase }, { on := 27, ground := Ground.phase }], guard := none }) (v := ?_) rfl (by kernel_rfl) (by kernel_rfl) (by kernel_rfl) (fun _ _ _ h => h) (.inl ⟨by rfl, ?_⟩) (by assumption) ?_
        rotate_left
        · intro w' hSw
          (try dsimp only at hSw)
          go_simp
          try with_reducible rfl
        (try simp only [Act.put, List.setIfInBounds_toArray, List.set_cons_zero, List.set_cons_succ])
        refine wpAnyH_done (by kernel_rfl) ?_ _
        go_wp2
        go_ret
        exact ⟨rfl, HB.out.trans (hcur.mono HB.out.size)⟩
      | true =>
        refine wp_region_held_drew (S := fun w' => w'.cell? ⟨w1.heap.size, 0, none⟩ = some (.int .i64 p.kind_) ∧ w'.cell? ⟨w1.heap.size, 1, none⟩ = some (.string p.name_) ∧ w'.cell? ⟨w1.heap.size, 2, none⟩ = some (.slice A p.args_.length a) ∧ w'.cell? ⟨w1.heap.size + 1, 0, none⟩ = some (.int .i64 t.kind_) ∧ w'.cell? ⟨w1.heap.size + 1, 1, none⟩ = some (.string t.name_) ∧ w'.cell? ⟨w1.heap.size + 1, 2, none⟩ = some (.slice C t.args_.length c) ∧ w'.cell? ⟨w3.heap.size, 0, none⟩ = some (.int .i64 y.kind_) ∧ w'.cell? ⟨w3.heap.size, 1, none⟩ = some (.string y.name_) ∧ w'.cell? ⟨w3.heap.size, 2, none⟩ = some (.slice D y.args_.length dd)) (by kernel_rfl) (KS.out _ hcur) (fun hHeld => ?_)
        refine wpAnyH_take (i := 0) (oi := { dst := some 19, op := Op.move (Operand.tmp 5), type := 4, pos := "laws.go:387", after := #[], guard := none }) (v := ?_) rfl (by kernel_rfl) (by kernel_rfl) (by kernel_rfl) (fun _ _ _ h => h) (.inl ⟨by rfl, ?_⟩) (by assumption) ?_
        rotate_left
        · intro w' hSw
          (try dsimp only at hSw)
          go_simp
          try with_reducible rfl
        (try simp only [Act.put, List.setIfInBounds_toArray, List.set_cons_zero, List.set_cons_succ])
        refine wpAnyH_take (i := 1) (oi := { dst := some 20, op := Op.load 26 (Operand.tmp 3), type := 26, pos := "laws.go:387", after := #[], guard := none }) (v := ?_) rfl (by kernel_rfl) (by kernel_rfl) (by kernel_rfl) (fun _ _ _ h => h) (.inl ⟨by rfl, ?_⟩) (by assumption) ?_
        rotate_left
        · intro w' hSw
          (try dsimp only at hSw)
          go_simp
          try with_reducible rfl
        (try simp only [Act.put, List.setIfInBounds_toArray, List.set_cons_zero, List.set_cons_succ])
        refine wpAnyH_take (i := 2) (oi := { dst := some 21, op := Op.load 26 (Operand.tmp 4), type := 26, pos := "laws.go:387", after := #[], guard := none }) (v := ?_) rfl (by kernel_rfl) (by kernel_rfl) (by kernel_rfl) (fun _ _ _ h => h) (.inl ⟨by rfl, ?_⟩) (by assumption) ?_
        rotate_left
        · intro w' hSw
          (try dsimp only at hSw)
          go_simp
          try with_reducible rfl
        (try simp only [Act.put, List.setIfInBounds_toArray, List.set_cons_zero, List.set_cons_succ])
        refine wpAnyH_ready (rs := [3]) (by kernel_rfl) (by simp) ?_
        refine AllReadyH.cons (o := { dst := some 22, op := Op.call { callee := Callee.value (Operand.func 13), args := #[Operand.tmp 20, Operand.tmp 21], argTypes := #[26, 26] }, type := 4, pos := "laws.go:387", after := #[{ on := 1, ground := Ground.data }, { on := 2, ground := Ground.data }], guard := none }) rfl (fun K hK => ?_) ?_
        rotate_left
        · exact AllReadyH.nil
        go_simp
        refine (H13.out _ hcur).mono ?_
        rintro e w9 ⟨rfl, hb9⟩
        have hcur := hcur.trans (hb9.mono hcur.size)
        go_wp2_with fail
        refine hK.out _ _ (KS.out _ hcur) (fun hHeld => ?_)
        clear hK K
        (try simp only [Act.put, List.setIfInBounds_toArray, List.set_cons_zero, List.set_cons_succ])
        refine wpAnyH_take (i := 4) (oi := { dst := some 23, op := Op.binOp BinOp.eql 4 (Operand.tmp 19) (Operand.tmp 22) 4, type := 4, pos := "laws.go:387", after := #[{ on := 0, ground := Ground.data }, { on := 3, ground := Ground.data }], guard := none }) (v := ?_) rfl (by kernel_rfl) (by kernel_rfl) (by kernel_rfl) (fun _ _ _ h => h) (.inl ⟨by rfl, ?_⟩) (by assumption) ?_
        rotate_left
        · intro w' hSw
          (try dsimp only at hSw)
          go_simp
          try with_reducible rfl
        (try simp only [Act.put, List.setIfInBounds_toArray, List.set_cons_zero, List.set_cons_succ])
        refine wpAnyH_take (i := 5) (oi := { dst := some 24, op := Op.move (Operand.tmp 23), type := 4, pos := "laws.go:387", after := #[{ on := 4, ground := Ground.data }, { on := 3, ground := Ground.chain }], guard := none }) (v := ?_) rfl (by kernel_rfl) (by kernel_rfl) (by kernel_rfl) (fun _ _ _ h => h) (.inl ⟨by rfl, ?_⟩) (by assumption) ?_
        rotate_left
        · intro w' hSw
          (try dsimp only at hSw)
          go_simp
          try with_reducible rfl
        (try simp only [Act.put, List.setIfInBounds_toArray, List.set_cons_zero, List.set_cons_succ])
        refine wpAnyH_take (i := 6) (oi := { dst := some 25, op := Op.move (Operand.tmp 5), type := 4, pos := "laws.go:387", after := #[{ on := 5, ground := Ground.guard }], guard := some (5, true) }) (v := ?_) rfl (by kernel_rfl) (by kernel_rfl) (by kernel_rfl) (fun _ _ _ h => h) (.inl ⟨by rfl, ?_⟩) (by assumption) ?_
        rotate_left
        · intro w' hSw
          (try dsimp only at hSw)
          go_simp
          try with_reducible rfl
        (try simp only [Act.put, List.setIfInBounds_toArray, List.set_cons_zero, List.set_cons_succ])
        refine wpAnyH_take (i := 7) (oi := { dst := some 26, op := Op.load 26 (Operand.tmp 3), type := 26, pos := "laws.go:387", after := #[{ on := 5, ground := Ground.guard }], guard := some (5, true) }) (v := ?_) rfl (by kernel_rfl) (by kernel_rfl) (by kernel_rfl) (fun _ _ _ h => h) (.inl ⟨by rfl, ?_⟩) (by assumption) ?_
        rotate_left
        · intro w' hSw
          (try dsimp only at hSw)
          go_simp
          try with_reducible rfl
        (try simp only [Act.put, List.setIfInBounds_toArray, List.set_cons_zero, List.set_cons_succ])
        refine wpAnyH_take (i := 8) (oi := { dst := some 27, op := Op.load 26 (Operand.tmp 4), type := 26, pos := "laws.go:387", after := #[{ on := 5, ground := Ground.guard }], guard := some (5, true) }) (v := ?_) rfl (by kernel_rfl) (by kernel_rfl) (by kernel_rfl) (fun _ _ _ h => h) (.inl ⟨by rfl, ?_⟩) (by assumption) ?_
        rotate_left
        · intro w' hSw
          (try dsimp only at hSw)
          go_simp
          try with_reducible rfl
        (try simp only [Act.put, List.setIfInBounds_toArray, List.set_cons_zero, List.set_cons_succ])
        refine wpAnyH_ready (rs := [9]) (by kernel_rfl) (by simp) ?_
        refine AllReadyH.cons (o := { dst := some 28, op := Op.call { callee := Callee.value (Operand.func 14), args := #[Operand.tmp 26, Operand.tmp 27], argTypes := #[26, 26] }, type := 4, pos := "laws.go:387", after := #[{ on := 7, ground := Ground.data }, { on := 8, ground := Ground.data }, { on := 5, ground := Ground.chain }, { on := 5, ground := Ground.guard }], guard := some (5, true) }) rfl (fun K hK => ?_) ?_
        rotate_left
        · exact AllReadyH.nil
        go_simp
        refine (H14a.out _ hcur).mono ?_
        rintro e w9 ⟨rfl, hb9⟩
        have hcur := hcur.trans (hb9.mono hcur.size)
        go_wp2_with fail
        refine hK.out _ _ (KS.out _ hcur) (fun hHeld => ?_)
        clear hK K
        (try simp only [Act.put, List.setIfInBounds_toArray, List.set_cons_zero, List.set_cons_succ])
        refine wpAnyH_take (i := 10) (oi := { dst := some 29, op := Op.move (Operand.tmp 28), type := 4, pos := "laws.go:387", after := #[{ on := 9, ground := Ground.data }, { on := 9, ground := Ground.chain }, { on := 5, ground := Ground.guard }], guard := some (5, true) }) (v := ?_) rfl (by kernel_rfl) (by kernel_rfl) (by kernel_rfl) (fun _ _ _ h => h) (.inl ⟨by rfl, ?_⟩) (by assumption) ?_
        rotate_left
        · intro w' hSw
          (try dsimp only at hSw)
          go_simp
          try with_reducible rfl
        (try simp only [Act.put, List.setIfInBounds_toArray, List.set_cons_zero, List.set_cons_succ])
        refine wpAnyH_take (i := 11) (oi := { dst := some 30, op := Op.load 26 (Operand.tmp 4), type := 26, pos := "laws.go:387", after := #[{ on := 10, ground := Ground.guard }], guard := some (10, true) }) (v := ?_) rfl (by kernel_rfl) (by kernel_rfl) (by kernel_rfl) (fun _ _ _ h => h) (.inl ⟨by rfl, ?_⟩) (by assumption) ?_
        rotate_left
        · intro w' hSw
          (try dsimp only at hSw)
          go_simp
          try with_reducible rfl
        (try simp only [Act.put, List.setIfInBounds_toArray, List.set_cons_zero, List.set_cons_succ])
        refine wpAnyH_take (i := 12) (oi := { dst := some 31, op := Op.load 26 (Operand.tmp 3), type := 26, pos := "laws.go:387", after := #[{ on := 10, ground := Ground.guard }], guard := some (10, true) }) (v := ?_) rfl (by kernel_rfl) (by kernel_rfl) (by kernel_rfl) (fun _ _ _ h => h) (.inl ⟨by rfl, ?_⟩) (by assumption) ?_
        rotate_left
        · intro w' hSw
          (try dsimp only at hSw)
          go_simp
          try with_reducible rfl
        (try simp only [Act.put, List.setIfInBounds_toArray, List.set_cons_zero, List.set_cons_succ])
        refine wpAnyH_ready (rs := [13]) (by kernel_rfl) (by simp) ?_
        refine AllReadyH.cons (o := { dst := some 32, op := Op.call { callee := Callee.value (Operand.func 14), args := #[Operand.tmp 30, Operand.tmp 31], argTypes := #[26, 26] }, type := 4, pos := "laws.go:387", after := #[{ on := 11, ground := Ground.data }, { on := 12, ground := Ground.data }, { on := 10, ground := Ground.chain }, { on := 10, ground := Ground.guard }], guard := some (10, true) }) rfl (fun K hK => ?_) ?_
        rotate_left
        · exact AllReadyH.nil
        go_simp
        refine (H14b.out _ hcur).mono ?_
        rintro e w9 ⟨rfl, hb9⟩
        have hcur := hcur.trans (hb9.mono hcur.size)
        go_wp2_with fail
        refine hK.out _ _ (KS.out _ hcur) (fun hHeld => ?_)
        clear hK K
        (try simp only [Act.put, List.setIfInBounds_toArray, List.set_cons_zero, List.set_cons_succ])
        refine wpAnyH_take (i := 14) (oi := { dst := some 33, op := Op.pick (Operand.tmp 29) (Operand.tmp 32) (Operand.const (Value.bool false)), type := 4, pos := "laws.go:387", after := #[{ on := 10, ground := Ground.data }, { on := 13, ground := Ground.data }, { on := 5, ground := Ground.guard }], guard := some (5, true) }) (v := ?_) rfl (by kernel_rfl) (by kernel_rfl) (by kernel_rfl) (fun _ _ _ h => h) (.inl ⟨by rfl, ?_⟩) (by assumption) ?_
        rotate_left
        · intro w' hSw
          (try dsimp only at hSw)
          go_simp
          try with_reducible rfl
        (try simp only [Act.put, List.setIfInBounds_toArray, List.set_cons_zero, List.set_cons_succ])
        refine wpAnyH_take (i := 15) (oi := { dst := some 34, op := Op.binOp BinOp.eql 4 (Operand.tmp 25) (Operand.tmp 33) 4, type := 4, pos := "laws.go:387", after := #[{ on := 6, ground := Ground.data }, { on := 14, ground := Ground.data }, { on := 5, ground := Ground.guard }], guard := some (5, true) }) (v := ?_) rfl (by kernel_rfl) (by kernel_rfl) (by kernel_rfl) (fun _ _ _ h => h) (.inl ⟨by rfl, ?_⟩) (by assumption) ?_
        rotate_left
        · intro w' hSw
          (try dsimp only at hSw)
          go_simp
          try with_reducible rfl
        (try simp only [Act.put, List.setIfInBounds_toArray, List.set_cons_zero, List.set_cons_succ])
        refine wpAnyH_take (i := 16) (oi := { dst := some 35, op := Op.pick (Operand.tmp 24) (Operand.tmp 34) (Operand.const (Value.bool false)), type := 4, pos := "laws.go:387", after := #[{ on := 5, ground := Ground.data }, { on := 15, ground := Ground.data }], guard := none }) (v := ?_) rfl (by kernel_rfl) (by kernel_rfl) (by kernel_rfl) (fun _ _ _ h => h) (.inl ⟨by rfl, ?_⟩) (by assumption) ?_
        rotate_left
        · intro w' hSw
          (try dsimp only at hSw)
          go_simp
          try with_reducible rfl
        (try simp only [Act.put, List.setIfInBounds_toArray, List.set_cons_zero, List.set_cons_succ])
        refine wpAnyH_take (i := 17) (oi := { dst := some 36, op := Op.move (Operand.tmp 35), type := 4, pos := "laws.go:387", after := #[{ on := 16, ground := Ground.data }, { on := 13, ground := Ground.chain }], guard := none }) (v := ?_) rfl (by kernel_rfl) (by kernel_rfl) (by kernel_rfl) (fun _ _ _ h => h) (.inl ⟨by rfl, ?_⟩) (by assumption) ?_
        rotate_left
        · intro w' hSw
          (try dsimp only at hSw)
          go_simp
          try with_reducible rfl
        (try simp only [Act.put, List.setIfInBounds_toArray, List.set_cons_zero, List.set_cons_succ])
        refine wpAnyH_take (i := 18) (oi := { dst := some 37, op := Op.load 26 (Operand.tmp 6), type := 26, pos := "laws.go:387", after := #[{ on := 17, ground := Ground.guard }], guard := some (17, true) }) (v := ?_) rfl (by kernel_rfl) (by kernel_rfl) (by kernel_rfl) (fun _ _ _ h => h) (.inl ⟨by rfl, ?_⟩) (by assumption) ?_
        rotate_left
        · intro w' hSw
          (try dsimp only at hSw)
          go_simp
          try with_reducible rfl
        (try simp only [Act.put, List.setIfInBounds_toArray, List.set_cons_zero, List.set_cons_succ])
        refine wpAnyH_take (i := 20) (oi := { dst := some 39, op := Op.load 26 (Operand.tmp 6), type := 26, pos := "laws.go:387", after := #[{ on := 17, ground := Ground.guard }], guard := some (17, true) }) (v := ?_) rfl (by kernel_rfl) (by kernel_rfl) (by kernel_rfl) (fun _ _ _ h => h) (.inl ⟨by rfl, ?_⟩) (by assumption) ?_
        rotate_left
        · intro w' hSw
          (try dsimp only at hSw)
          go_simp
          try with_reducible rfl
        (try simp only [Act.put, List.setIfInBounds_toArray, List.set_cons_zero, List.set_cons_succ])
        refine wpAnyH_ready (rs := [19]) (by kernel_rfl) (by simp) ?_
        refine AllReadyH.cons (o := { dst := some 38, op := Op.call { callee := Callee.value (Operand.func 12), args := #[Operand.tmp 37], argTypes := #[26] }, type := 26, pos := "laws.go:387", after := #[{ on := 18, ground := Ground.data }, { on := 17, ground := Ground.chain }, { on := 17, ground := Ground.guard }], guard := some (17, true) }) rfl (fun K hK => ?_) ?_
        rotate_left
        · exact AllReadyH.nil
        go_simp
        refine (H12.out _ hcur).mono ?_
        intro e w9 hm
        obtain ⟨vs9, bs9, A9, c9, rfl, rfl, hO9, hn9, hb9⟩ := madeT_get hm
        have hcur := hcur.trans (hb9.mono hcur.size)
        have R9 := Lib.hid (OwVs_read (P := Und w9.heap.size) y.cells (fun b hb' => (OwVs_lt y.cells hO9 b hb').2) hO9)
        clear hm hO9 hn9
        go_wp2_with fail
        refine hK.out _ _ (KS.out _ hcur) (fun hHeld => ?_)
        clear hK K
        (try simp only [Act.put, List.setIfInBounds_toArray, List.set_cons_zero, List.set_cons_succ])
        refine wpAnyH_ready (rs := [21]) (by kernel_rfl) (by simp) ?_
        refine AllReadyH.cons (o := { dst := some 40, op := Op.call { callee := Callee.value (Operand.func 15), args := #[Operand.tmp 38, Operand.tmp 39], argTypes := #[26, 26] }, type := 4, pos := "laws.go:387", after := #[{ on := 19, ground := Ground.data }, { on := 20, ground := Ground.data }, { on := 19, ground := Ground.chain }, { on := 17, ground := Ground.guard }], guard := some (17, true) }) rfl (fun K hK => ?_) ?_
        rotate_left
        · exact AllReadyH.nil
        go_simp
        refine (specSameTy y y _ _ _ (TypeAt.of_reads R9.out) ⟨_, _, rfl, RY.out.grow hcur⟩).mono ?_
        rw [(TypeX.same_iff y y).2 rfl]
        rintro e w9 ⟨rfl, hb9⟩
        have hcur := hcur.trans (hb9.mono hcur.size)
        go_wp2_with fail
        refine hK.out _ _ (KS.out _ hcur) (fun hHeld => ?_)
        clear hK K
        (try simp only [Act.put, List.setIfInBounds_toArray, List.set_cons_zero, List.set_cons_succ])
        refine wpAnyH_take (i := 22) (oi := { dst := some 41, op := Op.pick (Operand.tmp 36) (Operand.tmp 40) (Operand.const (Value.bool false)), type := 4, pos := "laws.go:387", after := #[{ on := 17, ground := Ground.data }, { on := 21, ground := Ground.data }], guard := none }) (v := ?_) rfl (by kernel_rfl) (by kernel_rfl) (by kernel_rfl) (fun _ _ _ h => h) (.inl ⟨by rfl, ?_⟩) (by assumption) ?_
        rotate_left
        · intro w' hSw
          (try dsimp only at hSw)
          go_simp
          try with_reducible rfl
        (try simp only [Act.put, List.setIfInBounds_toArray, List.set_cons_zero, List.set_cons_succ])
        refine wpAnyH_take (i := 23) (oi := { dst := some 42, op := Op.move (Operand.tmp 41), type := 4, pos := "laws.go:387", after := #[{ on := 22, ground := Ground.data }, { on := 21, ground := Ground.chain }], guard := none }) (v := ?_) rfl (by kernel_rfl) (by kernel_rfl) (by kernel_rfl) (fun _ _ _ h => h) (.inl ⟨by rfl, ?_⟩) (by assumption) ?_
        rotate_left
        · intro w' hSw
          (try dsimp only at hSw)
          go_simp
          try with_reducible rfl
        (try simp only [Act.put, List.setIfInBounds_toArray, List.set_cons_zero, List.set_cons_succ])
        refine wpAnyH_take (i := 24) (oi := { dst := some 43, op := Op.load 26 (Operand.tmp 3), type := 26, pos := "laws.go:387", after := #[{ on := 23, ground := Ground.guard }], guard := some (23, true) }) (v := ?_) rfl (by kernel_rfl) (by kernel_rfl) (by kernel_rfl) (fun _ _ _ h => h) (.inl ⟨by rfl, ?_⟩) (by assumption) ?_
        rotate_left
        · intro w' hSw
          (try dsimp only at hSw)
          go_simp
          try with_reducible rfl
        (try simp only [Act.put, List.setIfInBounds_toArray, List.set_cons_zero, List.set_cons_succ])
        refine wpAnyH_take (i := 25) (oi := { dst := some 44, op := Op.load 26 (Operand.tmp 6), type := 26, pos := "laws.go:387", after := #[{ on := 23, ground := Ground.guard }], guard := some (23, true) }) (v := ?_) rfl (by kernel_rfl) (by kernel_rfl) (by kernel_rfl) (fun _ _ _ h => h) (.inl ⟨by rfl, ?_⟩) (by assumption) ?_
        rotate_left
        · intro w' hSw
          (try dsimp only at hSw)
          go_simp
          try with_reducible rfl
        (try simp only [Act.put, List.setIfInBounds_toArray, List.set_cons_zero, List.set_cons_succ])
        refine wpAnyH_ready (rs := [26]) (by kernel_rfl) (by simp) ?_
        refine AllReadyH.cons (o := { dst := some 45, op := Op.call { callee := Callee.value (Operand.func 11), args := #[Operand.tmp 43, Operand.tmp 44], argTypes := #[26, 26] }, type := 4, pos := "laws.go:387", after := #[{ on := 24, ground := Ground.data }, { on := 25, ground := Ground.data }, { on := 23, ground := Ground.chain }, { on := 23, ground := Ground.guard }], guard := some (23, true) }) rfl (fun K hK => ?_) ?_
        rotate_left
        · exact AllReadyH.nil
        go_simp
        refine (H11.out _ hcur).mono ?_
        rintro e w9 ⟨rfl, hb9⟩
        have hcur := hcur.trans (hb9.mono hcur.size)
        go_wp2_with fail
        refine hK.out _ _ (KS.out _ hcur) (fun hHeld => ?_)
        clear hK K
        (try simp only [Act.put, List.setIfInBounds_toArray, List.set_cons_zero, List.set_cons_succ])
        refine wpAnyH_take (i := 27) (oi := { dst := some 46, op := Op.pick (Operand.tmp 42) (Operand.tmp 45) (Operand.const (Value.bool false)), type := 4, pos := "laws.go:387", after := #[{ on := 23, ground := Ground.data }, { on := 26, ground := Ground.data }], guard := none }) (v := ?_) rfl (by kernel_rfl) (by kernel_rfl) (by kernel_rfl) (fun _ _ _ h => h) (.inl ⟨by rfl, ?_⟩) (by assumption) ?_
        rotate_left
        · intro w' hSw
          (try dsimp only at hSw)
          go_simp
          try with_reducible rfl
        (try simp only [Act.put, List.setIfInBounds_toArray, List.set_cons_zero, List.set_cons_succ])
        refine wpAnyH_take (i := 28) (oi := { dst := some 2, op := Op.assign (Operand.tmp 46), type := 4, pos := "laws.go:387", after := #[{ on := 27, ground := Ground.data }, { on := 26, ground := Ground.chain }, { on := 0, ground := Ground.phase }, { on := 1, ground := Ground.phase }, { on := 2, ground := Ground.phase }, { on := 3, ground := Ground.phase }, { on := 4, ground := Ground.phase }, { on := 5, ground := Ground.phase }, { on := 6, ground := Ground.phase }, { on := 7, ground := Ground.phase }, { on := 8, ground := Ground.phase }, { on := 9, ground := Ground.phase }, { on := 10, ground := Ground.phase }, { on := 11, ground := Ground.phase }, { on := 12, ground := Ground.phase }, { on := 13, ground := Ground.phase }, { on := 14, ground := Ground.phase }, { on := 15, ground := Ground.phase }, { on := 16, ground := Ground.phase }, { on := 17, ground := Ground.phase }, { on := 18, ground := Ground.phase }, { on := 19, ground := Ground.phase }, { on := 20, ground := Ground.phase }, { on := 21, ground := Ground.phase }, { on := 22, ground := Ground.phase }, { on := 23, ground := Ground.phase }, { on := 24, ground := Ground.phase }, { on := 25, ground := Ground.phase }, { on := 26, ground := Ground.phase }, { on := 27, ground := Ground.phase }], guard := none }) (v := ?_) rfl (by kernel_rfl) (by kernel_rfl) (by kernel_rfl) (fun _ _ _ h => h) (.inl ⟨by rfl, ?_⟩) (by assumption) ?_
        rotate_left
        · intro w' hSw
          (try dsimp only at hSw)
          go_simp
          try with_reducible rfl
        (try simp only [Act.put, List.setIfInBounds_toArray, List.set_cons_zero, List.set_cons_succ])
        refine wpAnyH_done (by kernel_rfl) ?_ _
        go_wp2
        go_ret
        exact ⟨rfl, HB.out.trans (hcur.mono HB.out.size)⟩
  · go_enter Tryd.func3, Tryd.ntmps3
    go_wp2_with fail
    refine (bigYes A0 n c0 _ (by omega)).mono ?_
    rintro e w1 ⟨rfl, rfl⟩
    go_wp2
    go_ret
    exact ⟨rfl, Below.refl _ _⟩
end Go.Proofs.YtngbilblddngcaaDoor

/- The law on Apply over drawn substitutions and types. -/
import Derived.Test.YtkiofeiinecpiaaZApdP
import Derived.Test.YtkiofeiinecpiaaZSpValB
import Derived.Test.YtkiofeiinecpiaaZValidBI
import Derived.Test.YtkiofeiinecpiaaZTyVarsI
import Derived.Test.YtkiofeiinecpiaaZLawK2
import Derived.Test.YtkiofeiinecpiaaQ2
import Derived.Deep.RegionHeld3
import Derived.BigQuiet
namespace Go.Proofs.Ytkiofeiinecpiaa
open Go.RowKit Go.Lib

set_option maxRecDepth 100000 in
set_option maxHeartbeats 8000000 in
theorem lawApd (A : Option Addr) (n c : Nat) (w : World) (hA : BytesAt w w.heap.size A n) (hn : n ≤ 9223372036854775807) :
    Calls Try.prog 8 #[.slice A n c] w fun e w' => e = .returned (.bool true) ∧ Below w.heap.size w w' := by
  have HA := Lib.hid hA
  clear hA
  by_cases hbig : n ≤ 1048576
  · go_enter Try.func8, Try.ntmps8
    go_wp2_with fail
    refine (bigNo A n c _ hbig).mono ?_
    rintro e w1 ⟨rfl, rfl⟩
    go_wp2_with fail
    refine (drawAp A n c _ HA.out (by omega)).mono ?_
    rintro e w1 ⟨l, A1, c1, x, D1, d1, rfl, hrow, htr, hl4, hokb, hxs, hxt, hb1⟩
    have hfacts := apd_facts hl4 hokb hxs hxt
    obtain ⟨y, hy⟩ : ∃ y, y = x.sub (subX l) := ⟨_, rfl⟩
    obtain ⟨d, hd⟩ : ∃ d, d = x.vars [] := ⟨_, rfl⟩
    rw [← hy, ← hd] at hfacts
    obtain ⟨okL, hsm, hty, hvz, -, okX, okY, hsx, hsy, hdl, hdyl, hdz, hnone, hkept, hsmK, hst⟩ := hfacts
    obtain ⟨dy, hdy⟩ : ∃ dy, dy = y.vars [] := ⟨_, rfl⟩
    rw [← hdy] at hdyl hst
    have HDY := Lib.hid hdy
    clear hdy
    have OKL := Lib.hid okL
    have HSM := Lib.hid hsm
    have HTY := Lib.hid hty
    have HVZ := Lib.hid hvz
    have OKX := Lib.hid okX
    have OKY := Lib.hid okY
    have HDZ := Lib.hid hdz
    have HNONE := Lib.hid hnone
    have HKEPT := Lib.hid hkept
    have HSMK := Lib.hid hsmK
    have HST := Lib.hid hst
    have HY := Lib.hid hy
    have HD := Lib.hid hd
    clear okL hsm hty hvz okX okY hdz hnone hkept hsmK hst hy hd hokb hxs hxt
    have nb : Below w1.heap.size w1 (w1.alloc (.cells #[.int .i64 x.kind_, .string x.name_, .slice D1 x.args_.length d1] 26)) := (Below.refl _ _).alloc (Nat.le_refl _) _
    have HB4 := Lib.hid (Whole.new w1 26 #[.int .i64 x.kind_, .string x.name_, .slice D1 x.args_.length d1])
    have HROW := Lib.hid (hrow.grow nb)
    have HTX := Lib.hid (htr.grow nb)
    have HB := Lib.hid (hb1.trans (nb.mono hb1.size))
    have hlen4 : l.length ≤ 4 := hl4
    obtain ⟨wa, hwa⟩ : ∃ wa, wa = w1.alloc (.cells #[.int .i64 x.kind_, .string x.name_, .slice D1 x.args_.length d1] 26) := ⟨_, rfl⟩
    rw [← hwa] at HB4 HROW HTX HB
    have hsa : wa.heap.size = w1.heap.size + 1 := by rw [hwa, World.size_alloc]
    have HWA := Lib.hid hwa.symm
    clear hrow htr nb hb1 hl4 hwa
    obtain ⟨p0, p1, p2⟩ := cells3 HB4.out
    have pl := HB4.out.lt
    go_upto_region 4 with (fail)
    rw [HWA.out]
    go_wp2_with fail
    refine (implApply l A1 c1 x D1 d1 _ (by omega) HSM.out HROW.out HTX.out).mono ?_
    rw [← HY.out]
    intro e w2 hm
    obtain ⟨D2, d2, bs2, rfl, -, -, hr2, -, hb2⟩ := madeV_get hm
    have hs2 := hb2.size
    have nb : Below w2.heap.size w2 (w2.alloc (.cells #[.int .i64 y.kind_, .string y.name_, .slice D2 y.args_.length d2] 26)) := (Below.refl _ _).alloc (Nat.le_refl _) _
    have hb3 := hb2.trans (nb.mono hb2.size)
    obtain ⟨wb, hwb⟩ : ∃ wb, wb = w2.alloc (.cells #[.int .i64 y.kind_, .string y.name_, .slice D2 y.args_.length d2] 26) := ⟨_, rfl⟩
    have HB5 := Lib.hid (Whole.new w2 26 #[.int .i64 y.kind_, .string y.name_, .slice D2 y.args_.length d2])
    have HTY2 := Lib.hid ((show TypeRow w2 (Und w2.heap.size) D2 d2 y.args_ from rd_und hr2 (Nat.le_refl _)).grow nb)
    rw [← hwb] at HB5 HTY2 hb3
    have HB4 := Lib.hid (HB4.out.below hb3 (by omega))
    have HROW := Lib.hid (HROW.out.grow hb3)
    have HTX := Lib.hid (HTX.out.grow hb3)
    have HB := Lib.hid (HB.out.trans (hb3.mono HB.out.size))
    have HWB := Lib.hid hwb.symm
    clear hm hr2 hb2 nb hb3 hwb p0 p1 p2 pl
    obtain ⟨p0, p1, p2⟩ := cells3 HB4.out
    obtain ⟨q0, q1, q2⟩ := cells3 HB5.out
    obtain ⟨okv, hokv⟩ : ∃ b, b = okBs l := ⟨_, rfl⟩
    have HOKV := Lib.hid hokv.symm
    clear hokv
    have hcur : Below wb.heap.size wb wb.drew := (Below.refl _ wb).drew
    have hsame : (x.same x) = true := (TypeX.same_iff x x).2 rfl
    have hsamey : (y.same y) = true := (TypeX.same_iff y y).2 rfl
    have HSX := Lib.hid hsame
    have HSY := Lib.hid hsamey
    clear hsame hsamey
    go_upto_region 5 with (fail)
    rw [HWB.out]
    go_region_held3 (fun w' => w'.cell? ⟨w1.heap.size, 0, none⟩ = some (.int .i64 x.kind_) ∧ w'.cell? ⟨w1.heap.size, 1, none⟩ = some (.string x.name_) ∧ w'.cell? ⟨w1.heap.size, 2, none⟩ = some (.slice D1 x.args_.length d1) ∧ w'.cell? ⟨w2.heap.size, 0, none⟩ = some (.int .i64 y.kind_) ∧ w'.cell? ⟨w2.heap.size, 1, none⟩ = some (.string y.name_) ∧ w'.cell? ⟨w2.heap.size, 2, none⟩ = some (.slice D2 y.args_.length d2))
      (first
       | go_keep
       | exact ⟨(cells3 (whole_keep HB4.out hcur)).1, (cells3 (whole_keep HB4.out hcur)).2.1, (cells3 (whole_keep HB4.out hcur)).2.2, (cells3 (whole_keep HB5.out hcur)).1, (cells3 (whole_keep HB5.out hcur)).2.1, (cells3 (whole_keep HB5.out hcur)).2.2⟩)
      (first
       | (go_at_call 43
          refine (specApply l A1 c1 x D1 d1 _ (by omega) HTY.out (HROW.out.grow hcur) (HTX.out.grow hcur)).mono ?_
          rw [← HY.out]
          intro e w5 hm
          obtain ⟨D5, d5, bs5, rfl, -, -, hr5, -, hb5⟩ := madeV_get hm
          have hcur := hcur.trans (hb5.mono hcur.size))
       | (go_at_call 42
          refine (specSameTy y y _ _ _ ⟨_, _, rfl, HTY2.out.grow hcur⟩ ⟨_, _, rfl, rd_und hr5 (Nat.le_refl _)⟩).mono ?_
          rw [HSY.out]
          rintro e w6 ⟨rfl, hb6⟩
          have hcur := hcur.trans (hb6.mono hcur.size))
       | (go_at_call 22
          refine (implApply [] none 0 x D1 d1 _ (by omega) (fun s y h => by simp [lookX] at h) (BindingRow.nil _ _ _ _ (by decide)) (HTX.out.grow hcur)).mono ?_
          rw [HNONE.out]
          intro e w7 hm
          obtain ⟨D7, d7, bs7, rfl, -, -, hr7, -, hb7⟩ := madeV_get hm
          have hcur := hcur.trans (hb7.mono hcur.size))
       | (go_at_call 42
          refine (specSameTy x x _ _ _ ⟨_, _, rfl, rd_und hr7 (Nat.le_refl _)⟩ ⟨_, _, rfl, HTX.out.grow hcur⟩).mono ?_
          rw [HSX.out]
          rintro e w8 ⟨rfl, hb8⟩
          have hcur := hcur.trans (hb8.mono hcur.size))
       | (go_at_call 44
          refine (implValidB l A1 c1 _ OKL.out HTY.out (HROW.out.grow hcur)).mono ?_
          rw [HOKV.out]
          rintro e w9 ⟨rfl, hb9⟩
          have hcur := hcur.trans (hb9.mono hcur.size))
       | (go_at_call 45
          refine (specValidB l A1 c1 _ OKL.out (HROW.out.grow hcur)).mono ?_
          rw [HOKV.out]
          rintro e w9 ⟨rfl, hb9⟩
          have hcur := hcur.trans (hb9.mono hcur.size)))
    clear p0 p1 p2 q0 q1 q2
    obtain ⟨p0, p1, p2⟩ := cells3 (whole_keep HB4.out hcur)
    go_wp2_with fail
    refine (implTyVarsI x (.agg #[.int .i64 x.kind_, .string x.name_, .slice D1 x.args_.length d1]) _ OKX.out (by omega) ⟨_, _, rfl, HTX.out.grow hcur⟩).mono ?_
    rw [← HD.out]
    rintro e w10 ⟨V, rfl, hown, hb10⟩
    obtain ⟨A3, c3, q3, rfl, hS3, -, -, -⟩ := own_row hown
    have hcur := hcur.trans (hb10.mono hcur.size)
    have HS3 := Lib.hid hS3
    clear p0 p1 p2 hown hS3
    have hcur : Below wb.heap.size wb w10.drew := hcur.drew
    have hcur2 : Below w10.heap.size w10 w10.drew := (Below.refl _ w10).drew
    obtain ⟨p0, p1, p2⟩ := cells3 (whole_keep HB4.out hcur)
    obtain ⟨q0, q1, q2⟩ := cells3 (whole_keep HB5.out hcur)
    go_upto_region 8 with (fail)
    go_region_held3 (fun w' => w'.cell? ⟨w1.heap.size, 0, none⟩ = some (.int .i64 x.kind_) ∧ w'.cell? ⟨w1.heap.size, 1, none⟩ = some (.string x.name_) ∧ w'.cell? ⟨w1.heap.size, 2, none⟩ = some (.slice D1 x.args_.length d1) ∧ w'.cell? ⟨w2.heap.size, 0, none⟩ = some (.int .i64 y.kind_) ∧ w'.cell? ⟨w2.heap.size, 1, none⟩ = some (.string y.name_) ∧ w'.cell? ⟨w2.heap.size, 2, none⟩ = some (.slice D2 y.args_.length d2))
      (first
       | go_keep
       | exact ⟨(cells3 (whole_keep HB4.out hcur)).1, (cells3 (whole_keep HB4.out hcur)).2.1, (cells3 (whole_keep HB4.out hcur)).2.2, (cells3 (whole_keep HB5.out hcur)).1, (cells3 (whole_keep HB5.out hcur)).2.1, (cells3 (whole_keep HB5.out hcur)).2.2⟩)
      (first
       | (go_at_call 46
          refine (implRestrict l A1 c1 d A3 c3 _ HTY.out (by omega) (by omega) HDZ.out HVZ.out (HROW.out.grow hcur) (HS3.out.below hcur2)).mono ?_
          intro e w11 hm
          obtain ⟨A11, c11, bs11, rfl, -, -, hr11, -, hb11⟩ := madeR_get (BindingX.rows_length (keptX d l)) hm
          have hcur := hcur.trans (hb11.mono hcur.size)
          have hcur2 := hcur2.trans (hb11.mono hcur2.size))
       | (go_at_call 22
          refine (implApply (keptX d l) A11 c11 x D1 d1 _ (by omega) HSMK.out (rd_und hr11 (Nat.le_refl _)) (HTX.out.grow hcur)).mono ?_
          rw [HKEPT.out]
          intro e w12 hm
          obtain ⟨D12, d12, bs12, rfl, -, -, hr12, -, hb12⟩ := madeV_get hm
          have hcur := hcur.trans (hb12.mono hcur.size)
          have hcur2 := hcur2.trans (hb12.mono hcur2.size))
       | (go_at_call 42
          refine (specSameTy y y _ _ _ ⟨_, _, rfl, rd_und hr12 (Nat.le_refl _)⟩ ⟨_, _, rfl, HTY2.out.grow hcur⟩).mono ?_
          rw [HSY.out]
          rintro e w13 ⟨rfl, hb13⟩
          have hcur := hcur.trans (hb13.mono hcur.size)
          have hcur2 := hcur2.trans (hb13.mono hcur2.size)))
    have HCU := Lib.hid hcur
    have HCU2 := Lib.hid hcur2
    have hsz10 := hcur2.size
    clear p0 p1 p2 q0 q1 q2 hcur hcur2
    go_wp2
    go_loopw [7] (fun i wr => ∃ k : Nat, k ≤ d.length ∧ i = .int .i64 k ∧ Below w13.heap.size w13 wr) (fun i _ => d.length - (Go.RowKit.intOf i).toNat)
    case atStart => exact ⟨0, Nat.zero_le _, rfl, Below.refl _ _⟩
    case round =>
      obtain ⟨k, hk, rfl, hbk⟩ := hrel
      have hcur := HCU.out.trans (hbk.mono HCU.out.size)
      have hcur2 := HCU2.out.trans (hbk.mono HCU2.out.size)
      by_cases hlt : k < d.length
      · obtain ⟨g, o, rfl, hc⟩ := (HS3.out.below hcur2).at_ hlt
        have hk0 : (0 : Int) ≤ (k : Int) := Int.natCast_nonneg _
        have hk1 : (k : Int) < (d.length : Int) := by omega
        obtain ⟨met, hmet⟩ : ∃ m, m = (lookX d[k] l).isSome := ⟨_, rfl⟩
        obtain ⟨z, hz⟩ : ∃ z, z = (lookX d[k] l).getD zeroX := ⟨_, rfl⟩
        have hstk := HST.out d[k] (List.getElem_mem hlt)
        have hlk := implLookup l A1 c1 d[k] wr HTY.out (HROW.out.grow hcur)
        rw [← hmet, ← hz] at hlk
        rw [← hmet] at hstk
        have HLK := Lib.hid hlk
        have HSTK := Lib.hid hstk
        clear hlk hstk hmet hz
        go_wp2_with fail
        refine HLK.out.mono ?_
        intro e w15 hm
        obtain ⟨A15, c15, bs15, rfl, -, -, -, -, hb15⟩ := madeB_get hm
        have nb : Below w15.heap.size w15 (w15.alloc (.cells #[.int .i64 z.kind_, .string z.name_, .slice A15 z.args_.length c15] 26)) := (Below.refl _ _).alloc (Nat.le_refl _) _
        have hb16 := hb15.trans (nb.mono hb15.size)
        obtain ⟨w16, hw16⟩ : ∃ w16, w16 = w15.alloc (.cells #[.int .i64 z.kind_, .string z.name_, .slice A15 z.args_.length c15] 26) := ⟨_, rfl⟩
        rw [← hw16] at hb16
        have HW16 := Lib.hid hw16.symm
        have hbk := hbk.trans (hb16.mono hbk.size)
        have hcur := hcur.trans (hb16.mono hcur.size)
        have hcur2 := hcur2.trans (hb16.mono hcur2.size)
        have hgb := World.block_lt_of_cell? wr _ hc
        have hc := (hb16.cell (p := ⟨g, o + k, none⟩) hgb).trans hc
        clear hm hb15 nb hb16 hw16 hgb HLK
        have hgb := World.block_lt_of_cell? w16 _ hc
        have hbk : Below w13.heap.size w13 w16.drew := hbk.drew
        have hcur : Below wb.heap.size wb w16.drew := hcur.drew
        have hcur2 : Below w16.heap.size w16 w16.drew := (Below.refl _ w16).drew
        obtain ⟨q0, q1, q2⟩ := cells3 (whole_keep HB5.out hcur)
        go_upto_region 14 with (fail)
        rw [HW16.out]
        cases met with
        | true =>
          refine wp_region_held_drew (S := fun _ => True) (by kernel_rfl) trivial (fun hHeld => ?_)
          refine wpAnyH_take (i := 0) (oi := { dst := some 65, op := Op.move (Operand.tmp 9), type := 4, pos := "laws.go:277", after := #[], guard := none }) (v := ?_) rfl (by kernel_rfl) (by kernel_rfl) (by kernel_rfl) (fun _ _ _ h => h) (.inl ⟨by rfl, ?_⟩) trivial ?_
          rotate_left
          · intro w' hSw
            (try dsimp only at hSw)
            go_simp
            try with_reducible rfl
          (try simp only [Act.put, List.setIfInBounds_toArray, List.set_cons_zero, List.set_cons_succ])
          refine wpAnyH_take (i := 1) (oi := { dst := some 66, op := Op.unOp UnOp.not 4 (Operand.tmp 65), type := 4, pos := "laws.go:277", after := #[{ on := 0, ground := Ground.data }], guard := none }) (v := ?_) rfl (by kernel_rfl) (by kernel_rfl) (by kernel_rfl) (fun _ _ _ h => h) (.inl ⟨by rfl, ?_⟩) trivial ?_
          rotate_left
          · intro w' hSw
            (try dsimp only at hSw)
            go_simp
            try with_reducible rfl
          (try simp only [Act.put, List.setIfInBounds_toArray, List.set_cons_zero, List.set_cons_succ])
          refine wpAnyH_take (i := 2) (oi := { dst := some 67, op := Op.move (Operand.tmp 66), type := 4, pos := "laws.go:277", after := #[{ on := 1, ground := Ground.data }], guard := none }) (v := ?_) rfl (by kernel_rfl) (by kernel_rfl) (by kernel_rfl) (fun _ _ _ h => h) (.inl ⟨by rfl, ?_⟩) trivial ?_
          rotate_left
          · intro w' hSw
            (try dsimp only at hSw)
            go_simp
            try with_reducible rfl
          (try simp only [Act.put, List.setIfInBounds_toArray, List.set_cons_zero, List.set_cons_succ])
          refine wpAnyH_take (i := 3) (oi := { dst := some 68, op := Op.load 26 (Operand.tmp 5), type := 26, pos := "laws.go:277", after := #[{ on := 2, ground := Ground.guard }], guard := some (2, true) }) (v := undef) rfl (by kernel_rfl) (by kernel_rfl) (by kernel_rfl) (fun _ _ _ h => h) (.inr ⟨by rfl, rfl⟩) trivial ?_
          (try simp only [Act.put, List.setIfInBounds_toArray, List.set_cons_zero, List.set_cons_succ])
          refine wpAnyH_take (i := 4) (oi := { dst := some 69, op := Op.call { callee := Callee.value (Operand.func 23), args := #[Operand.tmp 68], argTypes := #[26] }, type := 35, pos := "laws.go:277", after := #[{ on := 3, ground := Ground.data }, { on := 2, ground := Ground.chain }, { on := 2, ground := Ground.guard }], guard := some (2, true) }) (v := undef) rfl (by kernel_rfl) (by kernel_rfl) (by kernel_rfl) (fun _ _ _ h => h) (.inr ⟨by rfl, rfl⟩) trivial ?_
          (try simp only [Act.put, List.setIfInBounds_toArray, List.set_cons_zero, List.set_cons_succ])
          refine wpAnyH_take (i := 5) (oi := { dst := some 70, op := Op.move (Operand.tmp 6), type := 35, pos := "laws.go:277", after := #[{ on := 2, ground := Ground.guard }], guard := some (2, true) }) (v := undef) rfl (by kernel_rfl) (by kernel_rfl) (by kernel_rfl) (fun _ _ _ h => h) (.inr ⟨by rfl, rfl⟩) trivial ?_
          (try simp only [Act.put, List.setIfInBounds_toArray, List.set_cons_zero, List.set_cons_succ])
          refine wpAnyH_take (i := 6) (oi := { dst := some 71, op := Op.move (Operand.tmp 7), type := 3, pos := "laws.go:277", after := #[{ on := 2, ground := Ground.guard }], guard := some (2, true) }) (v := undef) rfl (by kernel_rfl) (by kernel_rfl) (by kernel_rfl) (fun _ _ _ h => h) (.inr ⟨by rfl, rfl⟩) trivial ?_
          (try simp only [Act.put, List.setIfInBounds_toArray, List.set_cons_zero, List.set_cons_succ])
          refine wpAnyH_take (i := 7) (oi := { dst := some 72, op := Op.indexAddr 35 (Operand.tmp 70) (Operand.tmp 71), type := 0, pos := "laws.go:277", after := #[{ on := 5, ground := Ground.data }, { on := 6, ground := Ground.data }, { on := 2, ground := Ground.guard }], guard := some (2, true) }) (v := undef) rfl (by kernel_rfl) (by kernel_rfl) (by kernel_rfl) (fun _ _ _ h => h) (.inr ⟨by rfl, rfl⟩) trivial ?_
          (try simp only [Act.put, List.setIfInBounds_toArray, List.set_cons_zero, List.set_cons_succ])
          refine wpAnyH_take (i := 8) (oi := { dst := some 73, op := Op.load 9 (Operand.tmp 72), type := 9, pos := "laws.go:277", after := #[{ on := 7, ground := Ground.data }, { on := 2, ground := Ground.guard }], guard := some (2, true) }) (v := undef) rfl (by kernel_rfl) (by kernel_rfl) (by kernel_rfl) (fun _ _ _ h => h) (.inr ⟨by rfl, rfl⟩) trivial ?_
          (try simp only [Act.put, List.setIfInBounds_toArray, List.set_cons_zero, List.set_cons_succ])
          refine wpAnyH_take (i := 9) (oi := { dst := some 74, op := Op.call { callee := Callee.value (Operand.func 48), args := #[Operand.tmp 69, Operand.tmp 73], argTypes := #[35, 9] }, type := 4, pos := "laws.go:277", after := #[{ on := 4, ground := Ground.data }, { on := 8, ground := Ground.data }, { on := 4, ground := Ground.chain }, { on := 2, ground := Ground.guard }], guard := some (2, true) }) (v := undef) rfl (by kernel_rfl) (by kernel_rfl) (by kernel_rfl) (fun _ _ _ h => h) (.inr ⟨by rfl, rfl⟩) trivial ?_
          (try simp only [Act.put, List.setIfInBounds_toArray, List.set_cons_zero, List.set_cons_succ])
          refine wpAnyH_take (i := 10) (oi := { dst := some 75, op := Op.unOp UnOp.not 4 (Operand.tmp 74), type := 4, pos := "laws.go:277", after := #[{ on := 9, ground := Ground.data }, { on := 2, ground := Ground.guard }], guard := some (2, true) }) (v := undef) rfl (by kernel_rfl) (by kernel_rfl) (by kernel_rfl) (fun _ _ _ h => h) (.inr ⟨by rfl, rfl⟩) trivial ?_
          (try simp only [Act.put, List.setIfInBounds_toArray, List.set_cons_zero, List.set_cons_succ])
          refine wpAnyH_take (i := 11) (oi := { dst := some 76, op := Op.pick (Operand.tmp 67) (Operand.tmp 75) (Operand.const (Value.bool false)), type := 4, pos := "laws.go:277", after := #[{ on := 2, ground := Ground.data }, { on := 10, ground := Ground.data }], guard := none }) (v := ?_) rfl (by kernel_rfl) (by kernel_rfl) (by kernel_rfl) (fun _ _ _ h => h) (.inl ⟨by rfl, ?_⟩) trivial ?_
          rotate_left
          · intro w' hSw
            (try dsimp only at hSw)
            go_simp
            try with_reducible rfl
          (try simp only [Act.put, List.setIfInBounds_toArray, List.set_cons_zero, List.set_cons_succ])
          refine wpAnyH_done (by kernel_rfl) ?_ _
          go_wp2
          go_roundw
          case rel => exact ⟨k + 1, by omega, by go_num, hbk⟩
          case measure => simp [Go.RowKit.intOf]; omega
        | false =>
          have HHAS := Lib.hid (HSTK.out rfl)
          go_region_held3 (fun w' => w'.cell? ⟨w2.heap.size, 0, none⟩ = some (.int .i64 y.kind_) ∧ w'.cell? ⟨w2.heap.size, 1, none⟩ = some (.string y.name_) ∧ w'.cell? ⟨w2.heap.size, 2, none⟩ = some (.slice D2 y.args_.length d2) ∧ w'.cell? ⟨g, o + k, none⟩ = some (.string d[k]))
            (first
             | go_keep
             | exact ⟨(cells3 (whole_keep HB5.out hcur)).1, (cells3 (whole_keep HB5.out hcur)).2.1, (cells3 (whole_keep HB5.out hcur)).2.2, (hcur2.cell (p := ⟨g, o + k, none⟩) hgb).trans hc⟩)
            (first
             | (go_at_call 23
                refine (implTyVarsI y (.agg #[.int .i64 y.kind_, .string y.name_, .slice D2 y.args_.length d2]) _ OKY.out (by omega) ⟨_, _, rfl, HTY2.out.grow hcur⟩).mono ?_
                rw [← HDY.out]
                rintro e w20 ⟨V, rfl, hown, hb20⟩
                obtain ⟨A20, c20, q20, rfl, hS20, -, -, -⟩ := own_row hown
                have hcur := hcur.trans (hb20.mono hcur.size)
                have hcur2 := hcur2.trans (hb20.mono hcur2.size)
                have hbk := hbk.trans (hb20.mono hbk.size))
             | (go_at_call 48
                refine (containsHas A20 c20 dy d[k] _ hS20 (by omega)).mono ?_
                rw [HHAS.out]
                rintro e w21 ⟨rfl, rfl⟩))
          go_wp2
          go_roundw
          case rel => exact ⟨k + 1, by omega, by go_num, hbk⟩
          case measure => simp [Go.RowKit.intOf]; omega
      · go_wp2
        go_ret
        exact ⟨rfl, HB.out.trans (hcur.mono HB.out.size)⟩
  · go_enter Try.func8, Try.ntmps8
    go_wp2_with fail
    refine (bigYes A n c _ (by omega)).mono ?_
    rintro e w1 ⟨rfl, rfl⟩
    go_wp2
    go_ret
    exact ⟨rfl, Below.refl _ _⟩
end Go.Proofs.Ytkiofeiinecpiaa

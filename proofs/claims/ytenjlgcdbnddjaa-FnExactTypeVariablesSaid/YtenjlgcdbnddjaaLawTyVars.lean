/- The law of TypeVariables. -/
import Derived.Test.YtenjlgcdbnddjaaLawT
import Derived.Test.YtenjlgcdbnddjaaTyVarsI
import Derived.Test.YtenjlgcdbnddjaaTypeWmark
import Derived.Test.YtenjlgcdbnddjaaMarkS
import Derived.Test.YtenjlgcdbnddjaaEq
import Derived.Deep.CutRange
namespace Go.Proofs.Ytenjlgcdbnddjaa
open Go.RowKit Go.Lib

mutual
theorem TypeX.cnt_size : ∀ x : TypeX, DV.cntL x.cells = 2 * x.size
  | .mk a b c => by
    rw [TypeX.cells, TypeX.size]
    simp only [DV.cntL, DV.cnt]
    have h := TypeX.cntE_size c
    omega
theorem TypeX.cntE_size : ∀ l : List TypeX, DV.cntE (TypeX.rows l) = 2 * TypeX.sizeL l
  | [] => by rw [TypeX.rows, TypeX.sizeL, DV.cntE]
  | x :: r => by rw [TypeX.rows, DV.cntE, TypeX.sizeL, TypeX.cnt_size x, TypeX.cntE_size r]; omega
end
theorem Strs.butV {w w' : World} {A : Option Addr} {ss : List ByteArray} {bs : List Nat} (h : Strs w A ss) (hb : ButV bs w w') (hne : ∀ ad, A = some ad → ad.block ∉ bs) : Strs w' A ss := by
  rcases h with h | ⟨b, o, rfl, hg, hc⟩
  · exact .inl h
  · exact .inr ⟨b, o, rfl, Nat.lt_of_lt_of_le hg hb.size, fun j s hj => (World.cell?_of_block (a := ⟨b, o + j, none⟩) (hb.block b hg (hne _ rfl))).trans (hc j s hj)⟩
theorem made_typeV {x : TypeX} {w w' : World} {e : Ending} (h : MadeV x.cells w e w') : ∃ (vs : List Value) (bs : List Nat) (A : Option Addr) (c : Nat), vs.toArray = #[.int .i64 x.kind_, .string x.name_, .slice A x.args_.length c] ∧ e = .returned (.agg vs.toArray) ∧ OwVs w' w.heap.size x.cells vs bs ∧ bs.Nodup ∧ TypeRow w' (Und w'.heap.size) A c x.args_ ∧ Below w.heap.size w w' := by
  obtain ⟨vs, bs, rfl, ho, hn, hb⟩ := h
  obtain ⟨A, c, e, hr⟩ := TypeAt.of_reads (OwVs_read (P := Und w'.heap.size) x.cells (fun b hb' => (OwVs_lt x.cells ho b hb').2) ho)
  exact ⟨vs, bs, A, c, by injection e, rfl, ho, hn, hr, hb⟩

set_option maxRecDepth 100000 in
set_option maxHeartbeats 8000000 in
theorem lawTyVars (x : TypeX) (v : Value) (w : World) (hok : DV.okL x.cells) (hv : TypeAt w (Und w.heap.size) x v) :
    Calls Try.prog 8 #[v] w fun e w' => e = .returned (.bool true) ∧ Below w.heap.size w w' := by
  obtain ⟨A, c, rfl, hx⟩ := hv
  have hb0 : Below w.heap.size w (w.alloc (.cells #[.int .i64 x.kind_, .string x.name_, .slice A x.args_.length c] 37)) := (Below.refl _ _).alloc (Nat.le_refl _) _
  have HW0 := Lib.hid (Whole.new w 37 #[.int .i64 x.kind_, .string x.name_, .slice A x.args_.length c])
  have HL0 := Lib.hid (hx.grow hb0)
  have HXX := Lib.hid hx
  clear hx
  by_cases hw : DV.wtL x.cells ≤ 1048576
  · have hsz : x.size ≤ 4294967296 := by have := TypeX.size_wt x; omega
    have hlf := leftV_yes hw
    have hnn : ¬ ((1048576 : Nat) : Int) - (DV.wtL x.cells : Int) < 0 := by omega
    have HF := Lib.hid hlf
    clear hlf
    go_enter Try.func8, Try.ntmps8
    go_wp2_with fail
    refine (szType x _ 1048576 _ hok ⟨_, _, rfl, HL0.out⟩ (by decide)).mono ?_
    rw [HF.out]
    rintro e w1 ⟨rfl, hb1⟩
    have h1 : Below w.heap.size w w1 := hb0.trans (hb1.mono hb0.size)
    have HW1 := Lib.hid (whole_keep HW0.out hb1)
    have HL1 := Lib.hid (HL0.out.grow hb1)
    obtain ⟨p0, p1, p2⟩ := cells3 HW1.out
    go_wp2_with fail
    refine (toType x _ _ hw ⟨_, _, rfl, HL1.out⟩).mono ?_
    intro e w2 hm2
    obtain ⟨A2, c2, rfl, hr2, hb2⟩ := made_type hm2
    clear hm2 p0 p1 p2
    have h2 : Below w.heap.size w w2 := h1.trans (hb2.mono h1.size)
    have HW2 := Lib.hid (whole_keep HW1.out hb2)
    have HL2 := Lib.hid (HL1.out.grow hb2)
    have HM2 := Lib.hid hr2
    clear hr2
    go_wp2_with fail
    refine (specTyVars x _ _ hsz ⟨_, _, rfl, HM2.out⟩).mono ?_
    obtain ⟨d, hd⟩ : ∃ d, d = x.vars [] := ⟨_, rfl⟩
    have hdl : d.length ≤ 4294967296 := by have := TypeX.vars_len x []; rw [hd]; rw [List.length_nil] at this; omega
    rw [← hd]
    have HD := Lib.hid hd
    clear hd
    rintro e w3 ⟨V0, rfl, hown0, hb3⟩
    obtain ⟨A0, d0, q0, rfl, hS0, _, hq0, ha0⟩ := own_row hown0
    have HS0 := Lib.hid hS0
    clear hown0 hS0
    have h3 : Below w.heap.size w w3 := h2.trans (hb3.mono h2.size)
    have HW3 := Lib.hid (whole_keep HW2.out hb3)
    have HL3 := Lib.hid (HL2.out.grow hb3)
    obtain ⟨p0, p1, p2⟩ := cells3 HW3.out
    go_wp2_with fail
    refine (toType x _ _ hw ⟨_, _, rfl, HL3.out⟩).mono ?_
    intro e w4 hm4
    obtain ⟨vs4, bs4, A4, c4, hvs4, rfl, ho4, hn4, hr4, hb4⟩ := made_typeV hm4
    have hlt4 := OwVs_lt x.cells ho4
    rw [hvs4]
    clear p0 p1 p2
    have h4 : Below w.heap.size w w4 := h3.trans (hb4.mono h3.size)
    have n4 : Below w4.heap.size w4 (w4.alloc (.cells #[.int .i64 x.kind_, .string x.name_, .slice A4 x.args_.length c4] 26)) := (Below.refl _ _).alloc (Nat.le_refl _) _
    have HM4 := Lib.hid (hr4.grow n4)
    have HO4 := Lib.hid (OwVs_below ho4 n4)
    have HN4 := Lib.hid hn4
    have HVS := Lib.hid hvs4
    have HLT := Lib.hid hlt4
    have HS4 := Lib.hid ((HS0.out.below hb4).below n4)
    have HX4 := Lib.hid (Whole.new w4 26 #[.int .i64 x.kind_, .string x.name_, .slice A4 x.args_.length c4])
    have HW4 := Lib.hid (whole_keep (whole_keep HW3.out hb4) n4)
    have HL4 := Lib.hid ((HL3.out.grow hb4).grow n4)
    clear hr4 ho4 hn4 hvs4 hlt4 hm4
    go_wp2_with fail
    refine (implTyVarsI x _ _ hok hsz ⟨_, _, rfl, HM4.out⟩).mono ?_
    rw [← HD.out]
    rintro e w5 ⟨V1, rfl, hown1, hb5⟩
    obtain ⟨A1, d1, q1, rfl, hS1, hr1, hq1, ha1⟩ := own_row hown1
    have HS1 := Lib.hid hS1
    have HR1 := Lib.hid hr1
    have HS5 := Lib.hid (HS4.out.below hb5)
    have HO5 := Lib.hid (OwVs_below HO4.out hb5)
    clear hown1 hS1 hr1
    have m5 := n4.trans (hb5.mono n4.size)
    have h5 : Below w.heap.size w w5 := h4.trans (m5.mono h4.size)
    have HW5 := Lib.hid (whole_keep HW4.out hb5)
    have HX5 := Lib.hid (whole_keep HX4.out hb5)
    have HL5 := Lib.hid (HL4.out.grow hb5)
    have HM5 := Lib.hid (HM4.out.grow hb5)
    go_wp2_with fail
    refine (eqStrings _ _ _ _ d _ HS1.out HS5.out (by omega)).mono ?_
    rintro e w5' ⟨rfl, hbe⟩
    have h5' : Below w.heap.size w w5' := h5.trans (hbe.mono h5.size)
    have HW5 := Lib.hid (whole_keep HW5.out hbe)
    have HX5 := Lib.hid (whole_keep HX5.out hbe)
    have HL5 := Lib.hid (HL5.out.grow hbe)
    have HM5 := Lib.hid (HM5.out.grow hbe)
    have HS1 := Lib.hid (HS1.out.below hbe)
    have HS5 := Lib.hid (HS5.out.below hbe)
    have HR1 := Lib.hid (HR1.out.below hbe)
    have HO5 := Lib.hid (OwVs_below HO5.out hbe)
    obtain ⟨p0, p1, p2⟩ := cells3 HW5.out
    obtain ⟨r0, r1, r2⟩ := cells3 HX5.out
    go_upto_region 10 with (fail)
    go_cut [31] from 27 to 31 (fun v31 wc => v31 = .bool false ∧ Below w5'.heap.size w5' wc)
    case first =>
      go_region_with (first
        | (go_at_call 27
           refine (toType x _ _ hw ⟨_, _, rfl, HL5.out.drew_⟩).mono ?_
           intro e w6 hm6
           obtain ⟨A6, c6, rfl, hr6, hb6⟩ := made_type hm6
           have hb6 : Below w5'.heap.size w5' w6 := (Below.refl _ w5').drew.trans hb6
           have HM6 := Lib.hid (HM5.out.grow hb6)
           have HN6 := Lib.hid hr6
           obtain ⟨r0, r1, r2⟩ := cells3 (whole_keep HX5.out hb6)
           clear hr6 hm6)
        | (go_at_call 28
           refine (eqType x _ _ _ ⟨_, _, rfl, HM6.out⟩ ⟨_, _, rfl, HN6.out⟩).mono ?_
           rintro e w7 ⟨rfl, hb7⟩
           have h7 : Below w5'.heap.size w5' w7 := hb6.trans (hb7.mono hb6.size)))
      all_goals (
        go_wp2
        go_meet
        case rel => exact ⟨rfl, h7⟩)
    case rest =>
      obtain ⟨rfl, hbc⟩ := hcut
      have h8 : Below w.heap.size w wc := h5'.trans (hbc.mono h5'.size)
      have HW8 := Lib.hid (whole_keep HW5.out hbc)
      have HX8 := Lib.hid (whole_keep HX5.out hbc)
      have HL8 := Lib.hid (HL5.out.grow hbc)
      have HS1 := Lib.hid (HS1.out.below hbc)
      have HS8 := Lib.hid (HS5.out.below hbc)
      have HR1 := Lib.hid (HR1.out.below hbc)
      have HO8 := Lib.hid (OwVs_below HO5.out hbc)
      clear p0 p1 p2 r0 r1 r2
      obtain ⟨r0, r1, r2⟩ := cells3 HX8.out
      have hcnt : 1 + tcntL x.cells ≤ 4294967296 := by
        have e1 := TypeX.tcnt_eq x
        have e2 := TypeX.cntE_size x.args_
        have e3 := TypeX.size_eq x
        have e4 := TypeX.size_wt x
        omega
      have hk0 : ¬ ((1 + tcntL x.cells : Nat) : Int) < 0 := by omega
      have hmk := markVType x vs4 1 w3.heap.size bs4 wc HO8.out HN4.out (by decide) hcnt
      rw [HVS.out] at hmk
      have HMK := Lib.hid hmk
      clear hmk
      go_wp2_with fail
      refine HMK.out.mono ?_
      rintro e w9 ⟨rfl, -, hb9⟩
      have hsz4 := hb4.size
      have hsz8 := h8.size
      have z3 := h3.size
      have z4 := n4.size
      have z5 := hb5.size
      have ze := hbe.size
      have zc := hbc.size
      simp only [World.size_alloc] at z4 z5
      have h9 : Below w.heap.size w w9 := h8.trans (hb9.below hsz8 (fun b hb => by have := (HLT.out b hb).1; omega))
      have f0 : ∀ ad, A0 = some ad → ad.block ∉ bs4 := fun ad e hm => by have h1 := (HLT.out _ hm).1; have h2 := ha0 ad e; omega
      have zq1 : w4.heap.size + 1 ≤ q1 := by simpa using hq1
      have zq0 := hq0
      have f1 : ∀ ad, A1 = some ad → ad.block ∉ bs4 := fun ad e hm => by have h1 := (HLT.out _ hm).2; have h2 := ha1 ad e; omega
      have f2 : q1 ∉ bs4 := fun hm => by have h1 := (HLT.out _ hm).2; omega
      have f3 : ∀ ad, A0 = some ad → ad.block ≠ q1 := fun ad e => by have h2 := ha0 ad e; omega
      have HS1 := Lib.hid (HS1.out.butV hb9 f1)
      have HS9 := Lib.hid (HS8.out.butV hb9 f0)
      have HR1 := Lib.hid (HR1.out.keep hb9.size (fun hg => hb9.block q1 hg f2))
      have z0 := hb0.size
      simp only [World.size_alloc] at z0
      have z1 := hb1.size
      simp only [World.size_alloc] at z1
      have z2 := hb2.size
      have z3' := hb3.size
      have HW9 := Lib.hid (HW8.out.below (hb9.below (B := w3.heap.size) (by omega) (fun b hb => (HLT.out b hb).1)) (by omega))
      clear f0 f1 f2 hcnt
      go_wp2_with fail
      refine (eqStrings _ _ _ _ d _ HS1.out HS9.out (by omega)).mono ?_
      rintro e w10 ⟨rfl, hb10⟩
      have h10 : Below w.heap.size w w10 := h9.trans (hb10.mono h9.size)
      have HS10 := Lib.hid (HS9.out.below hb10)
      have HR10 := Lib.hid (HR1.out.below hb10)
      have HW10 := Lib.hid (whole_keep HW9.out hb10)
      have s10 := h10.size
      go_wp2_with fail
      refine (markS _ q1 d.length 1 _ _ HR10.out (by omega) (by omega) (by omega)).mono ?_
      rintro e w11 ⟨rfl, hm11, hb11⟩
      have h11 : Below w.heap.size w w11 := h10.trans (hb11.to_below (by omega) s10)
      have HW11 := Lib.hid (HW10.out.below (hb11.to_below (B := w.heap.size + 1) (by omega) (by have := HW10.out.lt; omega)) (by omega))
      have HS11 := Lib.hid (HS10.out.but hb11 f3)
      have hk1 : ¬ ((1 + d.length : Nat) : Int) < 0 := by omega
      have hk2 : (((1 + d.length : Nat) : Int) == ((1 + d.length : Nat) : Int)) = true := by simp
      go_wp2_with fail
      refine (heldS _ q1 d.length 1 _ _ hm11 (by omega) (by omega) (by omega)).mono ?_
      rintro e w12 ⟨rfl, hb12⟩
      have h12 : Below w.heap.size w w12 := h11.trans (hb12.mono h11.size)
      have hm12 := hm11.below hb12
      have HW12 := Lib.hid (whole_keep HW11.out hb12)
      obtain ⟨p0, p1, p2⟩ := cells3 HW12.out
      go_wp2_with fail
      refine (toType x _ _ hw ⟨_, _, rfl, HXX.out.grow h12⟩).mono ?_
      intro e w13 hm13
      obtain ⟨A13, c13, rfl, hr13, hb13⟩ := made_type hm13
      have h13 : Below w.heap.size w w13 := h12.trans (hb13.mono h12.size)
      have HM13 := Lib.hid hr13
      clear hm13 hr13 p0 p1 p2
      go_wp2_with fail
      refine (implTyVarsI x _ _ hok hsz ⟨_, _, rfl, HM13.out⟩).mono ?_
      rw [← HD.out]
      rintro e w14 ⟨V2, rfl, hown2, hb14⟩
      have h14 : Below w.heap.size w w14 := h13.trans (hb14.mono h13.size)
      obtain ⟨A14, d14, q14, rfl, hS14, _, _, _⟩ := own_row hown2
      have HS2 := Lib.hid hS14
      have HS14 := Lib.hid (((HS11.out.below hb12).below hb13).below hb14)
      have hm14 := (hm12.below hb13).below hb14
      clear hown2 hS14
      go_wp2_with fail
      refine (eqStrings _ _ _ _ d _ HS2.out HS14.out (by omega)).mono ?_
      rintro e w15 ⟨rfl, hb15⟩
      have h15 : Below w.heap.size w w15 := h14.trans (hb15.mono h14.size)
      go_wp2_with fail
      refine (heldS _ q1 d.length 1 _ _ (hm14.below hb15) (by omega) (by omega) (by omega)).mono ?_
      rintro e w16 ⟨rfl, hb16⟩
      have h16 : Below w.heap.size w w16 := h15.trans (hb16.mono h15.size)
      go_wp2
      go_ret
      exact ⟨rfl, h16⟩
  · have hlf := leftV_no (L := 1048576) (n := DV.wtL x.cells) (by omega)
    have HF := Lib.hid hlf
    clear hlf
    go_enter Try.func8, Try.ntmps8
    go_wp2_with fail
    refine (szType x _ 1048576 _ hok ⟨_, _, rfl, HL0.out⟩ (by decide)).mono ?_
    rw [HF.out]
    rintro e w1 ⟨rfl, hb1⟩
    have h1 : Below w.heap.size w w1 := hb0.trans (hb1.mono hb0.size)
    go_wp2
    go_ret
    exact ⟨rfl, h1⟩
end Go.Proofs.Ytenjlgcdbnddjaa

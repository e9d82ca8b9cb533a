/- The law of CanonicalizeAll. -/
import Derived.Test.YtngbilblddngcaaDoorZLawK
import Derived.Test.YtngbilblddngcaaDoorZCanK
namespace Go.Proofs.YtngbilblddngcaaDoor
open Go.RowKit Go.Lib

set_option maxRecDepth 100000 in
set_option maxHeartbeats 8000000 in
theorem lawCanAll (l0 : List TypeX) (A0 : Option Addr) (c0 : Nat) (w : World) (hpw : Pow w) (hok0 : DV.okE (TypeX.rows l0)) (hn0 : l0.length ≤ 9223372036854775807) (hv0 : TypeRow w (Und w.heap.size) A0 c0 l0) :
    Calls Tryd.prog 6 #[.slice A0 l0.length c0] w fun e w' => e = .returned (.bool true) ∧ Below w.heap.size w w' := by
  have HPW := Lib.hid hpw
  clear hpw
  have R0 := Lib.hid (rd_bet hv0)
  have OK0 := Lib.hid hok0
  clear hv0 hok0
  have h0 : Below w.heap.size w w := Below.refl _ _
  by_cases hw0 : DV.wtE (TypeX.rows l0) ≤ 1048576
  case neg =>
    have HF := Lib.hid (leftV_no (L := 1048576) (n := DV.wtE (TypeX.rows l0)) (by omega))
    go_enter Tryd.func6, Tryd.ntmps6
    go_wp2_with fail
    refine (szTypeS l0 A0 c0 1048576 _ OK0.out hn0 (rd_und R0.out (by omega)) (by decide)).mono ?_
    rw [HF.out]
    rintro e w1 ⟨rfl, hb⟩
    have hk := Keep.below hb
    have h1 : Below w.heap.size w w1 := h0.trans (hb.mono h0.size)
    have s1 := hk.size
    have R0 := Lib.hid (rd_carry R0.out hk (by omega) (by omega))
    clear hk hb
    go_wp2
    go_ret
    exact ⟨rfl, h1⟩
  case pos =>
    obtain ⟨L1, hL1, hl1⟩ : ∃ L : Nat, leftV 1048576 (DV.wtE (TypeX.rows l0)) = (L : Nat) ∧ L ≤ 1048576 := ⟨1048576 - DV.wtE (TypeX.rows l0), by rw [leftV_yes hw0]; omega, by omega⟩
    have HL1 := Lib.hid hL1
    have hnn1 : ¬ (L1 : Int) < 0 := by omega
    have hww0 : DV.wtE (TypeX.rows l0) ≤ 1048576 := by omega
    clear hL1
    obtain ⟨y, hy⟩ : ∃ y, y = TypeX.renL (newN (varsOf l0)) l0 := ⟨_, rfl⟩
    have HRL := Lib.hid (TypeX.rows_length y)
    have HY := Lib.hid hy
    have hcnt : 1 + DV.cntE (TypeX.rows y) ≤ 4398046511104 := by rw [hy]; exact cnt_canL hww0
    clear hy
    go_enter Tryd.func6, Tryd.ntmps6
    go_wp2_with fail
    refine (szTypeS l0 A0 c0 1048576 _ OK0.out hn0 (rd_und R0.out (by omega)) (by decide)).mono ?_
    rw [HL1.out]
    rintro e w1 ⟨rfl, hb⟩
    have hk := Keep.below hb
    have h1 : Below w.heap.size w w1 := h0.trans (hb.mono h0.size)
    have s1 := hk.size
    have R0 := Lib.hid (rd_carry R0.out hk (by omega) (by omega))
    clear hk hb
    go_wp2_with fail
    refine (toTypeS l0 A0 c0 _ hww0 (rd_und R0.out (by omega))).mono ?_
    intro e w2 hm
    obtain ⟨Ba0, da0, bsa0, rfl, ho, hnd, hr, hrg, hb⟩ := madeR_get (TypeX.rows_length l0) hm
    clear hm
    have hk := Keep.below hb
    have h2 : Below w.heap.size w w2 := h1.trans (hb.mono h1.size)
    have s2 := hk.size
    have R0 := Lib.hid (rd_carry R0.out hk (by omega) (by omega))
    clear hk hb
    have Ca0 := Lib.hid hr
    clear hr hrg ho hnd
    go_wp2_with fail
    refine (HY.out ▸ specCanAll l0 Ba0 da0 _ (by have := TypeX.sizeL_wt l0; omega) (rd_und Ca0.out (by omega))).mono ?_
    intro e w3 hm
    obtain ⟨BW, dW, bsW, rfl, ho, hnd, hr, hrg, hb⟩ := madeR_get HRL.out hm
    clear hm
    have hk := Keep.below hb
    have h3 : Below w.heap.size w w3 := h2.trans (hb.mono h2.size)
    have s3 := hk.size
    have R0 := Lib.hid (rd_carry R0.out hk (by omega) (by omega))
    have Ca0 := Lib.hid (rd_carry Ca0.out hk (by omega) (by omega))
    clear hk hb
    have CW := Lib.hid hr
    clear hr hrg ho hnd
    go_wp2_with fail
    refine (toTypeS l0 A0 c0 _ hww0 (rd_und R0.out (by omega))).mono ?_
    intro e w4 hm
    obtain ⟨Bx0, dx0, bsx0, rfl, ho, hnd, hr, hrg, hb⟩ := madeR_get (TypeX.rows_length l0) hm
    clear hm
    have hk := Keep.below hb
    have h4 : Below w.heap.size w w4 := h3.trans (hb.mono h3.size)
    have s4 := hk.size
    have R0 := Lib.hid (rd_carry R0.out hk (by omega) (by omega))
    have CW := Lib.hid (rd_carry CW.out hk (by omega) (by omega))
    clear hk hb
    have Cx0 := Lib.hid hr
    have Gx0 := Lib.hid hrg
    have Ox0 := Lib.hid ho
    have Dx0 := Lib.hid hnd
    clear hr hrg ho hnd
    go_wp2_with fail
    refine (HY.out ▸ implCanAll l0 Bx0 dx0 _ (HPW.out.below h4) (by have := TypeX.sizeL_wt l0; omega) (rd_und Cx0.out (by omega))).mono ?_
    intro e w5 hm
    obtain ⟨Bg, dg, bsg, rfl, ho, hnd, hr, hrg, hb⟩ := madeR_get HRL.out hm
    clear hm
    have hk := Keep.below hb
    have h5 : Below w.heap.size w w5 := h4.trans (hb.mono h4.size)
    have s5 := hk.size
    have R0 := Lib.hid (rd_carry R0.out hk (by omega) (by omega))
    have CW := Lib.hid (rd_carry CW.out hk (by omega) (by omega))
    have Cx0 := Lib.hid (rd_carry Cx0.out hk (by omega) (by omega))
    have Ox0 := Lib.hid (ow_carry Ox0.out Gx0.out hk (by omega))
    clear hk hb
    have Cg := Lib.hid hr
    have Gg := Lib.hid hrg
    have Og := Lib.hid ho
    have Dg := Lib.hid hnd
    clear hr hrg ho hnd
    go_wp2_with fail
    refine (eqTypeS y Bg BW dg dW _ (rd_und Cg.out (by omega)) (rd_und CW.out (by omega))).mono ?_
    rintro e w6 ⟨rfl, hb⟩
    have hk := Keep.below hb
    have h6 : Below w.heap.size w w6 := h5.trans (hb.mono h5.size)
    have s6 := hk.size
    have R0 := Lib.hid (rd_carry R0.out hk (by omega) (by omega))
    have CW := Lib.hid (rd_carry CW.out hk (by omega) (by omega))
    have Cx0 := Lib.hid (rd_carry Cx0.out hk (by omega) (by omega))
    have Ox0 := Lib.hid (ow_carry Ox0.out Gx0.out hk (by omega))
    have Cg := Lib.hid (rd_carry Cg.out hk (by omega) (by omega))
    have Og := Lib.hid (ow_carry Og.out Gg.out hk (by omega))
    clear hk hb
    go_wp2_with fail
    refine (toTypeS l0 A0 c0 _ hww0 (rd_und R0.out (by omega))).mono ?_
    intro e w7 hm
    obtain ⟨Bu0, du0, bsu0, rfl, ho, hnd, hr, hrg, hb⟩ := madeR_get (TypeX.rows_length l0) hm
    clear hm
    have hk := Keep.below hb
    have h7 : Below w.heap.size w w7 := h6.trans (hb.mono h6.size)
    have s7 := hk.size
    have R0 := Lib.hid (rd_carry R0.out hk (by omega) (by omega))
    have CW := Lib.hid (rd_carry CW.out hk (by omega) (by omega))
    have Cx0 := Lib.hid (rd_carry Cx0.out hk (by omega) (by omega))
    have Ox0 := Lib.hid (ow_carry Ox0.out Gx0.out hk (by omega))
    have Cg := Lib.hid (rd_carry Cg.out hk (by omega) (by omega))
    have Og := Lib.hid (ow_carry Og.out Gg.out hk (by omega))
    clear hk hb
    have Cu0 := Lib.hid hr
    clear hr hrg ho hnd
    go_wp2_with fail
    refine (eqTypeS l0 Bx0 Bu0 dx0 du0 _ (rd_und Cx0.out (by omega)) (rd_und Cu0.out (by omega))).mono ?_
    rintro e w8 ⟨rfl, hb⟩
    have hk := Keep.below hb
    have h8 : Below w.heap.size w w8 := h7.trans (hb.mono h7.size)
    have s8 := hk.size
    have R0 := Lib.hid (rd_carry R0.out hk (by omega) (by omega))
    have CW := Lib.hid (rd_carry CW.out hk (by omega) (by omega))
    have Cx0 := Lib.hid (rd_carry Cx0.out hk (by omega) (by omega))
    have Ox0 := Lib.hid (ow_carry Ox0.out Gx0.out hk (by omega))
    have Cg := Lib.hid (rd_carry Cg.out hk (by omega) (by omega))
    have Og := Lib.hid (ow_carry Og.out Gg.out hk (by omega))
    have Cu0 := Lib.hid (rd_carry Cu0.out hk (by omega) (by omega))
    clear hk hb
    obtain ⟨k1, ek1⟩ : ∃ q : Nat, q = 1 + DV.cntE (TypeX.rows l0) := ⟨_, rfl⟩
    have pk1 : 0 < k1 := by omega
    have qk1 : k1 ≤ 10000000 := by have := cntE_Type l0; have := TypeX.sizeL_wt l0; omega
    have tk1 : ¬ ((k1 : Nat) : Int) < 0 := by omega
    have Ek1 := Lib.hid ek1
    clear ek1
    go_wp2_with fail
    refine (markTypeS l0 Bx0 dx0 1 _ bsx0 _ Ox0.out Dx0.out (by decide) (by have := Ek1.out; omega)).mono ?_
    rw [← Ek1.out]
    rintro e w9 ⟨rfl, -, hb⟩
    have hk := Keep.butV (lo := w3.heap.size) (hi := w4.heap.size) hb Gx0.out
    have h9 : Below w.heap.size w w9 := below_butV h8 hb h8.size (fun x hx => by have := Gx0.out x hx; omega)
    have s9 := hk.size
    have R0 := Lib.hid (rd_carry R0.out hk (by omega) (by omega))
    have CW := Lib.hid (rd_carry CW.out hk (by omega) (by omega))
    have Cg := Lib.hid (rd_carry Cg.out hk (by omega) (by omega))
    have Og := Lib.hid (ow_carry Og.out Gg.out hk (by omega))
    clear hk hb
    go_wp2_with fail
    refine (eqTypeS y Bg BW dg dW _ (rd_und Cg.out (by omega)) (rd_und CW.out (by omega))).mono ?_
    rintro e w10 ⟨rfl, hb⟩
    have hk := Keep.below hb
    have h10 : Below w.heap.size w w10 := h9.trans (hb.mono h9.size)
    have s10 := hk.size
    have R0 := Lib.hid (rd_carry R0.out hk (by omega) (by omega))
    have CW := Lib.hid (rd_carry CW.out hk (by omega) (by omega))
    have Cg := Lib.hid (rd_carry Cg.out hk (by omega) (by omega))
    have Og := Lib.hid (ow_carry Og.out Gg.out hk (by omega))
    clear hk hb
    obtain ⟨m, em⟩ : ∃ q : Nat, q = 1 + DV.cntE (TypeX.rows y) := ⟨_, rfl⟩
    have EM := Lib.hid em
    have tm : ¬ ((m : Nat) : Int) < 0 := by omega
    have tm2 : (((m : Nat) : Int) == ((m : Nat) : Int)) = true := by simp
    clear em
    go_wp2_with fail
    refine (markTypeS y Bg dg 1 _ bsg _ Og.out Dg.out (by decide) hcnt).mono ?_
    rw [← EM.out]
    rintro e w11 ⟨rfl, hmk, hb⟩
    have hk := Keep.butV (lo := w4.heap.size) (hi := w5.heap.size) hb Gg.out
    have h11 : Below w.heap.size w w11 := below_butV h10 hb h10.size (fun x hx => by have := Gg.out x hx; omega)
    have s11 := hk.size
    have R0 := Lib.hid (rd_carry R0.out hk (by omega) (by omega))
    have CW := Lib.hid (rd_carry CW.out hk (by omega) (by omega))
    clear hk hb
    have hmr := OwV_read (P := Bet (w4.heap.size) (w5.heap.size)) _ Gg.out hmk
    have M := Lib.hid hmr
    clear hmk hmr
    go_wp2_with fail
    refine (heldTypeS y Bg dg 1 _ (rd_und M.out (by omega)) (by decide) hcnt).mono ?_
    rw [← EM.out]
    rintro e w12 ⟨rfl, hb⟩
    have hk := Keep.below hb
    have h12 : Below w.heap.size w w12 := h11.trans (hb.mono h11.size)
    have s12 := hk.size
    have R0 := Lib.hid (rd_carry R0.out hk (by omega) (by omega))
    have CW := Lib.hid (rd_carry CW.out hk (by omega) (by omega))
    have M := Lib.hid (rd_carry M.out hk (by omega) (by omega))
    clear hk hb
    go_wp2_with fail
    refine (toTypeS l0 A0 c0 _ hww0 (rd_und R0.out (by omega))).mono ?_
    intro e w13 hm
    obtain ⟨Bz0, dz0, bsz0, rfl, ho, hnd, hr, hrg, hb⟩ := madeR_get (TypeX.rows_length l0) hm
    clear hm
    have hk := Keep.below hb
    have h13 : Below w.heap.size w w13 := h12.trans (hb.mono h12.size)
    have s13 := hk.size
    have R0 := Lib.hid (rd_carry R0.out hk (by omega) (by omega))
    have CW := Lib.hid (rd_carry CW.out hk (by omega) (by omega))
    have M := Lib.hid (rd_carry M.out hk (by omega) (by omega))
    clear hk hb
    have Cz0 := Lib.hid hr
    clear hr hrg ho hnd
    go_wp2_with fail
    refine (HY.out ▸ implCanAll l0 Bz0 dz0 _ (HPW.out.below h13) (by have := TypeX.sizeL_wt l0; omega) (rd_und Cz0.out (by omega))).mono ?_
    intro e w14 hm
    obtain ⟨Bh, dh, bsh, rfl, ho, hnd, hr, hrg, hb⟩ := madeR_get HRL.out hm
    clear hm
    have hk := Keep.below hb
    have h14 : Below w.heap.size w w14 := h13.trans (hb.mono h13.size)
    have s14 := hk.size
    have R0 := Lib.hid (rd_carry R0.out hk (by omega) (by omega))
    have CW := Lib.hid (rd_carry CW.out hk (by omega) (by omega))
    have M := Lib.hid (rd_carry M.out hk (by omega) (by omega))
    have Cz0 := Lib.hid (rd_carry Cz0.out hk (by omega) (by omega))
    clear hk hb
    have Ch := Lib.hid hr
    clear hr hrg ho hnd
    go_wp2_with fail
    refine (eqTypeS y Bh BW dh dW _ (rd_und Ch.out (by omega)) (rd_und CW.out (by omega))).mono ?_
    rintro e w15 ⟨rfl, hb⟩
    have hk := Keep.below hb
    have h15 : Below w.heap.size w w15 := h14.trans (hb.mono h14.size)
    have s15 := hk.size
    have R0 := Lib.hid (rd_carry R0.out hk (by omega) (by omega))
    have CW := Lib.hid (rd_carry CW.out hk (by omega) (by omega))
    have M := Lib.hid (rd_carry M.out hk (by omega) (by omega))
    have Ch := Lib.hid (rd_carry Ch.out hk (by omega) (by omega))
    clear hk hb
    go_wp2_with fail
    refine (heldTypeS y Bg dg 1 _ (rd_und M.out (by omega)) (by decide) hcnt).mono ?_
    rw [← EM.out]
    rintro e w16 ⟨rfl, hb⟩
    have hk := Keep.below hb
    have h16 : Below w.heap.size w w16 := h15.trans (hb.mono h15.size)
    have s16 := hk.size
    have R0 := Lib.hid (rd_carry R0.out hk (by omega) (by omega))
    have CW := Lib.hid (rd_carry CW.out hk (by omega) (by omega))
    have M := Lib.hid (rd_carry M.out hk (by omega) (by omega))
    have Ch := Lib.hid (rd_carry Ch.out hk (by omega) (by omega))
    clear hk hb
    go_wp2
    go_ret
    exact ⟨rfl, h16⟩
end Go.Proofs.YtngbilblddngcaaDoor

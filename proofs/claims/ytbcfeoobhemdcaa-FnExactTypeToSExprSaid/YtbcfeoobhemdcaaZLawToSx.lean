/- The law of TypeToSExpr. -/
import Derived.Test.YtbcfeoobhemdcaaZLawV
import Derived.Test.YtbcfeoobhemdcaaZToSx
import Derived.Test.YtbcfeoobhemdcaaQ2
import Derived.Deep.CutRange
namespace Go.Proofs.Ytbcfeoobhemdcaa
open Go.RowKit Go.Lib

set_option maxRecDepth 100000 in
set_option maxHeartbeats 4000000 in
theorem lawToSx (x : TypeX) (v : Value) (w : World) (hok : DV.okL x.cells) (hv : TypeAt w (Und w.heap.size) x v) :
    Calls Try.prog 10 #[v] w fun e w' => e = .returned (.bool true) ∧ Below w.heap.size w w' := by
  obtain ⟨A, c, rfl, hx⟩ := hv
  have hb0 : Below w.heap.size w (w.alloc (.cells #[.int .i64 x.kind_, .string x.name_, .slice A x.args_.length c] 56)) := (Below.refl _ _).alloc (Nat.le_refl _) _
  have KW := Lib.hid (Whole.new w 56 #[.int .i64 x.kind_, .string x.name_, .slice A x.args_.length c])
  have KL := Lib.hid (hx.grow hb0)
  have KXX := Lib.hid hx
  have HOK := Lib.hid hok
  clear hx hok
  obtain ⟨hyw, hyn⟩ := enc_small x
  obtain ⟨y, hy⟩ : ∃ y : SX, y = x.enc := ⟨_, rfl⟩
  rw [← hy] at hyw hyn
  have HY := Lib.hid hy
  clear hy
  by_cases hw : DV.wtL x.cells ≤ 1048576
  · have hsz : x.size ≤ 4294967296 := by have := TypeX.size_wt x; omega
    have hnn : ¬ ((1048576 : Nat) : Int) - (DV.wtL x.cells : Int) < 0 := by omega
    have HF := Lib.hid (leftV_yes hw)
    go_enter Try.func10, Try.ntmps10
    go_wp2_with fail
    refine (szType x _ 1048576 _ HOK.out ⟨_, _, rfl, KL.out⟩ (by decide)).mono ?_
    rw [HF.out]
    rintro e w1 ⟨rfl, hb⟩
    have h1 : Below w.heap.size w w1 := hb0.trans (hb.mono hb0.size)
    have KW := Lib.hid (whole_keep KW.out hb)
    have KL := Lib.hid (KL.out.grow hb)
    clear hb hb0
    obtain ⟨p0, p1, p2⟩ := cells3 KW.out
    go_wp2_with fail
    refine (toType x _ _ hw ⟨_, _, rfl, KL.out⟩).mono ?_
    intro e w2 hm
    obtain ⟨A2, c2, rfl, hr, hb⟩ := made_type hm
    have h2 : Below w.heap.size w w2 := h1.trans (hb.mono h1.size)
    have KW := Lib.hid (whole_keep KW.out hb)
    have KL := Lib.hid (KL.out.grow hb)
    have KM := Lib.hid hr
    clear hm hr hb p0 p1 p2
    go_wp2_with fail
    refine (specToSx x A2 c2 _ HOK.out hsz KM.out).mono ?_
    rw [← HY.out]
    rintro e w3 ⟨V0, rfl, hr, hb⟩
    obtain ⟨A0, d0, rfl⟩ := hr.shape
    have KY0 := Lib.hid (show ListAt w3 (Lt w3.heap.size) A0 y.list from hr.list.frame (fun b h => h.1.2) fun _ _ _ => rfl)
    have h3 : Below w.heap.size w w3 := h2.trans (hb.mono h2.size)
    have KW := Lib.hid (whole_keep KW.out hb)
    have KL := Lib.hid (KL.out.grow hb)
    clear hr hb KM
    have hb : Below w3.heap.size w3 (w3.alloc (.cells #[.string y.atom, .slice A0 y.list.length d0] 26)) := (Below.refl _ _).alloc (Nat.le_refl _) _
    have z3 : (w3.alloc (.cells #[.string y.atom, .slice A0 y.list.length d0] 26)).heap.size = w3.heap.size + 1 := by simp
    have KQ := Lib.hid (Whole.new w3 26 #[.string y.atom, .slice A0 y.list.length d0])
    have KY := Lib.hid (list_keep KY0.out (Nat.le_refl _) hb)
    have KW := Lib.hid (whole_keep KW.out hb)
    have KL := Lib.hid (KL.out.grow hb)
    have h3' := h3.trans (hb.mono h3.size)
    clear KY0 hb
    obtain ⟨p0, p1, p2⟩ := cells3 KW.out
    go_wp2_with fail
    refine (toType x _ _ hw ⟨_, _, rfl, KL.out⟩).mono ?_
    intro e w4 hm
    obtain ⟨vs4, bs4, A4, c4, hvs4, rfl, ho4, hn4, hr4, hb⟩ := made_typeV hm
    have hlt4 := OwVs_lt x.cells ho4
    rw [hvs4]
    have h4 : Below w.heap.size w w4 := h3'.trans (hb.mono h3'.size)
    have s34 := hb.size
    rw [z3] at s34 hlt4 ho4
    have KQ := Lib.hid (whole_keep KQ.out hb)
    have KY := Lib.hid (list_keep KY.out (by rw [z3]; exact Nat.le_succ _) hb)
    have KW := Lib.hid (whole_keep KW.out hb)
    have KL := Lib.hid (KL.out.grow hb)
    clear hm hb p0 p1 p2 h3' z3
    have hb : Below w4.heap.size w4 (w4.alloc (.cells #[.int .i64 x.kind_, .string x.name_, .slice A4 x.args_.length c4] 35)) := (Below.refl _ _).alloc (Nat.le_refl _) _
    have z4 : (w4.alloc (.cells #[.int .i64 x.kind_, .string x.name_, .slice A4 x.args_.length c4] 35)).heap.size = w4.heap.size + 1 := by simp
    have KX := Lib.hid (Whole.new w4 35 #[.int .i64 x.kind_, .string x.name_, .slice A4 x.args_.length c4])
    have KM := Lib.hid (hr4.grow hb)
    have KO := Lib.hid (OwVs_below ho4 hb)
    have KN := Lib.hid hn4
    have KV := Lib.hid hvs4
    have KT := Lib.hid hlt4
    have KQ := Lib.hid (whole_keep KQ.out hb)
    have KY := Lib.hid (list_keep KY.out (by omega) hb)
    have KW := Lib.hid (whole_keep KW.out hb)
    have KL := Lib.hid (KL.out.grow hb)
    have h4' := h4.trans (hb.mono h4.size)
    clear hr4 ho4 hn4 hvs4 hlt4 hb
    go_wp2_with fail
    refine (implToSx x A4 c4 _ HOK.out hsz KM.out).mono ?_
    rw [← HY.out]
    intro e w5 hm
    obtain ⟨A1, d1, bs5, rfl, ho5, hn5, hin5, hb⟩ := hm.get
    have h5 : Below w.heap.size w w5 := h4'.trans (hb.mono h4'.size)
    have s45 := hb.size
    rw [z4] at s45 hin5 ho5
    have KX := Lib.hid (whole_keep KX.out hb)
    have KM := Lib.hid (KM.out.grow hb)
    have KO := Lib.hid (OwVs_below KO.out hb)
    have KQ := Lib.hid (whole_keep KQ.out hb)
    have KY := Lib.hid (list_keep KY.out (by rw [z4]; omega) hb)
    have KW := Lib.hid (whole_keep KW.out hb)
    have KL := Lib.hid (KL.out.grow hb)
    clear hm hb h4' z4
    have hb : Below w5.heap.size w5 (w5.alloc (.cells #[.string y.atom, .slice A1 y.list.length d1] 26)) := (Below.refl _ _).alloc (Nat.le_refl _) _
    have z5 : (w5.alloc (.cells #[.string y.atom, .slice A1 y.list.length d1] 26)).heap.size = w5.heap.size + 1 := by simp
    have KG := Lib.hid (Whole.new w5 26 #[.string y.atom, .slice A1 y.list.length d1])
    have KH := Lib.hid (OwX_keep ho5 (fun b hm => (hin5 b hm).2) hb)
    have KI := Lib.hid hin5
    have KD := Lib.hid hn5
    have KX := Lib.hid (whole_keep KX.out hb)
    have KM := Lib.hid (KM.out.grow hb)
    have KO := Lib.hid (OwVs_below KO.out hb)
    have KQ := Lib.hid (whole_keep KQ.out hb)
    have KY := Lib.hid (list_keep KY.out (by omega) hb)
    have KW := Lib.hid (whole_keep KW.out hb)
    have KL := Lib.hid (KL.out.grow hb)
    have h5' := h5.trans (hb.mono h5.size)
    have KA := Lib.hid (OwX_list (P := Lt (w5.heap.size + 1)) y (fun b hm => Nat.lt_succ_of_lt (KI.out b hm).2) KH.out)
    clear ho5 hin5 hn5 hb
    obtain ⟨q0, q1⟩ := cells2 KQ.out
    have ql := KQ.out.lt
    go_wp2_with fail
    refine (eqX y A1 A0 d1 d0 _ hyw (by rw [z5]; exact KA.out) (list_wide KY.out (by rw [z5]; omega))).mono ?_
    rintro e w6 ⟨rfl, hb⟩
    have h6 : Below w.heap.size w w6 := h5'.trans (hb.mono h5'.size)
    have s56 := hb.size
    rw [z5] at s56
    have KH := Lib.hid (OwX_keep KH.out (fun b hm => by rw [z5]; exact Nat.lt_succ_of_lt (KI.out b hm).2) hb)
    have KG := Lib.hid (whole_keep KG.out hb)
    have KX := Lib.hid (whole_keep KX.out hb)
    have KM := Lib.hid (KM.out.grow hb)
    have KO := Lib.hid (OwVs_below KO.out hb)
    have KQ := Lib.hid (whole_keep KQ.out hb)
    have KY := Lib.hid (list_keep KY.out (by rw [z5]; omega) hb)
    have KW := Lib.hid (whole_keep KW.out hb)
    have KL := Lib.hid (KL.out.grow hb)
    clear hb h5' z5 q0 q1 ql KA
    obtain ⟨p0, p1, p2⟩ := cells3 KW.out
    obtain ⟨r0, r1, r2⟩ := cells3 KX.out
    go_upto_region 10 with (fail)
    go_cut [31] from 27 to 31 (fun v31 wc => v31 = .bool false ∧ Below w6.heap.size w6 wc)
    case first =>
      go_region_with (first
        | (go_at_call 47
           refine (toType x _ _ hw ⟨_, _, rfl, KL.out.drew_⟩).mono ?_
           intro e w7 hm7
           obtain ⟨A6, c6, rfl, hr6, hb6⟩ := made_type hm7
           have hb6 : Below w6.heap.size w6 w7 := (Below.refl _ w6).drew.trans hb6
           have HM6 := Lib.hid (KM.out.grow hb6)
           have HN6 := Lib.hid hr6
           obtain ⟨r0, r1, r2⟩ := cells3 (whole_keep KX.out hb6)
           clear hr6 hm7)
        | (go_at_call 49
           refine (eqType x _ _ _ ⟨_, _, rfl, HM6.out⟩ ⟨_, _, rfl, HN6.out⟩).mono ?_
           rintro e w8 ⟨rfl, hb7⟩
           have h7 : Below w6.heap.size w6 w8 := hb6.trans (hb7.mono hb6.size)))
      all_goals (
        go_wp2
        go_meet
        case rel => exact ⟨rfl, h7⟩)
    case rest =>
      obtain ⟨rfl, hb⟩ := hcut
      have h8 : Below w.heap.size w wc := h6.trans (hb.mono h6.size)
      have s68 := hb.size
      have KH := Lib.hid (OwX_keep KH.out (fun b hm => by have := (KI.out b hm).2; omega) hb)
      have KG := Lib.hid (whole_keep KG.out hb)
      have KX := Lib.hid (whole_keep KX.out hb)
      have KO := Lib.hid (OwVs_below KO.out hb)
      have KQ := Lib.hid (whole_keep KQ.out hb)
      have KY := Lib.hid (list_keep KY.out (by omega) hb)
      have KW := Lib.hid (whole_keep KW.out hb)
      clear hb p0 p1 p2 r0 r1 r2 KM KL
      obtain ⟨r0, r1, r2⟩ := cells3 KX.out
      have hcnt : 1 + tcntL x.cells ≤ 4294967296 := by
        have e1 := TypeX.tcnt_eq x
        have e2 := TypeX.cntE_size x.args_
        have e3 := TypeX.size_eq x
        have e4 := TypeX.size_wt x
        omega
      have hk0 : ¬ ((1 + tcntL x.cells : Nat) : Int) < 0 := by omega
      have hmk := markVType x vs4 1 _ bs4 wc KO.out KN.out (by decide) hcnt
      rw [KV.out] at hmk
      have KMK := Lib.hid hmk
      clear hmk hcnt
      go_wp2_with fail
      refine KMK.out.mono ?_
      rintro e w9 ⟨rfl, -, hb⟩
      have s89 := hb.size
      have s38 := h3.size
      have far : ∀ b, b < w3.heap.size + 1 ∨ w4.heap.size ≤ b → b < wc.heap.size → w9.heap[b]? = wc.heap[b]? := fun b h1 h2 => hb.block b h2 fun hm => by have := KT.out b hm; omega
      have lw := KW.out.lt
      have lq := KQ.out.lt
      have lg := KG.out.lt
      have h9 : Below w.heap.size w w9 := h8.trans ⟨hb.os, hb.tape, hb.output, hb.size, fun b hb' => far b (.inl (by omega)) (by omega)⟩
      have KW := Lib.hid ((far _ (.inl (by omega)) lw).trans KW.out : Whole w9 _ _ _)
      have KQ := Lib.hid ((far _ (.inl (by omega)) lq).trans KQ.out : Whole w9 _ _ _)
      have KG := Lib.hid ((far _ (.inr (by omega)) lg).trans KG.out : Whole w9 _ _ _)
      have KY := Lib.hid (list_far KY.out (fun b hb' => far b (.inl (by omega)) (by omega)))
      have KH := Lib.hid (OwX_frame y (fun b hm => far b (.inr (by have := (KI.out b hm).1; omega)) (by have := (KI.out b hm).2; omega)) KH.out)
      have KA := Lib.hid (OwX_list (P := Lt w9.heap.size) y (fun b hm => by have := (KI.out b hm).2; show b < _; omega) KH.out)
      clear hb far r0 r1 r2 KX KO KMK lw lq lg
      obtain ⟨q0, q1⟩ := cells2 KQ.out
      obtain ⟨g0, g1⟩ := cells2 KG.out
      go_wp2_with fail
      refine (eqX y A1 A0 d1 d0 _ hyw KA.out (list_wide KY.out (by omega))).mono ?_
      rintro e w10 ⟨rfl, hb⟩
      have h10 : Below w.heap.size w w10 := h9.trans (hb.mono h9.size)
      have s910 := hb.size
      have KH := Lib.hid (OwX_keep KH.out (fun b hm => by have := (KI.out b hm).2; omega) hb)
      have KG := Lib.hid (whole_keep KG.out hb)
      have KQ := Lib.hid (whole_keep KQ.out hb)
      have KY := Lib.hid (list_keep KY.out (by omega) hb)
      have KW := Lib.hid (whole_keep KW.out hb)
      clear hb q0 q1 g0 g1 KA
      obtain ⟨g0, g1⟩ := cells2 KG.out
      go_wp2_with fail
      refine (markWhole y A1 d1 1 _ bs5 _ KH.out KD.out (fun b hm => by have := (KI.out b hm).2; omega) (by decide) (by omega)).mono ?_
      rintro e w11 ⟨rfl, hmk, hb⟩
      have s1011 := hb.size
      have far : ∀ b, b < w4.heap.size + 1 ∨ w5.heap.size ≤ b → b < w10.heap.size → w11.heap[b]? = w10.heap[b]? := fun b h1 h2 => hb.block b h2 fun hm => by have := KI.out b hm; omega
      have lw := KW.out.lt
      have lq := KQ.out.lt
      have lg := KG.out.lt
      have h11 : Below w.heap.size w w11 := h10.trans ⟨hb.os, hb.tape, hb.output, hb.size, fun b hb' => far b (.inl (by omega)) (by omega)⟩
      have KW := Lib.hid ((far _ (.inl (by omega)) lw).trans KW.out : Whole w11 _ _ _)
      have KQ := Lib.hid ((far _ (.inl (by omega)) lq).trans KQ.out : Whole w11 _ _ _)
      have KG := Lib.hid ((far _ (.inr (by omega)) lg).trans KG.out : Whole w11 _ _ _)
      have KY := Lib.hid (list_far KY.out (fun b hb' => far b (.inl (by omega)) (by omega)))
      have KK := Lib.hid (show ListAt w11 (Lt w11.heap.size) A1 (mrkL 1 y.list) from hmk.frame (fun b hm => by have := (KI.out b hm).2; show b < _; omega) fun _ _ _ => rfl)
      clear hb far hmk g0 g1 KH lw lq lg
      obtain ⟨g0, g1⟩ := cells2 KG.out
      have hk1 : ¬ ((1 + SX.nodesL y.list : Nat) : Int) < 0 := by omega
      go_wp2_with fail
      refine (heldWhole y A1 d1 1 _ KK.out (by decide) (by omega)).mono ?_
      rintro e w12 ⟨rfl, hb⟩
      have h12 : Below w.heap.size w w12 := h11.trans (hb.mono h11.size)
      have s1112 := hb.size
      have KG := Lib.hid (whole_keep KG.out hb)
      have KQ := Lib.hid (whole_keep KQ.out hb)
      have KY := Lib.hid (list_keep KY.out (by omega) hb)
      have KW := Lib.hid (whole_keep KW.out hb)
      have KK := Lib.hid (KK.out.grow hb)
      have hk2 : (((1 + SX.nodesL y.list : Nat) : Int) == ((1 + SX.nodesL y.list : Nat) : Int)) = true := by simp
      clear hb g0 g1
      obtain ⟨p0, p1, p2⟩ := cells3 KW.out
      go_wp2_with fail
      refine (toType x _ _ hw ⟨_, _, rfl, KXX.out.grow h12⟩).mono ?_
      intro e w13 hm
      obtain ⟨A13, c13, rfl, hr13, hb⟩ := made_type hm
      have h13 : Below w.heap.size w w13 := h12.trans (hb.mono h12.size)
      have s1213 := hb.size
      have KM := Lib.hid hr13
      have KG := Lib.hid (whole_keep KG.out hb)
      have KQ := Lib.hid (whole_keep KQ.out hb)
      have KY := Lib.hid (list_keep KY.out (by omega) hb)
      have KK := Lib.hid (KK.out.grow hb)
      clear hm hr13 hb p0 p1 p2
      go_wp2_with fail
      refine (implToSx x A13 c13 _ HOK.out hsz KM.out).mono ?_
      rw [← HY.out]
      intro e w14 hm
      obtain ⟨A14, d14, bs14, rfl, ho14, hn14, hin14, hb⟩ := hm.get
      have h14 : Below w.heap.size w w14 := h13.trans (hb.mono h13.size)
      have s1314 := hb.size
      have KG := Lib.hid (whole_keep KG.out hb)
      have KQ := Lib.hid (whole_keep KQ.out hb)
      have KY := Lib.hid (list_keep KY.out (by omega) hb)
      have KK := Lib.hid (KK.out.grow hb)
      have KA := Lib.hid (OwX_list (P := Lt w14.heap.size) y (fun b hm => (hin14 b hm).2) ho14)
      clear hm hb ho14 hn14 hin14
      have hb : Below w14.heap.size w14 (w14.alloc (.cells #[.string y.atom, .slice A14 y.list.length d14] 26)) := (Below.refl _ _).alloc (Nat.le_refl _) _
      have z14 : (w14.alloc (.cells #[.string y.atom, .slice A14 y.list.length d14] 26)).heap.size = w14.heap.size + 1 := by simp
      have h14' := h14.trans (hb.mono h14.size)
      have KG := Lib.hid (whole_keep KG.out hb)
      have KQ := Lib.hid (whole_keep KQ.out hb)
      have KY := Lib.hid (list_keep KY.out (by omega) hb)
      have KK := Lib.hid (KK.out.grow hb)
      have KA := Lib.hid (KA.out.grow hb)
      clear hb
      obtain ⟨q0, q1⟩ := cells2 KQ.out
      have ql := KQ.out.lt
      go_wp2_with fail
      refine (eqX y A14 A0 d14 d0 _ hyw KA.out (list_wide KY.out (by rw [z14]; omega))).mono ?_
      rintro e w15 ⟨rfl, hb⟩
      have h15 : Below w.heap.size w w15 := h14'.trans (hb.mono h14'.size)
      have KG := Lib.hid (whole_keep KG.out hb)
      have KK := Lib.hid (KK.out.grow hb)
      clear hb q0 q1 ql z14
      obtain ⟨g0, g1⟩ := cells2 KG.out
      go_wp2_with fail
      refine (heldWhole y A1 d1 1 _ KK.out (by decide) (by omega)).mono ?_
      rintro e w16 ⟨rfl, hb⟩
      have h16 : Below w.heap.size w w16 := h15.trans (hb.mono h15.size)
      clear hb g0 g1
      go_wp2
      go_ret
      exact ⟨rfl, h16⟩
  · have HF := Lib.hid (leftV_no (L := 1048576) (n := DV.wtL x.cells) (by omega))
    go_enter Try.func10, Try.ntmps10
    go_wp2_with fail
    refine (szType x _ 1048576 _ HOK.out ⟨_, _, rfl, KL.out⟩ (by decide)).mono ?_
    rw [HF.out]
    rintro e w1 ⟨rfl, hb⟩
    have h1 : Below w.heap.size w w1 := hb0.trans (hb.mono hb0.size)
    go_wp2
    go_ret
    exact ⟨rfl, h1⟩
end Go.Proofs.Ytbcfeoobhemdcaa

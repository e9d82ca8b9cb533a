/- The law of SExprToType. -/
import Derived.Test.YtbcfeoobhemdcaaZLawV
import Derived.Test.YtbcfeoobhemdcaaZTyFrom
import Derived.Test.YtbcfeoobhemdcaaQ2
import Derived.Deep.CutRange
namespace Go.Proofs.Ytbcfeoobhemdcaa
open Go.RowKit Go.Lib

theorem SxRow.drew_ {w : World} {A : Option Addr} {c : Nat} {l : List SX} (h : SxRow w (Und w.heap.size) A c l) : SxRow w.drew (Und w.drew.heap.size) A c l := h.frame (fun _ h => h) fun _ _ _ => rfl

set_option maxRecDepth 100000 in
set_option maxHeartbeats 4000000 in
theorem lawFrom (x : SX) (v : Value) (w : World) (hok : DV.okL x.cells) (hv : SxAt w (Und w.heap.size) x v) :
    Calls Try.prog 11 #[v] w fun e w' => e = .returned (.bool true) ∧ Below w.heap.size w w' := by
  obtain ⟨A, c, rfl, hx⟩ := hv
  have hb0 : Below w.heap.size w (w.alloc (.cells #[.string x.atom, .slice A x.list.length c] 46)) := (Below.refl _ _).alloc (Nat.le_refl _) _
  have KW := Lib.hid (Whole.new w 46 #[.string x.atom, .slice A x.list.length c])
  have KL := Lib.hid (hx.grow hb0)
  have KXX := Lib.hid hx
  have HOK := Lib.hid hok
  have HXO := Lib.hid (ok_cells x hok)
  clear hx hok
  have hyv := tyA_small x
  obtain ⟨y, hy⟩ : ∃ y : TypeX, y = x.tyA := ⟨_, rfl⟩
  obtain ⟨B, hB⟩ : ∃ B : Bool, B = x.tyB := ⟨_, rfl⟩
  rw [← hy] at hyv
  have HY := Lib.hid hy
  have HB := Lib.hid hB
  clear hy hB
  by_cases hw : DV.wtL x.cells ≤ 1048576
  · have hwx := hw
    rw [wt_cells] at hwx
    have hnx := nodes_wt x
    have hxn : x.nodes ≤ 4294967296 := by omega
    have hnn : ¬ ((1048576 : Nat) : Int) - (DV.wtL x.cells : Int) < 0 := by omega
    have HF := Lib.hid (leftV_yes hw)
    go_enter Try.func11, Try.ntmps11
    go_wp2_with fail
    refine (szSExpr x _ 1048576 _ HOK.out ⟨_, _, rfl, KL.out⟩ (by decide)).mono ?_
    rw [HF.out]
    rintro e w1 ⟨rfl, hb⟩
    have h1 : Below w.heap.size w w1 := hb0.trans (hb.mono hb0.size)
    have KW := Lib.hid (whole_keep KW.out hb)
    have KL := Lib.hid (KL.out.grow hb)
    clear hb hb0 hwx hnx
    obtain ⟨p0, p1⟩ := cells2 KW.out
    go_wp2_with fail
    refine (toOwn x A c _ hw KL.out).mono ?_
    intro e w2 hm
    obtain ⟨A2, c2, bs2, rfl, ho, hn, hin, hb⟩ := hm.get
    have h2 : Below w.heap.size w w2 := h1.trans (hb.mono h1.size)
    have KM := Lib.hid (OwX_list (P := Lt w2.heap.size) x (fun b hm => (hin b hm).2) ho)
    have KW := Lib.hid (whole_keep KW.out hb)
    have KL := Lib.hid (KL.out.grow hb)
    clear hm ho hn hin hb p0 p1
    go_wp2_with fail
    refine (specFrom x A2 c2 _ hxn HXO.out KM.out).mono ?_
    rw [← HY.out, ← HB.out]
    rintro e w3 ⟨A0, d0, rfl, hr, hb⟩
    have h3 : Below w.heap.size w w3 := h2.trans (hb.mono h2.size)
    have KY := Lib.hid (show TypeRow w3 (Und w3.heap.size) A0 d0 y.args_ from hr.frame (fun b h => h.2) fun _ _ _ => rfl)
    have KW := Lib.hid (whole_keep KW.out hb)
    have KL := Lib.hid (KL.out.grow hb)
    clear hr hb KM
    have hb : Below w3.heap.size w3 (w3.alloc (.cells #[.int .i64 y.kind_, .string y.name_, .slice A0 y.args_.length d0] 35)) := (Below.refl _ _).alloc (Nat.le_refl _) _
    have z3 : (w3.alloc (.cells #[.int .i64 y.kind_, .string y.name_, .slice A0 y.args_.length d0] 35)).heap.size = w3.heap.size + 1 := by simp
    have KQ := Lib.hid (Whole.new w3 35 #[.int .i64 y.kind_, .string y.name_, .slice A0 y.args_.length d0])
    have KY := Lib.hid (show TypeRow (w3.alloc (.cells #[.int .i64 y.kind_, .string y.name_, .slice A0 y.args_.length d0] 35)) (Und w3.heap.size) A0 d0 y.args_ from KY.out.frame (fun b h => h) fun b o h => hb.cell (p := ⟨b, o, none⟩) h)
    have KW := Lib.hid (whole_keep KW.out hb)
    have KL := Lib.hid (KL.out.grow hb)
    have h3' := h3.trans (hb.mono h3.size)
    have KQ0 := KQ.out.lt
    clear hb
    obtain ⟨p0, p1⟩ := cells2 KW.out
    go_wp2_with fail
    refine (toOwn x A c _ hw KL.out).mono ?_
    intro e w4 hm
    obtain ⟨A4, c4, bs4, rfl, ho4, hn4, hin4, hb⟩ := hm.get
    have h4 : Below w.heap.size w w4 := h3'.trans (hb.mono h3'.size)
    have s34 := hb.size
    rw [z3] at s34 hin4 ho4
    have KQ := Lib.hid (whole_keep KQ.out hb)
    have KY := Lib.hid (KY.out.frame (fun b h => h) fun b o h => hb.cell (p := ⟨b, o, none⟩) (Nat.lt_of_lt_of_le h (Nat.le_of_lt KQ0)))
    have KW := Lib.hid (whole_keep KW.out hb)
    have KL := Lib.hid (KL.out.grow hb)
    have KQ0 := KQ.out.lt
    clear hm hb p0 p1 h3' z3
    have hb : Below w4.heap.size w4 (w4.alloc (.cells #[.string x.atom, .slice A4 x.list.length c4] 26)) := (Below.refl _ _).alloc (Nat.le_refl _) _
    have z4 : (w4.alloc (.cells #[.string x.atom, .slice A4 x.list.length c4] 26)).heap.size = w4.heap.size + 1 := by simp
    have KX := Lib.hid (Whole.new w4 26 #[.string x.atom, .slice A4 x.list.length c4])
    have KO := Lib.hid (OwX_keep ho4 (fun b hm => (hin4 b hm).2) hb)
    have KM := Lib.hid (OwX_row (P := Und (w4.alloc (.cells #[.string x.atom, .slice A4 x.list.length c4] 26)).heap.size) (fun b hm => by have := (hin4 b hm).2; show b < _; rw [z4]; omega) KO.out)
    have KN := Lib.hid hn4
    have KT := Lib.hid hin4
    have KQ := Lib.hid (whole_keep KQ.out hb)
    have KY := Lib.hid (KY.out.frame (fun b h => h) fun b o h => hb.cell (p := ⟨b, o, none⟩) (Nat.lt_of_lt_of_le h (Nat.le_of_lt KQ0)))
    have KW := Lib.hid (whole_keep KW.out hb)
    have KL := Lib.hid (KL.out.grow hb)
    have KQ0 := KQ.out.lt
    have h4' := h4.trans (hb.mono h4.size)
    clear ho4 hn4 hin4 hb
    go_wp2_with fail
    refine (implFrom x A4 c4 _ hxn HXO.out KM.out).mono ?_
    rw [← HY.out, ← HB.out]
    rintro e w5 ⟨A1, d1, bs5, rfl, ho5, hn5, hb⟩
    have hin5 := OwVs_lt _ ho5
    have h5 : Below w.heap.size w w5 := h4'.trans (hb.mono h4'.size)
    have s45 := hb.size
    rw [z4] at s45 hin5 ho5
    have KO := Lib.hid (OwX_keep KO.out (fun b hm => by rw [z4]; have := (KT.out b hm).2; omega) hb)
    have KX := Lib.hid (whole_keep KX.out hb)
    have KQ := Lib.hid (whole_keep KQ.out hb)
    have KY := Lib.hid (KY.out.frame (fun b h => h) fun b o h => hb.cell (p := ⟨b, o, none⟩) (Nat.lt_of_lt_of_le h (Nat.le_of_lt KQ0)))
    have KW := Lib.hid (whole_keep KW.out hb)
    have KL := Lib.hid (KL.out.grow hb)
    have KQ0 := KQ.out.lt
    clear hb h4' z4 KM
    have hb : Below w5.heap.size w5 (w5.alloc (.cells #[.int .i64 y.kind_, .string y.name_, .slice A1 y.args_.length d1] 35)) := (Below.refl _ _).alloc (Nat.le_refl _) _
    have z5 : (w5.alloc (.cells #[.int .i64 y.kind_, .string y.name_, .slice A1 y.args_.length d1] 35)).heap.size = w5.heap.size + 1 := by simp
    have KG := Lib.hid (Whole.new w5 35 #[.int .i64 y.kind_, .string y.name_, .slice A1 y.args_.length d1])
    have KH := Lib.hid (OwVs_frame _ (fun b hm => hb.block b (hin5 b hm).2) ho5)
    have KI := Lib.hid hin5
    have KD := Lib.hid hn5
    have KO := Lib.hid (OwX_keep KO.out (fun b hm => by have := (KT.out b hm).2; omega) hb)
    have KX := Lib.hid (whole_keep KX.out hb)
    have KQ := Lib.hid (whole_keep KQ.out hb)
    have KY := Lib.hid (KY.out.frame (fun b h => h) fun b o h => hb.cell (p := ⟨b, o, none⟩) (Nat.lt_of_lt_of_le h (Nat.le_of_lt KQ0)))
    have KW := Lib.hid (whole_keep KW.out hb)
    have KL := Lib.hid (KL.out.grow hb)
    have KQ0 := KQ.out.lt
    have h5' := h5.trans (hb.mono h5.size)
    have KA := Lib.hid (OwVs_rowTy (P := Und (w5.heap.size + 1)) (fun b hm => Nat.lt_succ_of_lt (KI.out b hm).2) KH.out)
    clear ho5 hin5 hn5 hb
    obtain ⟨q0, q1, q2⟩ := cells3 KQ.out
    go_wp2_with fail
    refine (eqType y _ _ _ ⟨A1, d1, rfl, by rw [z5]; exact KA.out⟩ ⟨A0, d0, rfl, KY.out.frame (fun b h => Nat.lt_trans h KQ0) fun _ _ _ => rfl⟩).mono ?_
    rintro e w6 ⟨rfl, hb⟩
    have h6 : Below w.heap.size w w6 := h5'.trans (hb.mono h5'.size)
    have s56 := hb.size
    rw [z5] at s56
    have KH := Lib.hid (OwVs_frame _ (fun b hm => hb.block b (by rw [z5]; exact Nat.lt_succ_of_lt (KI.out b hm).2)) KH.out)
    have KG := Lib.hid (whole_keep KG.out hb)
    have KO := Lib.hid (OwX_keep KO.out (fun b hm => by rw [z5]; have := (KT.out b hm).2; omega) hb)
    have KX := Lib.hid (whole_keep KX.out hb)
    have KQ := Lib.hid (whole_keep KQ.out hb)
    have KY := Lib.hid (KY.out.frame (fun b h => h) fun b o h => hb.cell (p := ⟨b, o, none⟩) (Nat.lt_of_lt_of_le h (Nat.le_of_lt KQ0)))
    have KW := Lib.hid (whole_keep KW.out hb)
    have KL := Lib.hid (KL.out.grow hb)
    have KQ0 := KQ.out.lt
    have hBB : (B != B) = false := by simp
    clear hb h5' z5 q0 q1 q2 KA
    obtain ⟨p0, p1⟩ := cells2 KW.out
    obtain ⟨r0, r1⟩ := cells2 KX.out
    go_upto_region 10 with (fail)
    go_cut [45] from 41 to 45 (fun v31 wc => v31 = .bool false ∧ Below w6.heap.size w6 wc)
    case first =>
      have KO6 := Lib.hid (OwX_list (P := Lt w6.heap.size) x (fun b hm => by have := (KT.out b hm).2; show b < _; omega) KO.out)
      go_region_with (first
        | (go_at_call 38
           refine (toOwn x A c _ hw KL.out.drew_).mono ?_
           intro e w7 hm7
           obtain ⟨A6, c6, bs6, rfl, ho6, hn6, hin6, hb6⟩ := hm7.get
           have hb6 : Below w6.heap.size w6 w7 := (Below.refl _ w6).drew.trans hb6
           have HM6 := Lib.hid (list_wide (list_keep KO6.out (Nat.le_refl _) hb6) hb6.size)
           have HN6 := Lib.hid (OwX_list (P := Lt w7.heap.size) x (fun b hm => (hin6 b hm).2) ho6)
           obtain ⟨r0, r1⟩ := cells2 (whole_keep KX.out hb6)
           have rl := (whole_keep KX.out hb6).lt
           clear hm7 ho6 hn6 hin6)
        | (go_at_call 39
           refine (eqX x _ _ _ _ _ (by rw [← wt_cells]; exact hw) HM6.out HN6.out).mono ?_
           rintro e w8 ⟨rfl, hb7⟩
           have h7 : Below w6.heap.size w6 w8 := hb6.trans (hb7.mono hb6.size)))
      all_goals (
        go_wp2
        go_meet
        case rel => exact ⟨rfl, h7⟩)
    case rest =>
      obtain ⟨rfl, hb⟩ := hcut
      have h8 : Below w.heap.size w wc := h6.trans (hb.mono h6.size)
      have s68 := hb.size
      have KH := Lib.hid (OwVs_frame _ (fun b hm => hb.block b (by have := (KI.out b hm).2; omega)) KH.out)
      have KO := Lib.hid (OwX_keep KO.out (fun b hm => by have := (KT.out b hm).2; omega) hb)
      have KG := Lib.hid (whole_keep KG.out hb)
      have KX := Lib.hid (whole_keep KX.out hb)
      have KQ := Lib.hid (whole_keep KQ.out hb)
      have KY := Lib.hid (KY.out.frame (fun b h => h) fun b o h => hb.cell (p := ⟨b, o, none⟩) (Nat.lt_of_lt_of_le h (Nat.le_of_lt KQ0)))
      have KW := Lib.hid (whole_keep KW.out hb)
      have KQ0 := KQ.out.lt
      clear hb p0 p1 r0 r1 KL
      obtain ⟨r0, r1⟩ := cells2 KX.out
      have hxl : SX.nodesL x.list ≤ 4294967290 := by have := SX.nodes_eq x; have := nodes_wt x; rw [← wt_cells] at this; omega
      have hk0 : ¬ ((1 + SX.nodesL x.list : Nat) : Int) < 0 := by omega
      go_wp2_with fail
      refine (markWhole x A4 c4 1 _ bs4 _ KO.out KN.out (fun b hm => by have := (KT.out b hm).2; omega) (by decide) (by omega)).mono ?_
      rintro e w9 ⟨rfl, -, hb⟩
      have s89 := hb.size
      have s38 := h3.size
      have far : ∀ b, b < w3.heap.size + 1 ∨ w4.heap.size ≤ b → b < wc.heap.size → w9.heap[b]? = wc.heap[b]? := fun b h1 h2 => hb.block b h2 fun hm => by have := KT.out b hm; omega
      have lw := KW.out.lt
      have lg := KG.out.lt
      have h9 : Below w.heap.size w w9 := h8.trans ⟨hb.os, hb.tape, hb.output, hb.size, fun b hb' => far b (.inl (by omega)) (by omega)⟩
      have KW := Lib.hid ((far _ (.inl (by omega)) lw).trans KW.out : Whole w9 _ _ _)
      have KQ := Lib.hid ((far _ (.inl (by omega)) KQ0).trans KQ.out : Whole w9 _ _ _)
      have KG := Lib.hid ((far _ (.inr (by omega)) lg).trans KG.out : Whole w9 _ _ _)
      have KY := Lib.hid (KY.out.frame (fun b h => h) fun b o h => World.cell?_of_block (a := ⟨b, o, none⟩) (far b (.inl (by have : b < w3.heap.size := h; omega)) (by have : b < w3.heap.size := h; omega)))
      have KH := Lib.hid (OwVs_frame _ (fun b hm => far b (.inr (by have := (KI.out b hm).1; omega)) (by have := (KI.out b hm).2; omega)) KH.out)
      have KA := Lib.hid (OwVs_rowTy (P := Und w9.heap.size) (fun b hm => by have := (KI.out b hm).2; show b < _; omega) KH.out)
      have KQ0 : w3.heap.size < w9.heap.size := Nat.lt_of_lt_of_le KQ0 s89
      clear hb far r0 r1 KX KO lw lg
      obtain ⟨q0, q1, q2⟩ := cells3 KQ.out
      obtain ⟨g0, g1, g2⟩ := cells3 KG.out
      go_wp2_with fail
      refine (eqType y _ _ _ ⟨A1, d1, rfl, KA.out⟩ ⟨A0, d0, rfl, KY.out.frame (fun b h => Nat.lt_trans h KQ0) fun _ _ _ => rfl⟩).mono ?_
      rintro e w10 ⟨rfl, hb⟩
      have h10 : Below w.heap.size w w10 := h9.trans (hb.mono h9.size)
      have s910 := hb.size
      have KH := Lib.hid (OwVs_frame _ (fun b hm => hb.block b (by have := (KI.out b hm).2; omega)) KH.out)
      have KG := Lib.hid (whole_keep KG.out hb)
      have KQ := Lib.hid (whole_keep KQ.out hb)
      have KY := Lib.hid (KY.out.frame (fun b h => h) fun b o h => hb.cell (p := ⟨b, o, none⟩) (Nat.lt_of_lt_of_le h (Nat.le_of_lt KQ0)))
      have KW := Lib.hid (whole_keep KW.out hb)
      have KQ0 := KQ.out.lt
      clear hb q0 q1 q2 g0 g1 g2 KA
      obtain ⟨g0, g1, g2⟩ := cells3 KG.out
      have e1 := TypeX.cntE_size y.args_
      have e2 := TypeX.size_eq y
      have hcnt : 1 + tcntL y.cells ≤ 4294967296 := by rw [TypeX.tcnt_eq]; omega
      have hcn : 1 + DV.cntE (TypeX.rows y.args_) ≤ 4294967296 := by omega
      have KMK := Lib.hid (markVType y _ 1 _ bs5 w10 KH.out KD.out (by decide) hcnt)
      have hmc : tcntL y.cells = DV.cntE (TypeX.rows y.args_) := TypeX.tcnt_eq y
      obtain ⟨nn, hnn2⟩ : ∃ nn, nn = DV.cntE (TypeX.rows y.args_) := ⟨_, rfl⟩
      rw [hmc, ← hnn2] at KMK
      have HNN := Lib.hid hnn2
      rw [← hnn2] at hcn
      clear hcnt e1 e2 hmc hnn2
      go_wp2_with fail
      refine KMK.out.mono ?_
      rintro e w11 ⟨rfl, hmk, hb⟩
      have s1011 := hb.size
      have far : ∀ b, b < w4.heap.size + 1 ∨ w5.heap.size ≤ b → b < w10.heap.size → w11.heap[b]? = w10.heap[b]? := fun b h1 h2 => hb.block b h2 fun hm => by have := KI.out b hm; omega
      have lg := KG.out.lt
      have s310 := h3.size
      have lw := KW.out.lt
      have h11 : Below w.heap.size w w11 := h10.trans ⟨hb.os, hb.tape, hb.output, hb.size, fun b hb' => far b (.inl (by omega)) (by omega)⟩
      have KW := Lib.hid ((far _ (.inl (by omega)) lw).trans KW.out : Whole w11 _ _ _)
      have KQ := Lib.hid ((far _ (.inl (by omega)) KQ0).trans KQ.out : Whole w11 _ _ _)
      have KG := Lib.hid ((far _ (.inr (by omega)) lg).trans KG.out : Whole w11 _ _ _)
      have KY := Lib.hid (KY.out.frame (fun b h => h) fun b o h => World.cell?_of_block (a := ⟨b, o, none⟩) (far b (.inl (by have : b < w3.heap.size := h; omega)) (by have : b < w3.heap.size := h; omega)))
      have KK := Lib.hid (marked_row (P := Und w11.heap.size) (fun b hm => by have := (KI.out b hm).2; show b < _; omega) hmk)
      have KQ0 : w3.heap.size < w11.heap.size := Nat.lt_of_lt_of_le KQ0 s1011
      clear hb far hmk g0 g1 g2 KH lg KMK lw
      obtain ⟨g0, g1, g2⟩ := cells3 KG.out
      have hk1 : ¬ ((1 + nn : Nat) : Int) < 0 := by omega
      have KHV : Hid (∀ W : World, RdV W (Und W.heap.size) (.row 35 3 (vmkE 1 (TypeX.rows y.args_))) (.slice A1 y.args_.length d1) → Calls Try.prog 55 #[.agg #[.int .i64 y.kind_, .string y.name_, .slice A1 y.args_.length d1], .int .i64 (1 : Nat)] W fun e w' => e = .returned (.int .i64 (1 + nn : Nat)) ∧ Below W.heap.size W w') := Lib.hid fun W h => by have := heldVType y A1 d1 1 W h (by decide) (by rw [← HNN.out]; exact hcn); rwa [← HNN.out] at this
      go_wp2_with fail
      refine (KHV.out _ KK.out).mono ?_
      rintro e w12 ⟨rfl, hb⟩
      have h12 : Below w.heap.size w w12 := h11.trans (hb.mono h11.size)
      have s1112 := hb.size
      have KG := Lib.hid (whole_keep KG.out hb)
      have KQ := Lib.hid (whole_keep KQ.out hb)
      have KY := Lib.hid (KY.out.frame (fun b h => h) fun b o h => hb.cell (p := ⟨b, o, none⟩) (Nat.lt_of_lt_of_le h (Nat.le_of_lt KQ0)))
      have KW := Lib.hid (whole_keep KW.out hb)
      have KK := Lib.hid (RdV.grow KK.out hb)
      have KQ0 := KQ.out.lt
      have hk2 : (((1 + nn : Nat) : Int) == ((1 + nn : Nat) : Int)) = true := by simp
      clear hb g0 g1 g2
      obtain ⟨p0, p1⟩ := cells2 KW.out
      go_wp2_with fail
      refine (toOwn x A c _ hw (KXX.out.grow h12)).mono ?_
      intro e w13 hm
      obtain ⟨A13, c13, bs13, rfl, ho13, hn13, hin13, hb⟩ := hm.get
      have h13 : Below w.heap.size w w13 := h12.trans (hb.mono h12.size)
      have s1213 := hb.size
      have KM := Lib.hid (OwX_row (P := Und w13.heap.size) (fun b hm => (hin13 b hm).2) ho13)
      have KG := Lib.hid (whole_keep KG.out hb)
      have KQ := Lib.hid (whole_keep KQ.out hb)
      have KY := Lib.hid (KY.out.frame (fun b h => h) fun b o h => hb.cell (p := ⟨b, o, none⟩) (Nat.lt_of_lt_of_le h (Nat.le_of_lt KQ0)))
      have KK := Lib.hid (RdV.grow KK.out hb)
      have KQ0 := KQ.out.lt
      clear hm ho13 hn13 hin13 hb p0 p1
      go_wp2_with fail
      refine (implFrom x A13 c13 _ hxn HXO.out KM.out).mono ?_
      rw [← HY.out, ← HB.out]
      rintro e w14 ⟨A14, d14, bs14, rfl, ho14, hn14, hb⟩
      have h14 : Below w.heap.size w w14 := h13.trans (hb.mono h13.size)
      have hin14 := OwVs_lt _ ho14
      have s1314 := hb.size
      have KG := Lib.hid (whole_keep KG.out hb)
      have KQ := Lib.hid (whole_keep KQ.out hb)
      have KY := Lib.hid (KY.out.frame (fun b h => h) fun b o h => hb.cell (p := ⟨b, o, none⟩) (Nat.lt_of_lt_of_le h (Nat.le_of_lt KQ0)))
      have KK := Lib.hid (RdV.grow KK.out hb)
      have KQ0 := KQ.out.lt
      have KA := Lib.hid (OwVs_rowTy (P := Und w14.heap.size) (fun b hm => (hin14 b hm).2) ho14)
      clear hb ho14 hn14 hin14
      have hb : Below w14.heap.size w14 (w14.alloc (.cells #[.int .i64 y.kind_, .string y.name_, .slice A14 y.args_.length d14] 35)) := (Below.refl _ _).alloc (Nat.le_refl _) _
      have h14' := h14.trans (hb.mono h14.size)
      have KG := Lib.hid (whole_keep KG.out hb)
      have KQ := Lib.hid (whole_keep KQ.out hb)
      have KY := Lib.hid (KY.out.frame (fun b h => h) fun b o h => hb.cell (p := ⟨b, o, none⟩) (Nat.lt_of_lt_of_le h (Nat.le_of_lt KQ0)))
      have KK := Lib.hid (RdV.grow KK.out hb)
      have KQ0 := KQ.out.lt
      have KA := Lib.hid (KA.out.grow hb)
      clear hb
      obtain ⟨q0, q1, q2⟩ := cells3 KQ.out
      go_wp2_with fail
      refine (eqType y _ _ _ ⟨A14, d14, rfl, KA.out⟩ ⟨A0, d0, rfl, KY.out.frame (fun b h => Nat.lt_trans h KQ0) fun _ _ _ => rfl⟩).mono ?_
      rintro e w15 ⟨rfl, hb⟩
      have h15 : Below w.heap.size w w15 := h14'.trans (hb.mono h14'.size)
      have KG := Lib.hid (whole_keep KG.out hb)
      have KK := Lib.hid (RdV.grow KK.out hb)
      clear hb q0 q1 q2
      obtain ⟨g0, g1, g2⟩ := cells3 KG.out
      go_wp2_with fail
      refine (KHV.out _ KK.out).mono ?_
      rintro e w16 ⟨rfl, hb⟩
      have h16 : Below w.heap.size w w16 := h15.trans (hb.mono h15.size)
      clear hb g0 g1 g2
      go_wp2
      go_ret
      exact ⟨rfl, h16⟩
  · have HF := Lib.hid (leftV_no (L := 1048576) (n := DV.wtL x.cells) (by omega))
    go_enter Try.func11, Try.ntmps11
    go_wp2_with fail
    refine (szSExpr x _ 1048576 _ HOK.out ⟨_, _, rfl, KL.out⟩ (by decide)).mono ?_
    rw [HF.out]
    rintro e w1 ⟨rfl, hb⟩
    have h1 : Below w.heap.size w w1 := hb0.trans (hb.mono hb0.size)
    go_wp2
    go_ret
    exact ⟨rfl, h1⟩
end Go.Proofs.Ytbcfeoobhemdcaa

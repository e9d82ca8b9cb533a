/- The law of ParseType. -/
import Derived.Test.YtbcfeoobhemdcaaZLawV
import Derived.Test.YtbcfeoobhemdcaaZParseTy
import Derived.Test.YtbcfeoobhemdcaaQ2
import Derived.Deep.CutRange
namespace Go.Proofs.Ytbcfeoobhemdcaa
open Go.RowKit Go.Lib


set_option maxRecDepth 100000 in
set_option maxHeartbeats 4000000 in
theorem lawParseTy (s : ByteArray) (w : World) (hs : s.size ≤ 9223372036854775807) : Calls Try.prog 13 #[.string s] w fun e w' => e = .returned (.bool true) ∧ Below w.heap.size w w' := by
  by_cases h1 : s.size ≤ 1048576
  · have hyv := tyP_small s
    obtain ⟨y, hy⟩ : ∃ y : TypeX, y = tyPA s := ⟨_, rfl⟩
    obtain ⟨B, hB⟩ : ∃ B : Bool, B = tyPB s := ⟨_, rfl⟩
    rw [← hy] at hyv
    have HY := Lib.hid hy
    have HB := Lib.hid hB
    clear hy hB
    go_enter Try.func13, Try.ntmps13
    go_wp2_with fail
    refine (specParseTy s _ (by omega)).mono ?_
    rw [← HY.out, ← HB.out]
    rintro e w3 ⟨A0, d0, rfl, hr, hb⟩
    have h3 : Below w.heap.size w w3 := hb
    have KY := Lib.hid (show TypeRow w3 (Und w3.heap.size) A0 d0 y.args_ from hr.frame (fun b h => h.2) fun _ _ _ => rfl)
    clear hr hb
    have hb : Below w3.heap.size w3 (w3.alloc (.cells #[.int .i64 y.kind_, .string y.name_, .slice A0 y.args_.length d0] 35)) := (Below.refl _ _).alloc (Nat.le_refl _) _
    have z3 : (w3.alloc (.cells #[.int .i64 y.kind_, .string y.name_, .slice A0 y.args_.length d0] 35)).heap.size = w3.heap.size + 1 := by simp
    have KQ := Lib.hid (Whole.new w3 35 #[.int .i64 y.kind_, .string y.name_, .slice A0 y.args_.length d0])
    have KY := Lib.hid (show TypeRow (w3.alloc (.cells #[.int .i64 y.kind_, .string y.name_, .slice A0 y.args_.length d0] 35)) (Und w3.heap.size) A0 d0 y.args_ from KY.out.frame (fun b h => h) fun b o h => hb.cell (p := ⟨b, o, none⟩) h)
    have h3' := h3.trans (hb.mono h3.size)
    have KQ0 := KQ.out.lt
    clear hb
    go_wp2_with fail
    refine (implParseTy s _ (by omega)).mono ?_
    rw [← HY.out, ← HB.out]
    rintro e w5 ⟨A1, d1, bs5, rfl, ho5, hn5, hb⟩
    have hin5 := OwVs_lt _ ho5
    have h5 : Below w.heap.size w w5 := h3'.trans (hb.mono h3'.size)
    have s45 := hb.size
    rw [z3] at s45 hin5 ho5
    have KQ := Lib.hid (whole_keep KQ.out hb)
    have KY := Lib.hid (KY.out.frame (fun b h => h) fun b o h => hb.cell (p := ⟨b, o, none⟩) (Nat.lt_of_lt_of_le h (Nat.le_of_lt KQ0)))
    have KQ0 := KQ.out.lt
    clear hb h3' z3
    have hb : Below w5.heap.size w5 (w5.alloc (.cells #[.int .i64 y.kind_, .string y.name_, .slice A1 y.args_.length d1] 35)) := (Below.refl _ _).alloc (Nat.le_refl _) _
    have z5 : (w5.alloc (.cells #[.int .i64 y.kind_, .string y.name_, .slice A1 y.args_.length d1] 35)).heap.size = w5.heap.size + 1 := by simp
    have KG := Lib.hid (Whole.new w5 35 #[.int .i64 y.kind_, .string y.name_, .slice A1 y.args_.length d1])
    have KH := Lib.hid (OwVs_frame _ (fun b hm => hb.block b (hin5 b hm).2) ho5)
    have KI := Lib.hid hin5
    have KD := Lib.hid hn5
    have KQ := Lib.hid (whole_keep KQ.out hb)
    have KY := Lib.hid (KY.out.frame (fun b h => h) fun b o h => hb.cell (p := ⟨b, o, none⟩) (Nat.lt_of_lt_of_le h (Nat.le_of_lt KQ0)))
    have KQ0 := KQ.out.lt
    have h5' := h5.trans (hb.mono h5.size)
    have KA := Lib.hid (OwVs_rowTy (P := Und (w5.heap.size + 1)) (fun b hm => Nat.lt_succ_of_lt (KI.out b hm).2) KH.out)
    clear ho5 hin5 hn5 hb
    obtain ⟨q0, q1, q2⟩ := cells3 KQ.out
    go_wp2_with fail
    refine (eqType y _ _ _ ⟨A1, d1, rfl, by rw [z5]; exact KA.out⟩ ⟨A0, d0, rfl, KY.out.frame (fun b h => Nat.lt_trans h KQ0) fun _ _ _ => rfl⟩).mono ?_
    rintro e w6 ⟨rfl, hb⟩
    have h6 : Below w.heap.size w w6 := h5'.trans (hb.mono h5'.size)
    have s56 := hb.size
    rw [z5] at s56
    have KH := Lib.hid (OwVs_frame _ (fun b hm => hb.block b (by rw [z5]; exact Nat.lt_succ_of_lt (KI.out b hm).2)) KH.out)
    have KG := Lib.hid (whole_keep KG.out hb)
    have KQ := Lib.hid (whole_keep KQ.out hb)
    have KY := Lib.hid (KY.out.frame (fun b h => h) fun b o h => hb.cell (p := ⟨b, o, none⟩) (Nat.lt_of_lt_of_le h (Nat.le_of_lt KQ0)))
    have KQ0 := KQ.out.lt
    have hBB : (B != B) = false := by simp
    clear hb h5' z5 q0 q1 q2 KA
    obtain ⟨w10, hw10⟩ : ∃ w10, w10 = w6 := ⟨_, rfl⟩
    rw [← hw10] at h6 s56 KH KG KQ KY KQ0
    rw [← hw10]
    have h10 := h6
    clear hw10 h6
    obtain ⟨g0, g1, g2⟩ := cells3 KG.out
    have e1 := TypeX.cntE_size y.args_
    have e2 := TypeX.size_eq y
    have hcnt : 1 + tcntL y.cells ≤ 4294967296 := by rw [TypeX.tcnt_eq]; omega
    have hcn : 1 + DV.cntE (TypeX.rows y.args_) ≤ 4294967296 := by omega
    have KMK := Lib.hid (markVType y _ 1 _ bs5 w10 KH.out KD.out (by decide) hcnt)
    have hmc : tcntL y.cells = DV.cntE (TypeX.rows y.args_) := TypeX.tcnt_eq y
    obtain ⟨nn, hnn2⟩ : ∃ nn, nn = DV.cntE (TypeX.rows y.args_) := ⟨_, rfl⟩
    rw [hmc, ← hnn2] at KMK
    have HNN := Lib.hid hnn2
    rw [← hnn2] at hcn
    clear hcnt e1 e2 hmc hnn2
    go_wp2_with fail
    refine KMK.out.mono ?_
    rintro e w11 ⟨rfl, hmk, hb⟩
    have s1011 := hb.size
    have far : ∀ b, b < w3.heap.size + 1 ∨ w5.heap.size ≤ b → b < w10.heap.size → w11.heap[b]? = w10.heap[b]? := fun b h1 h2 => hb.block b h2 fun hm => by have := KI.out b hm; omega
    have lg := KG.out.lt
    have s310 := h3.size
    have h11 : Below w.heap.size w w11 := h10.trans ⟨hb.os, hb.tape, hb.output, hb.size, fun b hb' => far b (.inl (by omega)) (by omega)⟩
    have KQ := Lib.hid ((far _ (.inl (by omega)) KQ0).trans KQ.out : Whole w11 _ _ _)
    have KG := Lib.hid ((far _ (.inr (by omega)) lg).trans KG.out : Whole w11 _ _ _)
    have KY := Lib.hid (KY.out.frame (fun b h => h) fun b o h => World.cell?_of_block (a := ⟨b, o, none⟩) (far b (.inl (by have : b < w3.heap.size := h; omega)) (by have : b < w3.heap.size := h; omega)))
    have KK := Lib.hid (marked_row (P := Und w11.heap.size) (fun b hm => by have := (KI.out b hm).2; show b < _; omega) hmk)
    have KQ0 : w3.heap.size < w11.heap.size := Nat.lt_of_lt_of_le KQ0 s1011
    clear hb far hmk g0 g1 g2 KH lg KMK
    obtain ⟨g0, g1, g2⟩ := cells3 KG.out
    have hk1 : ¬ ((1 + nn : Nat) : Int) < 0 := by omega
    have KHV : Hid (∀ W : World, RdV W (Und W.heap.size) (.row 35 3 (vmkE 1 (TypeX.rows y.args_))) (.slice A1 y.args_.length d1) → Calls Try.prog 55 #[.agg #[.int .i64 y.kind_, .string y.name_, .slice A1 y.args_.length d1], .int .i64 (1 : Nat)] W fun e w' => e = .returned (.int .i64 (1 + nn : Nat)) ∧ Below W.heap.size W w') := Lib.hid fun W h => by have := heldVType y A1 d1 1 W h (by decide) (by rw [← HNN.out]; exact hcn); rwa [← HNN.out] at this
    go_wp2_with fail
    refine (KHV.out _ KK.out).mono ?_
    rintro e w12 ⟨rfl, hb⟩
    have h12 : Below w.heap.size w w12 := h11.trans (hb.mono h11.size)
    have s1112 := hb.size
    have KG := Lib.hid (whole_keep KG.out hb)
    have KQ := Lib.hid (whole_keep KQ.out hb)
    have KY := Lib.hid (KY.out.frame (fun b h => h) fun b o h => hb.cell (p := ⟨b, o, none⟩) (Nat.lt_of_lt_of_le h (Nat.le_of_lt KQ0)))
    have KK := Lib.hid (RdV.grow KK.out hb)
    have KQ0 := KQ.out.lt
    have hk2 : (((1 + nn : Nat) : Int) == ((1 + nn : Nat) : Int)) = true := by simp
    clear hb g0 g1 g2
    go_wp2_with fail
    refine (implParseTy s _ (by omega)).mono ?_
    rw [← HY.out, ← HB.out]
    rintro e w14 ⟨A14, d14, bs14, rfl, ho14, hn14, hb⟩
    have h14 : Below w.heap.size w w14 := h12.trans (hb.mono h12.size)
    have hin14 := OwVs_lt _ ho14
    have s1314 := hb.size
    have KG := Lib.hid (whole_keep KG.out hb)
    have KQ := Lib.hid (whole_keep KQ.out hb)
    have KY := Lib.hid (KY.out.frame (fun b h => h) fun b o h => hb.cell (p := ⟨b, o, none⟩) (Nat.lt_of_lt_of_le h (Nat.le_of_lt KQ0)))
    have KK := Lib.hid (RdV.grow KK.out hb)
    have KQ0 := KQ.out.lt
    have KA := Lib.hid (OwVs_rowTy (P := Und w14.heap.size) (fun b hm => (hin14 b hm).2) ho14)
    clear hb ho14 hn14 hin14
    have hb : Below w14.heap.size w14 (w14.alloc (.cells #[.int .i64 y.kind_, .string y.name_, .slice A14 y.args_.length d14] 35)) := (Below.refl _ _).alloc (Nat.le_refl _) _
    have h14' := h14.trans (hb.mono h14.size)
    have KG := Lib.hid (whole_keep KG.out hb)
    have KQ := Lib.hid (whole_keep KQ.out hb)
    have KY := Lib.hid (KY.out.frame (fun b h => h) fun b o h => hb.cell (p := ⟨b, o, none⟩) (Nat.lt_of_lt_of_le h (Nat.le_of_lt KQ0)))
    have KK := Lib.hid (RdV.grow KK.out hb)
    have KQ0 := KQ.out.lt
    have KA := Lib.hid (KA.out.grow hb)
    clear hb
    obtain ⟨q0, q1, q2⟩ := cells3 KQ.out
    go_wp2_with fail
    refine (eqType y _ _ _ ⟨A14, d14, rfl, KA.out⟩ ⟨A0, d0, rfl, KY.out.frame (fun b h => Nat.lt_trans h KQ0) fun _ _ _ => rfl⟩).mono ?_
    rintro e w15 ⟨rfl, hb⟩
    have h15 : Below w.heap.size w w15 := h14'.trans (hb.mono h14'.size)
    have KG := Lib.hid (whole_keep KG.out hb)
    have KK := Lib.hid (RdV.grow KK.out hb)
    clear hb q0 q1 q2
    obtain ⟨g0, g1, g2⟩ := cells3 KG.out
    go_wp2_with fail
    refine (KHV.out _ KK.out).mono ?_
    rintro e w16 ⟨rfl, hb⟩
    have h16 : Below w.heap.size w w16 := h15.trans (hb.mono h15.size)
    clear hb g0 g1 g2
    go_wp2
    go_ret
    exact ⟨rfl, h16⟩
  · go_enter Try.func13, Try.ntmps13
    go_wp2
    go_ret
    exact ⟨rfl, Below.refl _ _⟩
end Go.Proofs.Ytbcfeoobhemdcaa

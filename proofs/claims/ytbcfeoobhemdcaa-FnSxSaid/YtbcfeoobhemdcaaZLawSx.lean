/- The law that a valid S-expression round-trips through FormatSExpr and ParseSExpr. -/
import Derived.Test.YtbcfeoobhemdcaaZMadeX
import Derived.Test.YtbcfeoobhemdcaaZParseW
import Derived.Test.YtbcfeoobhemdcaaZTokText
import Derived.Test.YtbcfeoobhemdcaaZFormatImpl
import Derived.Test.YtbcfeoobhemdcaaZImplValid
import Derived.Test.YtbcfeoobhemdcaaZEqualImpl
import Derived.Lib.QuietBelow
import Derived.BigQuiet
namespace Go.Proofs.Ytbcfeoobhemdcaa
open Go.RowKit Go.Lib

theorem specP_said (x : SX) : specP x.said.data.toList = if x.valid = true then some x else none := by
  rw [SX.said]
  split
  · rename_i h; exact specP_text x h
  · exact specP_nil
theorem SX.same_self (x : SX) : x.same x = true := (SX.same_iff x x).2 rfl
theorem said_len {x : SX} (h1 : x.wt ≤ 14000) (h2 : x.nodes ≤ 1000) : x.said.size ≤ 20000 := by
  have h := SX.text_le x
  rw [SX.said]
  split
  · omega
  · exact Nat.zero_le _

set_option maxRecDepth 100000 in
set_option maxHeartbeats 4000000 in
theorem lawSx (A : Option Addr) (n c : Nat) (w : World) (hA : BytesAt w w.heap.size A n) (hn0 : n ≤ 9223372036854775807) :
    Calls Try.prog 3 #[.slice A n c] w fun e w' => e = .returned (.bool true) ∧ Below w.heap.size w w' := by
  have HA := Lib.hid hA
  clear hA
  by_cases hbig : 1048576 < n
  · go_enter Try.func3, Try.ntmps3
    go_wp2_with fail
    refine (bigYes A n c _ hbig).mono ?_
    rintro e w1 ⟨rfl, rfl⟩
    go_wp2
    go_ret
    exact ⟨rfl, Below.refl _ _⟩
  · have hn : n ≤ 140737488355328 := by omega
    go_enter Try.func3, Try.ntmps3
    go_wp2_with fail
    refine (bigNo A n c _ (by omega)).mono ?_
    rintro e w1 ⟨rfl, rfl⟩
    go_wp2_with fail
    refine (drawFormat A n c _ HA.out hn).mono ?_
    intro e w1 hmade
    obtain ⟨x, A1, c1, rfl, hl1, hnx, hok, hwt, hb1⟩ := made_fact hmade (by decide)
    have hb2 : Below w1.heap.size w1 (w1.alloc (.cells #[.string x.atom, .slice A1 x.list.length c1] 26)) := (Below.refl _ _).alloc (Nat.le_refl _) _
    have hx2 := Whole.new w1 26 #[.string x.atom, .slice A1 x.list.length c1]
    have hl2 := (hl1.frame (Q := Lt w1.heap.size) (fun b h => h.2) fun _ _ _ => rfl).grow hb2
    have hbb := hb1.trans (hb2.mono hb1.size)
    have hsl := said_len hwt hnx
    have hsp := specP_said x
    have HX := Lib.hid hx2
    have HL := Lib.hid hl2
    have HB := Lib.hid hbb
    have HSP := Lib.hid hsp
    clear hmade hl1 hb1 hb2 hx2 hl2 hbb hsp
    go_wp2_with fail
    refine (implFormat x A1 c1 _ (by omega) hok HL.out).mono ?_
    rintro e w2 ⟨rfl, hb2⟩
    have hx2 := HX.out.below hb2 HX.out.lt
    have hlt2 := hx2.lt
    have HX2 := Lib.hid hx2
    have HL2 := Lib.hid (HL.out.grow hb2)
    have HB2 := Lib.hid (HB.out.trans (hb2.mono HB.out.size))
    clear hb2 hx2
    go_wp2_with fail
    refine (parseX x.said _ (by omega)).mono ?_
    rintro e w3 ⟨y, A3, c3, bs, hy, rfl, hO, hnd, hin, hb3⟩
    rw [impl_spec, HSP.out] at hy
    have hby : (implP x.said.data.toList).isSome = x.valid := by
      rw [impl_spec, HSP.out]
      cases x.valid <;> rfl
    have hx3 := HX2.out.below hb3 hlt2
    have hb4 : Below w3.heap.size w3 (w3.alloc (.cells #[.string y.atom, .slice A3 y.list.length c3] 26)) := (Below.refl _ _).alloc (Nat.le_refl _) _
    have hl3 := (HL2.out.grow hb3).grow hb4
    have hm3 := (OwX_list (P := Lt w3.heap.size) y (fun b hb => (hin b hb).2) hO).grow hb4
    have hx4 := hx3.below hb4 hx3.lt
    have hbb := (HB2.out.trans (hb3.mono HB2.out.size)).trans (hb4.mono (by have := HB2.out.size; have := hb3.size; omega))
    have hy4 := Whole.new w3 26 #[.string y.atom, .slice A3 y.list.length c3]
    rw [hby]
    generalize hbv : x.valid = bv at hy
    have HY := Lib.hid hy
    have HBV := Lib.hid hbv
    clear hby hO hnd hin hb3 hb4 hx3 hy hbv
    have HL3 := Lib.hid hl3
    have HM3 := Lib.hid hm3
    have HX4 := Lib.hid hx4
    have HY4 := Lib.hid hy4
    have HBB := Lib.hid hbb
    clear hl3 hm3 hx4 hy4 hbb
    go_wp2
    obtain ⟨X, hXe⟩ : ∃ X, X = w1.heap.size := ⟨_, rfl⟩
    obtain ⟨Y, hYe⟩ : ∃ Y, Y = w3.heap.size := ⟨_, rfl⟩
    obtain ⟨W, hW⟩ : ∃ W, W = w3.alloc (.cells #[.string y.atom, .slice A3 y.list.length c3] 26) := ⟨_, rfl⟩
    have hl3 := HL3.out
    have hm3 := HM3.out
    have hx4 := HX4.out
    have hy4 := HY4.out
    have hbb := HBB.out
    rw [← hW] at hl3 hm3 hx4 hy4 hbb ⊢
    rw [← hXe] at hx4 ⊢
    rw [← hYe] at hy4 ⊢
    have x0 : W.cell? ⟨X, 0, none⟩ = some (.string x.atom) := by rw [hx4.cell]; rfl
    have x1 : W.cell? ⟨X, 1, none⟩ = some (.slice A1 x.list.length c1) := by rw [hx4.cell]; rfl
    have y0 : W.cell? ⟨Y, 0, none⟩ = some (.string y.atom) := by rw [hy4.cell]; rfl
    have y1 : W.cell? ⟨Y, 1, none⟩ = some (.slice A3 y.list.length c3) := by rw [hy4.cell]; rfl
    have kx0 := cell_regrown x0
    have kx1 := cell_regrown x1
    have ky0 := cell_regrown y0
    have ky1 := cell_regrown y1
    have cF : ∀ d os, Calls Try.prog 18 #[.agg #[.string x.atom, .slice A1 x.list.length c1]] (Go.Sort.grow (redrawn W d) os) fun e w'' => e = .returned (.string x.said) ∧ ∃ p : Regrown, w'' = Go.Sort.grow (redrawn W p.d) p.os := fun d os => Calls.regrown_of (formatX x A1 c1 _ (by omega) hok (hl3.grow (below_regrown W d os)))
    have cV : ∀ d os, Calls Try.prog 19 #[.agg #[.string x.atom, .slice A1 x.list.length c1]] (Go.Sort.grow (redrawn W d) os) fun e w'' => e = .returned (.bool bv) ∧ ∃ p : Regrown, w'' = Go.Sort.grow (redrawn W p.d) p.os := fun d os => by rw [← HBV.out]; exact Calls.regrown_of (implValid x A1 c1 _ hok (hl3.grow (below_regrown W d os)))
    have cW : ∀ d os, Calls Try.prog 20 #[.agg #[.string x.atom, .slice A1 x.list.length c1]] (Go.Sort.grow (redrawn W d) os) fun e w'' => e = .returned (.bool bv) ∧ ∃ p : Regrown, w'' = Go.Sort.grow (redrawn W p.d) p.os := fun d os => by rw [← HBV.out]; exact Calls.regrown_of (validX x A1 c1 _ (by omega) hok (hl3.grow (below_regrown W d os)))
    have HBF := Lib.hid hbb
    cases bv with
    | false =>
      clear hl3 hm3 hx4 hy4 hbb hXe hYe hW HL3 HM3 HX4 HY4 HBB
      refine wp_region_quiet_below (by kernel_rfl) (by kernel_rfl) ?_
      repeat (go_big_quiet_step (first | (go_at_call 18; exact cF _ _) | (go_at_call 19; exact cV _ _) | (go_at_call 20; exact cW _ _)))
      refine wpQuiet_nil ?_
      intro _ hw'
      obtain ⟨⟨dq, osq⟩, hw''⟩ := hw'
      subst hw''
      have hbf := HBF.out.trans ((below_regrown W dq osq).mono HBF.out.size)
      clear cF cV cW kx0 kx1 ky0 ky1 x0 x1 y0 y1
      go_wp2
      go_ret
      exact ⟨rfl, hbf⟩
    | true =>
      have hyx : y = x := HY.out
      subst hyx
      have cE : ∀ d os, Calls Try.prog 21 #[.agg #[.string y.atom, .slice A1 y.list.length c1], .agg #[.string y.atom, .slice A3 y.list.length c3]] (Go.Sort.grow (redrawn W d) os) fun e w'' => e = .returned (.bool true) ∧ ∃ p : Regrown, w'' = Go.Sort.grow (redrawn W p.d) p.os := fun d os => Calls.regrown_of (by rw [← SX.same_self y]; exact sameX _ y y A1 A3 c1 c3 _ (Nat.le_refl _) (by omega) (by omega) (hl3.grow (below_regrown W d os)) (hm3.grow (below_regrown W d os)))
      have cI : ∀ d os, Calls Try.prog 22 #[.agg #[.string y.atom, .slice A1 y.list.length c1], .agg #[.string y.atom, .slice A3 y.list.length c3]] (Go.Sort.grow (redrawn W d) os) fun e w'' => e = .returned (.bool true) ∧ ∃ p : Regrown, w'' = Go.Sort.grow (redrawn W p.d) p.os := fun d os => Calls.regrown_of (by rw [← SX.same_self y]; exact implEqual y y A1 A3 c1 c3 _ (by omega) (hl3.grow (below_regrown W d os)) (hm3.grow (below_regrown W d os)))
      clear hl3 hm3 hx4 hy4 hbb hXe hYe hW HL3 HM3 HX4 HY4 HBB
      refine wp_region_quiet_below (by kernel_rfl) (by kernel_rfl) ?_
      repeat (go_big_quiet_step (first | (go_at_call 18; exact cF _ _) | (go_at_call 19; exact cV _ _) | (go_at_call 20; exact cW _ _) | (go_at_call 21; exact cE _ _) | (go_at_call 22; exact cI _ _)))
      refine wpQuiet_nil ?_
      intro _ hw'
      obtain ⟨⟨dq, osq⟩, hw''⟩ := hw'
      subst hw''
      have hbf := HBF.out.trans ((below_regrown W dq osq).mono HBF.out.size)
      clear cF cV cW cE cI kx0 kx1 ky0 ky1 x0 x1 y0 y1
      go_wp2
      go_ret
      exact ⟨rfl, hbf⟩
end Go.Proofs.Ytbcfeoobhemdcaa

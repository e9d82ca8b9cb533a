/- The reference model's EqualBindings. -/
import Derived.Test.YtkiofeiinecpiaaZEqBI
import Derived.Test.YtkiofeiinecpiaaQ2
namespace Go.Proofs.Ytkiofeiinecpiaa
open Go.RowKit Go.Lib

set_option maxRecDepth 100000 in
set_option maxHeartbeats 4000000 in
theorem specEqBs (l m : List BindingX) (A B : Option Addr) (c d : Nat) (w : World) (hA : BindingRow w (Und w.heap.size) A c l) (hB : BindingRow w (Und w.heap.size) B d m) :
    Calls Try.prog 19 #[.slice A l.length c, .slice B m.length d] w fun e w' => e = .returned (.bool (eqBs l m)) ∧ Below w.heap.size w w' := by
  have hcl := hA.cap
  have hcm := hB.cap
  have HA := Lib.hid hA
  have HB := Lib.hid hB
  clear hA hB
  by_cases hlen : l.length = m.length
  · have hq : eqBs l m = sameBs l m := by rw [eqBs, decide_eq_true hlen, Bool.true_and]
    have HQ := Lib.hid hq
    have hne : ((l.length : Int) != m.length) = false := by rw [bne_eq_false_iff_eq]; omega
    have HLEN := Lib.hid hlen
    clear hq hlen
    go_enter Try.func19, Try.ntmps19
    go_wp2
    clear hne
    go_loopw [5] (fun iv wr => ∃ k : Nat, k ≤ l.length ∧ iv = .int .i64 k ∧ sameBs (l.take k) (m.take k) = true ∧ Below w.heap.size w wr) (fun iv _ => l.length - (Go.RowKit.intOf iv).toNat)
    case atStart => exact ⟨0, Nat.zero_le _, rfl, rfl, Below.refl _ _⟩
    case round =>
      obtain ⟨k, hk, rfl, hn, hb⟩ := hrel
      by_cases hlt : k < l.length
      · have hlm : k < m.length := by have := HLEN.out; omega
        obtain ⟨b, o, A3, c3, rfl, hP, p0, p1, p2, p3, h3⟩ := (HA.out.grow hb).at_ hlt
        obtain ⟨b', o', B3, d3, rfl, hP', q0, q1, q2, q3, g3⟩ := (HB.out.grow hb).at_ hlm
        have hst := sameBs_take l m k hlt hlm
        rw [hn, Bool.true_and] at hst
        have HST := Lib.hid hst
        have cE : ∀ dr os, Calls Try.prog 42 #[.agg #[.int .i64 l[k].type_.kind_, .string l[k].type_.name_, .slice A3 l[k].type_.args_.length c3], .agg #[.int .i64 m[k].type_.kind_, .string m[k].type_.name_, .slice B3 m[k].type_.args_.length d3]] (Go.Sort.grow (redrawn wr dr) os) fun e w'' => e = .returned (.bool (l[k].type_.same m[k].type_)) ∧ ∃ p : Regrown, w'' = Go.Sort.grow (redrawn wr p.d) p.os :=
          fun dr os => Calls.regrown_of (specSameTy l[k].type_ m[k].type_ _ _ _ ⟨_, _, rfl, h3.grow (below_regrown wr dr os)⟩ ⟨_, _, rfl, g3.grow (below_regrown wr dr os)⟩)
        have kp0 := cell_regrown p0
        have kq0 := cell_regrown q0
        have kp1 := cell_regrown p1
        have kq1 := cell_regrown q1
        have kp2 := cell_regrown p2
        have kq2 := cell_regrown q2
        have kp3 := cell_regrown p3
        have kq3 := cell_regrown q3
        have hk0 : (0 : Int) ≤ k := by omega
        clear hst hn h3 g3
        by_cases he : l[k].var_ = m[k].var_
        · have he1 : (l[k].var_.toList == m[k].var_.toList) = true := by rw [he]; simp
          have hsm : l[k].same m[k] = l[k].type_.same m[k].type_ := by rw [BindingX.same, decide_eq_true he, Bool.true_and]
          have HS := Lib.hid hsm
          clear hsm he
          go_wp2
          refine wp_region_quiet_below (by kernel_rfl) (by kernel_rfl) ?_
          repeat (any_goals (first | go_big_quiet_step (exact cE _ _) | quiet_step (exact cE _ _)))
          refine wpQuiet_nil ?_
          intro _ hw'
          obtain ⟨⟨dq, osq⟩, hw''⟩ := hw'
          subst hw''
          have hb3 := hb.trans ((below_regrown wr dq osq).mono hb.size)
          clear cE kp0 kq0 kp1 kq1 kp2 kq2 kp3 kq3 he1
          cases hs : l[k].type_.same m[k].type_ with
          | true =>
            have hst := HST.out
            rw [HS.out, hs] at hst
            have HST2 := Lib.hid hst
            clear hs hst
            go_wp2
            go_roundw
            case rel => exact ⟨k + 1, by omega, by go_num, HST2.out, hb3⟩
            case measure => simp [Go.RowKit.intOf]; omega
          | false =>
            have hf := sameBs_false l m k hlt hlm (HS.out.trans hs)
            have HF := Lib.hid (HQ.out.trans hf)
            clear hs hf
            go_wp2
            go_ret
            exact ⟨congrArg (fun b => Ending.returned (.bool b)) HF.out.symm, hb3⟩
        · have he1 : (l[k].var_.toList == m[k].var_.toList) = false := text_ne he
          have hsm : l[k].same m[k] = false := by rw [BindingX.same, decide_eq_false he, Bool.false_and]
          have HF := Lib.hid (HQ.out.trans (sameBs_false l m k hlt hlm hsm))
          clear hsm he
          go_wp2
          refine wp_region_quiet_below (by kernel_rfl) (by kernel_rfl) ?_
          repeat (any_goals (first | go_big_quiet_step (exact cE _ _) | quiet_step (exact cE _ _)))
          refine wpQuiet_nil ?_
          intro _ hw'
          obtain ⟨⟨dq, osq⟩, hw''⟩ := hw'
          subst hw''
          have hb3 := hb.trans ((below_regrown wr dq osq).mono hb.size)
          clear cE kp0 kq0 kp1 kq1 kp2 kq2 kp3 kq3 he1
          go_wp2
          go_ret
          exact ⟨congrArg (fun b => Ending.returned (.bool b)) HF.out.symm, hb3⟩
      · obtain rfl : k = l.length := by omega
        rw [List.take_length, List.take_of_length_le (by rw [HLEN.out]; exact Nat.le_refl _)] at hn
        have HN := Lib.hid (HQ.out.trans hn)
        clear hn
        go_wp2
        go_ret
        exact ⟨congrArg (fun b => Ending.returned (.bool b)) HN.out.symm, hb⟩
  · have hq : eqBs l m = false := by rw [eqBs, decide_eq_false hlen, Bool.false_and]
    have HQ := Lib.hid hq
    have hne : ((l.length : Int) != m.length) = true := by rw [bne_iff_ne]; omega
    clear hq hlen
    go_enter Try.func19, Try.ntmps19
    go_wp2
    go_ret
    exact ⟨congrArg (fun b => Ending.returned (.bool b)) HQ.out.symm, Below.refl _ _⟩
end Go.Proofs.Ytkiofeiinecpiaa

/- The program's EqualBindings. -/
import Derived.Test.YtmacnanocofoaaaQ1
import Derived.Test.YtmacnanocofoaaaZTyEqJ
namespace Go.Proofs.Ytmacnanocofoaaa
open Go.RowKit Go.Lib

/-- Are two bindings alike. -/
def BindingX.same (a b : BindingX) : Bool := decide (a.var_ = b.var_) && a.type_.same b.type_
def sameBs : List BindingX → List BindingX → Bool
  | x :: r, y :: s => x.same y && sameBs r s
  | _, _ => true
theorem sameBs_take : ∀ (l m : List BindingX) (j : Nat) (h : j < l.length) (h' : j < m.length), sameBs (l.take (j + 1)) (m.take (j + 1)) = (sameBs (l.take j) (m.take j) && l[j].same m[j])
  | x :: r, y :: s, 0, _, _ => by simp [sameBs]
  | x :: r, y :: s, j + 1, h, h' => by
    have := sameBs_take r s j (by simpa using h) (by simpa using h')
    rw [List.take_succ_cons, List.take_succ_cons, List.take_succ_cons, List.take_succ_cons, sameBs, sameBs, this]
    simp [Bool.and_assoc]
theorem sameBs_false : ∀ (l m : List BindingX) (j : Nat) (h : j < l.length) (h' : j < m.length), l[j].same m[j] = false → sameBs l m = false
  | x :: r, y :: s, 0, _, _, hf => by rw [sameBs]; simp at hf; rw [hf]; rfl
  | x :: r, y :: s, j + 1, h, h', hf => by rw [sameBs, sameBs_false r s j (by simpa using h) (by simpa using h') (by simpa using hf), Bool.and_false]
/-- Are two lists of bindings alike. -/
def eqBs (l m : List BindingX) : Bool := decide (l.length = m.length) && sameBs l m

set_option maxRecDepth 100000 in
set_option maxHeartbeats 2000000 in
theorem implSameB (x y : BindingX) (A B : Option Addr) (c d : Nat) (w : World) (hx : x.type_.size ≤ 4294967296) (hA : TypeRow w (Und w.heap.size) A c x.type_.args_) (hB : TypeRow w (Und w.heap.size) B d y.type_.args_) :
    Calls Try.prog 94 #[.agg #[.string x.var_, .int .i64 x.type_.kind_, .string x.type_.name_, .slice A x.type_.args_.length c], .agg #[.string y.var_, .int .i64 y.type_.kind_, .string y.type_.name_, .slice B y.type_.args_.length d]] w
      fun e w' => e = .returned (.bool (x.same y)) ∧ Below w.heap.size w w' := by
  have hb0 : Below w.heap.size w ((w.alloc (.cells #[.string x.var_, .int .i64 x.type_.kind_, .string x.type_.name_, .slice A x.type_.args_.length c] 82)).alloc (.cells #[.string y.var_, .int .i64 y.type_.kind_, .string y.type_.name_, .slice B y.type_.args_.length d] 82)) := ((Below.refl _ _).alloc (Nat.le_refl _) _).alloc (by simp) _
  have HA := Lib.hid (hA.grow hb0)
  have HB := Lib.hid (hB.grow hb0)
  clear hA hB
  by_cases he : x.var_ = y.var_
  · have hsm : x.same y = x.type_.same y.type_ := by rw [BindingX.same, decide_eq_true he, Bool.true_and]
    have HS := Lib.hid hsm
    clear hsm
    rw [he]
    rw [he] at HA HB hb0
    clear he
    go_enter Try.func94, Try.ntmps94
    go_wp2_with fail
    refine (implEqTy x.type_ y.type_ _ _ _ hx ⟨_, _, rfl, HA.out⟩ ⟨_, _, rfl, HB.out⟩).mono ?_
    rintro e w1 ⟨rfl, hb1⟩
    have hb2 := hb0.trans (hb1.mono hb0.size)
    rw [← HS.out]
    go_wp2
    go_ret
    exact ⟨rfl, hb2⟩
  · have hsm : x.same y = false := by rw [BindingX.same, decide_eq_false he, Bool.false_and]
    have hne := text_ne he
    have HS := Lib.hid hsm
    clear hsm he
    go_enter Try.func94, Try.ntmps94
    go_wp2
    go_ret
    exact ⟨congrArg (fun b => Ending.returned (.bool b)) HS.out.symm, hb0⟩

set_option maxRecDepth 100000 in
set_option maxHeartbeats 4000000 in
theorem implEqFunc (l m : List BindingX) (A B : Option Addr) (c d : Nat) (w : World) (hl : ∀ b ∈ l, b.type_.size ≤ 4294967296) (hA : BindingRow w (Und w.heap.size) A c l) (hB : BindingRow w (Und w.heap.size) B d m) :
    Calls Try.prog 93 #[.slice A l.length c, .slice B m.length d, .func (.func 94) #[] #[]] w
      fun e w' => e = .returned (.bool (eqBs l m)) ∧ Below w.heap.size w w' := by
  have hcl := hA.cap
  have hcm := hB.cap
  have HA := Lib.hid hA
  have HB := Lib.hid hB
  have HL := Lib.hid hl
  clear hA hB hl
  by_cases hlen : l.length = m.length
  · have hq : eqBs l m = sameBs l m := by rw [eqBs, decide_eq_true hlen, Bool.true_and]
    have HQ := Lib.hid hq
    have hne : ((l.length : Int) != m.length) = false := by rw [bne_eq_false_iff_eq]; omega
    have HLEN := Lib.hid hlen
    clear hq hlen
    go_enter Try.func93, Try.ntmps93
    go_wp2
    clear hne
    go_loopw [17] (fun iv wr => ∃ k : Nat, k ≤ l.length ∧ iv = .int .i64 k ∧ sameBs (l.take k) (m.take k) = true ∧ Below w.heap.size w wr) (fun iv _ => l.length - (Go.RowKit.intOf iv).toNat)
    case atStart => exact ⟨0, Nat.zero_le _, rfl, rfl, Below.refl _ _⟩
    case round =>
      obtain ⟨k, hk, rfl, hn, hb⟩ := hrel
      by_cases hlt : k < l.length
      · have hlm : k < m.length := by have := HLEN.out; omega
        obtain ⟨b, o, A3, c3, rfl, hP, p0, p1, p2, p3, h3⟩ := (HA.out.grow hb).at_ hlt
        obtain ⟨b', o', B3, d3, rfl, hP', q0, q1, q2, q3, g3⟩ := (HB.out.grow hb).at_ hlm
        have hbx : Below wr.heap.size wr ((wr.alloc (.cells #[.string l[k].var_, .int .i64 l[k].type_.kind_, .string l[k].type_.name_, .slice A3 l[k].type_.args_.length c3] 82)).alloc (.cells #[.string m[k].var_, .int .i64 m[k].type_.kind_, .string m[k].type_.name_, .slice B3 m[k].type_.args_.length d3] 82)) := ((Below.refl _ _).alloc (Nat.le_refl _) _).alloc (by simp) _
        have hcall := implSameB l[k] m[k] A3 B3 c3 d3 _ (HL.out _ (List.getElem_mem hlt)) (h3.grow hbx) (g3.grow hbx)
        have HC := Lib.hid hcall
        have hst := sameBs_take l m k hlt hlm
        rw [hn, Bool.true_and] at hst
        have HST := Lib.hid hst
        have hbw := hb.trans (hbx.mono hb.size)
        have hP2 : b' < wr.heap.size := hP'
        clear hcall hst hn hbx h3 g3
        go_wp2_with fail
        refine HC.out.mono ?_
        rintro e w2 ⟨rfl, hb2⟩
        have hb3 := hbw.trans (hb2.mono hbw.size)
        clear hb2 hbw
        cases hs : l[k].same m[k] with
        | true =>
          have hst := HST.out
          rw [hs] at hst
          have HST2 := Lib.hid hst
          clear hs hst
          go_wp2
          go_roundw
          case rel => exact ⟨k + 1, by omega, by go_num, HST2.out, hb3⟩
          case measure => simp [Go.RowKit.intOf]; omega
        | false =>
          have hf := sameBs_false l m k hlt hlm hs
          have HF := Lib.hid (HQ.out.trans hf)
          clear hs hf
          go_wp2
          go_ret
          exact ⟨congrArg (fun b => Ending.returned (.bool b)) HF.out.symm, hb3⟩
      · obtain rfl : k = l.length := by omega
        rw [List.take_length, List.take_of_length_le (by rw [HLEN.out]; exact Nat.le_refl _)] at hn
        have HN := Lib.hid (HQ.out.trans hn)
        clear hn
        go_wp2
        go_ret
        exact ⟨congrArg (fun b => Ending.returned (.bool b)) HN.out.symm, hb⟩
  · have hq : eqBs l m = false := by rw [eqBs, decide_eq_false hlen, Bool.false_and]
    have HQ := Lib.hid hq
    have hne : ((l.length : Int) != m.length) = true := by rw [bne_iff_ne]; omega
    clear hq hlen
    go_enter Try.func93, Try.ntmps93
    go_wp2
    go_ret
    exact ⟨congrArg (fun b => Ending.returned (.bool b)) HQ.out.symm, Below.refl _ _⟩
theorem implEqBs (l m : List BindingX) (A B : Option Addr) (c d : Nat) (w : World) (hl : ∀ b ∈ l, b.type_.size ≤ 4294967296) (hA : BindingRow w (Und w.heap.size) A c l) (hB : BindingRow w (Und w.heap.size) B d m) :
    Calls Try.prog 56 #[.slice A l.length c, .slice B m.length d] w fun e w' => e = .returned (.bool (eqBs l m)) ∧ Below w.heap.size w w' := by
  have HC := Lib.hid (implEqFunc l m A B c d w hl hA hB)
  clear hA hB hl
  go_enter Try.func56, Try.ntmps56
  go_wp2_with fail
  refine HC.out.mono ?_
  rintro e w1 ⟨rfl, hb⟩
  go_wp2
  go_ret
  exact ⟨rfl, hb⟩
end Go.Proofs.Ytmacnanocofoaaa

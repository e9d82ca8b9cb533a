/- impl.isBuiltIn, impl.followsRule. -/
import Derived.Test.YtkiofeiinecpiaaQ1
import Derived.Test.YtkiofeiinecpiaaZTyForm
import Derived.Test.YtkiofeiinecpiaaQ2
namespace Go.Proofs.Ytkiofeiinecpiaa
open Go.RowKit Go.Lib

set_option maxRecDepth 100000 in
theorem builtIn (s : ByteArray) (w : World) : Calls Try.prog 128 #[.string s] w fun e w' => e = .returned (.bool (isBase s)) ∧ w = w' := by
  by_cases h1 : s = ⟨#[105, 110, 116]⟩
  · subst h1
    go_enter Try.func128, Try.ntmps128
    go_wp2
    go_ret
    exact ⟨rfl, rfl⟩
  · by_cases h2 : s = ⟨#[98, 111, 111, 108]⟩
    · subst h2
      go_enter Try.func128, Try.ntmps128
      go_wp2
      go_ret
      exact ⟨rfl, rfl⟩
    · have hz : isBase s = false := by rw [isBase, decide_eq_false_iff_not]; exact fun h => h.elim h1 h2
      have HZ := Lib.hid hz
      have q1 : (s.toList == [105, 110, 116]) = false := by have h := text_ne h1; rwa [ByteArray.toList_eq ⟨#[105, 110, 116]⟩] at h
      have q2 : (s.toList == [98, 111, 111, 108]) = false := by have h := text_ne h2; rwa [ByteArray.toList_eq ⟨#[98, 111, 111, 108]⟩] at h
      clear hz h1 h2
      go_enter Try.func128, Try.ntmps128
      go_wp2
      go_ret
      exact ⟨congrArg (fun b => Ending.returned (.bool b)) HZ.out.symm, rfl⟩
theorem base_name {s : ByteArray} (h : isBase s = true) : okName s = false := by
  rw [isBase, decide_eq_true_eq] at h
  rcases h with rfl | rfl <;> rfl
theorem asC1 (v : Value) (w : World) : (Instr.typeAssert (.iface 121 v) 124 146 true).run Try.prog w = .ok (.tuple #[zeroTy, .bool false]) w := by kernel_rfl
theorem asC2 (v : Value) (w : World) : (Instr.typeAssert (.iface 146 v) 124 146 true).run Try.prog w = .ok (.tuple #[v, .bool true]) w := by kernel_rfl
theorem asC3 (v : Value) (w : World) : (Instr.typeAssert (.iface 147 v) 124 146 true).run Try.prog w = .ok (.tuple #[zeroTy, .bool false]) w := by kernel_rfl
theorem asC4 (v : Value) (w : World) : (Instr.typeAssert (.iface 148 v) 124 146 true).run Try.prog w = .ok (.tuple #[zeroTy, .bool false]) w := by kernel_rfl
theorem asC0 (w : World) : (Instr.typeAssert .nilIface 124 146 true).run Try.prog w = .ok (.tuple #[zeroTy, .bool false]) w := by kernel_rfl
theorem as_con {k : Int} (v : Value) (h : (k == 2) = false) (w : World) : (Instr.typeAssert (tyForm k v) 124 146 true).run Try.prog w = .ok (.tuple #[zeroTy, .bool false]) w := by
  unfold tyForm
  rw [h]
  simp only [Bool.false_eq_true, if_false]
  split
  · exact asC1 v w
  · skip
    split
    · exact asC3 v w
    · skip
      split
      · exact asC4 v w
      · exact asC0 w
theorem asD1 (v : Value) (w : World) : (Instr.typeAssert (.iface 121 v) 124 148 true).run Try.prog w = .ok (.tuple #[zeroTy, .bool false]) w := by kernel_rfl
theorem asD2 (v : Value) (w : World) : (Instr.typeAssert (.iface 146 v) 124 148 true).run Try.prog w = .ok (.tuple #[zeroTy, .bool false]) w := by kernel_rfl
theorem asD3 (v : Value) (w : World) : (Instr.typeAssert (.iface 147 v) 124 148 true).run Try.prog w = .ok (.tuple #[zeroTy, .bool false]) w := by kernel_rfl
theorem asD4 (v : Value) (w : World) : (Instr.typeAssert (.iface 148 v) 124 148 true).run Try.prog w = .ok (.tuple #[v, .bool true]) w := by kernel_rfl
theorem asD0 (w : World) : (Instr.typeAssert .nilIface 124 148 true).run Try.prog w = .ok (.tuple #[zeroTy, .bool false]) w := by kernel_rfl
theorem as_dyn {k : Int} (v : Value) (h : (k == 4) = false) (w : World) : (Instr.typeAssert (tyForm k v) 124 148 true).run Try.prog w = .ok (.tuple #[zeroTy, .bool false]) w := by
  unfold tyForm
  rw [h]
  simp only [Bool.false_eq_true, if_false]
  split
  · exact asD1 v w
  · skip
    split
    · exact asD2 v w
    · skip
      split
      · exact asD3 v w
      · exact asD0 w
theorem isV {k : Int} (v : Value) (h : (k == 1) = true) (w : World) : (Instr.typeAssert (tyForm k v) 124 121 true).run Try.prog w = .ok (.tuple #[v, .bool true]) w := by rw [tyForm1 v h]; exact asV1 v w
theorem isC {k : Int} (v : Value) (h : (k == 2) = true) (w : World) : (Instr.typeAssert (tyForm k v) 124 146 true).run Try.prog w = .ok (.tuple #[v, .bool true]) w := by rw [tyForm2 v h]; exact asC2 v w
theorem isP {k : Int} (v : Value) (h : (k == 3) = true) (w : World) : (Instr.typeAssert (tyForm k v) 124 147 true).run Try.prog w = .ok (.tuple #[v, .bool true]) w := by rw [tyForm3 v h]; exact asP3 v w
theorem isD {k : Int} (v : Value) (h : (k == 4) = true) (w : World) : (Instr.typeAssert (tyForm k v) 124 148 true).run Try.prog w = .ok (.tuple #[v, .bool true]) w := by rw [tyForm4 v h]; exact asD4 v w
set_option maxRecDepth 100000 in
set_option maxHeartbeats 4000000 in
theorem follows (k : Int) (s : ByteArray) (A : Option Addr) (n c : Nat) (w : World) (hsz : s.size ≤ 9223372036854775807) (hn : n ≤ 9223372036854775807) :
    Calls Try.prog 113 #[.agg #[.int .i64 k, .string s, .slice A n c]] w fun e w' => e = .returned (.bool (headOk k s n)) ∧ Below w.heap.size w w' := by
  have hb : Below w.heap.size w (w.alloc (.cells #[.int .i64 k, .string s, .slice A n c] 26)) := (Below.refl _ _).alloc (Nat.le_refl _) _
  cases h1 : (k == 1) with
  | true =>
    have hA := isV (.agg #[.int .i64 k, .string s, .slice A n c]) h1
    have hh : headOk k s n = (okName s && n == 0) := by rw [headOk, if_pos (.inl (by simpa using h1))]
    have HH := Lib.hid hh
    clear hh h1
    go_enter Try.func113, Try.ntmps113
    go_wp2_with fail
    refine (implFormOf _ _ _ _ _ _).mono ?_
    rintro e w1 ⟨rfl, hb1⟩
    have hb2 := hb.trans (hb1.mono (by simp))
    have hs := hb2.size
    clear hb1
    go_wp2_with fail
    refine (implName _ _ hsz).mono ?_
    rintro e w2 ⟨rfl, hb3⟩
    have hx := (Whole.new w1 121 #[.int .i64 k, .string s, .slice A n c]).below hb3 (by simp)
    have q2 : w2.cell? ⟨w1.heap.size, 2, none⟩ = some (.slice A n c) := by rw [hx.cell]; rfl
    have hb5 := (hb2.alloc hs (.cells #[.int .i64 k, .string s, .slice A n c] 121)).trans (hb3.mono (by simp; omega))
    clear hx hb3
    cases ho : okName s with
    | true =>
      have HO := Lib.hid ho
      clear ho
      go_wp2
      go_ret
      exact ⟨congrArg (fun b => Ending.returned (.bool b)) (by rw [HH.out, HO.out]; rw [Bool.true_and, Bool.eq_iff_iff]; simp), hb5⟩
    | false =>
      have HO := Lib.hid ho
      clear ho
      go_wp2
      go_ret
      exact ⟨congrArg (fun b => Ending.returned (.bool b)) (by rw [HH.out, HO.out]; rfl), hb5⟩
  | false =>
    have hA := as_var (.agg #[.int .i64 k, .string s, .slice A n c]) h1
    have n1 : ¬ k = 1 := by intro h; rw [h] at h1; cases h1
    cases h2 : (k == 2) with
    | true =>
      have hB := isC (.agg #[.int .i64 k, .string s, .slice A n c]) h2
      have hh : headOk k s n = ((okName s && decide (n ≤ 3)) || (isBase s && n == 0)) := by rw [show k = 2 by simpa using h2]; rfl
      have HH := Lib.hid hh
      clear hh h1 h2 n1
      go_enter Try.func113, Try.ntmps113
      go_wp2_with fail
      refine (implFormOf _ _ _ _ _ _).mono ?_
      rintro e w1 ⟨rfl, hb1⟩
      have hb2 := hb.trans (hb1.mono (by simp))
      have hs := hb2.size
      clear hb1
      go_wp2_with fail
      refine (builtIn _ _).mono ?_
      rintro e w2 ⟨rfl, rfl⟩
      have hb4 := hb2.alloc hs (.cells #[.int .i64 k, .string s, .slice A n c] 146)
      cases hi : isBase s with
      | true =>
        have HO := Lib.hid (base_name hi)
        have HI := Lib.hid hi
        clear hi
        go_wp2
        go_ret
        exact ⟨congrArg (fun b => Ending.returned (.bool b)) (by rw [HH.out, HO.out, HI.out, Bool.false_and, Bool.false_or, Bool.true_and, Bool.eq_iff_iff]; simp), hb4⟩
      | false =>
        have hh2 := HH.out
        rw [hi, Bool.false_and, Bool.or_false] at hh2
        have HH := Lib.hid hh2
        clear hi hh2 hb4
        go_wp2_with fail
        refine (implName _ _ hsz).mono ?_
        rintro e w2 ⟨rfl, hb3⟩
        have hx := (Whole.new w1 146 #[.int .i64 k, .string s, .slice A n c]).below hb3 (by simp)
        have q2 : w2.cell? ⟨w1.heap.size, 2, none⟩ = some (.slice A n c) := by rw [hx.cell]; rfl
        have hb5 := (hb2.alloc hs (.cells #[.int .i64 k, .string s, .slice A n c] 146)).trans (hb3.mono (by simp; omega))
        clear hx hb3
        cases ho : okName s with
        | true =>
          have HO := Lib.hid ho
          clear ho
          go_wp2
          go_ret
          exact ⟨congrArg (fun b => Ending.returned (.bool b)) (by rw [HH.out, HO.out]; rw [Bool.true_and, Bool.eq_iff_iff]; simp; omega), hb5⟩
        | false =>
          have HO := Lib.hid ho
          clear ho
          go_wp2
          go_ret
          exact ⟨congrArg (fun b => Ending.returned (.bool b)) (by rw [HH.out, HO.out]; rfl), hb5⟩
    | false =>
      have hB := as_con (.agg #[.int .i64 k, .string s, .slice A n c]) h2
      have n2 : ¬ k = 2 := by intro h; rw [h] at h2; cases h2
      cases h3 : (k == 3) with
      | true =>
        have hC := isP (.agg #[.int .i64 k, .string s, .slice A n c]) h3
        have hh : headOk k s n = (okName s && n == 1) := by rw [show k = 3 by simpa using h3]; rfl
        have HH := Lib.hid hh
        clear hh h1 h2 h3 n1 n2
        go_enter Try.func113, Try.ntmps113
        go_wp2_with fail
        refine (implFormOf _ _ _ _ _ _).mono ?_
        rintro e w1 ⟨rfl, hb1⟩
        have hb2 := hb.trans (hb1.mono (by simp))
        have hs := hb2.size
        clear hb1
        go_wp2_with fail
        refine (implName _ _ hsz).mono ?_
        rintro e w2 ⟨rfl, hb3⟩
        have hx := (Whole.new w1 147 #[.int .i64 k, .string s, .slice A n c]).below hb3 (by simp)
        have q2 : w2.cell? ⟨w1.heap.size, 2, none⟩ = some (.slice A n c) := by rw [hx.cell]; rfl
        have hb5 := (hb2.alloc hs (.cells #[.int .i64 k, .string s, .slice A n c] 147)).trans (hb3.mono (by simp; omega))
        clear hx hb3
        cases ho : okName s with
        | true =>
          have HO := Lib.hid ho
          clear ho
          go_wp2
          go_ret
          exact ⟨congrArg (fun b => Ending.returned (.bool b)) (by rw [HH.out, HO.out]; rw [Bool.true_and, Bool.eq_iff_iff]; simp; omega), hb5⟩
        | false =>
          have HO := Lib.hid ho
          clear ho
          go_wp2
          go_ret
          exact ⟨congrArg (fun b => Ending.returned (.bool b)) (by rw [HH.out, HO.out]; rfl), hb5⟩
      | false =>
        have hC := as_proj (.agg #[.int .i64 k, .string s, .slice A n c]) h3
        have n3 : ¬ k = 3 := by intro h; rw [h] at h3; cases h3
        cases h4 : (k == 4) with
        | true =>
          have hD := isD (.agg #[.int .i64 k, .string s, .slice A n c]) h4
          have hh : headOk k s n = (okName s && n == 0) := by rw [show k = 4 by simpa using h4]; rfl
          have HH := Lib.hid hh
          clear hh h1 h2 h3 h4 n1 n2 n3
          go_enter Try.func113, Try.ntmps113
          go_wp2_with fail
          refine (implFormOf _ _ _ _ _ _).mono ?_
          rintro e w1 ⟨rfl, hb1⟩
          have hb2 := hb.trans (hb1.mono (by simp))
          have hs := hb2.size
          clear hb1
          go_wp2_with fail
          refine (implName _ _ hsz).mono ?_
          rintro e w2 ⟨rfl, hb3⟩
          have hx := (Whole.new w1 148 #[.int .i64 k, .string s, .slice A n c]).below hb3 (by simp)
          have q2 : w2.cell? ⟨w1.heap.size, 2, none⟩ = some (.slice A n c) := by rw [hx.cell]; rfl
          have hb5 := (hb2.alloc hs (.cells #[.int .i64 k, .string s, .slice A n c] 148)).trans (hb3.mono (by simp; omega))
          clear hx hb3
          cases ho : okName s with
          | true =>
            have HO := Lib.hid ho
            clear ho
            go_wp2
            go_ret
            exact ⟨congrArg (fun b => Ending.returned (.bool b)) (by rw [HH.out, HO.out]; rw [Bool.true_and, Bool.eq_iff_iff]; simp), hb5⟩
          | false =>
            have HO := Lib.hid ho
            clear ho
            go_wp2
            go_ret
            exact ⟨congrArg (fun b => Ending.returned (.bool b)) (by rw [HH.out, HO.out]; rfl), hb5⟩
        | false =>
          have hD := as_dyn (.agg #[.int .i64 k, .string s, .slice A n c]) h4
          have n4 : ¬ k = 4 := by intro h; rw [h] at h4; cases h4
          have hh : headOk k s n = false := by rw [headOk, if_neg (fun h => h.elim n1 n4), if_neg n3, if_neg n2]
          have HH := Lib.hid hh
          clear hh h1 h2 h3 h4 n1 n2 n3 n4
          go_enter Try.func113, Try.ntmps113
          go_wp2_with fail
          refine (implFormOf _ _ _ _ _ _).mono ?_
          rintro e w1 ⟨rfl, hb1⟩
          have hb2 := hb.trans (hb1.mono (by simp))
          have hs := hb2.size
          clear hb1
          go_wp2
          go_ret
          exact ⟨congrArg (fun b => Ending.returned (.bool b)) HH.out.symm, hb2⟩
end Go.Proofs.Ytkiofeiinecpiaa

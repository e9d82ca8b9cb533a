/- Are two types alike: the reference model's. -/
import Derived.Test.YtenjlgcdbnddjaaTySize
import Derived.Test.YtenjlgcdbnddjaaMem
import Derived.Test.YtenjlgcdbnddjaaHas
import Derived.Lib.QuietBelow
import Derived.BigQuiet
namespace Go.Proofs.Ytenjlgcdbnddjaa
open Go.RowKit Go.Lib

mutual
def TypeX.same : TypeX → TypeX → Bool
  | .mk k s l, .mk k' s' m => (k == k') && (decide (s = s') && (decide (l.length = m.length) && TypeX.sameL l m))
def TypeX.sameL : List TypeX → List TypeX → Bool
  | [], _ => true
  | _ :: _, [] => true
  | x :: r, y :: s => x.same y && TypeX.sameL r s
end
theorem TypeX.same_eq (x y : TypeX) : x.same y = ((x.kind_ == y.kind_) && (decide (x.name_ = y.name_) && (decide (x.args_.length = y.args_.length) && TypeX.sameL x.args_ y.args_))) := by cases x; cases y; rw [TypeX.same]; rfl
theorem TypeX.sameL_take : ∀ (l m : List TypeX) (j : Nat) (h : j < l.length) (h' : j < m.length), TypeX.sameL (l.take (j + 1)) (m.take (j + 1)) = (TypeX.sameL (l.take j) (m.take j) && l[j].same m[j])
  | x :: r, y :: s, 0, _, _ => by simp [TypeX.sameL]
  | x :: r, y :: s, j + 1, h, h' => by
    have := TypeX.sameL_take r s j (by simpa using h) (by simpa using h')
    rw [List.take_succ_cons, List.take_succ_cons, List.take_succ_cons, List.take_succ_cons, TypeX.sameL, TypeX.sameL, this]
    simp [Bool.and_assoc]
theorem TypeX.sameL_false : ∀ (l m : List TypeX) (j : Nat) (h : j < l.length) (h' : j < m.length), l[j].same m[j] = false → TypeX.sameL l m = false
  | x :: r, y :: s, 0, _, _, hf => by rw [TypeX.sameL]; simp at hf; rw [hf]; rfl
  | x :: r, y :: s, j + 1, h, h', hf => by rw [TypeX.sameL, TypeX.sameL_false r s j (by simpa using h) (by simpa using h') (by simpa using hf), Bool.and_false]
mutual
theorem TypeX.same_iff : ∀ (x y : TypeX), x.same y = true ↔ x = y
  | .mk a s l, .mk b t m => by
    rw [TypeX.same, Bool.and_eq_true, Bool.and_eq_true, Bool.and_eq_true, decide_eq_true_eq, decide_eq_true_eq, beq_iff_eq, TypeX.mk.injEq]
    constructor
    · rintro ⟨h1, h2, h3, h4⟩; exact ⟨h1, h2, (TypeX.sameL_iff l m h3).1 h4⟩
    · rintro ⟨h1, h2, h3⟩; subst h3; exact ⟨h1, h2, rfl, (TypeX.sameL_iff l l rfl).2 rfl⟩
theorem TypeX.sameL_iff : ∀ (l m : List TypeX), l.length = m.length → (TypeX.sameL l m = true ↔ l = m)
  | [], m, h => by rw [TypeX.sameL]; simp; exact List.eq_nil_of_length_eq_zero h.symm
  | x :: r, [], h => by simp at h
  | x :: r, y :: s, h => by rw [TypeX.sameL, Bool.and_eq_true, TypeX.same_iff x y, TypeX.sameL_iff r s (by simpa using h), List.cons.injEq]
end
theorem TypeX.sizeL_at : ∀ (l : List TypeX) (j : Nat) (h : j < l.length), l[j].size ≤ TypeX.sizeL l
  | x :: r, 0, _ => by rw [TypeX.sizeL]; simp
  | x :: r, j + 1, h => by
    have := TypeX.sizeL_at r j (by simpa using h)
    rw [TypeX.sizeL]; simp; omega

def SameT (N : Nat) : Prop := ∀ (x y : TypeX) (v v' : Value) (w : World), x.size ≤ N → TypeAt w (Und w.heap.size) x v → TypeAt w (Und w.heap.size) y v' →
  Calls Try.prog 29 #[v, v'] w fun e w' => e = .returned (.bool (x.same y)) ∧ Below w.heap.size w w'
def SameTL (N : Nat) : Prop := ∀ (l m : List TypeX) (A B : Option Addr) (c d : Nat) (w : World), TypeX.sizeL l ≤ N → TypeRow w (Und w.heap.size) A c l → TypeRow w (Und w.heap.size) B d m →
  Calls Try.prog 50 #[.slice A l.length c, .slice B m.length d] w fun e w' => e = .returned (.bool (decide (l.length = m.length) && TypeX.sameL l m)) ∧ Below w.heap.size w w'

set_option maxRecDepth 100000 in
set_option maxHeartbeats 2000000 in
theorem sameTL_step (N : Nat) (ih : SameT N) : SameTL N := by
  intro l m A B c d w hn hA hB
  have hcl := hA.cap
  have hcm := hB.cap
  have HA := Lib.hid hA
  have HB := Lib.hid hB
  have HN := Lib.hid hn
  clear hA hB hn
  by_cases hlen : l.length = m.length
  · rw [decide_eq_true hlen, Bool.true_and, ← hlen]
    have HL := Lib.hid hlen
    clear hlen hcm
    go_enter Try.func50, Try.ntmps50
    go_wp2
    go_loopw [5] (fun iv wr => ∃ k : Nat, k ≤ l.length ∧ iv = .int .i64 k ∧ TypeX.sameL (l.take k) (m.take k) = true ∧ Below w.heap.size w wr) (fun iv _ => l.length - (Go.RowKit.intOf iv).toNat)
    case atStart => exact ⟨0, Nat.zero_le _, rfl, by simp [TypeX.sameL], Below.refl _ _⟩
    case round =>
      obtain ⟨k, hk, rfl, hs, hb⟩ := hrel
      have HT := Lib.hid hs
      clear hs
      by_cases hlt : k < l.length
      · have hlt2 : k < m.length := by have := HL.out; omega
        obtain ⟨b, o, A2, c2, hAe, hP, p0, p1, p2, h2⟩ := (HA.out.grow hb).at_ hlt
        subst hAe
        obtain ⟨b2, o2, B2, d2, hBe, hP2, r0, r1, r2, g2⟩ := (HB.out.grow hb).at_ hlt2
        subst hBe
        have hst := TypeX.sameL_take l m k hlt hlt2
        have hno := TypeX.sameL_false l m k hlt hlt2
        rw [HT.out, Bool.true_and] at hst
        have hnx : l[k].size ≤ N := by have := TypeX.sizeL_at l k hlt; have := HN.out; omega
        have cE : ∀ dr os, Calls Try.prog 29 #[.agg #[.int .i64 l[k].kind_, .string l[k].name_, .slice A2 l[k].args_.length c2], .agg #[.int .i64 m[k].kind_, .string m[k].name_, .slice B2 m[k].args_.length d2]] (Go.Sort.grow (redrawn wr dr) os) fun e w'' => e = .returned (.bool (l[k].same m[k])) ∧ ∃ p : Regrown, w'' = Go.Sort.grow (redrawn wr p.d) p.os :=
          fun dr os => Calls.regrown_of (ih l[k] m[k] _ _ _ hnx ⟨_, _, rfl, h2.grow (below_regrown wr dr os)⟩ ⟨_, _, rfl, g2.grow (below_regrown wr dr os)⟩)
        have kp0 := cell_regrown p0
        have kr0 := cell_regrown r0
        have kp1 := cell_regrown p1
        have kr1 := cell_regrown r1
        have kp2 := cell_regrown p2
        have kr2 := cell_regrown r2
        have hk0 : (0 : Int) ≤ k := by omega
        have HSt := Lib.hid hst
        have HNo := Lib.hid hno
        clear h2 g2 hnx hst hno
        go_wp2
        refine wp_region_quiet_below (by kernel_rfl) (by kernel_rfl) ?_
        repeat (quiet_step (exact cE _ _))
        refine wpQuiet_nil ?_
        intro _ hw'
        obtain ⟨⟨dq, osq⟩, hw''⟩ := hw'
        subst hw''
        have hb3 := hb.trans ((below_regrown wr dq osq).mono hb.size)
        clear cE kp0 kr0 kp1 kr1 kp2 kr2
        cases hc : l[k].same m[k] with
        | true =>
          have HC := Lib.hid hc
          clear hc
          go_wp2
          go_roundw
          case rel => exact ⟨k + 1, by omega, by go_num, by rw [HSt.out, HC.out], hb3⟩
          case measure => simp [Go.RowKit.intOf]; omega
        | false =>
          have HC := Lib.hid hc
          clear hc
          go_wp2
          go_ret
          exact ⟨congrArg (fun b => Ending.returned (.bool b)) (HNo.out HC.out).symm, hb3⟩
      · have hkl : k = l.length := by omega
        subst hkl
        have ht := HT.out
        rw [List.take_length, HL.out, List.take_length] at ht
        have HT' := Lib.hid ht
        clear ht
        go_wp2
        go_ret
        exact ⟨congrArg (fun b => Ending.returned (.bool b)) HT'.out.symm, hb⟩
  · rw [decide_eq_false hlen, Bool.false_and]
    have hlz : ((l.length : Int) == m.length) = false := by rw [beq_eq_false_iff_ne]; omega
    clear hlen
    go_enter Try.func50, Try.ntmps50
    go_wp2
    go_ret
    exact ⟨rfl, Below.refl _ _⟩

set_option maxRecDepth 100000 in
set_option maxHeartbeats 2000000 in
theorem sameT_step (N : Nat) (ih : SameTL N) : SameT (N + 1) := by
  intro x y v v' w hn hv hv'
  obtain ⟨A, c, rfl, hx⟩ := hv
  obtain ⟨B, d, rfl, hy⟩ := hv'
  have hsq := TypeX.same_eq x y
  have hb0 : Below w.heap.size w ((w.alloc (.cells #[.int .i64 x.kind_, .string x.name_, .slice A x.args_.length c] 26)).alloc (.cells #[.int .i64 y.kind_, .string y.name_, .slice B y.args_.length d] 26)) := ((Below.refl _ _).alloc (Nat.le_refl _) _).alloc (by simp) _
  have HX := Lib.hid (hx.grow hb0)
  have HY := Lib.hid (hy.grow hb0)
  have HN := Lib.hid hn
  clear hx hy hn
  cases hk : (x.kind_ == y.kind_) with
  | false =>
    rw [hk, Bool.false_and] at hsq
    have HS := Lib.hid hsq
    clear hsq
    go_enter Try.func29, Try.ntmps29
    go_wp2
    go_ret
    exact ⟨congrArg (fun b => Ending.returned (.bool b)) HS.out.symm, hb0⟩
  | true =>
    rw [hk, Bool.true_and] at hsq
    by_cases hnm : x.name_ = y.name_
    · rw [decide_eq_true hnm, Bool.true_and] at hsq
      have HS := Lib.hid hsq
      have he1 : (x.name_.toList == y.name_.toList) = true := by rw [hnm]; simp
      clear hsq hnm
      go_enter Try.func29, Try.ntmps29
      go_wp2_with fail
      refine (ih x.args_ y.args_ _ _ _ _ _ (by have := HN.out; rw [TypeX.size_eq] at this; omega) HX.out HY.out).mono ?_
      rw [← HS.out]
      rintro e w1 ⟨rfl, hb1⟩
      have hb2 := hb0.trans (hb1.mono hb0.size)
      go_wp2
      go_ret
      exact ⟨rfl, hb2⟩
    · rw [decide_eq_false hnm, Bool.false_and] at hsq
      have HS := Lib.hid hsq
      have he1 : (x.name_.toList == y.name_.toList) = false := text_ne hnm
      clear hsq hnm
      go_enter Try.func29, Try.ntmps29
      go_wp2
      go_ret
      exact ⟨congrArg (fun b => Ending.returned (.bool b)) HS.out.symm, hb0⟩
theorem sameTAll : ∀ N, SameT N
  | 0 => fun x y v v' w hn => by rw [TypeX.size_eq] at hn; omega
  | N + 1 => sameT_step N (sameTL_step N (sameTAll N))
theorem specSameTy (x y : TypeX) (v v' : Value) (w : World) (hv : TypeAt w (Und w.heap.size) x v) (hv' : TypeAt w (Und w.heap.size) y v') :
    Calls Try.prog 29 #[v, v'] w fun e w' => e = .returned (.bool (x.same y)) ∧ Below w.heap.size w w' := sameTAll _ x y v v' w (Nat.le_refl _) hv hv'
end Go.Proofs.Ytenjlgcdbnddjaa

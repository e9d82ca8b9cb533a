/- How often a variable occurs in a type: the reference model's. -/
import Derived.Test.YtenjlgcdbnddjaaTypeSz
import Derived.Test.YtenjlgcdbnddjaaMem
import Derived.Test.YtenjlgcdbnddjaaHas
namespace Go.Proofs.Ytenjlgcdbnddjaa
open Go.RowKit Go.Lib

/-- Is it the variable itself? -/
def TypeX.isV (u : ByteArray) (k : Int) (s : ByteArray) : Nat := if k = 1 ∧ s = u then 1 else 0
mutual
def TypeX.cntV (u : ByteArray) : TypeX → Nat
  | .mk k s l => TypeX.isV u k s + TypeX.cntVL u l
def TypeX.cntVL (u : ByteArray) : List TypeX → Nat
  | [] => 0
  | x :: r => x.cntV u + TypeX.cntVL u r
end
theorem TypeX.cntV_eq (u : ByteArray) (x : TypeX) : x.cntV u = TypeX.isV u x.kind_ x.name_ + TypeX.cntVL u x.args_ := by cases x with | mk a b c => rw [TypeX.cntV]; rfl
theorem TypeX.cntVL_take (u : ByteArray) : ∀ (l : List TypeX) (j : Nat) (h : j < l.length), TypeX.cntVL u (l.take (j + 1)) = TypeX.cntVL u (l.take j) + l[j].cntV u
  | x :: r, 0, _ => by simp [TypeX.cntVL]
  | x :: r, j + 1, h => by
    have := TypeX.cntVL_take u r j (by simpa using h)
    rw [List.take_succ_cons, List.take_succ_cons, TypeX.cntVL, TypeX.cntVL, this]
    simp; omega
theorem TypeX.cntVL_le (u : ByteArray) : ∀ (l : List TypeX) (j : Nat), TypeX.cntVL u (l.take j) ≤ TypeX.cntVL u l
  | [], j => by simp
  | x :: r, 0 => by simp [TypeX.cntVL]
  | x :: r, j + 1 => by
    have := TypeX.cntVL_le u r j
    rw [List.take_succ_cons, TypeX.cntVL, TypeX.cntVL]; omega

set_option maxRecDepth 100000 in
set_option maxHeartbeats 2000000 in
theorem specTyCount_step (N : Nat) (ih : ∀ (y : TypeX) (v : Value) (w : World) (u : ByteArray), DV.nodesL y.cells < N → TypeX.cntV u y ≤ 4294967296 → TypeAt w (Und w.heap.size) y v → Calls Try.prog 35 #[v, .string u] w fun e w' => e = .returned (.int .i64 (TypeX.cntV u y : Nat)) ∧ Below w.heap.size w w') :
    ∀ (x : TypeX) (v : Value) (w : World) (u : ByteArray), DV.nodesL x.cells ≤ N → TypeX.cntV u x ≤ 4294967296 → TypeAt w (Und w.heap.size) x v → Calls Try.prog 35 #[v, .string u] w fun e w' => e = .returned (.int .i64 (TypeX.cntV u x : Nat)) ∧ Below w.heap.size w w' := by
  intro x v w u hn hs0 hv
  obtain ⟨A2, c2, rfl, h2⟩ := hv
  have hcap := h2.cap
  rw [TypeX.nodes_eq] at hn
  have hb0 : Below w.heap.size w (w.alloc (.cells #[.int .i64 x.kind_, .string x.name_, .slice A2 x.args_.length c2] 26)) := (Below.refl _ _).alloc (Nat.le_refl _) _
  have hx0 := Whole.new w 26 #[.int .i64 x.kind_, .string x.name_, .slice A2 x.args_.length c2]
  have hr0 := h2.grow hb0
  have HX0 := Lib.hid hx0
  have HR0 := Lib.hid hr0
  have HN := Lib.hid hn
  have HS0 := Lib.hid hs0
  clear hs0
  clear h2 hn hx0 hr0
  obtain ⟨s0, hs0'⟩ : ∃ s0 : Nat, s0 = TypeX.isV u x.kind_ x.name_ := ⟨_, rfl⟩
  have hse := TypeX.cntV_eq u x
  rw [← hs0'] at hse
  have HSE := Lib.hid hse
  clear hse
  by_cases hk1 : x.kind_ = 1
  · by_cases hq1 : x.name_ = u
    · have HZ := Lib.hid (show s0 = 1 by rw [hs0', TypeX.isV, if_pos ⟨hk1, hq1⟩])
      have q1 : (x.kind_ == 1) = true := by simpa using hk1
      have q2 : (x.name_.toList == u.toList) = true := by rw [hq1]; simp
      clear hs0' hk1 hq1
      go_enter Try.func35, Try.ntmps35
      go_wp2
      go_loopw [5, 6] (fun mv iv wr => ∃ k m : Nat, k ≤ x.args_.length ∧ iv = .int .i64 k ∧ m = s0 + TypeX.cntVL u (x.args_.take k) ∧ mv = .int .i64 m ∧ Whole wr w.heap.size 26 #[.int .i64 x.kind_, .string x.name_, .slice A2 x.args_.length c2] ∧ TypeRow wr (Und wr.heap.size) A2 c2 x.args_ ∧ Below w.heap.size w wr) (fun _ iv _ => x.args_.length - (Go.RowKit.intOf iv).toNat)
      case atStart => exact ⟨0, 1, Nat.zero_le _, rfl, by rw [HZ.out]; simp [TypeX.cntVL], rfl, HX0.out, HR0.out, hb0⟩
      case round =>
        clear HX0 HR0 hb0
        obtain ⟨k, m, hk, rfl, hm, rfl, hx, hr, hb⟩ := hrel
        have c2f : wr.cell? ⟨w.heap.size, 2, none⟩ = some (.slice A2 x.args_.length c2) := by rw [hx.cell]; rfl
        have hxlt := hx.lt
        by_cases hlt : k < x.args_.length
        · obtain ⟨b, o, A2', c2', hA, hP, q0, q1, q2, k2⟩ := hr.at_ hlt
          subst hA
          have hnx : DV.nodesL x.args_[k].cells < N := by
            have h := nodesVE_at (TypeX.rows x.args_) k (by rw [TypeX.rows_length]; exact hlt)
            rw [TypeX.rows_at x.args_ k hlt] at h
            have := HN.out
            omega
          have hst := TypeX.cntVL_take u x.args_ k hlt
          have hle := TypeX.cntVL_le u x.args_ (k + 1)
          have hs1 : m + x.args_[k].cntV u ≤ 4294967296 := by have := HS0.out; have := HSE.out; omega
          have hm2 : m + x.args_[k].cntV u = s0 + TypeX.cntVL u (x.args_.take (k + 1)) := by omega
          have HM := Lib.hid hm2
          clear hst hle hm2 hm
          have HX := Lib.hid hx
          have HR := Lib.hid hr
          have HK := Lib.hid k2
          clear hx hr k2
          go_wp2_with fail
          refine (ih x.args_[k] _ _ u hnx (by omega) ⟨_, _, rfl, HK.out⟩).mono ?_
          rintro e w1 ⟨rfl, hb1⟩
          have hb2 := hb.trans (hb1.mono hb.size)
          have hx1 := HX.out.below hb1 HX.out.lt
          have hr1 := HR.out.grow hb1
          have HX1 := Lib.hid hx1
          have HR1 := Lib.hid hr1
          clear hx1 hr1 hb1
          go_wp2
          go_roundw
          case rel => exact ⟨k + 1, m + x.args_[k].cntV u, by omega, by go_num, HM.out, int_of (by omega), HX1.out, HR1.out, hb2⟩
          case measure => simp [Go.RowKit.intOf]; omega
        · have hkl : k = x.args_.length := by omega
          subst hkl
          rw [List.take_length] at hm
          have c0f : wr.cell? ⟨w.heap.size, 0, none⟩ = some (.int .i64 x.kind_) := by rw [hx.cell]; rfl
          rw [← HSE.out] at hm
          have HM := Lib.hid hm
          clear hm hx hr c0f
          go_wp2
          go_ret
          exact ⟨ret_int (by rw [HM.out]), hb⟩
    · have HZ := Lib.hid (show s0 = 0 by rw [hs0', TypeX.isV, if_neg (by intro h; exact hq1 h.2)])
      have q1 : (x.kind_ == 1) = true := by simpa using hk1
      have hq2 : (x.name_.toList == u.toList) = false := text_ne hq1
      clear hs0' hk1 hq1
      go_enter Try.func35, Try.ntmps35
      go_wp2
      go_loopw [5, 6] (fun mv iv wr => ∃ k m : Nat, k ≤ x.args_.length ∧ iv = .int .i64 k ∧ m = s0 + TypeX.cntVL u (x.args_.take k) ∧ mv = .int .i64 m ∧ Whole wr w.heap.size 26 #[.int .i64 x.kind_, .string x.name_, .slice A2 x.args_.length c2] ∧ TypeRow wr (Und wr.heap.size) A2 c2 x.args_ ∧ Below w.heap.size w wr) (fun _ iv _ => x.args_.length - (Go.RowKit.intOf iv).toNat)
      case atStart => exact ⟨0, 0, Nat.zero_le _, rfl, by rw [HZ.out]; simp [TypeX.cntVL], rfl, HX0.out, HR0.out, hb0⟩
      case round =>
        clear HX0 HR0 hb0
        obtain ⟨k, m, hk, rfl, hm, rfl, hx, hr, hb⟩ := hrel
        have c2f : wr.cell? ⟨w.heap.size, 2, none⟩ = some (.slice A2 x.args_.length c2) := by rw [hx.cell]; rfl
        have hxlt := hx.lt
        by_cases hlt : k < x.args_.length
        · obtain ⟨b, o, A2', c2', hA, hP, q0, q1, q2, k2⟩ := hr.at_ hlt
          subst hA
          have hnx : DV.nodesL x.args_[k].cells < N := by
            have h := nodesVE_at (TypeX.rows x.args_) k (by rw [TypeX.rows_length]; exact hlt)
            rw [TypeX.rows_at x.args_ k hlt] at h
            have := HN.out
            omega
          have hst := TypeX.cntVL_take u x.args_ k hlt
          have hle := TypeX.cntVL_le u x.args_ (k + 1)
          have hs1 : m + x.args_[k].cntV u ≤ 4294967296 := by have := HS0.out; have := HSE.out; omega
          have hm2 : m + x.args_[k].cntV u = s0 + TypeX.cntVL u (x.args_.take (k + 1)) := by omega
          have HM := Lib.hid hm2
          clear hst hle hm2 hm
          have HX := Lib.hid hx
          have HR := Lib.hid hr
          have HK := Lib.hid k2
          clear hx hr k2
          go_wp2_with fail
          refine (ih x.args_[k] _ _ u hnx (by omega) ⟨_, _, rfl, HK.out⟩).mono ?_
          rintro e w1 ⟨rfl, hb1⟩
          have hb2 := hb.trans (hb1.mono hb.size)
          have hx1 := HX.out.below hb1 HX.out.lt
          have hr1 := HR.out.grow hb1
          have HX1 := Lib.hid hx1
          have HR1 := Lib.hid hr1
          clear hx1 hr1 hb1
          go_wp2
          go_roundw
          case rel => exact ⟨k + 1, m + x.args_[k].cntV u, by omega, by go_num, HM.out, int_of (by omega), HX1.out, HR1.out, hb2⟩
          case measure => simp [Go.RowKit.intOf]; omega
        · have hkl : k = x.args_.length := by omega
          subst hkl
          rw [List.take_length] at hm
          have c0f : wr.cell? ⟨w.heap.size, 0, none⟩ = some (.int .i64 x.kind_) := by rw [hx.cell]; rfl
          rw [← HSE.out] at hm
          have HM := Lib.hid hm
          clear hm hx hr c0f
          go_wp2
          go_ret
          exact ⟨ret_int (by rw [HM.out]), hb⟩
  · have HZ := Lib.hid (show s0 = 0 by rw [hs0', TypeX.isV, if_neg (by intro h; exact hk1 h.1)])
    have q1 : (x.kind_ == 1) = false := by simpa using hk1
    clear hs0' hk1
    go_enter Try.func35, Try.ntmps35
    go_wp2
    go_loopw [5, 6] (fun mv iv wr => ∃ k m : Nat, k ≤ x.args_.length ∧ iv = .int .i64 k ∧ m = s0 + TypeX.cntVL u (x.args_.take k) ∧ mv = .int .i64 m ∧ Whole wr w.heap.size 26 #[.int .i64 x.kind_, .string x.name_, .slice A2 x.args_.length c2] ∧ TypeRow wr (Und wr.heap.size) A2 c2 x.args_ ∧ Below w.heap.size w wr) (fun _ iv _ => x.args_.length - (Go.RowKit.intOf iv).toNat)
    case atStart => exact ⟨0, 0, Nat.zero_le _, rfl, by rw [HZ.out]; simp [TypeX.cntVL], rfl, HX0.out, HR0.out, hb0⟩
    case round =>
      clear HX0 HR0 hb0
      obtain ⟨k, m, hk, rfl, hm, rfl, hx, hr, hb⟩ := hrel
      have c2f : wr.cell? ⟨w.heap.size, 2, none⟩ = some (.slice A2 x.args_.length c2) := by rw [hx.cell]; rfl
      have hxlt := hx.lt
      by_cases hlt : k < x.args_.length
      · obtain ⟨b, o, A2', c2', hA, hP, q0, q1, q2, k2⟩ := hr.at_ hlt
        subst hA
        have hnx : DV.nodesL x.args_[k].cells < N := by
          have h := nodesVE_at (TypeX.rows x.args_) k (by rw [TypeX.rows_length]; exact hlt)
          rw [TypeX.rows_at x.args_ k hlt] at h
          have := HN.out
          omega
        have hst := TypeX.cntVL_take u x.args_ k hlt
        have hle := TypeX.cntVL_le u x.args_ (k + 1)
        have hs1 : m + x.args_[k].cntV u ≤ 4294967296 := by have := HS0.out; have := HSE.out; omega
        have hm2 : m + x.args_[k].cntV u = s0 + TypeX.cntVL u (x.args_.take (k + 1)) := by omega
        have HM := Lib.hid hm2
        clear hst hle hm2 hm
        have HX := Lib.hid hx
        have HR := Lib.hid hr
        have HK := Lib.hid k2
        clear hx hr k2
        go_wp2_with fail
        refine (ih x.args_[k] _ _ u hnx (by omega) ⟨_, _, rfl, HK.out⟩).mono ?_
        rintro e w1 ⟨rfl, hb1⟩
        have hb2 := hb.trans (hb1.mono hb.size)
        have hx1 := HX.out.below hb1 HX.out.lt
        have hr1 := HR.out.grow hb1
        have HX1 := Lib.hid hx1
        have HR1 := Lib.hid hr1
        clear hx1 hr1 hb1
        go_wp2
        go_roundw
        case rel => exact ⟨k + 1, m + x.args_[k].cntV u, by omega, by go_num, HM.out, int_of (by omega), HX1.out, HR1.out, hb2⟩
        case measure => simp [Go.RowKit.intOf]; omega
      · have hkl : k = x.args_.length := by omega
        subst hkl
        rw [List.take_length] at hm
        have c0f : wr.cell? ⟨w.heap.size, 0, none⟩ = some (.int .i64 x.kind_) := by rw [hx.cell]; rfl
        rw [← HSE.out] at hm
        have HM := Lib.hid hm
        clear hm hx hr c0f
        go_wp2
        go_ret
        exact ⟨ret_int (by rw [HM.out]), hb⟩
theorem specTyCountAll : ∀ (N : Nat) (x : TypeX) (v : Value) (w : World) (u : ByteArray), DV.nodesL x.cells ≤ N → TypeX.cntV u x ≤ 4294967296 → TypeAt w (Und w.heap.size) x v → Calls Try.prog 35 #[v, .string u] w fun e w' => e = .returned (.int .i64 (TypeX.cntV u x : Nat)) ∧ Below w.heap.size w w'
  | 0 => specTyCount_step 0 (fun _ _ _ _ h => absurd h (Nat.not_lt_zero _))
  | N + 1 => specTyCount_step (N + 1) (fun y v w u h => specTyCountAll N y v w u (Nat.le_of_lt_succ h))
theorem specTyCount (x : TypeX) (v : Value) (w : World) (u : ByteArray) : TypeX.cntV u x ≤ 4294967296 → TypeAt w (Und w.heap.size) x v → Calls Try.prog 35 #[v, .string u] w fun e w' => e = .returned (.int .i64 (TypeX.cntV u x : Nat)) ∧ Below w.heap.size w w' := specTyCountAll _ x v w u (Nat.le_refl _)
end Go.Proofs.Ytenjlgcdbnddjaa

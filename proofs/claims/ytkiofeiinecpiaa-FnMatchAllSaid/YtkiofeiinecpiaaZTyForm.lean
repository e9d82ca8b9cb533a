/- Does every type in a type keep the rule of its kind: the reference model's. -/
import Derived.Test.YtkiofeiinecpiaaQ1
namespace Go.Proofs.Ytkiofeiinecpiaa
open Go.RowKit Go.Lib

/-- int or bool. -/
def isBase (s : ByteArray) : Bool := decide (s = ⟨#[105, 110, 116]⟩ ∨ s = ⟨#[98, 111, 111, 108]⟩)
set_option maxRecDepth 100000 in
theorem baseIs (s : ByteArray) (w : World) : Calls Try.prog 130 #[.string s] w fun e w' => e = .returned (.bool (isBase s)) ∧ w = w' := by
  by_cases h1 : s = ⟨#[105, 110, 116]⟩
  · subst h1
    go_enter Try.func130, Try.ntmps130
    go_wp2
    go_ret
    exact ⟨rfl, rfl⟩
  · by_cases h2 : s = ⟨#[98, 111, 111, 108]⟩
    · subst h2
      go_enter Try.func130, Try.ntmps130
      go_wp2
      go_ret
      exact ⟨rfl, rfl⟩
    · have hz : isBase s = false := by rw [isBase, decide_eq_false_iff_not]; exact fun h => h.elim h1 h2
      have HZ := Lib.hid hz
      have q1 : (s.toList == [105, 110, 116]) = false := by have h := text_ne h1; rwa [ByteArray.toList_eq ⟨#[105, 110, 116]⟩] at h
      have q2 : (s.toList == [98, 111, 111, 108]) = false := by have h := text_ne h2; rwa [ByteArray.toList_eq ⟨#[98, 111, 111, 108]⟩] at h
      clear hz h1 h2
      go_enter Try.func130, Try.ntmps130
      go_wp2
      go_ret
      exact ⟨congrArg (fun b => Ending.returned (.bool b)) HZ.out.symm, rfl⟩

/-- The rule of a kind. -/
def headOk (k : Int) (s : ByteArray) (n : Nat) : Bool :=
  if k = 1 ∨ k = 4 then okName s && n == 0 else if k = 3 then okName s && n == 1 else if k = 2 then (okName s && decide (n ≤ 3)) || (isBase s && n == 0) else false
mutual
def TypeX.form : TypeX → Bool
  | .mk k s l => headOk k s l.length && TypeX.formL l
def TypeX.formL : List TypeX → Bool
  | [] => true
  | x :: r => x.form && TypeX.formL r
end
theorem TypeX.form_eq (x : TypeX) : x.form = (headOk x.kind_ x.name_ x.args_.length && TypeX.formL x.args_) := by cases x with | mk a b c => rw [TypeX.form]; rfl
theorem TypeX.formL_take : ∀ (l : List TypeX) (j : Nat) (h : j < l.length), TypeX.formL (l.take (j + 1)) = (TypeX.formL (l.take j) && l[j].form)
  | x :: r, 0, _ => by simp [TypeX.formL]
  | x :: r, j + 1, h => by
    have := TypeX.formL_take r j (by simpa using h)
    rw [List.take_succ_cons, List.take_succ_cons, TypeX.formL, TypeX.formL, this]
    simp [Bool.and_assoc]

set_option maxRecDepth 100000 in
set_option maxHeartbeats 8000000 in
theorem specForm_step (N : Nat) (ih : ∀ (y : TypeX) (v : Value) (w : World), DV.nodesL y.cells < N → DV.okL y.cells → TypeAt w (Und w.heap.size) y v → Calls Try.prog 118 #[v] w fun e w' => e = .returned (.bool y.form) ∧ Below w.heap.size w w') :
    ∀ (x : TypeX) (v : Value) (w : World), DV.nodesL x.cells ≤ N → DV.okL x.cells → TypeAt w (Und w.heap.size) x v → Calls Try.prog 118 #[v] w fun e w' => e = .returned (.bool x.form) ∧ Below w.heap.size w w' := by
  intro x v w hn hok hv
  obtain ⟨A2, c2, rfl, h2⟩ := hv
  have hcap := h2.cap
  rw [TypeX.nodes_eq] at hn
  rw [TypeX.cells_eq] at hok
  simp only [DV.okL, DV.ok, uok] at hok
  obtain ⟨-, hs, ⟨-, hok⟩, -⟩ := hok
  have hb0 : Below w.heap.size w (w.alloc (.cells #[.int .i64 x.kind_, .string x.name_, .slice A2 x.args_.length c2] 26)) := (Below.refl _ _).alloc (Nat.le_refl _) _
  have hx0 := Whole.new w 26 #[.int .i64 x.kind_, .string x.name_, .slice A2 x.args_.length c2]
  have hr0 := h2.grow hb0
  have hfe := TypeX.form_eq x
  have HFE := Lib.hid hfe
  have HX0 := Lib.hid hx0
  have HR0 := Lib.hid hr0
  have HN := Lib.hid hn
  have HO := Lib.hid hok
  clear h2 hn hx0 hr0 hfe hok
  go_enter Try.func118, Try.ntmps118
  go_wp2_with fail
  refine (specName x.name_ _ hs).mono ?_
  rintro e w1 ⟨rfl, hb1⟩
  have hb := hb0.trans (hb1.mono hb0.size)
  have hx1 := HX0.out.below hb1 HX0.out.lt
  have hr1 := HR0.out.grow hb1
  have c0 : w1.cell? ⟨w.heap.size, 0, none⟩ = some (.int .i64 x.kind_) := by rw [hx1.cell]; rfl
  have c1 : w1.cell? ⟨w.heap.size, 1, none⟩ = some (.string x.name_) := by rw [hx1.cell]; rfl
  have c2f : w1.cell? ⟨w.heap.size, 2, none⟩ = some (.slice A2 x.args_.length c2) := by rw [hx1.cell]; rfl
  have hxl := hx1.lt
  have HX1 := Lib.hid hx1
  have HR1 := Lib.hid hr1
  have HB1 := Lib.hid hb
  clear hb0 hb1 hb hx1 hr1 HX0 HR0
  by_cases hk1 : x.kind_ = 1
  · have q1 : (x.kind_ == 1) = true := by simpa using hk1
    cases hnm : okName x.name_ with
    | true =>
      by_cases hl : x.args_.length = 0
      · have l0 : ((x.args_.length : Int) == 0) = true := by rw [beq_iff_eq]; omega
        have hh : headOk x.kind_ x.name_ x.args_.length = true := by
          rw [headOk, if_pos (.inl hk1)]
          simp [hnm, hl]
        have HH := Lib.hid hh
        clear hh hnm hl hk1
        go_wp2
        go_loopw [3, 4] (fun okv iv wr => ∃ (k : Nat) (b : Bool), k ≤ x.args_.length ∧ iv = .int .i64 k ∧ okv = .bool b ∧ b = TypeX.formL (x.args_.take k) ∧ Whole wr w.heap.size 26 #[.int .i64 x.kind_, .string x.name_, .slice A2 x.args_.length c2] ∧ TypeRow wr (Und wr.heap.size) A2 c2 x.args_ ∧ Below w.heap.size w wr) (fun _ iv _ => x.args_.length - (Go.RowKit.intOf iv).toNat)
        case atStart => exact ⟨0, true, Nat.zero_le _, rfl, rfl, rfl, HX1.out, HR1.out, HB1.out⟩
        case round =>
          clear c0 c1 c2f hxl
          obtain ⟨k, b, hk, rfl, rfl, hm, hx, hr, hb⟩ := hrel
          have c2f : wr.cell? ⟨w.heap.size, 2, none⟩ = some (.slice A2 x.args_.length c2) := by rw [hx.cell]; rfl
          have hxlt := hx.lt
          by_cases hlt : k < x.args_.length
          · have hst := TypeX.formL_take x.args_ k hlt
            rw [← hm] at hst
            have HST := Lib.hid hst
            clear hst hm
            cases b with
            | true =>
              obtain ⟨b, o, A2', c2', hA, hP, q0, q1, q2, k2⟩ := hr.at_ hlt
              subst hA
              have hnx : DV.nodesL x.args_[k].cells < N := by
                have h := nodesVE_at (TypeX.rows x.args_) k (by rw [TypeX.rows_length]; exact hlt)
                rw [TypeX.rows_at x.args_ k hlt] at h
                have := HN.out
                omega
              have hox := okVE_at (TypeX.rows x.args_) HO.out k (by rw [TypeX.rows_length]; exact hlt)
              rw [TypeX.rows_at x.args_ k hlt] at hox
              have HOX := Lib.hid hox
              have HX := Lib.hid hx
              have HR := Lib.hid hr
              have HK := Lib.hid k2
              clear hx hr k2 hox
              go_wp2_with fail
              refine (ih x.args_[k] _ _ hnx HOX.out ⟨_, _, rfl, HK.out⟩).mono ?_
              rintro e w2 ⟨rfl, hb1⟩
              have hb2 := hb.trans (hb1.mono hb.size)
              have hx1 := HX.out.below hb1 HX.out.lt
              have hr1 := HR.out.grow hb1
              have HX2 := Lib.hid hx1
              have HR2 := Lib.hid hr1
              clear hx1 hr1 hb1
              go_wp2
              go_roundw
              case rel => exact ⟨k + 1, x.args_[k].form, by omega, by go_num, rfl, by rw [HST.out, Bool.true_and], HX2.out, HR2.out, hb2⟩
              case measure => simp [Go.RowKit.intOf]; omega
            | false =>
              have HX := Lib.hid hx
              have HR := Lib.hid hr
              clear hx hr
              go_wp2
              go_roundw
              case rel => exact ⟨k + 1, false, by omega, by go_num, rfl, by rw [HST.out, Bool.false_and], HX.out, HR.out, hb⟩
              case measure => simp [Go.RowKit.intOf]; omega
          · have hkl : k = x.args_.length := by omega
            subst hkl
            rw [List.take_length] at hm
            have hz : x.form = b := by rw [HFE.out, HH.out, Bool.true_and, hm]
            have HZ := Lib.hid hz
            clear hz hm hx hr
            go_wp2
            go_ret
            exact ⟨congrArg (fun b => Ending.returned (.bool b)) HZ.out.symm, hb⟩
      · have l0 : ((x.args_.length : Int) == 0) = false := by rw [beq_eq_false_iff_ne]; omega
        have hh : headOk x.kind_ x.name_ x.args_.length = false := by
          rw [headOk, if_pos (.inl hk1)]
          simp [hnm, hl]
        have HH := Lib.hid hh
        clear hh hnm hl hk1
        go_wp2
        go_loopw [3, 4] (fun okv iv wr => ∃ k : Nat, k ≤ x.args_.length ∧ iv = .int .i64 k ∧ okv = .bool false ∧ Whole wr w.heap.size 26 #[.int .i64 x.kind_, .string x.name_, .slice A2 x.args_.length c2] ∧ Below w.heap.size w wr) (fun _ iv _ => x.args_.length - (Go.RowKit.intOf iv).toNat)
        case atStart => exact ⟨0, Nat.zero_le _, rfl, rfl, HX1.out, HB1.out⟩
        case round =>
          clear c0 c1 c2f hxl
          obtain ⟨k, hk, rfl, rfl, hx, hb⟩ := hrel
          have c2f : wr.cell? ⟨w.heap.size, 2, none⟩ = some (.slice A2 x.args_.length c2) := by rw [hx.cell]; rfl
          have hxlt := hx.lt
          have HX := Lib.hid hx
          clear hx
          by_cases hlt : k < x.args_.length
          · go_wp2
            go_roundw
            case rel => exact ⟨k + 1, by omega, by go_num, rfl, HX.out, hb⟩
            case measure => simp [Go.RowKit.intOf]; omega
          · have hz : x.form = false := by rw [HFE.out, HH.out, Bool.false_and]
            have HZ := Lib.hid hz
            clear hz
            go_wp2
            go_ret
            exact ⟨congrArg (fun b => Ending.returned (.bool b)) HZ.out.symm, hb⟩
    | false =>
      have hh : headOk x.kind_ x.name_ x.args_.length = false := by
        rw [headOk, if_pos (.inl hk1)]
        simp [hnm]
      have HH := Lib.hid hh
      clear hh hnm hk1
      go_wp2
      go_loopw [3, 4] (fun okv iv wr => ∃ k : Nat, k ≤ x.args_.length ∧ iv = .int .i64 k ∧ okv = .bool false ∧ Whole wr w.heap.size 26 #[.int .i64 x.kind_, .string x.name_, .slice A2 x.args_.length c2] ∧ Below w.heap.size w wr) (fun _ iv _ => x.args_.length - (Go.RowKit.intOf iv).toNat)
      case atStart => exact ⟨0, Nat.zero_le _, rfl, rfl, HX1.out, HB1.out⟩
      case round =>
        clear c0 c1 c2f hxl
        obtain ⟨k, hk, rfl, rfl, hx, hb⟩ := hrel
        have c2f : wr.cell? ⟨w.heap.size, 2, none⟩ = some (.slice A2 x.args_.length c2) := by rw [hx.cell]; rfl
        have hxlt := hx.lt
        have HX := Lib.hid hx
        clear hx
        by_cases hlt : k < x.args_.length
        · go_wp2
          go_roundw
          case rel => exact ⟨k + 1, by omega, by go_num, rfl, HX.out, hb⟩
          case measure => simp [Go.RowKit.intOf]; omega
        · have hz : x.form = false := by rw [HFE.out, HH.out, Bool.false_and]
          have HZ := Lib.hid hz
          clear hz
          go_wp2
          go_ret
          exact ⟨congrArg (fun b => Ending.returned (.bool b)) HZ.out.symm, hb⟩
  · have q1 : (x.kind_ == 1) = false := by simpa using hk1
    by_cases hk4 : x.kind_ = 4
    · have q4 : (x.kind_ == 4) = true := by simpa using hk4
      cases hnm : okName x.name_ with
      | true =>
        by_cases hl : x.args_.length = 0
        · have l0 : ((x.args_.length : Int) == 0) = true := by rw [beq_iff_eq]; omega
          have hh : headOk x.kind_ x.name_ x.args_.length = true := by
            rw [headOk, if_pos (.inr hk4)]
            simp [hnm, hl]
          have HH := Lib.hid hh
          clear hh hnm hl hk1 hk4
          go_wp2
          go_loopw [3, 4] (fun okv iv wr => ∃ (k : Nat) (b : Bool), k ≤ x.args_.length ∧ iv = .int .i64 k ∧ okv = .bool b ∧ b = TypeX.formL (x.args_.take k) ∧ Whole wr w.heap.size 26 #[.int .i64 x.kind_, .string x.name_, .slice A2 x.args_.length c2] ∧ TypeRow wr (Und wr.heap.size) A2 c2 x.args_ ∧ Below w.heap.size w wr) (fun _ iv _ => x.args_.length - (Go.RowKit.intOf iv).toNat)
          case atStart => exact ⟨0, true, Nat.zero_le _, rfl, rfl, rfl, HX1.out, HR1.out, HB1.out⟩
          case round =>
            clear c0 c1 c2f hxl
            obtain ⟨k, b, hk, rfl, rfl, hm, hx, hr, hb⟩ := hrel
            have c2f : wr.cell? ⟨w.heap.size, 2, none⟩ = some (.slice A2 x.args_.length c2) := by rw [hx.cell]; rfl
            have hxlt := hx.lt
            by_cases hlt : k < x.args_.length
            · have hst := TypeX.formL_take x.args_ k hlt
              rw [← hm] at hst
              have HST := Lib.hid hst
              clear hst hm
              cases b with
              | true =>
                obtain ⟨b, o, A2', c2', hA, hP, q0, q1, q2, k2⟩ := hr.at_ hlt
                subst hA
                have hnx : DV.nodesL x.args_[k].cells < N := by
                  have h := nodesVE_at (TypeX.rows x.args_) k (by rw [TypeX.rows_length]; exact hlt)
                  rw [TypeX.rows_at x.args_ k hlt] at h
                  have := HN.out
                  omega
                have hox := okVE_at (TypeX.rows x.args_) HO.out k (by rw [TypeX.rows_length]; exact hlt)
                rw [TypeX.rows_at x.args_ k hlt] at hox
                have HOX := Lib.hid hox
                have HX := Lib.hid hx
                have HR := Lib.hid hr
                have HK := Lib.hid k2
                clear hx hr k2 hox
                go_wp2_with fail
                refine (ih x.args_[k] _ _ hnx HOX.out ⟨_, _, rfl, HK.out⟩).mono ?_
                rintro e w2 ⟨rfl, hb1⟩
                have hb2 := hb.trans (hb1.mono hb.size)
                have hx1 := HX.out.below hb1 HX.out.lt
                have hr1 := HR.out.grow hb1
                have HX2 := Lib.hid hx1
                have HR2 := Lib.hid hr1
                clear hx1 hr1 hb1
                go_wp2
                go_roundw
                case rel => exact ⟨k + 1, x.args_[k].form, by omega, by go_num, rfl, by rw [HST.out, Bool.true_and], HX2.out, HR2.out, hb2⟩
                case measure => simp [Go.RowKit.intOf]; omega
              | false =>
                have HX := Lib.hid hx
                have HR := Lib.hid hr
                clear hx hr
                go_wp2
                go_roundw
                case rel => exact ⟨k + 1, false, by omega, by go_num, rfl, by rw [HST.out, Bool.false_and], HX.out, HR.out, hb⟩
                case measure => simp [Go.RowKit.intOf]; omega
            · have hkl : k = x.args_.length := by omega
              subst hkl
              rw [List.take_length] at hm
              have hz : x.form = b := by rw [HFE.out, HH.out, Bool.true_and, hm]
              have HZ := Lib.hid hz
              clear hz hm hx hr
              go_wp2
              go_ret
              exact ⟨congrArg (fun b => Ending.returned (.bool b)) HZ.out.symm, hb⟩
        · have l0 : ((x.args_.length : Int) == 0) = false := by rw [beq_eq_false_iff_ne]; omega
          have hh : headOk x.kind_ x.name_ x.args_.length = false := by
            rw [headOk, if_pos (.inr hk4)]
            simp [hnm, hl]
          have HH := Lib.hid hh
          clear hh hnm hl hk1 hk4
          go_wp2
          go_loopw [3, 4] (fun okv iv wr => ∃ k : Nat, k ≤ x.args_.length ∧ iv = .int .i64 k ∧ okv = .bool false ∧ Whole wr w.heap.size 26 #[.int .i64 x.kind_, .string x.name_, .slice A2 x.args_.length c2] ∧ Below w.heap.size w wr) (fun _ iv _ => x.args_.length - (Go.RowKit.intOf iv).toNat)
          case atStart => exact ⟨0, Nat.zero_le _, rfl, rfl, HX1.out, HB1.out⟩
          case round =>
            clear c0 c1 c2f hxl
            obtain ⟨k, hk, rfl, rfl, hx, hb⟩ := hrel
            have c2f : wr.cell? ⟨w.heap.size, 2, none⟩ = some (.slice A2 x.args_.length c2) := by rw [hx.cell]; rfl
            have hxlt := hx.lt
            have HX := Lib.hid hx
            clear hx
            by_cases hlt : k < x.args_.length
            · go_wp2
              go_roundw
              case rel => exact ⟨k + 1, by omega, by go_num, rfl, HX.out, hb⟩
              case measure => simp [Go.RowKit.intOf]; omega
            · have hz : x.form = false := by rw [HFE.out, HH.out, Bool.false_and]
              have HZ := Lib.hid hz
              clear hz
              go_wp2
              go_ret
              exact ⟨congrArg (fun b => Ending.returned (.bool b)) HZ.out.symm, hb⟩
      | false =>
        have hh : headOk x.kind_ x.name_ x.args_.length = false := by
          rw [headOk, if_pos (.inr hk4)]
          simp [hnm]
        have HH := Lib.hid hh
        clear hh hnm hk1 hk4
        go_wp2
        go_loopw [3, 4] (fun okv iv wr => ∃ k : Nat, k ≤ x.args_.length ∧ iv = .int .i64 k ∧ okv = .bool false ∧ Whole wr w.heap.size 26 #[.int .i64 x.kind_, .string x.name_, .slice A2 x.args_.length c2] ∧ Below w.heap.size w wr) (fun _ iv _ => x.args_.length - (Go.RowKit.intOf iv).toNat)
        case atStart => exact ⟨0, Nat.zero_le _, rfl, rfl, HX1.out, HB1.out⟩
        case round =>
          clear c0 c1 c2f hxl
          obtain ⟨k, hk, rfl, rfl, hx, hb⟩ := hrel
          have c2f : wr.cell? ⟨w.heap.size, 2, none⟩ = some (.slice A2 x.args_.length c2) := by rw [hx.cell]; rfl
          have hxlt := hx.lt
          have HX := Lib.hid hx
          clear hx
          by_cases hlt : k < x.args_.length
          · go_wp2
            go_roundw
            case rel => exact ⟨k + 1, by omega, by go_num, rfl, HX.out, hb⟩
            case measure => simp [Go.RowKit.intOf]; omega
          · have hz : x.form = false := by rw [HFE.out, HH.out, Bool.false_and]
            have HZ := Lib.hid hz
            clear hz
            go_wp2
            go_ret
            exact ⟨congrArg (fun b => Ending.returned (.bool b)) HZ.out.symm, hb⟩
    · have q4 : (x.kind_ == 4) = false := by simpa using hk4
      by_cases hk3 : x.kind_ = 3
      · have q3 : (x.kind_ == 3) = true := by simpa using hk3
        cases hnm : okName x.name_ with
        | true =>
          by_cases hl : x.args_.length = 1
          · have l1 : ((x.args_.length : Int) == 1) = true := by rw [beq_iff_eq]; omega
            have hh : headOk x.kind_ x.name_ x.args_.length = true := by
              rw [headOk, if_neg (fun h => h.elim hk1 hk4), if_pos hk3]
              simp [hnm, hl]
            have HH := Lib.hid hh
            clear hh hnm hl hk1 hk4 hk3
            go_wp2
            go_loopw [3, 4] (fun okv iv wr => ∃ (k : Nat) (b : Bool), k ≤ x.args_.length ∧ iv = .int .i64 k ∧ okv = .bool b ∧ b = TypeX.formL (x.args_.take k) ∧ Whole wr w.heap.size 26 #[.int .i64 x.kind_, .string x.name_, .slice A2 x.args_.length c2] ∧ TypeRow wr (Und wr.heap.size) A2 c2 x.args_ ∧ Below w.heap.size w wr) (fun _ iv _ => x.args_.length - (Go.RowKit.intOf iv).toNat)
            case atStart => exact ⟨0, true, Nat.zero_le _, rfl, rfl, rfl, HX1.out, HR1.out, HB1.out⟩
            case round =>
              clear c0 c1 c2f hxl
              obtain ⟨k, b, hk, rfl, rfl, hm, hx, hr, hb⟩ := hrel
              have c2f : wr.cell? ⟨w.heap.size, 2, none⟩ = some (.slice A2 x.args_.length c2) := by rw [hx.cell]; rfl
              have hxlt := hx.lt
              by_cases hlt : k < x.args_.length
              · have hst := TypeX.formL_take x.args_ k hlt
                rw [← hm] at hst
                have HST := Lib.hid hst
                clear hst hm
                cases b with
                | true =>
                  obtain ⟨b, o, A2', c2', hA, hP, q0, q1, q2, k2⟩ := hr.at_ hlt
                  subst hA
                  have hnx : DV.nodesL x.args_[k].cells < N := by
                    have h := nodesVE_at (TypeX.rows x.args_) k (by rw [TypeX.rows_length]; exact hlt)
                    rw [TypeX.rows_at x.args_ k hlt] at h
                    have := HN.out
                    omega
                  have hox := okVE_at (TypeX.rows x.args_) HO.out k (by rw [TypeX.rows_length]; exact hlt)
                  rw [TypeX.rows_at x.args_ k hlt] at hox
                  have HOX := Lib.hid hox
                  have HX := Lib.hid hx
                  have HR := Lib.hid hr
                  have HK := Lib.hid k2
                  clear hx hr k2 hox
                  go_wp2_with fail
                  refine (ih x.args_[k] _ _ hnx HOX.out ⟨_, _, rfl, HK.out⟩).mono ?_
                  rintro e w2 ⟨rfl, hb1⟩
                  have hb2 := hb.trans (hb1.mono hb.size)
                  have hx1 := HX.out.below hb1 HX.out.lt
                  have hr1 := HR.out.grow hb1
                  have HX2 := Lib.hid hx1
                  have HR2 := Lib.hid hr1
                  clear hx1 hr1 hb1
                  go_wp2
                  go_roundw
                  case rel => exact ⟨k + 1, x.args_[k].form, by omega, by go_num, rfl, by rw [HST.out, Bool.true_and], HX2.out, HR2.out, hb2⟩
                  case measure => simp [Go.RowKit.intOf]; omega
                | false =>
                  have HX := Lib.hid hx
                  have HR := Lib.hid hr
                  clear hx hr
                  go_wp2
                  go_roundw
                  case rel => exact ⟨k + 1, false, by omega, by go_num, rfl, by rw [HST.out, Bool.false_and], HX.out, HR.out, hb⟩
                  case measure => simp [Go.RowKit.intOf]; omega
              · have hkl : k = x.args_.length := by omega
                subst hkl
                rw [List.take_length] at hm
                have hz : x.form = b := by rw [HFE.out, HH.out, Bool.true_and, hm]
                have HZ := Lib.hid hz
                clear hz hm hx hr
                go_wp2
                go_ret
                exact ⟨congrArg (fun b => Ending.returned (.bool b)) HZ.out.symm, hb⟩
          · have l1 : ((x.args_.length : Int) == 1) = false := by rw [beq_eq_false_iff_ne]; omega
            have hh : headOk x.kind_ x.name_ x.args_.length = false := by
              rw [headOk, if_neg (fun h => h.elim hk1 hk4), if_pos hk3]
              simp [hnm, hl]
            have HH := Lib.hid hh
            clear hh hnm hl hk1 hk4 hk3
            go_wp2
            go_loopw [3, 4] (fun okv iv wr => ∃ k : Nat, k ≤ x.args_.length ∧ iv = .int .i64 k ∧ okv = .bool false ∧ Whole wr w.heap.size 26 #[.int .i64 x.kind_, .string x.name_, .slice A2 x.args_.length c2] ∧ Below w.heap.size w wr) (fun _ iv _ => x.args_.length - (Go.RowKit.intOf iv).toNat)
            case atStart => exact ⟨0, Nat.zero_le _, rfl, rfl, HX1.out, HB1.out⟩
            case round =>
              clear c0 c1 c2f hxl
              obtain ⟨k, hk, rfl, rfl, hx, hb⟩ := hrel
              have c2f : wr.cell? ⟨w.heap.size, 2, none⟩ = some (.slice A2 x.args_.length c2) := by rw [hx.cell]; rfl
              have hxlt := hx.lt
              have HX := Lib.hid hx
              clear hx
              by_cases hlt : k < x.args_.length
              · go_wp2
                go_roundw
                case rel => exact ⟨k + 1, by omega, by go_num, rfl, HX.out, hb⟩
                case measure => simp [Go.RowKit.intOf]; omega
              · have hz : x.form = false := by rw [HFE.out, HH.out, Bool.false_and]
                have HZ := Lib.hid hz
                clear hz
                go_wp2
                go_ret
                exact ⟨congrArg (fun b => Ending.returned (.bool b)) HZ.out.symm, hb⟩
        | false =>
          have hh : headOk x.kind_ x.name_ x.args_.length = false := by
            rw [headOk, if_neg (fun h => h.elim hk1 hk4), if_pos hk3]
            simp [hnm]
          have HH := Lib.hid hh
          clear hh hnm hk1 hk4 hk3
          go_wp2
          go_loopw [3, 4] (fun okv iv wr => ∃ k : Nat, k ≤ x.args_.length ∧ iv = .int .i64 k ∧ okv = .bool false ∧ Whole wr w.heap.size 26 #[.int .i64 x.kind_, .string x.name_, .slice A2 x.args_.length c2] ∧ Below w.heap.size w wr) (fun _ iv _ => x.args_.length - (Go.RowKit.intOf iv).toNat)
          case atStart => exact ⟨0, Nat.zero_le _, rfl, rfl, HX1.out, HB1.out⟩
          case round =>
            clear c0 c1 c2f hxl
            obtain ⟨k, hk, rfl, rfl, hx, hb⟩ := hrel
            have c2f : wr.cell? ⟨w.heap.size, 2, none⟩ = some (.slice A2 x.args_.length c2) := by rw [hx.cell]; rfl
            have hxlt := hx.lt
            have HX := Lib.hid hx
            clear hx
            by_cases hlt : k < x.args_.length
            · go_wp2
              go_roundw
              case rel => exact ⟨k + 1, by omega, by go_num, rfl, HX.out, hb⟩
              case measure => simp [Go.RowKit.intOf]; omega
            · have hz : x.form = false := by rw [HFE.out, HH.out, Bool.false_and]
              have HZ := Lib.hid hz
              clear hz
              go_wp2
              go_ret
              exact ⟨congrArg (fun b => Ending.returned (.bool b)) HZ.out.symm, hb⟩
      · have q3 : (x.kind_ == 3) = false := by simpa using hk3
        by_cases hk2 : x.kind_ = 2
        · have q2 : (x.kind_ == 2) = true := by simpa using hk2
          cases hnm : okName x.name_ with
          | true =>
            by_cases hl : x.args_.length ≤ 3
            · have l3 : decide ((x.args_.length : Int) ≤ 3) = true := by rw [decide_eq_true_eq]; omega
              have hh : headOk x.kind_ x.name_ x.args_.length = true := by
                rw [headOk, if_neg (fun h => h.elim hk1 hk4), if_neg hk3, if_pos hk2]
                simp [hnm, hl]
              have HH := Lib.hid hh
              clear hh hnm hl hk1 hk4 hk3 hk2
              go_wp2
              go_loopw [3, 4] (fun okv iv wr => ∃ (k : Nat) (b : Bool), k ≤ x.args_.length ∧ iv = .int .i64 k ∧ okv = .bool b ∧ b = TypeX.formL (x.args_.take k) ∧ Whole wr w.heap.size 26 #[.int .i64 x.kind_, .string x.name_, .slice A2 x.args_.length c2] ∧ TypeRow wr (Und wr.heap.size) A2 c2 x.args_ ∧ Below w.heap.size w wr) (fun _ iv _ => x.args_.length - (Go.RowKit.intOf iv).toNat)
              case atStart => exact ⟨0, true, Nat.zero_le _, rfl, rfl, rfl, HX1.out, HR1.out, HB1.out⟩
              case round =>
                clear c0 c1 c2f hxl
                obtain ⟨k, b, hk, rfl, rfl, hm, hx, hr, hb⟩ := hrel
                have c2f : wr.cell? ⟨w.heap.size, 2, none⟩ = some (.slice A2 x.args_.length c2) := by rw [hx.cell]; rfl
                have hxlt := hx.lt
                by_cases hlt : k < x.args_.length
                · have hst := TypeX.formL_take x.args_ k hlt
                  rw [← hm] at hst
                  have HST := Lib.hid hst
                  clear hst hm
                  cases b with
                  | true =>
                    obtain ⟨b, o, A2', c2', hA, hP, q0, q1, q2, k2⟩ := hr.at_ hlt
                    subst hA
                    have hnx : DV.nodesL x.args_[k].cells < N := by
                      have h := nodesVE_at (TypeX.rows x.args_) k (by rw [TypeX.rows_length]; exact hlt)
                      rw [TypeX.rows_at x.args_ k hlt] at h
                      have := HN.out
                      omega
                    have hox := okVE_at (TypeX.rows x.args_) HO.out k (by rw [TypeX.rows_length]; exact hlt)
                    rw [TypeX.rows_at x.args_ k hlt] at hox
                    have HOX := Lib.hid hox
                    have HX := Lib.hid hx
                    have HR := Lib.hid hr
                    have HK := Lib.hid k2
                    clear hx hr k2 hox
                    go_wp2_with fail
                    refine (ih x.args_[k] _ _ hnx HOX.out ⟨_, _, rfl, HK.out⟩).mono ?_
                    rintro e w2 ⟨rfl, hb1⟩
                    have hb2 := hb.trans (hb1.mono hb.size)
                    have hx1 := HX.out.below hb1 HX.out.lt
                    have hr1 := HR.out.grow hb1
                    have HX2 := Lib.hid hx1
                    have HR2 := Lib.hid hr1
                    clear hx1 hr1 hb1
                    go_wp2
                    go_roundw
                    case rel => exact ⟨k + 1, x.args_[k].form, by omega, by go_num, rfl, by rw [HST.out, Bool.true_and], HX2.out, HR2.out, hb2⟩
                    case measure => simp [Go.RowKit.intOf]; omega
                  | false =>
                    have HX := Lib.hid hx
                    have HR := Lib.hid hr
                    clear hx hr
                    go_wp2
                    go_roundw
                    case rel => exact ⟨k + 1, false, by omega, by go_num, rfl, by rw [HST.out, Bool.false_and], HX.out, HR.out, hb⟩
                    case measure => simp [Go.RowKit.intOf]; omega
                · have hkl : k = x.args_.length := by omega
                  subst hkl
                  rw [List.take_length] at hm
                  have hz : x.form = b := by rw [HFE.out, HH.out, Bool.true_and, hm]
                  have HZ := Lib.hid hz
                  clear hz hm hx hr
                  go_wp2
                  go_ret
                  exact ⟨congrArg (fun b => Ending.returned (.bool b)) HZ.out.symm, hb⟩
            · have hl0 : x.args_.length ≠ 0 := by omega
              have l3 : decide ((x.args_.length : Int) ≤ 3) = false := by rw [decide_eq_false_iff_not]; omega
              have l0 : ((x.args_.length : Int) == 0) = false := by rw [beq_eq_false_iff_ne]; omega
              cases hbs : isBase x.name_ with
              | true =>
                have HBS := Lib.hid hbs
                have hh : headOk x.kind_ x.name_ x.args_.length = false := by
                  rw [headOk, if_neg (fun h => h.elim hk1 hk4), if_neg hk3, if_pos hk2]
                  simp [hnm, hl, hbs, hl0]
                have HH := Lib.hid hh
                clear hh hnm hl hbs hl0 hk1 hk4 hk3 hk2
                go_wp2_with fail
                refine (baseIs x.name_ _).mono ?_
                rintro e w2 ⟨rfl, rfl⟩
                rw [HBS.out]
                go_wp2
                go_loopw [3, 4] (fun okv iv wr => ∃ k : Nat, k ≤ x.args_.length ∧ iv = .int .i64 k ∧ okv = .bool false ∧ Whole wr w.heap.size 26 #[.int .i64 x.kind_, .string x.name_, .slice A2 x.args_.length c2] ∧ Below w.heap.size w wr) (fun _ iv _ => x.args_.length - (Go.RowKit.intOf iv).toNat)
                case atStart => exact ⟨0, Nat.zero_le _, rfl, rfl, HX1.out, HB1.out⟩
                case round =>
                  clear c0 c1 c2f hxl
                  obtain ⟨k, hk, rfl, rfl, hx, hb⟩ := hrel
                  have c2f : wr.cell? ⟨w.heap.size, 2, none⟩ = some (.slice A2 x.args_.length c2) := by rw [hx.cell]; rfl
                  have hxlt := hx.lt
                  have HX := Lib.hid hx
                  clear hx
                  by_cases hlt : k < x.args_.length
                  · go_wp2
                    go_roundw
                    case rel => exact ⟨k + 1, by omega, by go_num, rfl, HX.out, hb⟩
                    case measure => simp [Go.RowKit.intOf]; omega
                  · have hz : x.form = false := by rw [HFE.out, HH.out, Bool.false_and]
                    have HZ := Lib.hid hz
                    clear hz
                    go_wp2
                    go_ret
                    exact ⟨congrArg (fun b => Ending.returned (.bool b)) HZ.out.symm, hb⟩
              | false =>
                have HBS := Lib.hid hbs
                have hh : headOk x.kind_ x.name_ x.args_.length = false := by
                  rw [headOk, if_neg (fun h => h.elim hk1 hk4), if_neg hk3, if_pos hk2]
                  simp [hnm, hl, hbs]
                have HH := Lib.hid hh
                clear hh hnm hl hbs hl0 hk1 hk4 hk3 hk2
                go_wp2_with fail
                refine (baseIs x.name_ _).mono ?_
                rintro e w2 ⟨rfl, rfl⟩
                rw [HBS.out]
                go_wp2
                go_loopw [3, 4] (fun okv iv wr => ∃ k : Nat, k ≤ x.args_.length ∧ iv = .int .i64 k ∧ okv = .bool false ∧ Whole wr w.heap.size 26 #[.int .i64 x.kind_, .string x.name_, .slice A2 x.args_.length c2] ∧ Below w.heap.size w wr) (fun _ iv _ => x.args_.length - (Go.RowKit.intOf iv).toNat)
                case atStart => exact ⟨0, Nat.zero_le _, rfl, rfl, HX1.out, HB1.out⟩
                case round =>
                  clear c0 c1 c2f hxl
                  obtain ⟨k, hk, rfl, rfl, hx, hb⟩ := hrel
                  have c2f : wr.cell? ⟨w.heap.size, 2, none⟩ = some (.slice A2 x.args_.length c2) := by rw [hx.cell]; rfl
                  have hxlt := hx.lt
                  have HX := Lib.hid hx
                  clear hx
                  by_cases hlt : k < x.args_.length
                  · go_wp2
                    go_roundw
                    case rel => exact ⟨k + 1, by omega, by go_num, rfl, HX.out, hb⟩
                    case measure => simp [Go.RowKit.intOf]; omega
                  · have hz : x.form = false := by rw [HFE.out, HH.out, Bool.false_and]
                    have HZ := Lib.hid hz
                    clear hz
                    go_wp2
                    go_ret
                    exact ⟨congrArg (fun b => Ending.returned (.bool b)) HZ.out.symm, hb⟩
          | false =>
            cases hbs : isBase x.name_ with
            | true =>
              have HBS := Lib.hid hbs
              by_cases hl : x.args_.length = 0
              · have l0 : ((x.args_.length : Int) == 0) = true := by rw [beq_iff_eq]; omega
                have hh : headOk x.kind_ x.name_ x.args_.length = true := by
                  rw [headOk, if_neg (fun h => h.elim hk1 hk4), if_neg hk3, if_pos hk2]
                  simp [hnm, hl, hbs]
                have HH := Lib.hid hh
                clear hh hnm hl hbs hk1 hk4 hk3 hk2
                go_wp2_with fail
                refine (baseIs x.name_ _).mono ?_
                rintro e w2 ⟨rfl, rfl⟩
                rw [HBS.out]
                go_wp2
                go_loopw [3, 4] (fun okv iv wr => ∃ (k : Nat) (b : Bool), k ≤ x.args_.length ∧ iv = .int .i64 k ∧ okv = .bool b ∧ b = TypeX.formL (x.args_.take k) ∧ Whole wr w.heap.size 26 #[.int .i64 x.kind_, .string x.name_, .slice A2 x.args_.length c2] ∧ TypeRow wr (Und wr.heap.size) A2 c2 x.args_ ∧ Below w.heap.size w wr) (fun _ iv _ => x.args_.length - (Go.RowKit.intOf iv).toNat)
                case atStart => exact ⟨0, true, Nat.zero_le _, rfl, rfl, rfl, HX1.out, HR1.out, HB1.out⟩
                case round =>
                  clear c0 c1 c2f hxl
                  obtain ⟨k, b, hk, rfl, rfl, hm, hx, hr, hb⟩ := hrel
                  have c2f : wr.cell? ⟨w.heap.size, 2, none⟩ = some (.slice A2 x.args_.length c2) := by rw [hx.cell]; rfl
                  have hxlt := hx.lt
                  by_cases hlt : k < x.args_.length
                  · have hst := TypeX.formL_take x.args_ k hlt
                    rw [← hm] at hst
                    have HST := Lib.hid hst
                    clear hst hm
                    cases b with
                    | true =>
                      obtain ⟨b, o, A2', c2', hA, hP, q0, q1, q2, k2⟩ := hr.at_ hlt
                      subst hA
                      have hnx : DV.nodesL x.args_[k].cells < N := by
                        have h := nodesVE_at (TypeX.rows x.args_) k (by rw [TypeX.rows_length]; exact hlt)
                        rw [TypeX.rows_at x.args_ k hlt] at h
                        have := HN.out
                        omega
                      have hox := okVE_at (TypeX.rows x.args_) HO.out k (by rw [TypeX.rows_length]; exact hlt)
                      rw [TypeX.rows_at x.args_ k hlt] at hox
                      have HOX := Lib.hid hox
                      have HX := Lib.hid hx
                      have HR := Lib.hid hr
                      have HK := Lib.hid k2
                      clear hx hr k2 hox
                      go_wp2_with fail
                      refine (ih x.args_[k] _ _ hnx HOX.out ⟨_, _, rfl, HK.out⟩).mono ?_
                      rintro e w2 ⟨rfl, hb1⟩
                      have hb2 := hb.trans (hb1.mono hb.size)
                      have hx1 := HX.out.below hb1 HX.out.lt
                      have hr1 := HR.out.grow hb1
                      have HX2 := Lib.hid hx1
                      have HR2 := Lib.hid hr1
                      clear hx1 hr1 hb1
                      go_wp2
                      go_roundw
                      case rel => exact ⟨k + 1, x.args_[k].form, by omega, by go_num, rfl, by rw [HST.out, Bool.true_and], HX2.out, HR2.out, hb2⟩
                      case measure => simp [Go.RowKit.intOf]; omega
                    | false =>
                      have HX := Lib.hid hx
                      have HR := Lib.hid hr
                      clear hx hr
                      go_wp2
                      go_roundw
                      case rel => exact ⟨k + 1, false, by omega, by go_num, rfl, by rw [HST.out, Bool.false_and], HX.out, HR.out, hb⟩
                      case measure => simp [Go.RowKit.intOf]; omega
                  · have hkl : k = x.args_.length := by omega
                    subst hkl
                    rw [List.take_length] at hm
                    have hz : x.form = b := by rw [HFE.out, HH.out, Bool.true_and, hm]
                    have HZ := Lib.hid hz
                    clear hz hm hx hr
                    go_wp2
                    go_ret
                    exact ⟨congrArg (fun b => Ending.returned (.bool b)) HZ.out.symm, hb⟩
              · have l0 : ((x.args_.length : Int) == 0) = false := by rw [beq_eq_false_iff_ne]; omega
                have hh : headOk x.kind_ x.name_ x.args_.length = false := by
                  rw [headOk, if_neg (fun h => h.elim hk1 hk4), if_neg hk3, if_pos hk2]
                  simp [hnm, hl, hbs]
                have HH := Lib.hid hh
                clear hh hnm hl hbs hk1 hk4 hk3 hk2
                go_wp2_with fail
                refine (baseIs x.name_ _).mono ?_
                rintro e w2 ⟨rfl, rfl⟩
                rw [HBS.out]
                go_wp2
                go_loopw [3, 4] (fun okv iv wr => ∃ k : Nat, k ≤ x.args_.length ∧ iv = .int .i64 k ∧ okv = .bool false ∧ Whole wr w.heap.size 26 #[.int .i64 x.kind_, .string x.name_, .slice A2 x.args_.length c2] ∧ Below w.heap.size w wr) (fun _ iv _ => x.args_.length - (Go.RowKit.intOf iv).toNat)
                case atStart => exact ⟨0, Nat.zero_le _, rfl, rfl, HX1.out, HB1.out⟩
                case round =>
                  clear c0 c1 c2f hxl
                  obtain ⟨k, hk, rfl, rfl, hx, hb⟩ := hrel
                  have c2f : wr.cell? ⟨w.heap.size, 2, none⟩ = some (.slice A2 x.args_.length c2) := by rw [hx.cell]; rfl
                  have hxlt := hx.lt
                  have HX := Lib.hid hx
                  clear hx
                  by_cases hlt : k < x.args_.length
                  · go_wp2
                    go_roundw
                    case rel => exact ⟨k + 1, by omega, by go_num, rfl, HX.out, hb⟩
                    case measure => simp [Go.RowKit.intOf]; omega
                  · have hz : x.form = false := by rw [HFE.out, HH.out, Bool.false_and]
                    have HZ := Lib.hid hz
                    clear hz
                    go_wp2
                    go_ret
                    exact ⟨congrArg (fun b => Ending.returned (.bool b)) HZ.out.symm, hb⟩
            | false =>
              have HBS := Lib.hid hbs
              have hh : headOk x.kind_ x.name_ x.args_.length = false := by
                rw [headOk, if_neg (fun h => h.elim hk1 hk4), if_neg hk3, if_pos hk2]
                simp [hnm, hbs]
              have HH := Lib.hid hh
              clear hh hnm hbs hk1 hk4 hk3 hk2
              go_wp2_with fail
              refine (baseIs x.name_ _).mono ?_
              rintro e w2 ⟨rfl, rfl⟩
              rw [HBS.out]
              go_wp2
              go_loopw [3, 4] (fun okv iv wr => ∃ k : Nat, k ≤ x.args_.length ∧ iv = .int .i64 k ∧ okv = .bool false ∧ Whole wr w.heap.size 26 #[.int .i64 x.kind_, .string x.name_, .slice A2 x.args_.length c2] ∧ Below w.heap.size w wr) (fun _ iv _ => x.args_.length - (Go.RowKit.intOf iv).toNat)
              case atStart => exact ⟨0, Nat.zero_le _, rfl, rfl, HX1.out, HB1.out⟩
              case round =>
                clear c0 c1 c2f hxl
                obtain ⟨k, hk, rfl, rfl, hx, hb⟩ := hrel
                have c2f : wr.cell? ⟨w.heap.size, 2, none⟩ = some (.slice A2 x.args_.length c2) := by rw [hx.cell]; rfl
                have hxlt := hx.lt
                have HX := Lib.hid hx
                clear hx
                by_cases hlt : k < x.args_.length
                · go_wp2
                  go_roundw
                  case rel => exact ⟨k + 1, by omega, by go_num, rfl, HX.out, hb⟩
                  case measure => simp [Go.RowKit.intOf]; omega
                · have hz : x.form = false := by rw [HFE.out, HH.out, Bool.false_and]
                  have HZ := Lib.hid hz
                  clear hz
                  go_wp2
                  go_ret
                  exact ⟨congrArg (fun b => Ending.returned (.bool b)) HZ.out.symm, hb⟩
        · have q2 : (x.kind_ == 2) = false := by simpa using hk2
          have hz : x.form = false := by rw [HFE.out, headOk, if_neg (fun h => h.elim hk1 hk4), if_neg hk3, if_neg hk2]; rfl
          have HZ := Lib.hid hz
          clear hz hk1 hk4 hk3 hk2
          go_wp2
          go_ret
          exact ⟨congrArg (fun b => Ending.returned (.bool b)) HZ.out.symm, HB1.out⟩
theorem specFormAll : ∀ (N : Nat) (x : TypeX) (v : Value) (w : World), DV.nodesL x.cells ≤ N → DV.okL x.cells → TypeAt w (Und w.heap.size) x v → Calls Try.prog 118 #[v] w fun e w' => e = .returned (.bool x.form) ∧ Below w.heap.size w w'
  | 0 => specForm_step 0 (fun _ _ _ h => absurd h (Nat.not_lt_zero _))
  | N + 1 => specForm_step (N + 1) (fun y v w h => specFormAll N y v w (Nat.le_of_lt_succ h))
theorem specForm (x : TypeX) (v : Value) (w : World) : DV.okL x.cells → TypeAt w (Und w.heap.size) x v → Calls Try.prog 118 #[v] w fun e w' => e = .returned (.bool x.form) ∧ Below w.heap.size w w' := specFormAll _ x v w (Nat.le_refl _)
end Go.Proofs.Ytkiofeiinecpiaa

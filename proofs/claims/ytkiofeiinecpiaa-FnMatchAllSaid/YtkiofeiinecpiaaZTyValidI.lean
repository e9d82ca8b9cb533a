/- The program's IsValidType. -/
import Derived.Test.YtkiofeiinecpiaaZTypesIn
import Derived.Test.YtkiofeiinecpiaaQ2
import Derived.Test.YtkiofeiinecpiaaZTyValid
import Derived.Test.YtkiofeiinecpiaaZTySizeI
import Derived.Test.YtkiofeiinecpiaaZTyDepthI
import Derived.Test.YtkiofeiinecpiaaZFollows
namespace Go.Proofs.Ytkiofeiinecpiaa
open Go.RowKit Go.Shelf Go.Lib
attribute [local go_sem] Oper.semAt_some

/-- Do these keep the depth and the rules? -/
def okW : List (Nat × TypeX) → Bool
  | [] => true
  | p :: r => (decide (p.1 ≤ 6) && headOk p.2.kind_ p.2.name_ p.2.args_.length) && okW r
theorem okW_app : ∀ (a b : List (Nat × TypeX)), okW (a ++ b) = (okW a && okW b)
  | [], b => by simp [okW]
  | p :: r, b => by rw [List.cons_append, okW, okW, okW_app r b]; simp only [Bool.and_assoc]
mutual
theorem TypeX.walk_ok (d : Nat) : ∀ x : TypeX, okW (x.walk d) = (decide (d + x.depth ≤ 6) && x.form)
  | .mk a b c => by
    rw [TypeX.walk, okW, TypeX.depth, TypeX.form]
    have h := TypeX.walkL_ok d c
    show ((decide (d ≤ 6) && headOk a b c.length) && okW (TypeX.walkL (d + 1) c)) = _
    rw [Bool.and_right_comm, h]
    cases headOk a b c.length <;> simp
theorem TypeX.walkL_ok (d : Nat) : ∀ l : List TypeX, (decide (d ≤ 6) && okW (TypeX.walkL (d + 1) l)) = (decide (d + TypeX.depthL l ≤ 6) && TypeX.formL l)
  | [] => by rw [TypeX.walkL, TypeX.depthL, TypeX.formL, okW]; rfl
  | x :: r => by
    rw [TypeX.walkL, TypeX.depthL, TypeX.formL, okW_app, TypeX.walk_ok (d + 1) x]
    have h := TypeX.walkL_ok d r
    have e : decide (d + max (1 + x.depth) (TypeX.depthL r) ≤ 6) = (decide (d + 1 + x.depth ≤ 6) && decide (d + TypeX.depthL r ≤ 6)) := by
      rw [Bool.eq_iff_iff, Bool.and_eq_true, decide_eq_true_eq, decide_eq_true_eq, decide_eq_true_eq]; omega
    rw [e]
    calc (decide (d ≤ 6) && (decide (d + 1 + x.depth ≤ 6) && x.form && okW (TypeX.walkL (d + 1) r)))
        = ((decide (d + 1 + x.depth ≤ 6) && x.form) && (decide (d ≤ 6) && okW (TypeX.walkL (d + 1) r))) := by cases decide (d ≤ 6) <;> simp
      _ = _ := by rw [h]; cases decide (d + 1 + x.depth ≤ 6) <;> cases x.form <;> simp
end
/-- The texts of a type are no longer than a Go int. -/
def okName_ (p : Nat × TypeX) : Prop := p.2.name_.size ≤ 9223372036854775807 ∧ p.2.args_.length ≤ 9223372036854775807
mutual
theorem TypeX.walk_names (d : Nat) : ∀ x : TypeX, DV.okL x.cells → ∀ p ∈ x.walk d, okName_ p
  | .mk a b c, h => by
    rw [TypeX.cells] at h
    simp only [DV.okL, DV.ok, uok, TypeX.rows_length] at h
    rw [TypeX.walk]
    intro p hp
    rcases List.mem_cons.1 hp with rfl | hp
    · exact ⟨h.2.1, h.2.2.1.1⟩
    · exact TypeX.walkL_names (d + 1) c h.2.2.1.2 p hp
theorem TypeX.walkL_names (d : Nat) : ∀ l : List TypeX, DV.okE (TypeX.rows l) → ∀ p ∈ TypeX.walkL d l, okName_ p
  | [], _ => by rw [TypeX.walkL]; intro p hp; cases hp
  | x :: r, h => by
    rw [TypeX.rows, DV.okE] at h
    rw [TypeX.walkL]
    intro p hp
    rcases List.mem_append.1 hp with hp | hp
    · exact TypeX.walk_names d x h.1 p hp
    · exact TypeX.walkL_names d r h.2 p hp
end
theorem TypeX.valid_eq (x : TypeX) : x.valid = (decide ((x.walk 0).length ≤ 60) && okW (x.walk 0)) := by rw [TypeX.valid, TypeX.walk_size, TypeX.walk_ok, Nat.zero_add]
/-- What breaks a rule of a part breaks the whole. -/
theorem TypeX.valid_no {x : TypeX} {pre : List (Nat × TypeX)} {y : Nat × TypeX} {rest : List (Nat × TypeX)} (h : x.walk 0 = (pre ++ [y]) ++ rest) (hn : 60 < pre.length + 1 ∨ 6 < y.1 ∨ headOk y.2.kind_ y.2.name_ y.2.args_.length = false) : x.valid = false := by
  rw [TypeX.valid_eq]
  by_cases h0 : 60 < pre.length + 1
  · rw [decide_eq_false (by rw [h]; simp; omega), Bool.false_and]
  · have h1 : okW (x.walk 0) = false := by
      rw [h, okW_app, okW_app, okW, okW]
      rcases hn with hn | hn | hn
      · omega
      · rw [decide_eq_false (by omega)]; simp
      · rw [hn]; simp
    rw [h1, Bool.and_false]

set_option maxRecDepth 100000 in
set_option maxHeartbeats 4000000 in
theorem implTyValidI (x : TypeX) (v : Value) (w : World) (hok : DV.okL x.cells) (hsz : x.size ≤ 4294967296) (hv : TypeAt w (Und w.heap.size) x v) :
    Calls Try.prog 82 #[v] w fun e w' => e = .returned (.bool x.valid) ∧ Below w.heap.size w w' := by
  obtain ⟨A, c, rfl, hx⟩ := hv
  have hx1 := hx
  obtain ⟨w0, hw0⟩ : ∃ w0, (((w.alloc (.cells #[.int .i64 x.kind_, .string x.name_, .slice A x.args_.length c] 26)).alloc (.cells #[.bool false] 4)).alloc (.cells #[.int .i64 0] 3)) = w0 := ⟨_, rfl⟩
  have hb0 : Below w.heap.size w w0 := by rw [← hw0]; exact (((Below.refl _ _).alloc (Nat.le_refl _) _).alloc (by simp) _).alloc (by simp; omega) _
  have hs0 : w0.heap.size = w.heap.size + 3 := by rw [← hw0]; simp
  have hseq := typesIn_seq x A c w.heap.size w0 (by omega) (hx.frame (fun _ h => h) fun b o hP => hb0.cell (p := ⟨b, o, none⟩) hP) (by rw [TypeX.walk_size]; exact hsz)
  have hbx1 : Boxed w0 (w.heap.size + 1) 4 (.bool false) := by
    rw [← hw0]
    have h := Boxed.new (w.alloc (.cells #[.int .i64 x.kind_, .string x.name_, .slice A x.args_.length c] 26)) 4 (.bool false)
    simp only [World.size_alloc] at h
    exact (((Below.refl (w.heap.size + 2) _).alloc (by simp) _).block _ (by omega)).trans h
  have hbx2 : Boxed w0 (w.heap.size + 2) 3 (.int .i64 0) := by
    rw [← hw0]
    have h := Boxed.new ((w.alloc (.cells #[.int .i64 x.kind_, .string x.name_, .slice A x.args_.length c] 26)).alloc (.cells #[.bool false] 4)) 3 (.int .i64 0)
    simp only [World.size_alloc] at h
    exact ((Below.refl (w.heap.size + 3) _).block _ (by omega)).trans h
  have HBX1 := Lib.hid hbx1
  have HBX2 := Lib.hid hbx2
  have HSEQ := Lib.hid hseq
  have HW0 := Lib.hid hw0
  have HX := Lib.hid hx1
  clear hseq hw0 hx hx1 hbx1 hbx2
  have HNM := Lib.hid (TypeX.walk_names 0 x hok)
  clear hok
  refine callsIn_wide.1 (callsIn_of_wp_marks (n := 4) Try.func82 rfl trivial ?_ rfl)
  simp only [Try.ntmps82, List.size_toArray, List.length_cons, List.length_nil, Nat.reduceAdd, Nat.reduceSub, Array.replicate_succ, Array.replicate_zero, List.push_toArray, List.append_toArray, List.nil_append, List.cons_append]
  gi_wp2_with fail
  refine ⟨trivial, ?_⟩
  refine (callsIn_wide.2 (implTypesIn _ _ _ _ _ _)).mono ?_
  rintro e w' ⟨rfl, rfl⟩
  rw [HW0.out]
  obtain ⟨w1, hw1⟩ : ∃ w1, w1 = typesInW w0 x.kind_ x.name_ A x.args_.length c := ⟨_, rfl⟩
  have hb1 : Below w0.heap.size w0 w1 := by rw [hw1]; exact typesInW_below _ _ _ _ _ _
  have hs1 : w1.heap.size = w0.heap.size + 3 := by rw [hw1]; exact typesInW_size _ _ _ _ _ _
  have hseq := HSEQ.out
  rw [← hw1] at hseq ⊢
  rw [hs0] at hseq
  have HSEQ1 := Lib.hid hseq
  have hbw1 : Below w.heap.size w w1 := hb0.trans (hb1.mono (by omega))
  have hby1 : Boxed w1 (w.heap.size + 1) 4 (.bool false) := (hb1.block _ (by omega)).trans HBX1.out
  have HBY1 := Lib.hid hby1
  have hby2 : Boxed w1 (w.heap.size + 2) 3 (.int .i64 0) := (hb1.block _ (by omega)).trans HBX2.out
  have HBY2 := Lib.hid hby2
  clear hseq hw1 hby1 hby2
  gi_wp2
  have hsz1 : w1.heap.size = w.heap.size + 6 := by omega
  have hI : OwnM w1.heap.size (fun (M : Nat → Prop) (pre : List TypeIt) (W : World) => Boxed W (w.heap.size + 1) 4 (.bool false) ∧ Boxed W (w.heap.size + 2) 3 (.int .i64 (pre.length : Nat)) ∧ (okW (pre.map TypeIt.key) = true ∧ pre.length ≤ 60) ∧ Below w.heap.size w W) :=
    OwnM.and (ownM_boxed _ (fun _ : List TypeIt => .bool false) (by omega)) (OwnM.and (ownM_boxed _ (fun pre : List TypeIt => .int .i64 (pre.length : Nat)) (by omega)) (OwnM.and (ownM_pure _ (fun pre : List TypeIt => okW (pre.map TypeIt.key) = true ∧ pre.length ≤ 60)) (ownM_below (by omega) (Nat.le_refl _))))
  refine wpIn_rangeFunc_ownM rfl (by decide) (gf := 125) (lb := #[.pointer (some ⟨w.heap.size + 3 + 1, 0, none⟩), .pointer (some ⟨w.heap.size + 3 + 2, 0, none⟩)]) rfl trivial (enters_of Try.func125 (by kernel_rfl) rfl) HSEQ1.out (fun b h => by omega) (Below.refl _ _) (by omega) (fun _ => rfl)
    (fun M pre W => Boxed W (w.heap.size + 1) 4 (.bool false) ∧ Boxed W (w.heap.size + 2) 3 (.int .i64 (pre.length : Nat)) ∧ (okW (pre.map TypeIt.key) = true ∧ pre.length ≤ 60) ∧ Below w.heap.size w W) (fun c _ W => c = .ret ∧ x.valid = false ∧ Boxed W (w.heap.size + 1) 4 (.bool false) ∧ Below w.heap.size w W)
    hI (fun c => (OwnM.and (ownM_pure _ (fun _ => c = .ret)) (OwnM.and (ownM_pure _ (fun _ => x.valid = false)) (OwnM.and (ownM_boxed (β := List TypeIt) _ (fun _ => .bool false) (by omega)) (ownM_below (by omega) (Nat.le_refl _))))).from (fun _ => False)) (fun _ _ => ⟨HBY1.out, HBY2.out, ⟨rfl, by simp⟩, hbw1⟩)
    (fun y a' W => ∃ Bp, w1.heap.size ≤ Bp ∧ Whole W Bp 26 #[.int .i64 y.2.1.kind_, .string y.2.1.name_, .slice y.2.2.1 y.2.1.args_.length y.2.2.2] ∧ a' = { tmps := #[.agg #[.int .i64 x.kind_, .string x.name_, .slice A x.args_.length c], .pointer (some ⟨w.heap.size, 0, none⟩), .pointer (some ⟨w.heap.size + 1, 0, none⟩), .pointer (some ⟨w.heap.size + 2, 0, none⟩), .int .i64 (y.1 : Nat), .pointer (some ⟨Bp, 0, none⟩), .agg #[.int .i64 x.kind_, .string x.name_, .slice A x.args_.length c], typesInV (w.heap.size + 3), .int .i64 (y.1 : Nat), .agg #[.int .i64 y.2.1.kind_, .string y.2.1.name_, .slice y.2.2.1 y.2.1.args_.length y.2.2.2], undef, undef, undef, undef, undef, undef, undef, undef, undef, undef, undef, undef, undef], defers := [] })
    (fun y a' _ _ _ _ ⟨Bp, h1, h2, h3⟩ hg hr => ⟨Bp, h1, whole_kept h2 hg (fun r e => (hr r e).2), h3⟩) ?assign ?body ?done ?stop
  case assign =>
    intro l M pre y W K hM hMl hsW hI' _ hK
    simp only [TypeIt.enc]
    gi_wp2
    exact hK _ _ ((KeepsOthers.alloc _ _).from _) (KeepsM.alloc (by omega) hMl _) (hI.alloc_ hI' hM) ⟨W.heap.size, by omega, Whole.new W _ _, by simp⟩
  case body =>
    rintro l M pre y a' W hM hMl hsW ⟨hbf, hbx, ⟨hok, hle⟩, hb⟩ ⟨Bp, hBp, hwp, rfl⟩ ⟨⟨rest, hrest⟩, _⟩
    have hcn : okW ((pre ++ [y]).map TypeIt.key) = (decide (y.1 ≤ 6) && headOk y.2.1.kind_ y.2.1.name_ y.2.1.args_.length) := by
      rw [List.map_append, okW_app, hok, List.map_cons, List.map_nil, okW, okW, Bool.and_true, Bool.true_and]; rfl
    have hnm := HNM.out (TypeIt.key y) (by rw [hrest, List.map_append]; simp)
    have hno : (60 < pre.length + 1 ∨ 6 < y.1 ∨ headOk y.2.1.kind_ y.2.1.name_ y.2.1.args_.length = false) → x.valid = false := fun h =>
      TypeX.valid_no (pre := pre.map TypeIt.key) (y := TypeIt.key y) (rest := rest) (by rw [hrest, List.map_append]; rfl) (by rw [List.length_map]; exact h)
    have hn1 : y.2.1.name_.size ≤ 9223372036854775807 := hnm.1
    have hn2 : y.2.1.args_.length ≤ 9223372036854775807 := hnm.2
    have hwne : Bp ≠ w.heap.size + 2 := by omega
    have hwp' : Whole (W.setCell ⟨w.heap.size + 2, 0, none⟩ (.int .i64 ((pre.length : Int) + 1))) Bp 26 #[.int .i64 y.2.1.kind_, .string y.2.1.name_, .slice y.2.2.1 y.2.1.args_.length y.2.2.2] := (Below.heap_setCell W _ _ Bp hwne).trans hwp
    have q0 : W.cell? ⟨Bp, 0, none⟩ = some (.int .i64 y.2.1.kind_) := by rw [hwp.cell]; rfl
    have q1 : W.cell? ⟨Bp, 1, none⟩ = some (.string y.2.1.name_) := by rw [hwp.cell]; rfl
    have q2 : W.cell? ⟨Bp, 2, none⟩ = some (.slice y.2.2.1 y.2.1.args_.length y.2.2.2) := by rw [hwp.cell]; rfl
    have hci := hbx.cell
    have hfi := hbx.frozen
    have hcb := hbf.cell
    have hfb := hbf.frozen
    have hbf' := boxed_far (b := w.heap.size + 2) (o := 0) (u := .int .i64 ((pre.length : Int) + 1)) hbf (by omega)
    have hbx' := boxed_set_int (z := (pre.length : Int) + 1) (z' := ((pre ++ [y]).length : Nat)) hbx (by simp)
    have hb' := hb.setCell (p := ⟨w.heap.size + 2, 0, none⟩) (by simp) (.int .i64 ((pre.length : Int) + 1))
    have hkf' : KeepsFrom w1.heap.size W (W.setCell ⟨w.heap.size + 2, 0, none⟩ (.int .i64 ((pre.length : Int) + 1))) := (KeepsOthers.setCell _ _ _).from _
    have hkm' : KeepsM w.heap.size (fun b => M b ∨ w.heap.size + 3 ≤ b ∧ b < w.heap.size + 3 + 3) W (W.setCell ⟨w.heap.size + 2, 0, none⟩ (.int .i64 ((pre.length : Int) + 1))) := KeepsM.setCell (by omega) (fun h => h.elim (fun h => by have := hM _ h; omega) (fun h => by omega)) _
    have HCN := Lib.hid hcn
    have HNO := Lib.hid hno
    have HBF := Lib.hid hbf'
    have HBX := Lib.hid hbx'
    have HWP := Lib.hid hwp'
    have HB := Lib.hid hb'
    have HKF := Lib.hid hkf'
    have HKM := Lib.hid hkm'
    clear hrest hok hcn hno hnm hbf' hbx' hwp' hb' hkf' hkm' hbf hbx hwp
    by_cases h1 : y.1 ≤ 6
    · have g1 : decide ((6 : Int) < y.1) = false := by rw [decide_eq_false_iff_not]; omega
      by_cases h2 : pre.length + 1 ≤ 60
      · have g2 : decide ((60 : Int) < (pre.length : Int) + 1) = false := by rw [decide_eq_false_iff_not]; omega
        have H1 := Lib.hid h1
        have H2 := Lib.hid h2
        clear h1 h2
        gi_wp2_with fail
        refine ⟨trivial, ?_⟩
        refine (CallsIn.inRound l (callsIn_wide.2 (follows _ _ _ _ _ _ hn1 hn2))).mono ?_
        rintro e W2 ⟨rfl, hb2⟩
        have hsW3 := hb2.size
        have hbf2 := boxed_below HBF.out hb2
        have hbx2 := boxed_below HBX.out hb2
        have hb02 := HB.out.trans (hb2.mono (by have := HB.out.size; omega))
        have hkf2 := HKF.out.trans (KeepsFrom.of_below hb2)
        have hkm2 := HKM.out.trans (KeepsM.of_below hb2 (by simp; omega) (fun b h => by simp; exact hMl b h))
        have hcb2 := hbf2.cell
        have hfb2 := hbf2.frozen
        have HBF2 := Lib.hid hbf2
        have HBX2 := Lib.hid hbx2
        have HB2 := Lib.hid hb02
        have HKF2 := Lib.hid hkf2
        have HKM2 := Lib.hid hkm2
        clear hb2 hbf2 hbx2 hb02 hkf2 hkm2
        cases hh : headOk y.2.1.kind_ y.2.1.name_ y.2.1.args_.length with
        | true =>
          have HH := Lib.hid hh
          clear hh
          gi_wp2
          exact ⟨HKF2.out, HKM2.out, HBF2.out, HBX2.out, ⟨by rw [HCN.out, HH.out, decide_eq_true H1.out]; rfl, by have := H2.out; simp; omega⟩, HB2.out⟩
        | false =>
          have hv := HNO.out (.inr (.inr hh))
          have HV := Lib.hid hv
          clear hv hh
          gi_wp2
          exact ⟨keepsFrom_set HKF2.out, rfl, HV.out, HBF2.out.set _, HB2.out.setCell (p := ⟨w.heap.size + 1, 0, none⟩) (by simp) _⟩
      · have g2 : decide ((60 : Int) < (pre.length : Int) + 1) = true := by rw [decide_eq_true_eq]; omega
        have HV := Lib.hid (HNO.out (.inl (by omega)))
        clear h1 h2
        gi_wp2
        refine ⟨trivial, ?_⟩
        gi_wp2
        exact ⟨keepsFrom_set HKF.out, rfl, HV.out, HBF.out.set _, HB.out.setCell (p := ⟨w.heap.size + 1, 0, none⟩) (by simp) _⟩
    · have g1 : decide ((6 : Int) < y.1) = true := by rw [decide_eq_true_eq]; omega
      have HV := Lib.hid (HNO.out (.inr (.inl (by omega))))
      clear h1
      gi_wp2
      refine ⟨trivial, ?_⟩
      gi_wp2
      exact ⟨keepsFrom_set HKF.out, rfl, HV.out, HBF.out.set _, HB.out.setCell (p := ⟨w.heap.size + 1, 0, none⟩) (by simp) _⟩
  case done =>
    rintro D M xs W hD hS ⟨hbf, _, ⟨hok, hle⟩, hb⟩ hK
    have hv : x.valid = true := by
      have hl := congrArg List.length hS
      rw [List.length_map] at hl
      rw [TypeX.valid_eq, ← hl, ← hS, hok, decide_eq_true hle]; rfl
    have hDb : w.heap.size + 1 ≠ D := by omega
    have hc := hbf.cell
    have hf := hbf.frozen
    have HV := Lib.hid hv
    have HBX := Lib.hid hbf
    clear hS hbf hv hok
    gi_wp2
    have hK' := (KeepsOthers.setCell W ⟨w.heap.size + 1, 0, none⟩ (.bool true)).same D _ hK rfl
    refine ⟨by simp, .inl ⟨_, _, rfl, run_takeDeferred hK', ?_⟩⟩
    have hc5 := (boxed_putObj (o := .deferred none) (HBX.out.set (.bool true)) hDb).cell
    refine ⟨.bool true, ?_, by rw [HV.out], below_putObj (hb.setCell (p := ⟨w.heap.size + 1, 0, none⟩) (by simp) _) _ (by omega) (by omega)⟩
    simp [results, Try.f82, go_sem, hc5]
  case stop =>
    rintro D c pre W hD ⟨rfl, hx3, hbx, hb⟩ hK
    have hDb : w.heap.size + 1 ≠ D := by omega
    have HX3 := Lib.hid hx3
    have HBX := Lib.hid hbx
    clear hx3 hbx
    gi_wp2
    refine ⟨by simp, .inl ⟨_, _, rfl, run_takeDeferred hK, ?_⟩⟩
    have hc5 := (boxed_putObj (o := .deferred none) HBX.out hDb).cell
    refine ⟨.bool false, ?_, by rw [HX3.out], below_putObj hb _ (by omega) (by omega)⟩
    simp [results, Try.f82, go_sem, hc5]
end Go.Proofs.Ytkiofeiinecpiaa

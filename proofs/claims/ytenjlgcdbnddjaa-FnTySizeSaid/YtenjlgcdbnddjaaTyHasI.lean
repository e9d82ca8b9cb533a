/- The program's HasProjection. -/
import Derived.Test.YtenjlgcdbnddjaaTypesIn
import Derived.Test.YtenjlgcdbnddjaaLoopT
import Derived.Test.YtenjlgcdbnddjaaTyHas
import Derived.Test.YtenjlgcdbnddjaaTySizeI
import Derived.Test.YtenjlgcdbnddjaaFormOf
namespace Go.Proofs.Ytenjlgcdbnddjaa
open Go.RowKit Go.Shelf Go.Lib
attribute [local go_sem] Oper.semAt_some

/-- Is one of these a projection? -/
def hasW : List (Nat × TypeX) → Bool
  | [] => false
  | p :: r => p.2.kind_ == 3 || hasW r
theorem hasW_app : ∀ (a b : List (Nat × TypeX)), hasW (a ++ b) = (hasW a || hasW b)
  | [], b => by simp [hasW]
  | p :: r, b => by rw [List.cons_append, hasW, hasW, hasW_app r b, Bool.or_assoc]
mutual
theorem TypeX.walk_has (d : Nat) : ∀ x : TypeX, hasW (x.walk d) = x.hasP
  | .mk a b c => by rw [TypeX.walk, TypeX.hasP, hasW, TypeX.walkL_has (d + 1) c, Bool.or_comm]; rfl
theorem TypeX.walkL_has (d : Nat) : ∀ l : List TypeX, hasW (TypeX.walkL d l) = TypeX.hasPL l
  | [] => by rw [TypeX.walkL, TypeX.hasPL]; rfl
  | x :: r => by rw [TypeX.walkL, TypeX.hasPL, hasW_app, TypeX.walk_has d x, TypeX.walkL_has d r]
end

set_option maxRecDepth 100000 in
set_option maxHeartbeats 4000000 in
theorem implTyHasI (x : TypeX) (v : Value) (w : World) (hsz : x.size ≤ 4294967296) (hv : TypeAt w (Und w.heap.size) x v) :
    Calls Try.prog 19 #[v] w fun e w' => e = .returned (.bool x.hasP) ∧ Below w.heap.size w w' := by
  obtain ⟨A, c, rfl, hx⟩ := hv
  have hx1 := hx
  obtain ⟨w0, hw0⟩ : ∃ w0, ((w.alloc (.cells #[.int .i64 x.kind_, .string x.name_, .slice A x.args_.length c] 26)).alloc (.cells #[.bool false] 4)) = w0 := ⟨_, rfl⟩
  have hb0 : Below w.heap.size w w0 := by rw [← hw0]; exact ((Below.refl _ _).alloc (Nat.le_refl _) _).alloc (by simp) _
  have hs0 : w0.heap.size = w.heap.size + 2 := by rw [← hw0]; simp
  have hseq := typesIn_seq x A c w.heap.size w0 (by omega) (hx.frame (fun _ h => h) fun b o hP => hb0.cell (p := ⟨b, o, none⟩) hP) (by rw [TypeX.walk_size]; exact hsz)
  have hbx1 : Boxed w0 (w.heap.size + 1) 4 (.bool false) := by
    rw [← hw0]
    have h := Boxed.new (w.alloc (.cells #[.int .i64 x.kind_, .string x.name_, .slice A x.args_.length c] 26)) 4 (.bool false)
    simp only [World.size_alloc] at h
    exact ((Below.refl (w.heap.size + 2) _).block _ (by omega)).trans h
  have HBX1 := Lib.hid hbx1
  have HSEQ := Lib.hid hseq
  have HW0 := Lib.hid hw0
  have HX := Lib.hid hx1
  clear hseq hw0 hx hx1 hbx1
  refine callsIn_wide.1 (callsIn_of_wp_marks (n := 4) Try.func19 rfl trivial ?_ rfl)
  simp only [Try.ntmps19, List.size_toArray, List.length_cons, List.length_nil, Nat.reduceAdd, Nat.reduceSub, Array.replicate_succ, Array.replicate_zero, List.push_toArray, List.append_toArray, List.nil_append, List.cons_append]
  gi_wp2_with fail
  refine ⟨trivial, ?_⟩
  refine (callsIn_wide.2 (implTypesIn _ _ _ _ _ _)).mono ?_
  rintro e w' ⟨rfl, rfl⟩
  rw [HW0.out]
  obtain ⟨w1, hw1⟩ : ∃ w1, w1 = typesInW w0 x.kind_ x.name_ A x.args_.length c := ⟨_, rfl⟩
  have hb1 : Below w0.heap.size w0 w1 := by rw [hw1]; exact typesInW_below _ _ _ _ _ _
  have hs1 : w1.heap.size = w0.heap.size + 3 := by rw [hw1]; exact typesInW_size _ _ _ _ _ _
  have hseq := HSEQ.out
  rw [← hw1] at hseq ⊢
  rw [hs0] at hseq
  have HSEQ1 := Lib.hid hseq
  have hbw1 : Below w.heap.size w w1 := hb0.trans (hb1.mono (by omega))
  have hby1 : Boxed w1 (w.heap.size + 1) 4 (.bool false) := (hb1.block _ (by omega)).trans HBX1.out
  have HBY1 := Lib.hid hby1
  clear hseq hw1 hby1
  gi_wp2
  have hsz1 : w1.heap.size = w.heap.size + 5 := by omega
  have hI : OwnM w1.heap.size (fun (M : Nat → Prop) (pre : List TypeIt) (W : World) => Boxed W (w.heap.size + 1) 4 (.bool false) ∧ hasW (pre.map TypeIt.key) = false ∧ Below w.heap.size w W) :=
    OwnM.and (ownM_boxed _ (fun _ : List TypeIt => .bool false) (by omega)) (OwnM.and (ownM_pure _ (fun pre : List TypeIt => hasW (pre.map TypeIt.key) = false)) (ownM_below (by omega) (Nat.le_refl _)))
  refine wpIn_rangeFunc_ownM rfl (by decide) (gf := 72) (lb := #[.pointer (some ⟨w.heap.size + 2 + 1, 0, none⟩), .pointer (some ⟨w.heap.size + 2 + 2, 0, none⟩)]) rfl trivial (enters_of Try.func72 (by kernel_rfl) rfl) HSEQ1.out (fun b h => by omega) (Below.refl _ _) (by omega) (fun _ => rfl)
    (fun M pre W => Boxed W (w.heap.size + 1) 4 (.bool false) ∧ hasW (pre.map TypeIt.key) = false ∧ Below w.heap.size w W) (fun c _ W => c = .ret ∧ x.hasP = true ∧ Boxed W (w.heap.size + 1) 4 (.bool true) ∧ Below w.heap.size w W)
    hI (fun c => (OwnM.and (ownM_pure _ (fun _ => c = .ret)) (OwnM.and (ownM_pure _ (fun _ => x.hasP = true)) (OwnM.and (ownM_boxed (β := List TypeIt) _ (fun _ => .bool true) (by omega)) (ownM_below (by omega) (Nat.le_refl _))))).from (fun _ => False)) (fun _ _ => ⟨HBY1.out, rfl, hbw1⟩)
    (fun y a' W => ∃ Bp, w1.heap.size ≤ Bp ∧ Whole W Bp 26 #[.int .i64 y.2.1.kind_, .string y.2.1.name_, .slice y.2.2.1 y.2.1.args_.length y.2.2.2] ∧ a' = { tmps := #[.agg #[.int .i64 x.kind_, .string x.name_, .slice A x.args_.length c], .pointer (some ⟨w.heap.size, 0, none⟩), .pointer (some ⟨w.heap.size + 1, 0, none⟩), undef, .pointer (some ⟨Bp, 0, none⟩), undef, undef, .agg #[.int .i64 x.kind_, .string x.name_, .slice A x.args_.length c], typesInV (w.heap.size + 2), .int .i64 (y.1 : Nat), .agg #[.int .i64 y.2.1.kind_, .string y.2.1.name_, .slice y.2.2.1 y.2.1.args_.length y.2.2.2], undef, undef, undef, undef, undef, undef, undef], defers := [] })
    (fun y a' _ _ _ _ ⟨Bp, h1, h2, h3⟩ hg hr => ⟨Bp, h1, whole_kept h2 hg (fun r e => (hr r e).2), h3⟩) ?assign ?body ?done ?stop
  case assign =>
    intro l M pre y W K hM hMl hsW hI' _ hK
    simp only [TypeIt.enc]
    gi_wp2
    exact hK _ _ ((KeepsOthers.alloc _ _).from _) (KeepsM.alloc (by omega) hMl _) (hI.alloc_ hI' hM) ⟨W.heap.size, by omega, Whole.new W _ _, by simp⟩
  case body =>
    rintro l M pre y a' W hM hMl hsW ⟨hbx, hno, hb⟩ ⟨Bp, hBp, hwp, rfl⟩ ⟨⟨rest, hrest⟩, _⟩
    have hcn : hasW ((pre ++ [y]).map TypeIt.key) = (y.2.1.kind_ == 3) := by
      rw [List.map_append, hasW_app, hno, List.map_cons, List.map_nil, hasW, hasW, Bool.or_false, Bool.false_or]; rfl
    have hyes : (y.2.1.kind_ == 3) = true → x.hasP = true := fun h => by
      rw [← TypeX.walk_has 0 x, hrest, hasW_app, hcn, h, Bool.true_or]
    have q0 : W.cell? ⟨Bp, 0, none⟩ = some (.int .i64 y.2.1.kind_) := by rw [hwp.cell]; rfl
    have q1 : W.cell? ⟨Bp, 1, none⟩ = some (.string y.2.1.name_) := by rw [hwp.cell]; rfl
    have q2 : W.cell? ⟨Bp, 2, none⟩ = some (.slice y.2.2.1 y.2.1.args_.length y.2.2.2) := by rw [hwp.cell]; rfl
    have HCN := Lib.hid hcn
    have HY := Lib.hid hyes
    clear hrest hno hcn hyes
    gi_wp2_with fail
    refine ⟨trivial, ?_⟩
    refine (CallsIn.inRound l (callsIn_wide.2 (implFormOf _ _ _ _ _ _))).mono ?_
    rintro e W2 ⟨rfl, hb2⟩
    have r0 : W2.cell? ⟨Bp, 0, none⟩ = some (.int .i64 y.2.1.kind_) := (hb2.cell (p := ⟨Bp, 0, none⟩) hwp.lt).trans (by rw [hwp.cell]; rfl)
    have r1 : W2.cell? ⟨Bp, 1, none⟩ = some (.string y.2.1.name_) := (hb2.cell (p := ⟨Bp, 1, none⟩) hwp.lt).trans (by rw [hwp.cell]; rfl)
    have r2 : W2.cell? ⟨Bp, 2, none⟩ = some (.slice y.2.2.1 y.2.1.args_.length y.2.2.2) := (hb2.cell (p := ⟨Bp, 2, none⟩) hwp.lt).trans (by rw [hwp.cell]; rfl)
    have hwpl := hwp.lt
    have hk2 : KeepsM w.heap.size (fun b => M b ∨ w.heap.size + 2 ≤ b ∧ b < w.heap.size + 2 + 3) W W2 := KeepsM.of_below hb2 (by omega) hMl
    have hkf2 : KeepsFrom w1.heap.size W W2 := KeepsFrom.of_below hb2
    have hb02 := hb.trans (hb2.mono (by omega))
    have hsW2 := hb2.size
    have hbx2 := boxed_below hbx hb2
    have HK := Lib.hid hk2
    have HKF := Lib.hid hkf2
    clear q0 q1 q2 hbx hwp hk2 hkf2 hb2
    cases hk : (y.2.1.kind_ == 3) with
    | true =>
      have HF := Lib.hid (tyForm3 (.agg #[.int .i64 y.2.1.kind_, .string y.2.1.name_, .slice y.2.2.1 y.2.1.args_.length y.2.2.2]) hk)
      have hA := asP3 (.agg #[.int .i64 y.2.1.kind_, .string y.2.1.name_, .slice y.2.2.1 y.2.1.args_.length y.2.2.2])
      have hx3 := HY.out hk
      have HX3 := Lib.hid hx3
      rw [HF.out]
      have hbx3 := hbx2.alloc (.cells #[.int .i64 y.2.1.kind_, .string y.2.1.name_, .slice y.2.2.1 y.2.1.args_.length y.2.2.2] 54)
      have hc3 := hbx3.cell
      have hf3 := hbx3.frozen
      have HB3 := Lib.hid hbx3
      clear hk hx3 hbx3 hbx2
      gi_wp2
      exact ⟨keepsFrom_set (keepsFrom_alloc HKF.out), rfl, HX3.out, HB3.out.set _, (hb02.alloc (by omega) _).setCell (p := ⟨w.heap.size + 1, 0, none⟩) (by simp) _⟩
    | false =>
      have hA := as_proj (.agg #[.int .i64 y.2.1.kind_, .string y.2.1.name_, .slice y.2.2.1 y.2.1.args_.length y.2.2.2]) hk
      have HB2 := Lib.hid hbx2
      have HKK := Lib.hid hk
      clear hk hbx2
      gi_wp2
      exact ⟨keepsFrom_alloc HKF.out, HK.out.trans (KeepsM.alloc (by omega) (fun b hb' => Nat.lt_of_lt_of_le (hMl b hb') hsW2) _), HB2.out.alloc _, by rw [HCN.out, HKK.out], hb02.alloc (by omega) _⟩
  case done =>
    rintro D M xs W hD hS ⟨hbx, hno, hb⟩ hK
    rw [hS, TypeX.walk_has] at hno
    have hDb : w.heap.size + 1 ≠ D := by omega
    have hc := hbx.cell
    have hf := hbx.frozen
    have HN := Lib.hid hno
    have HBX := Lib.hid hbx
    clear hS hbx hno
    gi_wp2
    have hK' := (KeepsOthers.setCell W ⟨w.heap.size + 1, 0, none⟩ (.bool false)).same D _ hK rfl
    refine ⟨by simp, .inl ⟨_, _, rfl, run_takeDeferred hK', ?_⟩⟩
    have hc5 := (boxed_putObj (o := .deferred none) (HBX.out.set (.bool false)) hDb).cell
    refine ⟨.bool false, ?_, by rw [HN.out], below_putObj (hb.setCell (p := ⟨w.heap.size + 1, 0, none⟩) (by simp) _) _ (by omega) (by omega)⟩
    simp [results, Try.f19, go_sem, hc5]
  case stop =>
    rintro D c pre W hD ⟨rfl, hx3, hbx, hb⟩ hK
    have hDb : w.heap.size + 1 ≠ D := by omega
    have HX3 := Lib.hid hx3
    have HBX := Lib.hid hbx
    clear hx3 hbx
    gi_wp2
    refine ⟨by simp, .inl ⟨_, _, rfl, run_takeDeferred hK, ?_⟩⟩
    have hc5 := (boxed_putObj (o := .deferred none) HBX.out hDb).cell
    refine ⟨.bool true, ?_, by rw [HX3.out], below_putObj hb _ (by omega) (by omega)⟩
    simp [results, Try.f19, go_sem, hc5]
end Go.Proofs.Ytenjlgcdbnddjaa

/- The program's CountTypeVariable. -/
import Derived.Test.YtenjlgcdbnddjaaTypesIn
import Derived.Test.YtenjlgcdbnddjaaLoopT
import Derived.Test.YtenjlgcdbnddjaaTyCount
import Derived.Test.YtenjlgcdbnddjaaTySizeI
import Derived.Test.YtenjlgcdbnddjaaFormOf
import Derived.Test.YtenjlgcdbnddjaaHas
namespace Go.Proofs.Ytenjlgcdbnddjaa
open Go.RowKit Go.Shelf Go.Lib
attribute [local go_sem] Oper.semAt_some

/-- How many of these are the variable u. -/
def cntW (u : ByteArray) : List (Nat × TypeX) → Nat
  | [] => 0
  | p :: r => TypeX.isV u p.2.kind_ p.2.name_ + cntW u r
theorem cntW_app (u : ByteArray) : ∀ (a b : List (Nat × TypeX)), cntW u (a ++ b) = cntW u a + cntW u b
  | [], b => by simp [cntW]
  | p :: r, b => by rw [List.cons_append, cntW, cntW, cntW_app u r b]; omega
theorem cntW_le (u : ByteArray) : ∀ (a : List (Nat × TypeX)), cntW u a ≤ a.length
  | [] => Nat.le_refl _
  | p :: r => by
    have h := cntW_le u r
    have h1 : TypeX.isV u p.2.kind_ p.2.name_ ≤ 1 := by unfold TypeX.isV; split <;> omega
    rw [cntW, List.length_cons]; omega
mutual
theorem TypeX.walk_cnt (u : ByteArray) (d : Nat) : ∀ x : TypeX, cntW u (x.walk d) = x.cntV u
  | .mk a b c => by rw [TypeX.walk, TypeX.cntV, cntW, TypeX.walkL_cnt u (d + 1) c]; rfl
theorem TypeX.walkL_cnt (u : ByteArray) (d : Nat) : ∀ l : List TypeX, cntW u (TypeX.walkL d l) = TypeX.cntVL u l
  | [] => by rw [TypeX.walkL, TypeX.cntVL]; rfl
  | x :: r => by rw [TypeX.walkL, TypeX.cntVL, cntW_app, TypeX.walk_cnt u d x, TypeX.walkL_cnt u d r]
end

set_option maxRecDepth 100000 in
set_option maxHeartbeats 4000000 in
theorem implTyCountI (x : TypeX) (v : Value) (w : World) (u : ByteArray) (hsz : x.size ≤ 4294967296) (hv : TypeAt w (Und w.heap.size) x v) :
    Calls Try.prog 25 #[v, .string u] w fun e w' => e = .returned (.int .i64 (x.cntV u : Nat)) ∧ Below w.heap.size w w' := by
  obtain ⟨A, c, rfl, hx⟩ := hv
  have hx1 := hx
  obtain ⟨w0, hw0⟩ : ∃ w0, (((w.alloc (.cells #[.int .i64 x.kind_, .string x.name_, .slice A x.args_.length c] 26)).alloc (.cells #[.string u] 9)).alloc (.cells #[.int .i64 0] 3)) = w0 := ⟨_, rfl⟩
  have hb0 : Below w.heap.size w w0 := by rw [← hw0]; exact (((Below.refl _ _).alloc (Nat.le_refl _) _).alloc (by simp) _).alloc (by simp; omega) _
  have hs0 : w0.heap.size = w.heap.size + 3 := by rw [← hw0]; simp
  have hseq := typesIn_seq x A c w.heap.size w0 (by omega) (hx.frame (fun _ h => h) fun b o hP => hb0.cell (p := ⟨b, o, none⟩) hP) (by rw [TypeX.walk_size]; exact hsz)
  have hbx1 : Boxed w0 (w.heap.size + 1) 9 (.string u) := by
    rw [← hw0]
    have h := Boxed.new (w.alloc (.cells #[.int .i64 x.kind_, .string x.name_, .slice A x.args_.length c] 26)) 9 (.string u)
    simp only [World.size_alloc] at h
    exact (((Below.refl (w.heap.size + 2) _).alloc (by simp) _).block _ (by omega)).trans h
  have hbx2 : Boxed w0 (w.heap.size + 2) 3 (.int .i64 0) := by
    rw [← hw0]
    have h := Boxed.new ((w.alloc (.cells #[.int .i64 x.kind_, .string x.name_, .slice A x.args_.length c] 26)).alloc (.cells #[.string u] 9)) 3 (.int .i64 0)
    simp only [World.size_alloc] at h
    exact ((Below.refl (w.heap.size + 3) _).block _ (by omega)).trans h
  have HBX1 := Lib.hid hbx1
  have HBX2 := Lib.hid hbx2
  have HSEQ := Lib.hid hseq
  have HW0 := Lib.hid hw0
  have HX := Lib.hid hx1
  clear hseq hw0 hx hx1 hbx1 hbx2
  refine callsIn_wide.1 (callsIn_of_wp_marks (n := 4) Try.func25 rfl trivial ?_ rfl)
  simp only [Try.ntmps25, List.size_toArray, List.length_cons, List.length_nil, Nat.reduceAdd, Nat.reduceSub, Array.replicate_succ, Array.replicate_zero, List.push_toArray, List.append_toArray, List.nil_append, List.cons_append]
  gi_wp2_with fail
  refine ⟨trivial, ?_⟩
  refine (callsIn_wide.2 (implTypesIn _ _ _ _ _ _)).mono ?_
  rintro e w' ⟨rfl, rfl⟩
  rw [HW0.out]
  obtain ⟨w1, hw1⟩ : ∃ w1, w1 = typesInW w0 x.kind_ x.name_ A x.args_.length c := ⟨_, rfl⟩
  have hb1 : Below w0.heap.size w0 w1 := by rw [hw1]; exact typesInW_below _ _ _ _ _ _
  have hs1 : w1.heap.size = w0.heap.size + 3 := by rw [hw1]; exact typesInW_size _ _ _ _ _ _
  have hseq := HSEQ.out
  rw [← hw1] at hseq ⊢
  rw [hs0] at hseq
  have HSEQ1 := Lib.hid hseq
  have hbw1 : Below w.heap.size w w1 := hb0.trans (hb1.mono (by omega))
  have hby1 : Boxed w1 (w.heap.size + 1) 9 (.string u) := (hb1.block _ (by omega)).trans HBX1.out
  have HBY1 := Lib.hid hby1
  have hby2 : Boxed w1 (w.heap.size + 2) 3 (.int .i64 0) := (hb1.block _ (by omega)).trans HBX2.out
  have HBY2 := Lib.hid hby2
  clear hseq hw1 hby1 hby2
  gi_wp2
  have hsz1 : w1.heap.size = w.heap.size + 6 := by omega
  have hI : OwnM w1.heap.size (fun (M : Nat → Prop) (pre : List TypeIt) (W : World) => Boxed W (w.heap.size + 1) 9 (.string u) ∧ Boxed W (w.heap.size + 2) 3 (.int .i64 (cntW u (pre.map TypeIt.key) : Nat)) ∧ Below w.heap.size w W) :=
    OwnM.and (ownM_boxed _ (fun _ : List TypeIt => .string u) (by omega)) (OwnM.and (ownM_boxed _ (fun pre : List TypeIt => .int .i64 (cntW u (pre.map TypeIt.key) : Nat)) (by omega)) (ownM_below (by omega) (Nat.le_refl _)))
  refine wpIn_rangeFunc_ownM rfl (by decide) (gf := 72) (lb := #[.pointer (some ⟨w.heap.size + 3 + 1, 0, none⟩), .pointer (some ⟨w.heap.size + 3 + 2, 0, none⟩)]) rfl trivial (enters_of Try.func72 (by kernel_rfl) rfl) HSEQ1.out (fun b h => by omega) (Below.refl _ _) (by omega) (fun _ => rfl)
    (fun M pre W => Boxed W (w.heap.size + 1) 9 (.string u) ∧ Boxed W (w.heap.size + 2) 3 (.int .i64 (cntW u (pre.map TypeIt.key) : Nat)) ∧ Below w.heap.size w W) (fun _ _ _ => False)
    hI (fun _ _ _ _ _ h _ _ => h) (fun _ _ => ⟨HBY1.out, HBY2.out, hbw1⟩)
    (fun y a' W => ∃ Bp, w1.heap.size ≤ Bp ∧ Whole W Bp 26 #[.int .i64 y.2.1.kind_, .string y.2.1.name_, .slice y.2.2.1 y.2.1.args_.length y.2.2.2] ∧ a' = { tmps := #[.agg #[.int .i64 x.kind_, .string x.name_, .slice A x.args_.length c], .string u, .pointer (some ⟨w.heap.size, 0, none⟩), .pointer (some ⟨w.heap.size + 1, 0, none⟩), .int .i64 0, .pointer (some ⟨w.heap.size + 2, 0, none⟩), undef, .pointer (some ⟨Bp, 0, none⟩), .agg #[.int .i64 x.kind_, .string x.name_, .slice A x.args_.length c], typesInV (w.heap.size + 3), .int .i64 (y.1 : Nat), .agg #[.int .i64 y.2.1.kind_, .string y.2.1.name_, .slice y.2.2.1 y.2.1.args_.length y.2.2.2], undef, undef, undef, undef, undef, undef, undef, undef, undef, undef, undef], defers := [] })
    (fun y a' _ _ _ _ ⟨Bp, h1, h2, h3⟩ hg hr => ⟨Bp, h1, whole_kept h2 hg (fun r e => (hr r e).2), h3⟩) ?assign ?body ?done ?stop
  case assign =>
    intro l M pre y W K hM hMl hsW hI' _ hK
    simp only [TypeIt.enc]
    gi_wp2
    exact hK _ _ ((KeepsOthers.alloc _ _).from _) (KeepsM.alloc (by omega) hMl _) (hI.alloc_ hI' hM) ⟨W.heap.size, by omega, Whole.new W _ _, by simp⟩
  case body =>
    rintro l M pre y a' W hM hMl hsW ⟨hbu, hbx, hb⟩ ⟨Bp, hBp, hwp, rfl⟩ ⟨⟨rest, hrest⟩, _⟩
    have hlen : pre.length + 1 ≤ x.size := by
      have := congrArg List.length hrest
      rw [TypeX.walk_size, List.length_append, List.length_map, List.length_append, List.length_singleton] at this
      omega
    have hcl := cntW_le u (pre.map TypeIt.key)
    rw [List.length_map] at hcl
    have hcn : cntW u ((pre ++ [y]).map TypeIt.key) = cntW u (pre.map TypeIt.key) + TypeX.isV u y.2.1.kind_ y.2.1.name_ := by
      rw [List.map_append, cntW_app, List.map_cons, List.map_nil, cntW, cntW, Nat.add_zero]; rfl
    obtain ⟨t, ht⟩ : ∃ t, t = cntW u (pre.map TypeIt.key) := ⟨_, rfl⟩
    rw [← ht] at hbx hcl hcn
    have q0 : W.cell? ⟨Bp, 0, none⟩ = some (.int .i64 y.2.1.kind_) := by rw [hwp.cell]; rfl
    have q1 : W.cell? ⟨Bp, 1, none⟩ = some (.string y.2.1.name_) := by rw [hwp.cell]; rfl
    have q2 : W.cell? ⟨Bp, 2, none⟩ = some (.slice y.2.2.1 y.2.1.args_.length y.2.2.2) := by rw [hwp.cell]; rfl
    have HCN := Lib.hid hcn
    clear hrest ht hcn
    gi_wp2_with fail
    refine ⟨trivial, ?_⟩
    refine (CallsIn.inRound l (callsIn_wide.2 (implIsVar _ _ _ _ _ _))).mono ?_
    rintro e W2 ⟨rfl, hb2⟩
    have r0 : W2.cell? ⟨Bp, 0, none⟩ = some (.int .i64 y.2.1.kind_) := (hb2.cell (p := ⟨Bp, 0, none⟩) hwp.lt).trans (by rw [hwp.cell]; rfl)
    have r1 : W2.cell? ⟨Bp, 1, none⟩ = some (.string y.2.1.name_) := (hb2.cell (p := ⟨Bp, 1, none⟩) hwp.lt).trans (by rw [hwp.cell]; rfl)
    have r2 : W2.cell? ⟨Bp, 2, none⟩ = some (.slice y.2.2.1 y.2.1.args_.length y.2.2.2) := (hb2.cell (p := ⟨Bp, 2, none⟩) hwp.lt).trans (by rw [hwp.cell]; rfl)
    have hwpl := hwp.lt
    have hk2 : KeepsM w.heap.size (fun b => M b ∨ w.heap.size + 3 ≤ b ∧ b < w.heap.size + 3 + 3) W W2 := KeepsM.of_below hb2 (by omega) hMl
    have hkf2 : KeepsFrom w1.heap.size W W2 := KeepsFrom.of_below hb2
    have hb02 := hb.trans (hb2.mono (by omega))
    have hsW2 := hb2.size
    have hbu2 := boxed_below hbu hb2
    have hbx2 := boxed_below hbx hb2
    have hcu := hbu2.cell
    have hcx := hbx2.cell
    have hfx := hbx2.frozen
    have HBU := Lib.hid hbu2
    have HBX := Lib.hid hbx2
    have HK := Lib.hid hk2
    have HKF := Lib.hid hkf2
    clear q0 q1 q2 hbu hbx hwp hbu2 hbx2 hk2 hkf2 hb2
    cases hk : (y.2.1.kind_ == 1) with
    | false =>
      have hv : TypeX.isV u y.2.1.kind_ y.2.1.name_ = 0 := by unfold TypeX.isV; rw [if_neg]; rintro ⟨h, _⟩; rw [h] at hk; cases hk
      have HV := Lib.hid hv
      clear hv
      gi_wp2
      exact ⟨HKF.out, HK.out, HBU.out, by rw [HCN.out, HV.out]; exact HBX.out, hb02⟩
    | true =>
      have hk1 : y.2.1.kind_ = 1 := by simpa using hk
      by_cases he : y.2.1.name_ = u
      · have hv : TypeX.isV u y.2.1.kind_ y.2.1.name_ = 1 := by unfold TypeX.isV; rw [if_pos ⟨hk1, he⟩]
        have he1 : (y.2.1.name_.toList == u.toList) = true := by rw [he]; simp
        have HV := Lib.hid hv
        clear hv he hk1
        gi_wp2
        refine ⟨keepsFrom_set HKF.out, HK.out.trans (KeepsM.setCell (by omega) (fun h => h.elim (fun h => by have := hM _ h; omega) (fun h => by omega)) _), boxed_far HBU.out (by omega), ?_, hb02.setCell (p := ⟨w.heap.size + 2, 0, none⟩) (by simp) _⟩
        rw [HCN.out, HV.out]
        exact boxed_set_int HBX.out (by omega)
      · have hv : TypeX.isV u y.2.1.kind_ y.2.1.name_ = 0 := by unfold TypeX.isV; rw [if_neg]; rintro ⟨_, h⟩; exact he h
        have he1 : (y.2.1.name_.toList == u.toList) = false := text_ne he
        have HV := Lib.hid hv
        clear hv he hk1
        gi_wp2
        exact ⟨HKF.out, HK.out, HBU.out, by rw [HCN.out, HV.out]; exact HBX.out, hb02⟩
  case done =>
    rintro D M xs W hD hS ⟨_, hbx, hb⟩ hK
    rw [hS, TypeX.walk_cnt] at hbx
    have hc := hbx.cell
    clear hS hbx
    gi_wp2
    refine ⟨by simp, .inl ⟨_, _, rfl, run_takeDeferred hK, ?_⟩⟩
    exact ⟨_, results_tmp rfl _ _ _, rfl, hb.grown (grownBy_putObj' W D _) (by have := hb.size; omega) (fun k e => by cases e; omega)⟩
  case stop =>
    rintro D c pre W _ h _
    exact h.elim
end Go.Proofs.Ytenjlgcdbnddjaa

/- The program's TypeSize. -/
import Derived.Test.YtoongnmkhjkbkaaZTypesIn
import Derived.Test.YtoongnmkhjkbkaaQ1
namespace Go.Proofs.Ytoongnmkhjkbkaa
open Go.RowKit Go.Shelf Go.Lib
attribute [local go_sem] Oper.semAt_some

mutual
theorem TypeX.walk_size (d : Nat) : ∀ x : TypeX, (x.walk d).length = x.size
  | .mk a b c => by rw [TypeX.walk, TypeX.size, List.length_cons, TypeX.walkL_size (d + 1) c]; omega
theorem TypeX.walkL_size (d : Nat) : ∀ l : List TypeX, (TypeX.walkL d l).length = TypeX.sizeL l
  | [] => by rw [TypeX.walkL, TypeX.sizeL]; rfl
  | x :: r => by rw [TypeX.walkL, TypeX.sizeL, List.length_append, TypeX.walk_size d x, TypeX.walkL_size d r]
end

set_option maxRecDepth 100000 in
set_option maxHeartbeats 2000000 in
theorem implTySizeI (x : TypeX) (v : Value) (w : World) (hsz : x.size ≤ 4294967296) (hv : TypeAt w (Und w.heap.size) x v) :
    Calls Try.prog 54 #[v] w fun e w' => e = .returned (.int .i64 (x.size : Nat)) ∧ Below w.heap.size w w' := by
  obtain ⟨A, c, rfl, hx⟩ := hv
  obtain ⟨w0, hw0⟩ : ∃ w0, (w.alloc (.cells #[.int .i64 x.kind_, .string x.name_, .slice A x.args_.length c] 27)).alloc (.cells #[.int .i64 0] 3) = w0 := ⟨_, rfl⟩
  have hb0 : Below w.heap.size w w0 := by rw [← hw0]; exact ((Below.refl _ _).alloc (Nat.le_refl _) _).alloc (by simp) _
  have hs0 : w0.heap.size = w.heap.size + 2 := by rw [← hw0]; simp
  have hseq := typesIn_seq x A c w.heap.size w0 (by omega) (hx.frame (fun _ h => h) fun b o hP => hb0.cell (p := ⟨b, o, none⟩) hP) (by rw [TypeX.walk_size]; exact hsz)
  refine callsIn_wide.1 (callsIn_of_wp_marks (n := 4) Try.func54 rfl trivial ?_ rfl)
  simp only [Try.ntmps54, List.size_toArray, List.length_cons, List.length_nil, Nat.reduceAdd, Nat.reduceSub, Array.replicate_succ, Array.replicate_zero, List.push_toArray, List.append_toArray, List.nil_append, List.cons_append]
  have hbx0 : Boxed w0 (w.heap.size + 1) 3 (.int .i64 0) := by
    rw [← hw0]; have := Boxed.new (w.alloc (.cells #[.int .i64 x.kind_, .string x.name_, .slice A x.args_.length c] 27)) 3 (.int .i64 0); rw [World.size_alloc] at this; exact this
  have HSEQ := Lib.hid hseq
  have HW0 := Lib.hid hw0
  have HBX := Lib.hid hbx0
  clear hseq hw0 hbx0
  gi_wp2_with fail
  refine ⟨trivial, ?_⟩
  refine (callsIn_wide.2 (implTypesIn _ _ _ _ _ _)).mono ?_
  rintro e w' ⟨rfl, rfl⟩
  rw [HW0.out]
  obtain ⟨w1, hw1⟩ : ∃ w1, w1 = typesInW w0 x.kind_ x.name_ A x.args_.length c := ⟨_, rfl⟩
  have hb1 : Below w0.heap.size w0 w1 := by rw [hw1]; exact typesInW_below _ _ _ _ _ _
  have hs1 : w1.heap.size = w0.heap.size + 3 := by rw [hw1]; exact typesInW_size _ _ _ _ _ _
  have hseq := HSEQ.out
  rw [← hw1] at hseq ⊢
  have HSEQ := Lib.hid hseq
  have hbx1 : Boxed w1 (w.heap.size + 1) 3 (.int .i64 0) := (hb1.block _ (by omega)).trans HBX.out
  have HBX1 := Lib.hid hbx1
  have hbw1 : Below w.heap.size w w1 := hb0.trans (hb1.mono (by omega))
  clear hseq hw1 hbx1
  gi_wp2
  have hseq := HSEQ.out
  rw [hs0] at hseq
  have hsz1 : w1.heap.size = w.heap.size + 5 := by omega
  have hI : OwnM w1.heap.size (fun (_ : Nat → Prop) (pre : List TypeIt) W => Boxed W (w.heap.size + 1) 3 (.int .i64 (pre.length : Nat)) ∧ Below w.heap.size w W) :=
    OwnM.and (ownM_boxed _ (fun pre : List TypeIt => .int .i64 (pre.length : Nat)) (by omega)) (ownM_below (by omega) (Nat.le_refl _))
  refine wpIn_rangeFunc_ownM rfl (by decide) (gf := 118) (lb := #[.pointer (some ⟨w.heap.size + 2 + 1, 0, none⟩), .pointer (some ⟨w.heap.size + 2 + 2, 0, none⟩)]) rfl trivial (enters_of Try.func118 (by kernel_rfl) rfl) hseq (fun b h => by omega) (Below.refl _ _) (by omega) (fun _ => rfl)
    (fun _ pre W => Boxed W (w.heap.size + 1) 3 (.int .i64 (pre.length : Nat)) ∧ Below w.heap.size w W) (fun _ _ _ => False)
    hI (fun _ _ _ _ _ h _ _ => h) (fun _ _ => ⟨HBX1.out, hbw1⟩)
    (fun y a' _ => a' = { tmps := #[.agg #[.int .i64 x.kind_, .string x.name_, .slice A x.args_.length c], .pointer (some ⟨w.heap.size, 0, none⟩), .int .i64 0, .pointer (some ⟨w.heap.size + 1, 0, none⟩), .agg #[.int .i64 x.kind_, .string x.name_, .slice A x.args_.length c], typesInV (w.heap.size + 2), .int .i64 (y.1 : Nat), .agg #[.int .i64 y.2.1.kind_, .string y.2.1.name_, .slice y.2.2.1 y.2.1.args_.length y.2.2.2], undef, undef, undef], defers := [] })
    (fun _ _ _ _ _ _ h _ _ => h) ?assign ?body ?done ?stop
  case assign =>
    intro l M pre y W K _ _ _ hI _ hK
    gi_wp2
    exact hK _ _ (KeepsFrom.refl _ _) (KeepsM.refl _ _ _) hI (by simp [TypeIt.enc])
  case body =>
    rintro l M pre y a' W hM hMl hsW ⟨hbx, hb⟩ rfl ⟨⟨rest, hrest⟩, _⟩
    have hlen : pre.length + 1 ≤ 4294967296 := by
      have := congrArg List.length hrest
      rw [TypeX.walk_size, List.length_append, List.length_map, List.length_append, List.length_singleton] at this
      omega
    have hc := hbx.cell
    have hf := hbx.frozen
    have HBX := Lib.hid hbx
    clear hrest hbx
    gi_wp2
    refine ⟨(KeepsOthers.setCell _ _ _).from _, KeepsM.setCell (by omega) (fun h => h.elim (fun h => by have := hM _ h; omega) (fun h => by omega)) _, ?_, hb.setCell (p := ⟨w.heap.size + 1, 0, none⟩) (by simp) _⟩
    rw [List.length_append, List.length_singleton]
    exact HBX.out.set _
  case done =>
    rintro D M xs W hD hS ⟨hbx, hb⟩ hK
    have hl : xs.length = x.size := by rw [← TypeX.walk_size 0 x, ← hS, List.length_map]
    rw [hl] at hbx
    have hc := hbx.cell
    have HL := Lib.hid hl
    clear hl hS hbx
    gi_wp2
    refine ⟨by simp, .inl ⟨_, _, rfl, run_takeDeferred hK, ?_⟩⟩
    exact ⟨_, results_tmp rfl _ _ _, rfl, hb.grown (grownBy_putObj' W D _) (by have := hb.size; omega) (fun k e => by cases e; omega)⟩
  case stop =>
    rintro D c pre W _ h _
    exact h.elim
end Go.Proofs.Ytoongnmkhjkbkaa

/- The program's TypeDepth. -/
import Derived.Test.YtoongnmkhjkbkaaZTypesIn
import Derived.Test.YtoongnmkhjkbkaaQ2
import Derived.Test.YtoongnmkhjkbkaaZTySizeI
import Derived.Test.YtoongnmkhjkbkaaZTyValid
namespace Go.Proofs.Ytoongnmkhjkbkaa
open Go.RowKit Go.Shelf Go.Lib
attribute [local go_sem] Oper.semAt_some

/-- The highest level. -/
def topLvl : List (Nat × TypeX) → Nat
  | [] => 0
  | p :: r => max p.1 (topLvl r)
theorem topLvl_app : ∀ (a b : List (Nat × TypeX)), topLvl (a ++ b) = max (topLvl a) (topLvl b)
  | [], b => by simp [topLvl]
  | p :: r, b => by rw [List.cons_append, topLvl, topLvl, topLvl_app r b]; omega
mutual
theorem TypeX.walk_depth (d : Nat) : ∀ x : TypeX, topLvl (x.walk d) = d + x.depth
  | .mk a b c => by
    rw [TypeX.walk, TypeX.depth, topLvl]
    have h := TypeX.walkL_depth d c
    omega
theorem TypeX.walkL_depth (d : Nat) : ∀ l : List TypeX, max d (topLvl (TypeX.walkL (d + 1) l)) = d + TypeX.depthL l
  | [] => by rw [TypeX.walkL, TypeX.depthL, topLvl]; omega
  | x :: r => by
    rw [TypeX.walkL, TypeX.depthL, topLvl_app, TypeX.walk_depth (d + 1) x]
    have h := TypeX.walkL_depth d r
    omega
end

set_option maxRecDepth 100000 in
set_option maxHeartbeats 4000000 in
theorem implTyDepthI (x : TypeX) (v : Value) (w : World) (hsz : x.size ≤ 4294967296) (hv : TypeAt w (Und w.heap.size) x v) :
    Calls Try.prog 56 #[v] w fun e w' => e = .returned (.int .i64 (x.depth : Nat)) ∧ Below w.heap.size w w' := by
  obtain ⟨A, c, rfl, hx⟩ := hv
  have hx1 := hx
  obtain ⟨w0, hw0⟩ : ∃ w0, ((w.alloc (.cells #[.int .i64 x.kind_, .string x.name_, .slice A x.args_.length c] 27)).alloc (.cells #[.int .i64 0] 3)) = w0 := ⟨_, rfl⟩
  have hb0 : Below w.heap.size w w0 := by rw [← hw0]; exact ((Below.refl _ _).alloc (Nat.le_refl _) _).alloc (by simp) _
  have hs0 : w0.heap.size = w.heap.size + 2 := by rw [← hw0]; simp
  have hseq := typesIn_seq x A c w.heap.size w0 (by omega) (hx.frame (fun _ h => h) fun b o hP => hb0.cell (p := ⟨b, o, none⟩) hP) (by rw [TypeX.walk_size]; exact hsz)
  have hbx1 : Boxed w0 (w.heap.size + 1) 3 (.int .i64 0) := by
    rw [← hw0]
    have h := Boxed.new (w.alloc (.cells #[.int .i64 x.kind_, .string x.name_, .slice A x.args_.length c] 27)) 3 (.int .i64 0)
    simp only [World.size_alloc] at h
    exact ((Below.refl (w.heap.size + 2) _).block _ (by omega)).trans h
  have HBX1 := Lib.hid hbx1
  have HSEQ := Lib.hid hseq
  have HW0 := Lib.hid hw0
  have HX := Lib.hid hx1
  clear hseq hw0 hx hx1 hbx1
  refine callsIn_wide.1 (callsIn_of_wp_marks (n := 4) Try.func56 rfl trivial ?_ rfl)
  simp only [Try.ntmps56, List.size_toArray, List.length_cons, List.length_nil, Nat.reduceAdd, Nat.reduceSub, Array.replicate_succ, Array.replicate_zero, List.push_toArray, List.append_toArray, List.nil_append, List.cons_append]
  gi_wp2_with fail
  refine ⟨trivial, ?_⟩
  refine (callsIn_wide.2 (implTypesIn _ _ _ _ _ _)).mono ?_
  rintro e w' ⟨rfl, rfl⟩
  rw [HW0.out]
  obtain ⟨w1, hw1⟩ : ∃ w1, w1 = typesInW w0 x.kind_ x.name_ A x.args_.length c := ⟨_, rfl⟩
  have hb1 : Below w0.heap.size w0 w1 := by rw [hw1]; exact typesInW_below _ _ _ _ _ _
  have hs1 : w1.heap.size = w0.heap.size + 3 := by rw [hw1]; exact typesInW_size _ _ _ _ _ _
  have hseq := HSEQ.out
  rw [← hw1] at hseq ⊢
  rw [hs0] at hseq
  have HSEQ1 := Lib.hid hseq
  have hbw1 : Below w.heap.size w w1 := hb0.trans (hb1.mono (by omega))
  have hby1 : Boxed w1 (w.heap.size + 1) 3 (.int .i64 0) := (hb1.block _ (by omega)).trans HBX1.out
  have HBY1 := Lib.hid hby1
  clear hseq hw1 hby1
  gi_wp2
  have hsz1 : w1.heap.size = w.heap.size + 5 := by omega
  have hI : OwnM w1.heap.size (fun (M : Nat → Prop) (pre : List TypeIt) (W : World) => Boxed W (w.heap.size + 1) 3 (.int .i64 (topLvl (pre.map TypeIt.key) : Nat)) ∧ Below w.heap.size w W) :=
    OwnM.and (ownM_boxed _ (fun pre : List TypeIt => .int .i64 (topLvl (pre.map TypeIt.key) : Nat)) (by omega)) (ownM_below (by omega) (Nat.le_refl _))
  refine wpIn_rangeFunc_ownM rfl (by decide) (gf := 118) (lb := #[.pointer (some ⟨w.heap.size + 2 + 1, 0, none⟩), .pointer (some ⟨w.heap.size + 2 + 2, 0, none⟩)]) rfl trivial (enters_of Try.func118 (by kernel_rfl) rfl) HSEQ1.out (fun b h => by omega) (Below.refl _ _) (by omega) (fun _ => rfl)
    (fun M pre W => Boxed W (w.heap.size + 1) 3 (.int .i64 (topLvl (pre.map TypeIt.key) : Nat)) ∧ Below w.heap.size w W) (fun _ _ _ => False)
    hI (fun _ _ _ _ _ h _ _ => h) (fun _ _ => ⟨HBY1.out, hbw1⟩)
    (fun y a' _ => a' = { tmps := #[.agg #[.int .i64 x.kind_, .string x.name_, .slice A x.args_.length c], .pointer (some ⟨w.heap.size, 0, none⟩), .int .i64 0, .pointer (some ⟨w.heap.size + 1, 0, none⟩), .int .i64 (y.1 : Nat), .agg #[.int .i64 x.kind_, .string x.name_, .slice A x.args_.length c], typesInV (w.heap.size + 2), .int .i64 (y.1 : Nat), .agg #[.int .i64 y.2.1.kind_, .string y.2.1.name_, .slice y.2.2.1 y.2.1.args_.length y.2.2.2], undef, undef, undef, undef], defers := [] })
    (fun _ _ _ _ _ _ h _ _ => h) ?assign ?body ?done ?stop
  case assign =>
    intro l M pre y W K hM hMl hsW hI' _ hK
    simp only [TypeIt.enc]
    gi_wp2
    exact hK _ _ (KeepsFrom.refl _ _) (KeepsM.refl _ _ _) hI' (by simp)
  case body =>
    rintro l M pre y a' W hM hMl hsW ⟨hbx, hb⟩ rfl ⟨⟨rest, hrest⟩, _⟩
    have htop : max (topLvl (pre.map TypeIt.key)) y.1 ≤ x.depth := by
      have h1 := TypeX.walk_depth 0 x
      rw [hrest, topLvl_app, List.map_append, topLvl_app] at h1
      simp only [List.map_cons, List.map_nil, topLvl, TypeIt.key] at h1
      omega
    have hds := TypeX.depth_size x
    obtain ⟨t, ht⟩ : ∃ t, t = topLvl (pre.map TypeIt.key) := ⟨_, rfl⟩
    rw [← ht] at hbx htop
    have hc := hbx.cell
    have hf := hbx.frozen
    have HBX := Lib.hid hbx
    have HT := Lib.hid ht
    clear hrest hbx ht
    gi_wp2
    all_goals
      refine ⟨(KeepsOthers.setCell _ _ _).from _, KeepsM.setCell (by omega) (fun h => h.elim (fun h => by have := hM _ h; omega) (fun h => by omega)) _, ?_, hb.setCell (p := ⟨w.heap.size + 1, 0, none⟩) (by simp) _⟩
      rw [List.map_append, topLvl_app]
      simp only [List.map_cons, List.map_nil, topLvl, TypeIt.key, Nat.max_zero]
      rw [← HT.out]
      exact boxed_set_int HBX.out (by omega)
  case done =>
    rintro D M xs W hD hS ⟨hbx, hb⟩ hK
    rw [hS, TypeX.walk_depth, Nat.zero_add] at hbx
    have hc := hbx.cell
    clear hS hbx
    gi_wp2
    refine ⟨by simp, .inl ⟨_, _, rfl, run_takeDeferred hK, ?_⟩⟩
    exact ⟨_, results_tmp rfl _ _ _, rfl, hb.grown (grownBy_putObj' W D _) (by have := hb.size; omega) (fun k e => by cases e; omega)⟩
  case stop =>
    rintro D c pre W _ h _
    exact h.elim
end Go.Proofs.Ytoongnmkhjkbkaa

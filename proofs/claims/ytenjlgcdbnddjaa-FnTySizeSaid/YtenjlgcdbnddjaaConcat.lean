/- The library's Grow of nothing and Concat of two lists of strings. -/
import Derived.Test.YtenjlgcdbnddjaaUniP
import Derived.Lib.Hide
import Derived.Outline
import Derived.Test.YtenjlgcdbnddjaaAppendAny
import Derived.Lib.AppendZeros
import Derived.Lib.AppendZerosOnto
import Derived.Lib.SliceRun
namespace Go.Proofs.Ytenjlgcdbnddjaa
open Go.RowKit Go.Lib

/-- What the strings of one row add to a row of the call's own. -/
theorem run_append_strs {w : World} (base : Nat) (V : Value) (d : List ByteArray) (hown : w.ownsRow base 9 1 V d.length (d.map Value.string)) (A : Option Addr) (c : Nat) (ss : List ByteArray) (hA : Strs w A ss)
    (hd : d.length ≤ 17179869184) (hs : ss.length ≤ 17179869184) (hbase : base ≤ w.heap.size) (ty : TypeId) :
    ∃ v' w', (Builtin.append_ #[30, 30] ty #[V, .slice A ss.length c]).run Try.prog w = .ok v' w' ∧ w'.ownsRow base 9 1 v' (d ++ ss).length ((d ++ ss).map Value.string) ∧ w.grownBy w' V.ownBlock := by
  obtain ⟨i0, hi, hz0, hz1, hz2⟩ := info_parts infoString
  by_cases h0 : ss = []
  · subst h0
    simp only [List.append_nil, List.length_nil]
    cases A with
    | none => exact ⟨V, w, run_append_nil base _ ty _ i0 1 Try.underlying30 hi V d.length c _ hown, hown, ⟨rfl, rfl, rfl, Nat.le_refl _, fun _ _ _ => rfl⟩⟩
    | some ad =>
      obtain ⟨v', w', hr, h2, h3, _, _⟩ := _root_.Go.run_append_own_at (P := Try.prog) (w := w) base _ ty _ i0 _ 1 16 Try.underlying30 hi hz0 hz1 hz2 rfl (by decide) V d.length _ hown ad 0 c [] (by simp) (by simp) (by simp) (by unfold maxLen; omega) (by omega) hbase
      exact ⟨v', w', hr, by simpa using h2, h3⟩
  · rcases hA with hA | ⟨g, o, rfl, hg, hc⟩
    · exact absurd hA h0
    · obtain ⟨v', w', hr, h2, h3, _, _⟩ := _root_.Go.run_append_own_at (P := Try.prog) (w := w) base _ ty _ i0 _ 1 16 Try.underlying30 hi hz0 hz1 hz2 rfl (by decide) V d.length _ hown ⟨g, o, none⟩ ss.length c (ss.map Value.string) (by simp)
        (fun j u hj => by
          rw [List.getElem?_map] at hj
          cases hs : ss[j]? with
          | none => rw [hs] at hj; cases hj
          | some s =>
            rw [hs] at hj
            simp at hj
            subst hj
            have := hc j s hs
            rw [Go.WideShapes.add_plain]
            exact this)
        (fun u hu => by
          rw [List.mem_map] at hu
          obtain ⟨s, _, rfl⟩ := hu
          rfl) (by unfold maxLen; omega) (by omega) hbase
      exact ⟨v', w', hr, by rw [List.length_append, List.map_append]; exact h2, h3⟩

set_option maxRecDepth 100000 in
set_option maxHeartbeats 1000000 in
/-- Room for n strings: an empty row of the call's own. -/
theorem slicesGrow (n : Nat) (w : World) (hn : n ≤ 17179869184) :
    Calls Try.prog 78 #[.slice none 0 0, .int .i64 n] w (RowOf [] w) := by
  by_cases h0 : n = 0
  · subst h0
    go_enter Try.func78, Try.ntmps78
    go_wp2
    go_ret
    exact ⟨_, rfl, World.ownsRow_nil _ _ _ _, Below.refl _ _⟩
  · obtain ⟨G, cs, hrun, hsz, hnG, hG⟩ : ∃ (G : Nat) (cs : Array Value), (∀ ty, (Builtin.append_ #[30, 3] ty #[.slice none 0 0, .int .i64 n]).run Try.prog w = .ok (.slice (some ⟨w.heap.size, 0, none⟩) n G) (w.drew.alloc (.cells cs 9))) ∧ cs.size = G ∧ n ≤ G ∧ G ≤ maxLen := by
      obtain ⟨i0, hi, hz0, hz1, hz2⟩ := info_parts infoString
      have hge := grownCap_ge w n 0 9
      refine ⟨grownCap w n 0 9, #[] ++ Builtin.zeroCells (Value.string ByteArray.empty).cells n ++ Builtin.zeroCells (Value.string ByteArray.empty).cells (grownCap w n 0 9 - n), fun ty => ?_, ?_, hge, grownCap_le_maxLen w n 0 _ (by unfold maxLen; omega)⟩
      · have h := run_append_grow_zeros (P := Try.prog) w 30 3 ty 9 i0 (.string ByteArray.empty) .i64 .i64 Try.underlying30 Try.underlying3 hi hz0 none 0 0 [] (run_firstCells_none w.drew i0.size 0 0 0) n (by omega) (by omega) (by omega) (by omega)
          (by rw [hz2]; omega) (by rw [Nat.zero_add]; exact growslice_fits (by omega) (by rw [hz2]; omega))
        simp only [Nat.zero_add] at h
        exact h
      · rw [Array.size_append, Array.size_append, size_zeroCells, size_zeroCells]
        simp [Value.cells]
        omega
    have hG63 : G ≤ 9223372036854775807 := by unfold maxLen at hG; omega
    have hown : (w.drew.alloc (.cells cs 9)).ownsRow w.heap.size 9 1 (.slice (some ⟨w.heap.size, 0, none⟩) 0 G) 0 [] := World.ownsRow_made w.drew cs G (Nat.le_refl _) hG (by omega)
    have hb : Below w.heap.size w (w.drew.alloc (.cells cs 9)) := ((Below.refl w.heap.size w).drew).alloc (Nat.le_refl _) _
    have HO := Lib.hid hown
    have HB := Lib.hid hb
    clear hown hb hsz
    go_enter Try.func78, Try.ntmps78
    go_wp2_with (at_builtin; refine Lib.wpList_append_run _ rfl _ _ _ _ rfl _ _ rfl rfl _ _ (hrun _) ?_)
    all_goals (
      go_ret
      exact ⟨_, rfl, HO.out, HB.out⟩)

set_option maxRecDepth 100000 in
set_option maxHeartbeats 2000000 in
/-- Two lists, one behind the other: a row of the call's own. -/
theorem slicesConcat (A B : Option Addr) (ca cb g : Nat) (a b : List ByteArray) (w : World) (hA : Strs w A a) (hB : Strs w B b) (hg : Whole w g 30 #[.slice A a.length ca, .slice B b.length cb]) (ha : a.length ≤ 4294967296) (hb : b.length ≤ 4294967296) :
    Calls Try.prog 67 #[.slice (some ⟨g, 0, none⟩) 2 2] w (RowOf (a ++ b) w) := by
  have c0 : w.cell? ⟨g, 0, none⟩ = some (.slice A a.length ca) := hg.cell 0
  have c1 : w.cell? ⟨g, 1, none⟩ = some (.slice B b.length cb) := hg.cell 1
  have HA := Lib.hid hA
  have HB := Lib.hid hB
  have HG := Lib.hid hg
  clear hA hB hg
  go_enter Try.func67, Try.ntmps67
  go_wp2
  refine wp_loop_rounds 3 ?_
  rw [rounds_succ]
  go_wp2
  rw [rounds_succ]
  go_wp2
  rw [rounds_succ]
  go_wp2_with fail
  have hgr := slicesGrow (a.length + b.length) w (by omega)
  rw [Int.natCast_add] at hgr
  refine hgr.mono ?_
  clear hgr
  rintro e w1 ⟨V, rfl, hown1, hb1⟩
  have hglt := HG.out.lt
  have c0' := (hb1.cell (p := ⟨g, 0, none⟩) hglt).trans c0
  clear c0
  obtain ⟨V1, w2, hr1, hown2, hg2⟩ := run_append_strs w.heap.size V [] hown1 A ca a (HA.out.below hb1) (by simp) (by omega) hb1.size 30
  have hb2 : Below w.heap.size w w2 := hb1.grown hg2 hb1.size (fun k hk => (hown1.lt k hk).1)
  rw [List.nil_append] at hown2
  have c1' := (hb2.cell (p := ⟨g, 1, none⟩) hglt).trans c1
  clear c1
  obtain ⟨V2, w3, hr2, hown3, hg3⟩ := run_append_strs w.heap.size V1 a hown2 B cb b (HB.out.below hb2) (by omega) (by omega) hb2.size 30
  have hb3 : Below w.heap.size w w3 := hb2.grown hg3 hb2.size (fun k hk => (hown2.lt k hk).1)
  have HO := Lib.hid hown3
  have HW := Lib.hid hb3
  clear hown1 hown2 hown3 hg2 hg3 hb1 hb2 hb3 HA HB HG
  go_wp2
  refine wp_loop_rounds 3 ?_
  rw [rounds_succ]
  go_wp2_with (at_builtin; refine Lib.wpList_append_run _ rfl _ _ _ _ rfl _ _ rfl rfl _ _ hr1 ?_)
  rw [rounds_succ]
  go_wp2_with (at_builtin; refine Lib.wpList_append_run _ rfl _ _ _ _ rfl _ _ rfl rfl _ _ hr2 ?_)
  rw [rounds_succ]
  go_wp2
  go_ret
  exact ⟨_, rfl, HO.out, HW.out⟩
end Go.Proofs.Ytenjlgcdbnddjaa

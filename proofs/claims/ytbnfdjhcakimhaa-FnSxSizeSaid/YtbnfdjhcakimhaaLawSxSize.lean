/- The law that size and depth of an S-expression are determined by its elements. -/
import Derived.Test.YtbnfdjhcakimhaaDraw2
import Derived.Test.YtbnfdjhcakimhaaMadeX
import Derived.Test.YtbnfdjhcakimhaaSizeImpl
import Derived.Test.YtbnfdjhcakimhaaDepthI
import Derived.Test.YtbnfdjhcakimhaaSxL
import Derived.Test.YtbnfdjhcakimhaaSpecDepth
import Derived.Test.YtbnfdjhcakimhaaSpecParse
import Derived.Lib.QuietBelow
import Derived.BigQuiet
import Derived.IntWalk
import Derived.Test.YtbnfdjhcakimhaaDraw2s
namespace Go.Proofs.Ytbnfdjhcakimhaa
open Go.RowKit Go.Lib

theorem nodesL_step : ∀ (l : List SX) (j : Nat) (h : j < l.length), SX.nodesL (l.take (j + 1)) = SX.nodesL (l.take j) + l[j].nodes
  | x :: r, 0, _ => by simp [SX.nodesL]
  | x :: r, j + 1, h => by
    have := nodesL_step r j (by simpa using h)
    rw [List.take_succ_cons, List.take_succ_cons, SX.nodesL, SX.nodesL, this]
    simp; omega
theorem nodesL_part : ∀ (l : List SX) (j : Nat), SX.nodesL (l.take j) ≤ SX.nodesL l
  | [], j => by simp
  | x :: r, 0 => by simp [SX.nodesL]
  | x :: r, j + 1 => by
    have := nodesL_part r j
    rw [List.take_succ_cons, SX.nodesL, SX.nodesL]; omega

/-- What a drawn expression gives to the walks, with capacities. -/
theorem made_row {n : Nat} {w w' : World} {e : Ending} (h : MadeX n w e w') (hn : n ≤ 1000) : ∃ (x : SX) (A : Option Addr) (c : Nat), e = .returned (.agg #[.string x.atom, .slice A x.list.length c]) ∧ SxRow w' (Und w'.heap.size) A c x.list ∧ x.nodes ≤ 1000 ∧ Below w.heap.size w w' := by
  obtain ⟨x, V, rfl, hrow, hnx, hs, hb⟩ := h
  obtain ⟨A, c, rfl⟩ := hrow.shape
  exact ⟨x, A, c, rfl, hrow.row.frame (fun b hP => hP.1.2) fun _ _ _ => rfl, by omega, hb⟩

set_option maxRecDepth 100000 in
set_option maxHeartbeats 4000000 in
theorem lawSxSize (A : Option Addr) (n c : Nat) (w : World) (hA : BytesAt w w.heap.size A n) (hn0 : n ≤ 9223372036854775807) :
    Calls Try.prog 5 #[.slice A n c] w fun e w' => e = .returned (.bool true) ∧ Below w.heap.size w w' := by
  have HA := Lib.hid hA
  clear hA
  by_cases hbig : 1048576 < n
  · go_enter Try.func5, Try.ntmps5
    go_wp2_with fail
    refine (bigYes A n c _ hbig).mono ?_
    rintro e w1 ⟨rfl, rfl⟩
    go_wp2
    go_ret
    exact ⟨rfl, Below.refl _ _⟩
  · have hn : n ≤ 140737488355328 := by omega
    go_enter Try.func5, Try.ntmps5
    go_wp2_with fail
    refine (bigNo A n c _ (by omega)).mono ?_
    rintro e w1 ⟨rfl, rfl⟩
    go_wp2_with fail
    refine (drawSize A n c _ HA.out hn).mono ?_
    intro e w1 hmade
    obtain ⟨x, A1, c1, rfl, hl1, hnx, hb1⟩ := made_row hmade (by decide)
    have hb2 : Below w1.heap.size w1 (w1.alloc (.cells #[.string x.atom, .slice A1 x.list.length c1] 26)) := (Below.refl _ _).alloc (Nat.le_refl _) _
    have hx2 := Whole.new w1 26 #[.string x.atom, .slice A1 x.list.length c1]
    have hl2 := hl1.grow hb2
    have hbb := hb1.trans (hb2.mono hb1.size)
    obtain ⟨X, hXe⟩ : ∃ X, X = w1.heap.size := ⟨_, rfl⟩
    rw [← hXe] at hx2
    have hlen := SX.nodesL_length x.list
    have hnod := SX.nodes_eq x
    have HX := Lib.hid hx2
    have HL := Lib.hid hl2
    have HB := Lib.hid hbb
    have HNE := Lib.hid hnod
    have hlen9 : x.list.length ≤ 1000 := by omega
    clear hmade hl1 hb1 hb2 hx2 hl2 hbb hnod
    go_wp2
    rw [← hXe]
    have HXE := Lib.hid hXe
    clear hXe
    obtain ⟨W, hW⟩ : ∃ W, W = w1.alloc (.cells #[.string x.atom, .slice A1 x.list.length c1] 26) := ⟨_, rfl⟩
    have HL2 := HL.out
    have HX2 := HX.out
    have HB2 := HB.out
    rw [← hW] at HL2 HX2 HB2
    rw [← hW]
    have HL := Lib.hid HL2
    have HX := Lib.hid HX2
    have HB := Lib.hid HB2
    clear HL2 HX2 HB2 hW
    go_loopw [4, 5, 6] (fun nv dv iv wr => ∃ (i : Nat), i ≤ x.list.length ∧ iv = .int .i64 i ∧ nv = .int .i64 (1 + SX.nodesL (x.list.take i) : Nat) ∧ dv = .int .i64 (SX.depthL (x.list.take i) : Nat) ∧ Below W.heap.size W wr) (fun _ _ iv _ => x.list.length - (Go.RowKit.intOf iv).toNat)
    case atStart => exact ⟨0, Nat.zero_le _, rfl, by simp [SX.nodesL], by simp [SX.depthL], Below.refl _ _⟩
    case round =>
      obtain ⟨i, hi, rfl, rfl, rfl, hb⟩ := hrel
      have hx := HX.out.below hb HX.out.lt
      have x0 : wr.cell? ⟨X, 0, none⟩ = some (.string x.atom) := by rw [hx.cell]; rfl
      have x1 : wr.cell? ⟨X, 1, none⟩ = some (.slice A1 x.list.length c1) := by rw [hx.cell]; rfl
      have hXl := hx.lt
      have hl := HL.out.grow hb
      obtain ⟨mm, hmm⟩ : ∃ mm, mm = 1 + SX.nodesL (x.list.take i) := ⟨_, rfl⟩
      obtain ⟨dd, hdd⟩ : ∃ dd, dd = SX.depthL (x.list.take i) := ⟨_, rfl⟩
      rw [← hmm, ← hdd]
      have hpart := nodesL_part x.list i
      have hdp := SX.depthL_le (x.list.take i)
      have hmb : mm ≤ 1000 := by have := HNE.out; omega
      have hdb : dd ≤ 1000 := by have := HNE.out; omega
      by_cases hlt : i < x.list.length
      · obtain ⟨b, o, A', c', rfl, hbl, y0, y1, hly⟩ := hl.at_ hlt
        have hi0 : (0 : Int) ≤ i := by omega
        have hst := nodesL_step x.list i hlt
        have hsd := SX.depthL_take x.list i hlt
        have hle := nodesL_part x.list (i + 1)
        have hym : x.list[i].nodes ≤ 1000 := by have := HNE.out; omega
        have hyd := SX.depth_le x.list[i]
        have HLY := Lib.hid hly
        have HMM := Lib.hid hmm
        have HDD := Lib.hid hdd
        have HST := Lib.hid hst
        have HSD := Lib.hid hsd
        have HBW := Lib.hid hb
        have HXW := Lib.hid hx
        clear hl hx hly hmm hdd hst hsd hb hpart hdp hle
        go_wp2_with fail
        refine (implSizeI x.list[i] _ _ (by omega) ⟨A', c', rfl, HLY.out⟩).mono ?_
        rintro e w2 ⟨rfl, hb2⟩
        have hx2 := HXW.out.below hb2 hXl
        have hl2 := HLY.out.grow hb2
        have z0 := (hb2.cell (p := ⟨b, o + i * 2, none⟩) hbl).trans y0
        have z1 := (hb2.cell (p := ⟨b, o + i * 2 + 1, none⟩) hbl).trans y1
        have hbb := HBW.out.trans (hb2.mono HBW.out.size)
        clear x0 x1
        have x0 : w2.cell? ⟨X, 0, none⟩ = some (.string x.atom) := by rw [hx2.cell]; rfl
        have x1 : w2.cell? ⟨X, 1, none⟩ = some (.slice (some ⟨b, o, none⟩) x.list.length c1) := by rw [hx2.cell]; rfl
        have HL2 := Lib.hid hl2
        have HB2 := Lib.hid hbb
        clear hx2 hl2 hbb hb2 y0 y1
        go_wp2_with fail
        refine (implDepthI x.list[i] _ _ (by omega) ⟨A', c', rfl, HL2.out⟩).mono ?_
        rintro e w3 ⟨rfl, hb3⟩
        have hbb := HB2.out.trans (hb3.mono HB2.out.size)
        clear x0 x1 z0 z1 hb3
        have HB3 := Lib.hid hbb
        clear hbb
        by_cases hgt : dd < x.list[i].depth
        all_goals
          go_wp2
          go_roundw
          case rel => exact ⟨i + 1, by omega, by go_num, int_of (by rw [HST.out, HMM.out]; omega), int_of (by rw [HSD.out, ← HDD.out]; omega), HB3.out⟩
          case measure => simp [Go.RowKit.intOf]; omega
      · have hil : i = x.list.length := by omega
        rw [hil, List.take_length] at hmm hdd
        have hme : mm = x.nodes := by rw [hmm, ← HNE.out]
        subst hme
        have hdq := SX.depth_eq x
        rw [← hdd] at hdq
        have cS : ∀ d os, Calls Try.prog 25 #[.agg #[.string x.atom, .slice A1 x.list.length c1]] (Go.Sort.grow (redrawn wr d) os) fun e w'' => e = .returned (.int .i64 x.nodes) ∧ ∃ p : Regrown, w'' = Go.Sort.grow (redrawn wr p.d) p.os := fun d os => Calls.regrown_of (implSizeI x _ _ (by omega) ⟨A1, c1, rfl, hl.grow (below_regrown wr d os)⟩)
        have cD : ∀ d os, Calls Try.prog 24 #[.agg #[.string x.atom, .slice A1 x.list.length c1]] (Go.Sort.grow (redrawn wr d) os) fun e w'' => e = .returned (.int .i64 x.depth) ∧ ∃ p : Regrown, w'' = Go.Sort.grow (redrawn wr p.d) p.os := fun d os => Calls.regrown_of (implDepthI x _ _ (by omega) ⟨A1, c1, rfl, hl.grow (below_regrown wr d os)⟩)
        have cE : ∀ d os, Calls Try.prog 27 #[.agg #[.string x.atom, .slice A1 x.list.length c1]] (Go.Sort.grow (redrawn wr d) os) fun e w'' => e = .returned (.int .i64 x.depth) ∧ ∃ p : Regrown, w'' = Go.Sort.grow (redrawn wr p.d) p.os := fun d os => Calls.regrown_of (depthX _ x A1 c1 _ (Nat.le_refl _) (by omega) (SxRow_list (hl.grow (below_regrown wr d os))))
        have kx0 := cell_regrown x0
        have kx1 := cell_regrown x1
        have hxd := SX.depth_le x
        have hwsub : IntKind.i64.wrap ((dd : Int) + 1) = (dd : Int) + 1 := IntWalk.i64_in _ (by omega)
        have hnot : ¬ ((i : Int) < x.list.length) := by omega
        have HBW := Lib.hid hb
        by_cases ha : x.atom.size = 0
        · have hne : x.atom.toList.isEmpty = true := by rw [Lib.toList_data, List.isEmpty_iff]; exact List.eq_nil_of_length_eq_zero (by simpa using ha)
          rw [if_pos ha] at hdq
          have hde : (((x.depth : Nat) : Int) == (dd : Int) + 1) = true := by rw [beq_iff_eq]; omega
          clear hl hx hmm hdd hil hdq hb
          go_wp2
          refine wp_region_quiet_below (by kernel_rfl) (by kernel_rfl) ?_
          repeat (quiet_step (first | exact cS _ _ | exact cD _ _ | exact cE _ _))
          refine wpQuiet_nil ?_
          intro _ hw'
          obtain ⟨⟨dq, osq⟩, hw''⟩ := hw'
          subst hw''
          have hbf := HBW.out.trans ((below_regrown wr dq osq).mono HBW.out.size)
          clear cS cD cE kx0 kx1
          go_wp2
          go_ret
          exact ⟨rfl, HB.out.trans (hbf.mono HB.out.size)⟩
        · have hne : x.atom.toList.isEmpty = false := by
            rw [Lib.toList_data]
            cases h : x.atom.data.toList with
            | nil => exact absurd (by have := congrArg List.length h; simpa using this) ha
            | cons a l => rfl
          clear hl hx hmm hdd hil hdq hb
          go_wp2
          refine wp_region_quiet_below (by kernel_rfl) (by kernel_rfl) ?_
          repeat (quiet_step (first | exact cS _ _ | exact cD _ _ | exact cE _ _))
          refine wpQuiet_nil ?_
          intro _ hw'
          obtain ⟨⟨dq, osq⟩, hw''⟩ := hw'
          subst hw''
          have hbf := HBW.out.trans ((below_regrown wr dq osq).mono HBW.out.size)
          clear cS cD cE kx0 kx1
          go_wp2
          go_ret
          exact ⟨rfl, HB.out.trans (hbf.mono HB.out.size)⟩
end Go.Proofs.Ytbnfdjhcakimhaa

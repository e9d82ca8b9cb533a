/- The program's SExprDepth: a loop over an iterator that leaves out what is below an atom. -/
import Derived.Test.YtbnfdjhcakimhaaZElemsInK
import Derived.Test.YtbnfdjhcakimhaaQ1
import Derived.Test.YtbnfdjhcakimhaaZLoopT
namespace Go.Proofs.Ytbnfdjhcakimhaa
open Go.RowKit Go.Shelf Go.Lib
attribute [local go_sem] Oper.semAt_some

/-- What a part tells: its level, and one more for a list. -/
def lvlS (p : Nat × SX) : Nat := p.1 + (if p.2.atom.size = 0 then 1 else 0)
def topS : List (Nat × SX) → Nat
  | [] => 0
  | p :: r => max (lvlS p) (topS r)
theorem topS_app : ∀ (a b : List (Nat × SX)), topS (a ++ b) = max (topS a) (topS b)
  | [], b => by simp [topS]
  | p :: r, b => by rw [List.cons_append, topS, topS, topS_app r b]; omega
mutual
theorem SX.walkK_depth (d : Nat) : ∀ x : SX, topS (x.walkK d) = d + x.depth
  | .mk a c => by
    have h := SX.walkKL_depth (d + 1) c
    rw [SX.walkK, SX.depth, topS]
    show max (d + (if a.size = 0 then 1 else 0)) _ = _
    by_cases ha : a.size = 0
    · rw [if_pos ha, if_pos ha, if_pos ha]; omega
    · rw [if_neg ha, if_neg ha, if_neg ha, topS]; omega
theorem SX.walkKL_depth (d : Nat) : ∀ l : List SX, max d (topS (SX.walkKL d l)) = d + SX.depthL l
  | [] => by rw [SX.walkKL, SX.depthL, topS]; omega
  | x :: r => by
    have h := SX.walkKL_depth d r
    rw [SX.walkKL, SX.depthL, topS_app, SX.walkK_depth d x]
    omega
end

set_option maxRecDepth 100000 in
set_option maxHeartbeats 4000000 in
theorem implDepthI (x : SX) (v : Value) (w : World) (hsz : x.nodes ≤ 4294967296) (hv : SxAt w (Und w.heap.size) x v) :
    Calls Try.prog 24 #[v] w fun e w' => e = .returned (.int .i64 (x.depth : Nat)) ∧ Below w.heap.size w w' := by
  obtain ⟨A, c, rfl, hx⟩ := hv
  obtain ⟨w0, hw0⟩ : ∃ w0, (w.alloc (.cells #[.string x.atom, .slice A x.list.length c] 26)).alloc (.cells #[.int .i64 0] 3) = w0 := ⟨_, rfl⟩
  have hb0 : Below w.heap.size w w0 := by rw [← hw0]; exact ((Below.refl _ _).alloc (Nat.le_refl _) _).alloc (by simp) _
  have hs0 : w0.heap.size = w.heap.size + 2 := by rw [← hw0]; simp
  have hseq := elemsInK_seq x A c w.heap.size w0 (by omega) (hx.frame (fun _ h => h) fun b o hP => hb0.cell (p := ⟨b, o, none⟩) hP) (Nat.le_trans (SX.walkK_le 0 x) hsz)
  have hbx0 : Boxed w0 (w.heap.size + 1) 3 (.int .i64 0) := by
    rw [← hw0]; have := Boxed.new (w.alloc (.cells #[.string x.atom, .slice A x.list.length c] 26)) 3 (.int .i64 0); rw [World.size_alloc] at this; exact this
  have HSEQ := Lib.hid hseq
  have HW0 := Lib.hid hw0
  have HBX := Lib.hid hbx0
  clear hseq hw0 hbx0
  refine callsIn_wide.1 (callsIn_of_wp_marks (n := 4) Try.func24 rfl trivial ?_ rfl)
  simp only [Try.ntmps24, List.size_toArray, List.length_cons, List.length_nil, Nat.reduceAdd, Nat.reduceSub, Array.replicate_succ, Array.replicate_zero, List.push_toArray, List.append_toArray, List.nil_append, List.cons_append]
  gi_wp2_with fail
  refine ⟨trivial, ?_⟩
  refine (callsIn_wide.2 (implPreorderX _ _ _ _ _ _)).mono ?_
  rintro e w' ⟨rfl, rfl⟩
  rw [HW0.out]
  obtain ⟨w1, hw1⟩ : ∃ w1, w1 = elemsInW w0 55 x.atom A x.list.length c := ⟨_, rfl⟩
  have hb1 : Below w0.heap.size w0 w1 := by rw [hw1]; exact elemsInW_below _ _ _ _ _ _
  have hs1 : w1.heap.size = w0.heap.size + 2 := by rw [hw1]; exact elemsInW_size _ _ _ _ _ _
  have hseq := HSEQ.out
  rw [← hw1] at hseq ⊢
  have HSEQ := Lib.hid hseq
  have hbx1 : Boxed w1 (w.heap.size + 1) 3 (.int .i64 0) := (hb1.block _ (by omega)).trans HBX.out
  have HBX1 := Lib.hid hbx1
  have hbw1 : Below w.heap.size w w1 := hb0.trans (hb1.mono (by omega))
  clear hseq hw1 hbx1
  gi_wp2
  have hseq := HSEQ.out
  rw [hs0] at hseq
  have hsz1 : w1.heap.size = w.heap.size + 4 := by omega
  have hI : OwnM w1.heap.size (fun (_ : Nat → Prop) (pre : List SxIt) W => Boxed W (w.heap.size + 1) 3 (.int .i64 (topS (pre.map SxIt.key) : Nat)) ∧ Below w.heap.size w W) :=
    OwnM.and (ownM_boxed _ (fun pre : List SxIt => .int .i64 (topS (pre.map SxIt.key) : Nat)) (by omega)) (ownM_below (by omega) (Nat.le_refl _))
  refine wpIn_rangeFunc_ownM rfl (by decide) (gf := 74) (lb := #[.pointer (some ⟨w.heap.size + 2, 0, none⟩), .pointer (some ⟨w.heap.size + 2 + 1, 0, none⟩)]) rfl trivial (enters_of Try.func74 (by kernel_rfl) rfl) hseq (fun b h => by omega) (Below.refl _ _) (by omega) (fun _ => rfl)
    (fun _ pre W => Boxed W (w.heap.size + 1) 3 (.int .i64 (topS (pre.map SxIt.key) : Nat)) ∧ Below w.heap.size w W) (fun _ _ _ => False)
    hI (fun _ _ _ _ _ h _ _ => h) (fun _ _ => ⟨HBX1.out, hbw1⟩)
    (fun y a' W => ∃ Bp, w1.heap.size ≤ Bp ∧ Whole W Bp 26 #[.string y.2.1.atom, .slice y.2.2.1 y.2.1.list.length y.2.2.2] ∧ a' = { tmps := #[.agg #[.string x.atom, .slice A x.list.length c], .pointer (some ⟨w.heap.size, 0, none⟩), .int .i64 0, .pointer (some ⟨w.heap.size + 1, 0, none⟩), .int .i64 (y.1 : Nat), .pointer (some ⟨Bp, 0, none⟩), .agg #[.string x.atom, .slice A x.list.length c], elemsInV (w.heap.size + 2), .int .i64 (y.1 : Nat), .agg #[.string y.2.1.atom, .slice y.2.2.1 y.2.1.list.length y.2.2.2], undef, undef, undef, undef, undef, undef, undef, undef, undef], defers := [] })
    (fun y a' _ _ _ _ ⟨Bp, h1, h2, h3⟩ hg hr => ⟨Bp, h1, whole_kept h2 hg (fun r e => (hr r e).2), h3⟩) ?assign ?body ?done ?stop
  case assign =>
    intro l M pre y W K hM hMl hsW hI' _ hK
    simp only [SxIt.enc]
    gi_wp2
    exact hK _ _ ((KeepsOthers.alloc _ _).from _) (KeepsM.alloc (by omega) hMl _) (hI.alloc_ hI' hM) ⟨W.heap.size, by omega, Whole.new W _ _, by simp⟩
  case body =>
    rintro l M pre y a' W hM hMl hsW ⟨hbx, hb⟩ ⟨Bp, hBp, hwp, rfl⟩ ⟨⟨rest, hrest⟩, _⟩
    have htop : max (topS (pre.map SxIt.key)) (lvlS y.key) ≤ x.depth := by
      have h1 := SX.walkK_depth 0 x
      rw [hrest, topS_app, List.map_append, topS_app] at h1
      simp only [List.map_cons, List.map_nil, topS] at h1
      omega
    have hds := SX.depth_le x
    have hcn : topS ((pre ++ [y]).map SxIt.key) = max (topS (pre.map SxIt.key)) (lvlS y.key) := by
      rw [List.map_append, topS_app, List.map_cons, List.map_nil, topS, topS, Nat.max_zero]
    have hlv : lvlS y.key = y.1 + (if y.2.1.atom.size = 0 then 1 else 0) := rfl
    obtain ⟨t, ht⟩ : ∃ t, t = topS (pre.map SxIt.key) := ⟨_, rfl⟩
    rw [← ht] at hbx htop hcn
    have hc := hbx.cell
    have hf := hbx.frozen
    have hwl := hwp.lt
    have q0 : W.cell? ⟨Bp, 0, none⟩ = some (.string y.2.1.atom) := by rw [hwp.cell]; rfl
    have HBX := Lib.hid hbx
    have HCN := Lib.hid hcn
    clear hrest ht hcn hbx hwp
    by_cases ha : y.2.1.atom.size = 0
    · have hE := ByteArray.size_eq_zero_iff.1 ha
      rw [if_pos ha] at hlv
      rw [hlv] at htop
      have q1 : W.cell? ⟨Bp, 0, none⟩ = some (.string ByteArray.empty) := by rw [q0, hE]
      have HLV := Lib.hid hlv
      have htl : t ≤ 4294967296 := by omega
      have hyl : y.1 + 1 ≤ 4294967296 := by omega
      clear q0 hlv hE ha htop hds
      gi_wp2
      all_goals
        refine ⟨(KeepsOthers.setCell _ _ _).from _, KeepsM.setCell (by omega) (fun h => h.elim (fun h => by have := hM _ h; omega) (fun h => by omega)) _, ?_, hb.setCell (p := ⟨w.heap.size + 1, 0, none⟩) (by simp) _⟩
        rw [HCN.out, HLV.out]
        exact boxed_set_int HBX.out (by omega)
    · have hne : y.2.1.atom.toList.isEmpty = false := by
        rw [ByteArray.toList_eq, List.isEmpty_eq_false_iff]; intro e; apply ha; have := congrArg List.length e; simpa using this
      rw [if_neg ha, Nat.add_zero] at hlv
      rw [hlv] at htop
      have HLV := Lib.hid hlv
      have htl : t ≤ 4294967296 := by omega
      have hyl : y.1 + 1 ≤ 8589934592 := by omega
      clear hlv ha htop hds
      gi_wp2
      all_goals
        refine ⟨(KeepsOthers.setCell _ _ _).from _, KeepsM.setCell (by omega) (fun h => h.elim (fun h => by have := hM _ h; omega) (fun h => by omega)) _, ?_, hb.setCell (p := ⟨w.heap.size + 1, 0, none⟩) (by simp) _⟩
        rw [HCN.out, HLV.out]
        exact boxed_set_int HBX.out (by omega)
  case done =>
    rintro D M xs W hD hS ⟨hbx, hb⟩ hK
    rw [hS, SX.walkK_depth, Nat.zero_add] at hbx
    have hc := hbx.cell
    clear hS hbx
    gi_wp2
    refine ⟨by simp, .inl ⟨_, _, rfl, run_takeDeferred hK, ?_⟩⟩
    exact ⟨_, results_tmp rfl _ _ _, rfl, hb.grown (grownBy_putObj' W D _) (by have := hb.size; omega) (fun k e => by cases e; omega)⟩
  case stop =>
    rintro D c pre W _ h _
    exact h.elim
end Go.Proofs.Ytbnfdjhcakimhaa

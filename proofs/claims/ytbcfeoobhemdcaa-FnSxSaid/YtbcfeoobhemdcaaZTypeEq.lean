/- The laws' comparison of two Type that read alike. -/
import Derived.Test.YtbcfeoobhemdcaaZTypeD
import Derived.Test.YtbcfeoobhemdcaaProg
import Derived.Outline
import Derived.Lib.QuietBelow
import Derived.BigQuiet
namespace Go.Proofs.Ytbcfeoobhemdcaa
open Go.RowKit Go.Lib

theorem TypeX.nodes_sum (x : TypeX) : DV.nodesL x.cells = DV.nodesE (TypeX.rows x.args_) := by
  rw [TypeX.cells_eq]
  simp only [DV.nodesL, DV.nodes]
  omega
def EqType (N : Nat) : Prop := ∀ (x : TypeX) (v v' : Value) (w : World), DV.nodesL x.cells ≤ N → TypeAt w (Und w.heap.size) x v → TypeAt w (Und w.heap.size) x v' →
  Calls Try.prog 49 #[v, v'] w fun e w' => e = .returned (.bool true) ∧ Below w.heap.size w w'
def EqTypeS (N : Nat) : Prop := ∀ (l : List TypeX) (A B : Option Addr) (c d : Nat) (w : World), DV.nodesE (TypeX.rows l) ≤ N → TypeRow w (Und w.heap.size) A c l → TypeRow w (Und w.heap.size) B d l →
  Calls Try.prog 99 #[.slice A l.length c, .slice B l.length d] w fun e w' => e = .returned (.bool true) ∧ Below w.heap.size w w'

set_option maxRecDepth 100000 in
set_option maxHeartbeats 2000000 in
theorem eqType_step (N : Nat) (ihTypeS : EqTypeS N) : EqType N := by
  intro x v v' w hn hv hv'
  obtain ⟨A2, c2, rfl, h2⟩ := hv
  obtain ⟨B2, d2, rfl, g2⟩ := hv'
  have hb0 : Below w.heap.size w ((w.alloc (.cells #[.int .i64 x.kind_, .string x.name_, .slice A2 x.args_.length c2] 35)).alloc (.cells #[.int .i64 x.kind_, .string x.name_, .slice B2 x.args_.length d2] 35)) := ((Below.refl _ _).alloc (Nat.le_refl _) _).alloc (by simp) _
  have H2 := Lib.hid (h2.grow hb0)
  have G2 := Lib.hid (g2.grow hb0)
  have HN := Lib.hid hn
  have HNE := Lib.hid (TypeX.nodes_sum x)
  clear h2 g2 hn
  go_enter Try.func49, Try.ntmps49
  go_wp2_with fail
  refine (ihTypeS x.args_ _ _ _ _ _ (by have := HN.out; have := HNE.out; omega) H2.out G2.out).mono ?_
  rintro e w1 ⟨rfl, b1⟩
  have hb1 : Below w.heap.size w w1 := hb0.trans (b1.mono hb0.size)
  go_wp2
  go_ret
  exact ⟨rfl, hb1⟩

set_option maxRecDepth 100000 in
set_option maxHeartbeats 2000000 in
theorem eqTypeS_step (N : Nat) (ih : EqType N) : EqTypeS (N + 1) := by
  intro l A B c d w hn hA hB
  have hlen := hA.cap
  have HA := Lib.hid hA
  have HB := Lib.hid hB
  have HN := Lib.hid hn
  clear hA hB hn
  go_enter Try.func99, Try.ntmps99
  go_wp2
  go_loopw [5] (fun iv wr => ∃ k : Nat, k ≤ l.length ∧ iv = .int .i64 k ∧ Below w.heap.size w wr) (fun iv _ => l.length - (Go.RowKit.intOf iv).toNat)
  case atStart => exact ⟨0, Nat.zero_le _, rfl, Below.refl _ _⟩
  case round =>
    obtain ⟨k, hk, rfl, hb⟩ := hrel
    by_cases hlt : k < l.length
    · obtain ⟨b, o, A2, c2, hA, hP, p0, p1, p2, h2⟩ := (HA.out.grow hb).at_ hlt
      subst hA
      obtain ⟨b2, o2, B2, d2, hB, hP2, r0, r1, r2, g2⟩ := (HB.out.grow hb).at_ hlt
      subst hB
      have hnx := nodesVE_at (TypeX.rows l) k (by rw [TypeX.rows_length]; exact hlt)
      rw [TypeX.rows_at l k hlt] at hnx
      have hn' : DV.nodesL l[k].cells ≤ N := by have := HN.out; omega
      have cE : ∀ dr os, Calls Try.prog 49 #[.agg #[.int .i64 l[k].kind_, .string l[k].name_, .slice A2 l[k].args_.length c2], .agg #[.int .i64 l[k].kind_, .string l[k].name_, .slice B2 l[k].args_.length d2]] (Go.Sort.grow (redrawn wr dr) os) fun e w'' => e = .returned (.bool true) ∧ ∃ p : Regrown, w'' = Go.Sort.grow (redrawn wr p.d) p.os :=
        fun dr os => Calls.regrown_of (ih l[k] _ _ _ hn' ⟨_, _, rfl, h2.grow (below_regrown wr dr os)⟩ ⟨_, _, rfl, g2.grow (below_regrown wr dr os)⟩)
      have kp0 := cell_regrown p0
      have kr0 := cell_regrown r0
      have kp1 := cell_regrown p1
      have kr1 := cell_regrown r1
      have kp2 := cell_regrown p2
      have kr2 := cell_regrown r2
      have hk0 : (0 : Int) ≤ k := by omega
      clear h2 g2 hnx hn'
      go_wp2
      refine wp_region_quiet_below (by kernel_rfl) (by kernel_rfl) ?_
      repeat (quiet_step (exact cE _ _))
      refine wpQuiet_nil ?_
      intro _ hw'
      obtain ⟨⟨dq, osq⟩, hw''⟩ := hw'
      subst hw''
      have hb3 := hb.trans ((below_regrown wr dq osq).mono hb.size)
      clear cE kp0 kr0 kp1 kr1 kp2 kr2
      go_wp2
      go_roundw
      case rel => exact ⟨k + 1, by omega, by go_num, hb3⟩
      case measure => simp [Go.RowKit.intOf]; omega
    · go_wp2
      go_ret
      exact ⟨rfl, hb⟩

theorem eqRows_Type : ∀ N, EqTypeS N
  | 0 => by
    intro l A B c d w hn _ _
    have hc := nodesVE_count (TypeX.rows l)
    rw [TypeX.rows_length] at hc
    have hl : l = [] := List.eq_nil_of_length_eq_zero (by omega)
    subst hl
    go_enter Try.func99, Try.ntmps99
    go_wp2
    refine wp_loop_rounds 1 ?_
    rw [rounds_succ]
    go_wp2
    go_ret
    exact ⟨rfl, Below.refl _ _⟩
  | N + 1 => eqTypeS_step N (eqType_step N (eqRows_Type N))
theorem eqType (x : TypeX) (v v' : Value) (w : World) (hv : TypeAt w (Und w.heap.size) x v) (hv' : TypeAt w (Und w.heap.size) x v') :
    Calls Try.prog 49 #[v, v'] w fun e w' => e = .returned (.bool true) ∧ Below w.heap.size w w' := (eqType_step (DV.nodesL x.cells) (eqRows_Type (DV.nodesL x.cells))) x v v' w (Nat.le_refl _) hv hv'
theorem eqTypeS (l : List TypeX) (A B : Option Addr) (c d : Nat) (w : World) (hv : TypeRow w (Und w.heap.size) A c l) (hv' : TypeRow w (Und w.heap.size) B d l) :
    Calls Try.prog 99 #[.slice A l.length c, .slice B l.length d] w fun e w' => e = .returned (.bool true) ∧ Below w.heap.size w w' := (eqRows_Type (DV.nodesE (TypeX.rows l))) l A B c d w (Nat.le_refl _) hv hv'
end Go.Proofs.Ytbcfeoobhemdcaa

/- The laws' comparison of two S-expressions that read alike. -/
import Derived.Test.YtbcfeoobhemdcaaZSx
import Derived.Test.YtbcfeoobhemdcaaProg
import Derived.Lib.QuietBelow
import Derived.BigQuiet
import Derived.Outline
namespace Go.Proofs.Ytbcfeoobhemdcaa
open Go.RowKit

def EqX (N : Nat) : Prop := ∀ (x : SX) (A B : Option Addr) (c d : Nat) (w : World), x.nodes ≤ N → x.wt ≤ 1048576 → ListAt w (Lt w.heap.size) A x.list → ListAt w (Lt w.heap.size) B x.list →
  Calls Try.prog 39 #[.agg #[.string x.atom, .slice A x.list.length c], .agg #[.string x.atom, .slice B x.list.length d]] w fun e w' => e = .returned (.bool true) ∧ Below w.heap.size w w'
def EqL (N : Nat) : Prop := ∀ (l : List SX) (A B : Option Addr) (c d : Nat) (w : World), SX.nodesL l ≤ N → SX.wtL l ≤ 1048576 → ListAt w (Lt w.heap.size) A l → ListAt w (Lt w.heap.size) B l →
  Calls Try.prog 87 #[.slice A l.length c, .slice B l.length d] w fun e w' => e = .returned (.bool true) ∧ Below w.heap.size w w'

set_option maxRecDepth 100000 in
set_option maxHeartbeats 1000000 in
theorem eqX_step (N : Nat) (ih : EqL N) : EqX (N + 1) := by
  intro x A B c d w hn hw hA hB
  have hn' : SX.nodesL x.list ≤ N := by rw [SX.nodes_eq] at hn; omega
  have hw' : SX.wtL x.list ≤ 1048576 := by rw [SX.wt_eq] at hw; omega
  have hb2 : Below w.heap.size w ((w.alloc (.cells #[.string x.atom, .slice A x.list.length c] 26)).alloc (.cells #[.string x.atom, .slice B x.list.length d] 26)) :=
    ((Below.refl _ _).alloc (Nat.le_refl _) _).alloc (by simp) _
  have HA := Lib.hid (hA.grow hb2)
  have HB := Lib.hid (hB.grow hb2)
  clear hn hw hA hB
  go_enter Try.func39, Try.ntmps39
  go_wp2_with fail
  refine (ih x.list A B c d _ hn' hw' HA.out HB.out).mono ?_
  rintro e w1 ⟨rfl, hb1⟩
  have hb : Below w.heap.size w w1 := hb2.trans (hb1.mono hb2.size)
  go_wp2
  go_ret
  exact ⟨rfl, hb⟩

set_option maxRecDepth 100000 in
set_option maxHeartbeats 1000000 in
theorem eqL_step (N : Nat) (ih : EqX N) : EqL N := by
  intro l A B c d w hn hw hA hB
  have hlen := SX.wtL_length l
  have HA := Lib.hid hA
  have HB := Lib.hid hB
  have HN := Lib.hid hn
  have HW := Lib.hid hw
  clear hn hA hB
  go_enter Try.func87, Try.ntmps87
  go_wp2
  go_loopw [5] (fun iv wr => ∃ k : Nat, k ≤ l.length ∧ iv = .int .i64 k ∧ Below w.heap.size w wr) (fun iv _ => l.length - (Go.RowKit.intOf iv).toNat)
  case atStart => exact ⟨0, Nat.zero_le _, rfl, Below.refl _ _⟩
  case round =>
    obtain ⟨k, hk, rfl, hb⟩ := hrel
    by_cases hlt : k < l.length
    · obtain ⟨b, o, A', c', rfl, hP, hc0, hc1, hl'⟩ := (HA.out.below hb).at_ hlt
      obtain ⟨b2, o2, B', d', rfl, hP2, hd0, hd1, hm'⟩ := (HB.out.below hb).at_ hlt
      have hx := hl'.frame (Q := Lt wr.heap.size) (fun _ h => Nat.lt_of_lt_of_le h hb.size) (fun _ _ _ => rfl)
      have hy := hm'.frame (Q := Lt wr.heap.size) (fun _ h => Nat.lt_of_lt_of_le h hb.size) (fun _ _ _ => rfl)
      have hnx := Nat.le_trans (SX.nodesL_at l k hlt) HN.out
      have hwx : l[k].wt ≤ 1048576 := by have := SX.wtL_at l k hlt; omega
      have cE : ∀ dr os, Calls Try.prog 39 #[.agg #[.string l[k].atom, .slice A' l[k].list.length c'], .agg #[.string l[k].atom, .slice B' l[k].list.length d']] (Go.Sort.grow (redrawn wr dr) os) fun e w'' => e = .returned (.bool true) ∧ ∃ p : Regrown, w'' = Go.Sort.grow (redrawn wr p.d) p.os :=
        fun dr os => Calls.regrown_of (ih l[k] A' B' c' d' _ hnx hwx (hx.grow (below_regrown wr dr os)) (hy.grow (below_regrown wr dr os)))
      have k0 := cell_regrown hc0
      have k1 := cell_regrown hc1
      have k2 := cell_regrown hd0
      have k3 := cell_regrown hd1
      have hk0 : (0 : Int) ≤ k := by omega
      clear hx hy hl' hm' hnx
      go_wp2
      refine wp_region_quiet_below (by kernel_rfl) (by kernel_rfl) ?_
      repeat (quiet_step (exact cE _ _))
      refine wpQuiet_nil ?_
      intro _ hw'
      obtain ⟨⟨dq, osq⟩, hw''⟩ := hw'
      subst hw''
      have hb3 := hb.trans ((below_regrown wr dq osq).mono hb.size)
      clear cE k0 k1 k2 k3
      go_wp2
      go_roundw
      case rel => exact ⟨k + 1, by omega, by go_num, hb3⟩
      case measure => simp [Go.RowKit.intOf]; omega
    · go_wp2
      go_ret
      exact ⟨rfl, hb⟩

theorem eqAll : ∀ N, EqX N ∧ EqL N
  | 0 => by
    have hx : EqX 0 := fun x A B c d w hn => by rw [SX.nodes_eq] at hn; omega
    exact ⟨hx, eqL_step 0 hx⟩
  | N + 1 => ⟨eqX_step N (eqAll N).2, eqL_step (N + 1) (eqX_step N (eqAll N).2)⟩
theorem eqX (x : SX) (A B : Option Addr) (c d : Nat) (w : World) (hw : x.wt ≤ 1048576) (hA : ListAt w (Lt w.heap.size) A x.list) (hB : ListAt w (Lt w.heap.size) B x.list) :
    Calls Try.prog 39 #[.agg #[.string x.atom, .slice A x.list.length c], .agg #[.string x.atom, .slice B x.list.length d]] w fun e w' => e = .returned (.bool true) ∧ Below w.heap.size w w' :=
  (eqAll x.nodes).1 x A B c d w (Nat.le_refl _) hw hA hB
end Go.Proofs.Ytbcfeoobhemdcaa

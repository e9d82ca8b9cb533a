/- The laws' guard over Type: what is left of a measure. -/
import Derived.Test.YtbcfeoobhemdcaaZTypeD
import Derived.Test.YtbcfeoobhemdcaaProg
import Derived.Outline
namespace Go.Proofs.Ytbcfeoobhemdcaa
open Go.RowKit Go.Lib

theorem TypeX.wt_eq (x : TypeX) : DV.wtL x.cells = x.name_.size + DV.wtE (TypeX.rows x.args_) := by
  rw [TypeX.cells_eq]
  simp only [DV.wtL, DV.wt, uwt]
  omega
theorem TypeX.nodes_eq (x : TypeX) : DV.nodesL x.cells = DV.nodesE (TypeX.rows x.args_) := by
  rw [TypeX.cells_eq]
  simp only [DV.nodesL, DV.nodes]
  omega
def SzType (N : Nat) : Prop := ∀ (x : TypeX) (v : Value) (L : Nat) (w : World), DV.nodesL x.cells ≤ N → DV.okL x.cells → TypeAt w (Und w.heap.size) x v → L ≤ 1048576 →
  Calls Try.prog 45 #[v, .int .i64 L] w fun e w' => (e = .returned (.int .i64 (leftV L (DV.wtL x.cells))) ∧ Below w.heap.size w w')
def SzTypeS (N : Nat) : Prop := ∀ (l : List TypeX) (A : Option Addr) (c L : Nat) (w : World), DV.nodesE (TypeX.rows l) ≤ N → DV.okE (TypeX.rows l) → l.length ≤ 9223372036854775807 → TypeRow w (Und w.heap.size) A c l → L ≤ 1048576 →
  Calls Try.prog 93 #[.slice A l.length c, .int .i64 L] w fun e w' => (e = .returned (.int .i64 (leftV L (DV.wtE (TypeX.rows l)))) ∧ Below w.heap.size w w')

set_option maxRecDepth 100000 in
set_option maxHeartbeats 2000000 in
theorem szType_step (N : Nat) (ihTypeS : SzTypeS N) : SzType N := by
  intro x v L w hn hok hv hL
  obtain ⟨A2, c2, rfl, h2⟩ := hv
  have hne := TypeX.nodes_eq x
  have hok2 := hok
  rw [TypeX.cells_eq] at hok2
  simp only [DV.okL, DV.ok, uok] at hok2
  obtain ⟨o0, o1, o2, -⟩ := hok2
  have hw := TypeX.wt_eq x
  have hb0 : Below w.heap.size w (w.alloc (.cells #[.int .i64 x.kind_, .string x.name_, .slice A2 x.args_.length c2] 56)) := (Below.refl _ _).alloc (Nat.le_refl _) _
  have H2 := Lib.hid (h2.grow hb0)
  have O2 := Lib.hid o2
  have HN := Lib.hid hn
  have HNE := Lib.hid hne
  have HW := Lib.hid hw
  clear hok hw h2 o2 hn hne
  by_cases s1 : x.name_.size ≤ L
  rotate_left
  · have n1 : ((L : Nat) : Int) - ((x.name_.size : Nat) : Int) < 0 := by omega
    go_enter Try.func45, Try.ntmps45
    go_wp2
    go_ret
    exact ⟨ret_int (leftV_no (by have := HW.out; omega)).symm, hb0⟩
  have n1 : ¬ ((L : Nat) : Int) - ((x.name_.size : Nat) : Int) < 0 := by omega
  obtain ⟨q2, e2⟩ : ∃ q : Nat, ((L : Nat) : Int) - ((x.name_.size : Nat) : Int) = ((q : Nat) : Int) := ⟨L - x.name_.size, by omega⟩
  have f2 : q2 + (x.name_.size) = L := by omega
  have E2 := Lib.hid e2
  clear e2
  go_enter Try.func45, Try.ntmps45
  go_wp2_with fail
  rw [E2.out]
  refine (ihTypeS x.args_ _ _ q2 _ (by have := HN.out; have := HNE.out; omega) O2.out.2 (by have := O2.out.1; rw [TypeX.rows_length] at this; exact this) H2.out (by omega)).mono ?_
  rintro e w2 ⟨rfl, b2⟩
  have hb2 : Below w.heap.size w w2 := hb0.trans (b2.mono hb0.size)
  by_cases s2 : DV.wtE (TypeX.rows x.args_) ≤ q2
  rotate_left
  · rw [leftV_no (by omega)]
    go_wp2
    go_ret
    exact ⟨ret_int (leftV_no (by have := HW.out; omega)).symm, hb2⟩
  rw [leftV_yes s2]
  have n2 : ¬ ((q2 : Nat) : Int) - ((DV.wtE (TypeX.rows x.args_) : Nat) : Int) < 0 := by omega
  go_wp2
  go_ret
  exact ⟨ret_int (by have := HW.out; rw [leftV_yes (by omega)]; omega), hb2⟩

set_option maxRecDepth 100000 in
set_option maxHeartbeats 2000000 in
theorem szTypeS_step (N : Nat) (ih : SzType N) : SzTypeS (N + 1) := by
  intro l A c L w hn hok hlen hl hL
  have HL := Lib.hid hl
  have HO := Lib.hid hok
  have hwl := wtVE_length (TypeX.rows l)
  rw [TypeX.rows_length] at hwl
  have HN := Lib.hid hn
  clear hl hok hn
  by_cases hfst : L < l.length
  · have hnn : (L : Int) - l.length < 0 := by omega
    have h3 : L < DV.wtE (TypeX.rows l) := by omega
    go_enter Try.func93, Try.ntmps93
    go_wp2
    go_ret
    exact ⟨ret_int (leftV_no h3).symm, Below.refl _ _⟩
  · have hnn : ¬ (L : Int) - l.length < 0 := by omega
    go_enter Try.func93, Try.ntmps93
    go_wp2
    go_loopw [1, 5] (fun qv iv wr => ∃ k q : Nat, k ≤ l.length ∧ iv = .int .i64 k ∧ qv = .int .i64 q ∧ q + l.length + DV.wtE ((TypeX.rows l).take k) = L + k ∧ Below w.heap.size w wr) (fun _ iv _ => l.length - (Go.RowKit.intOf iv).toNat)
    case atStart => exact ⟨0, L - l.length, Nat.zero_le _, rfl, int_of (by omega), by simp [DV.wtE]; omega, Below.refl _ _⟩
    case round =>
      obtain ⟨k, q, hk, rfl, rfl, hq, hb⟩ := hrel
      by_cases hlt : k < l.length
      · obtain ⟨b, o, A2, c2, hA, hP, q0, q1, q2, k2⟩ := (HL.out.grow hb).at_ hlt
        subst hA
        have hst := wtVE_take (TypeX.rows l) k (by rw [TypeX.rows_length]; exact hlt)
        rw [TypeX.rows_at l k hlt] at hst
        have hre := wtVE_rest (TypeX.rows l) (k + 1) (by rw [TypeX.rows_length]; exact hlt)
        rw [TypeX.rows_length] at hre
        have hqL : q ≤ 1048576 := by have := wtVE_le (TypeX.rows l) k; omega
        have hox := okVE_at (TypeX.rows l) HO.out k (by rw [TypeX.rows_length]; exact hlt)
        rw [TypeX.rows_at l k hlt] at hox
        have HOX := Lib.hid hox
        have hnx := nodesVE_at (TypeX.rows l) k (by rw [TypeX.rows_length]; exact hlt)
        rw [TypeX.rows_at l k hlt] at hnx
        have HNX := Lib.hid (show DV.nodesL l[k].cells ≤ N by have := HN.out; omega)
        clear hnx
        have HQ := Lib.hid hq
        have HS := Lib.hid hst
        have HR := Lib.hid hre
        have K2 := Lib.hid k2
        clear hq hst hre hox k2
        go_wp2_with fail
        refine (ih l[k] _ q _ HNX.out HOX.out ⟨_, _, rfl, K2.out⟩ hqL).mono ?_
        rintro e w1 ⟨rfl, hb1⟩
        have hb2 : Below w.heap.size w w1 := hb.trans (hb1.mono hb.size)
        by_cases h2 : DV.wtL l[k].cells ≤ q
        · rw [leftV_yes h2]
          have hnn2 : ¬ (q : Int) - (DV.wtL l[k].cells : Nat) < 0 := by omega
          have hq3 : q - DV.wtL l[k].cells + l.length + DV.wtE ((TypeX.rows l).take (k + 1)) = L + (k + 1) := by rw [HS.out]; have := HQ.out; omega
          have HQ3 := Lib.hid hq3
          clear hq3
          go_wp2
          go_roundw
          case rel => exact ⟨k + 1, q - DV.wtL l[k].cells, by omega, by go_num, int_of (by omega), HQ3.out, hb2⟩
          case measure => simp [Go.RowKit.intOf]; omega
        · rw [leftV_no (by omega)]
          have h3 : L < DV.wtE (TypeX.rows l) := by have := HQ.out; have := HS.out; have := HR.out; omega
          go_wp2
          go_ret
          exact ⟨ret_int (leftV_no h3).symm, hb2⟩
      · have hkl : k = l.length := by omega
        have h3 : q + DV.wtE (TypeX.rows l) = L := by
          have := hq
          rw [hkl, List.take_of_length_le (by rw [TypeX.rows_length]; exact Nat.le_refl _)] at this
          omega
        have H3 := Lib.hid h3
        clear hq h3
        go_wp2
        go_ret
        exact ⟨ret_int (by have := H3.out; rw [leftV_yes (by omega)]; omega), hb⟩

theorem szRows_Type : ∀ N, SzTypeS N
  | 0 => by
    intro l A c L w hn _ _ _ _
    have hc := nodesVE_count (TypeX.rows l)
    rw [TypeX.rows_length] at hc
    have hl : l = [] := List.eq_nil_of_length_eq_zero (by omega)
    subst hl
    go_enter Try.func93, Try.ntmps93
    have hnn : ¬ (L : Int) - 0 < 0 := by omega
    go_wp2
    refine wp_loop_rounds 1 ?_
    rw [rounds_succ]
    go_wp2
    go_ret
    exact ⟨ret_int (by rw [TypeX.rows_map, leftV_yes (by simp [DV.wtE])]; simp [DV.wtE]), Below.refl _ _⟩
  | N + 1 => szTypeS_step N (szType_step N (szRows_Type N))
theorem szType (x : TypeX) (v : Value) (L : Nat) (w : World) (ho : DV.okL x.cells) (hv : TypeAt w (Und w.heap.size) x v) (hL : L ≤ 1048576) :
    Calls Try.prog 45 #[v, .int .i64 L] w fun e w' => (e = .returned (.int .i64 (leftV L (DV.wtL x.cells))) ∧ Below w.heap.size w w') := (szType_step (DV.nodesL x.cells) (szRows_Type (DV.nodesL x.cells))) x v L w (Nat.le_refl _) ho hv hL
theorem szTypeS (l : List TypeX) (A : Option Addr) (c L : Nat) (w : World) (ho : DV.okE (TypeX.rows l)) (hn : l.length ≤ 9223372036854775807) (hv : TypeRow w (Und w.heap.size) A c l) (hL : L ≤ 1048576) :
    Calls Try.prog 93 #[.slice A l.length c, .int .i64 L] w fun e w' => (e = .returned (.int .i64 (leftV L (DV.wtE (TypeX.rows l)))) ∧ Below w.heap.size w w') := (szRows_Type (DV.nodesE (TypeX.rows l))) l A c L w (Nat.le_refl _) ho hn hv hL
end Go.Proofs.Ytbcfeoobhemdcaa

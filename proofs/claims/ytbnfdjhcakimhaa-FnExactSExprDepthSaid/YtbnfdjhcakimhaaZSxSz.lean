/- The laws' guard over SExpr: what is left of a measure. -/
import Derived.Test.YtbnfdjhcakimhaaZSxD
import Derived.Test.YtbnfdjhcakimhaaProg
import Derived.Outline
namespace Go.Proofs.Ytbnfdjhcakimhaa
open Go.RowKit Go.Lib

theorem SX.dwt_eq (x : SX) : DV.wtL x.cells = x.atom.size + DV.wtE (SX.rows x.list) := by
  rw [SX.cells_eq]
  simp only [DV.wtL, DV.wt, uwt]
  omega
theorem SX.dnodes_eq (x : SX) : DV.nodesL x.cells = DV.nodesE (SX.rows x.list) := by
  rw [SX.cells_eq]
  simp only [DV.nodesL, DV.nodes]
  omega
def SzSExpr (N : Nat) : Prop := ∀ (x : SX) (v : Value) (L : Nat) (w : World), DV.nodesL x.cells ≤ N → DV.okL x.cells → SxAt w (Und w.heap.size) x v → L ≤ 1048576 →
  Calls Try.prog 30 #[v, .int .i64 L] w fun e w' => (e = .returned (.int .i64 (leftV L (DV.wtL x.cells))) ∧ Below w.heap.size w w')
def SzSExprS (N : Nat) : Prop := ∀ (l : List SX) (A : Option Addr) (c L : Nat) (w : World), DV.nodesE (SX.rows l) ≤ N → DV.okE (SX.rows l) → l.length ≤ 9223372036854775807 → SxRow w (Und w.heap.size) A c l → L ≤ 1048576 →
  Calls Try.prog 60 #[.slice A l.length c, .int .i64 L] w fun e w' => (e = .returned (.int .i64 (leftV L (DV.wtE (SX.rows l)))) ∧ Below w.heap.size w w')

set_option maxRecDepth 100000 in
set_option maxHeartbeats 2000000 in
theorem szSExpr_step (N : Nat) (ihSExprS : SzSExprS N) : SzSExpr N := by
  intro x v L w hn hok hv hL
  obtain ⟨A1, c1, rfl, h1⟩ := hv
  have hne := SX.dnodes_eq x
  have hok2 := hok
  rw [SX.cells_eq] at hok2
  simp only [DV.okL, DV.ok, uok] at hok2
  obtain ⟨o0, o1, -⟩ := hok2
  have hw := SX.dwt_eq x
  have hb0 : Below w.heap.size w (w.alloc (.cells #[.string x.atom, .slice A1 x.list.length c1] 38)) := (Below.refl _ _).alloc (Nat.le_refl _) _
  have H1 := Lib.hid (h1.grow hb0)
  have O1 := Lib.hid o1
  have HN := Lib.hid hn
  have HNE := Lib.hid hne
  have HW := Lib.hid hw
  clear hok hw h1 o1 hn hne
  by_cases s1 : x.atom.size ≤ L
  rotate_left
  · have n1 : ((L : Nat) : Int) - ((x.atom.size : Nat) : Int) < 0 := by omega
    go_enter Try.func30, Try.ntmps30
    go_wp2
    go_ret
    exact ⟨ret_int (leftV_no (by have := HW.out; omega)).symm, hb0⟩
  have n1 : ¬ ((L : Nat) : Int) - ((x.atom.size : Nat) : Int) < 0 := by omega
  obtain ⟨q2, e2⟩ : ∃ q : Nat, ((L : Nat) : Int) - ((x.atom.size : Nat) : Int) = ((q : Nat) : Int) := ⟨L - x.atom.size, by omega⟩
  have f2 : q2 + (x.atom.size) = L := by omega
  have E2 := Lib.hid e2
  clear e2
  go_enter Try.func30, Try.ntmps30
  go_wp2_with fail
  rw [E2.out]
  refine (ihSExprS x.list _ _ q2 _ (by have := HN.out; have := HNE.out; omega) O1.out.2 (by have := O1.out.1; rw [SX.rows_length] at this; exact this) H1.out (by omega)).mono ?_
  rintro e w2 ⟨rfl, b2⟩
  have hb2 : Below w.heap.size w w2 := hb0.trans (b2.mono hb0.size)
  by_cases s2 : DV.wtE (SX.rows x.list) ≤ q2
  rotate_left
  · rw [leftV_no (by omega)]
    go_wp2
    go_ret
    exact ⟨ret_int (leftV_no (by have := HW.out; omega)).symm, hb2⟩
  rw [leftV_yes s2]
  have n2 : ¬ ((q2 : Nat) : Int) - ((DV.wtE (SX.rows x.list) : Nat) : Int) < 0 := by omega
  go_wp2
  go_ret
  exact ⟨ret_int (by have := HW.out; rw [leftV_yes (by omega)]; omega), hb2⟩

set_option maxRecDepth 100000 in
set_option maxHeartbeats 2000000 in
theorem szSExprS_step (N : Nat) (ih : SzSExpr N) : SzSExprS (N + 1) := by
  intro l A c L w hn hok hlen hl hL
  have HL := Lib.hid hl
  have HO := Lib.hid hok
  have hwl := wtVE_length (SX.rows l)
  rw [SX.rows_length] at hwl
  have HN := Lib.hid hn
  clear hl hok hn
  by_cases hfst : L < l.length
  · have hnn : (L : Int) - l.length < 0 := by omega
    have h3 : L < DV.wtE (SX.rows l) := by omega
    go_enter Try.func60, Try.ntmps60
    go_wp2
    go_ret
    exact ⟨ret_int (leftV_no h3).symm, Below.refl _ _⟩
  · have hnn : ¬ (L : Int) - l.length < 0 := by omega
    go_enter Try.func60, Try.ntmps60
    go_wp2
    go_loopw [1, 5] (fun qv iv wr => ∃ k q : Nat, k ≤ l.length ∧ iv = .int .i64 k ∧ qv = .int .i64 q ∧ q + l.length + DV.wtE ((SX.rows l).take k) = L + k ∧ Below w.heap.size w wr) (fun _ iv _ => l.length - (Go.RowKit.intOf iv).toNat)
    case atStart => exact ⟨0, L - l.length, Nat.zero_le _, rfl, int_of (by omega), by simp [DV.wtE]; omega, Below.refl _ _⟩
    case round =>
      obtain ⟨k, q, hk, rfl, rfl, hq, hb⟩ := hrel
      by_cases hlt : k < l.length
      · obtain ⟨b, o, A1, c1, hA, hP, q0, q1, k1⟩ := (HL.out.grow hb).at_ hlt
        subst hA
        have hst := wtVE_take (SX.rows l) k (by rw [SX.rows_length]; exact hlt)
        rw [SX.rows_at l k hlt] at hst
        have hre := wtVE_rest (SX.rows l) (k + 1) (by rw [SX.rows_length]; exact hlt)
        rw [SX.rows_length] at hre
        have hqL : q ≤ 1048576 := by have := wtVE_le (SX.rows l) k; omega
        have hox := okVE_at (SX.rows l) HO.out k (by rw [SX.rows_length]; exact hlt)
        rw [SX.rows_at l k hlt] at hox
        have HOX := Lib.hid hox
        have hnx := nodesVE_at (SX.rows l) k (by rw [SX.rows_length]; exact hlt)
        rw [SX.rows_at l k hlt] at hnx
        have HNX := Lib.hid (show DV.nodesL l[k].cells ≤ N by have := HN.out; omega)
        clear hnx
        have HQ := Lib.hid hq
        have HS := Lib.hid hst
        have HR := Lib.hid hre
        have K1 := Lib.hid k1
        clear hq hst hre hox k1
        go_wp2_with fail
        refine (ih l[k] _ q _ HNX.out HOX.out ⟨_, _, rfl, K1.out⟩ hqL).mono ?_
        rintro e w1 ⟨rfl, hb1⟩
        have hb2 : Below w.heap.size w w1 := hb.trans (hb1.mono hb.size)
        by_cases h2 : DV.wtL l[k].cells ≤ q
        · rw [leftV_yes h2]
          have hnn2 : ¬ (q : Int) - (DV.wtL l[k].cells : Nat) < 0 := by omega
          have hq3 : q - DV.wtL l[k].cells + l.length + DV.wtE ((SX.rows l).take (k + 1)) = L + (k + 1) := by rw [HS.out]; have := HQ.out; omega
          have HQ3 := Lib.hid hq3
          clear hq3
          go_wp2
          go_roundw
          case rel => exact ⟨k + 1, q - DV.wtL l[k].cells, by omega, by go_num, int_of (by omega), HQ3.out, hb2⟩
          case measure => simp [Go.RowKit.intOf]; omega
        · rw [leftV_no (by omega)]
          have h3 : L < DV.wtE (SX.rows l) := by have := HQ.out; have := HS.out; have := HR.out; omega
          go_wp2
          go_ret
          exact ⟨ret_int (leftV_no h3).symm, hb2⟩
      · have hkl : k = l.length := by omega
        have h3 : q + DV.wtE (SX.rows l) = L := by
          have := hq
          rw [hkl, List.take_of_length_le (by rw [SX.rows_length]; exact Nat.le_refl _)] at this
          omega
        have H3 := Lib.hid h3
        clear hq h3
        go_wp2
        go_ret
        exact ⟨ret_int (by have := H3.out; rw [leftV_yes (by omega)]; omega), hb⟩

theorem szRows_SExpr : ∀ N, SzSExprS N
  | 0 => by
    intro l A c L w hn _ _ _ _
    have hc := nodesVE_count (SX.rows l)
    rw [SX.rows_length] at hc
    have hl : l = [] := List.eq_nil_of_length_eq_zero (by omega)
    subst hl
    go_enter Try.func60, Try.ntmps60
    have hnn : ¬ (L : Int) - 0 < 0 := by omega
    go_wp2
    refine wp_loop_rounds 1 ?_
    rw [rounds_succ]
    go_wp2
    go_ret
    exact ⟨ret_int (by rw [SX.rows_map, leftV_yes (by simp [DV.wtE])]; simp [DV.wtE]), Below.refl _ _⟩
  | N + 1 => szSExprS_step N (szSExpr_step N (szRows_SExpr N))
theorem szSExpr (x : SX) (v : Value) (L : Nat) (w : World) (ho : DV.okL x.cells) (hv : SxAt w (Und w.heap.size) x v) (hL : L ≤ 1048576) :
    Calls Try.prog 30 #[v, .int .i64 L] w fun e w' => (e = .returned (.int .i64 (leftV L (DV.wtL x.cells))) ∧ Below w.heap.size w w') := (szSExpr_step (DV.nodesL x.cells) (szRows_SExpr (DV.nodesL x.cells))) x v L w (Nat.le_refl _) ho hv hL
theorem szSExprS (l : List SX) (A : Option Addr) (c L : Nat) (w : World) (ho : DV.okE (SX.rows l)) (hn : l.length ≤ 9223372036854775807) (hv : SxRow w (Und w.heap.size) A c l) (hL : L ≤ 1048576) :
    Calls Try.prog 60 #[.slice A l.length c, .int .i64 L] w fun e w' => (e = .returned (.int .i64 (leftV L (DV.wtE (SX.rows l)))) ∧ Below w.heap.size w w') := (szRows_SExpr (DV.nodesE (SX.rows l))) l A c L w (Nat.le_refl _) ho hn hv hL
end Go.Proofs.Ytbnfdjhcakimhaa

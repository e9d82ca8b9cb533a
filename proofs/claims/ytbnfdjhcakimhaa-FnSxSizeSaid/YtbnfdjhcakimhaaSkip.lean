/- The reference model's reader: its state in memory; white space skipped. -/
import Derived.Test.YtbnfdjhcakimhaaMem
import Derived.Test.YtbnfdjhcakimhaaProg
import Derived.BigQuiet
import Derived.Deep.QuietTactic
import Derived.Lib.Hide
import Derived.Outline
namespace Go.Proofs.Ytbnfdjhcakimhaa
open Go.RowKit

/-- White space. -/
def isW (c : UInt8) : Bool := c == 32 || c == 10
def skipW (l : List UInt8) : List UInt8 := l.dropWhile isW
theorem skipW_nil : skipW [] = [] := rfl
theorem skipW_yes {c : UInt8} {l : List UInt8} (h : isW c = true) : skipW (c :: l) = skipW l := by rw [skipW, List.dropWhile_cons, if_pos h]; rfl
theorem skipW_no {c : UInt8} {l : List UInt8} (h : isW c = false) : skipW (c :: l) = c :: l := by rw [skipW, List.dropWhile_cons, if_neg (by rw [h]; decide)]
theorem skipW_le : ∀ l : List UInt8, (skipW l).length ≤ l.length
  | [] => by simp [skipW]
  | c :: l => by
    cases h : isW c with
    | true => rw [skipW_yes h, List.length_cons]; have := skipW_le l; omega
    | false => rw [skipW_no h]; exact Nat.le_refl _
theorem drop_step (s : ByteArray) (k : Nat) (h : k < s.size) : s.data.toList.drop k = s[k] :: s.data.toList.drop (k + 1) := by
  rw [List.drop_eq_getElem_cons (by simpa using h)]; rfl
theorem drop_done (s : ByteArray) {k : Nat} (h : s.size ≤ k) : s.data.toList.drop k = [] := by
  rw [List.drop_eq_nil_iff]; simpa using h

theorem But.drewN_s {g : Nat} {a w : World} (h : But g a w) (k : Nat) : But g a (w.drewN k) := h.trans ⟨rfl, rfl, rfl, Nat.le_refl _, fun _ _ _ => rfl⟩
/-- The reader's five cells: the text, how far, how deep, how many, whether it has failed. -/
def Cells (w : World) (g : Nat) (s : ByteArray) (k : Nat) (d z : Int) (b : Bool) : Prop := Whole w g 60 #[.string s, .int .i64 k, .int .i64 d, .int .i64 z, .bool b]
theorem Cells.at_ {w : World} {g : Nat} {s : ByteArray} {k : Nat} {d z : Int} {b : Bool} (h : Cells w g s k d z b) :
    w.cell? ⟨g, 0, none⟩ = some (.string s) ∧ w.cell? ⟨g, 1, none⟩ = some (.int .i64 k) ∧ w.cell? ⟨g, 2, none⟩ = some (.int .i64 d) ∧ w.cell? ⟨g, 3, none⟩ = some (.int .i64 z) ∧ w.cell? ⟨g, 4, none⟩ = some (.bool b) :=
  ⟨by rw [Whole.cell h]; rfl, by rw [Whole.cell h]; rfl, by rw [Whole.cell h]; rfl, by rw [Whole.cell h]; rfl, by rw [Whole.cell h]; rfl⟩
theorem Cells.drewN {w : World} {g : Nat} {s : ByteArray} {k : Nat} {d z : Int} {b : Bool} (h : Cells w g s k d z b) (n : Nat) : Cells (w.drewN n) g s k d z b := h
theorem Cells.set1 {w : World} {g : Nat} {s : ByteArray} {k : Nat} {d z : Int} {b : Bool} (h : Cells w g s k d z b) (k' : Nat) : Cells (w.setCell ⟨g, 1, none⟩ (.int .i64 k')) g s k' d z b := by
  have := Whole.set_ h 1 (.int .i64 k'); simp at this; exact this
theorem Cells.set2 {w : World} {g : Nat} {s : ByteArray} {k : Nat} {d z : Int} {b : Bool} (h : Cells w g s k d z b) (d' : Int) : Cells (w.setCell ⟨g, 2, none⟩ (.int .i64 d')) g s k d' z b := by
  have := Whole.set_ h 2 (.int .i64 d'); simp at this; exact this
theorem Cells.set3 {w : World} {g : Nat} {s : ByteArray} {k : Nat} {d z : Int} {b : Bool} (h : Cells w g s k d z b) (z' : Int) : Cells (w.setCell ⟨g, 3, none⟩ (.int .i64 z')) g s k d z' b := by
  have := Whole.set_ h 3 (.int .i64 z'); simp at this; exact this
theorem Cells.set4 {w : World} {g : Nat} {s : ByteArray} {k : Nat} {d z : Int} {b : Bool} (h : Cells w g s k d z b) (b' : Bool) : Cells (w.setCell ⟨g, 4, none⟩ (.bool b')) g s k d z b' := by
  have := Whole.set_ h 4 (.bool b'); simp at this; exact this

/-- The number in a cell. -/
def numAt (w : World) (g i : Nat) : Nat := match w.cell? ⟨g, i, none⟩ with | some (.int _ z) => z.toNat | _ => 0
theorem Cells.num {w : World} {g : Nat} {s : ByteArray} {k : Nat} {d z : Int} {b : Bool} (h : Cells w g s k d z b) : numAt w g 1 = k := by rw [numAt, h.at_.2.1]; rfl

set_option maxRecDepth 100000 in
set_option maxHeartbeats 1000000 in
theorem skipX (g : Nat) (s : ByteArray) (k : Nat) (d z : Int) (b : Bool) (w : World) (hs : s.size ≤ 4294967296) (hk : k ≤ s.size) (hw : Cells w g s k d z b) :
    Calls Try.prog 53 #[.pointer (some ⟨g, 0, none⟩)] w fun e w' => e = .returned (.tuple #[]) ∧ (∃ k', k ≤ k' ∧ k' ≤ s.size ∧ s.data.toList.drop k' = skipW (s.data.toList.drop k) ∧ Cells w' g s k' d z b) ∧ But g w w' := by
  go_enter Try.func53, Try.ntmps53
  go_wp2
  go_loopw [] (fun wr => ∃ j : Nat, k ≤ j ∧ j ≤ s.size ∧ skipW (s.data.toList.drop j) = skipW (s.data.toList.drop k) ∧ Cells wr g s j d z b ∧ But g w wr) (fun wr => s.size - numAt wr g 1)
  case atStart => exact ⟨k, Nat.le_refl _, hk, rfl, hw, But.refl g w⟩
  case round =>
    obtain ⟨j, hkj, hj, he, hc, hb⟩ := hrel
    obtain ⟨c0, c1, c2, c3, c4⟩ := hc.at_
    have hj0 : (0 : Int) ≤ j := by omega
    have f1 : wr.frozen? ⟨g, 1, none⟩ = false := Whole.frozen hc 1
    by_cases hlt : j < s.size
    · have hd := drop_step s j hlt
      by_cases h32 : s[j] = 32
      · have q1 : ((s[j].toNat : Int) == 32) = true := by rw [h32]; rfl
        have hn : skipW (s.data.toList.drop (j + 1)) = skipW (s.data.toList.drop k) := by rw [← he, hd, skipW_yes (by rw [isW, h32]; rfl)]
        have HN := Lib.hid hn
        clear hn he hd h32
        go_wp2
        go_quiet (fail)
        go_wp2
        go_roundw
        case rel => exact ⟨j + 1, by omega, by omega, HN.out, (hc.drewN _).set1 (j + 1), (hb.drewN_s _).trans (But.set_ g _ 1 _)⟩
        case measure =>
          rw [hc.num]; refine Nat.lt_of_le_of_lt (Nat.le_of_eq (congrArg (s.size - ·) (Cells.num ((hc.drewN _).set1 (j + 1))))) ?_; omega
      · have q1 : ((s[j].toNat : Int) == 32) = false := by
          rw [beq_eq_false_iff_ne]; intro e
          exact h32 (UInt8.toNat_inj.1 (by have e2 : (32 : UInt8).toNat = 32 := rfl; omega))
        by_cases h10 : s[j] = 10
        · have q2 : ((s[j].toNat : Int) == 10) = true := by rw [h10]; rfl
          have hn : skipW (s.data.toList.drop (j + 1)) = skipW (s.data.toList.drop k) := by rw [← he, hd, skipW_yes (by rw [isW, h10]; rfl)]
          have HN := Lib.hid hn
          clear hn he hd h32 h10
          go_wp2
          go_quiet (fail)
          go_wp2
          go_roundw
          case rel => exact ⟨j + 1, by omega, by omega, HN.out, (hc.drewN _).set1 (j + 1), (hb.drewN_s _).trans (But.set_ g _ 1 _)⟩
          case measure =>
            rw [hc.num]; refine Nat.lt_of_le_of_lt (Nat.le_of_eq (congrArg (s.size - ·) (Cells.num ((hc.drewN _).set1 (j + 1))))) ?_; omega
        · have q2 : ((s[j].toNat : Int) == 10) = false := by
            rw [beq_eq_false_iff_ne]; intro e
            exact h10 (UInt8.toNat_inj.1 (by have e2 : (10 : UInt8).toNat = 10 := rfl; omega))
          have hn : s.data.toList.drop j = skipW (s.data.toList.drop k) := by rw [← he, hd, skipW_no (by rw [isW, Bool.or_eq_false_iff, beq_eq_false_iff_ne, beq_eq_false_iff_ne]; exact ⟨h32, h10⟩)]
          have HN := Lib.hid hn
          clear hn he hd h32 h10
          go_wp2
          go_quiet (fail)
          go_wp2
          go_end0
          exact ⟨rfl, ⟨j, hkj, hj, HN.out, hc.drewN _⟩, hb.drewN_s _⟩
    · have hjs : j = s.size := by omega
      have hn : s.data.toList.drop j = skipW (s.data.toList.drop k) := by rw [← he, drop_done s (by omega)]; rfl
      have HN := Lib.hid hn
      clear hn he
      go_wp2
      go_quiet (fail)
      go_wp2
      go_end0
      exact ⟨rfl, ⟨j, hkj, hj, HN.out, hc.drewN _⟩, hb.drewN_s _⟩
end Go.Proofs.Ytbnfdjhcakimhaa

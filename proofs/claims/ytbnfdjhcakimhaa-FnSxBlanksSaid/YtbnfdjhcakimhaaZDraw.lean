/- The draws: what a law's input is made of. A cursor over the bytes of the code; whatever is drawn lies in its range. -/
import Derived.Test.YtbnfdjhcakimhaaQ1
import Derived.Test.YtbnfdjhcakimhaaProg
import Derived.BigQuiet
import Derived.Deep.QuietTactic
import Derived.Lib.Hide
import Derived.Outline
import Derived.Laws.BitsLemmas
namespace Go.Proofs.Ytbnfdjhcakimhaa
open Go.RowKit

/-- The n bytes at A, below block B. -/
def BytesAt (w : World) (B : Nat) (A : Option Addr) (n : Nat) : Prop :=
  ∀ j, j < n → ∃ b o z, A = some ⟨b, o, none⟩ ∧ b < B ∧ 0 ≤ z ∧ z ≤ 255 ∧ w.cell? ⟨b, o + j, none⟩ = some (.int .u8 z)
theorem BytesAt.below {w w' : World} {B : Nat} {A : Option Addr} {n : Nat} (h : BytesAt w B A n) (hb : Below B w w') : BytesAt w' B A n := fun j hj => by
  obtain ⟨b, o, z, hA, hlt, h0, h1, hc⟩ := h j hj
  exact ⟨b, o, z, hA, hlt, h0, h1, (hb.cell (p := ⟨b, o + j, none⟩) hlt).trans hc⟩
theorem BytesAt.mono_ {w : World} {B B' : Nat} {A : Option Addr} {n : Nat} (h : BytesAt w B A n) (hB : B ≤ B') : BytesAt w B' A n := fun j hj => by
  obtain ⟨b, o, z, hA, hlt, h0, h1, hc⟩ := h j hj
  exact ⟨b, o, z, hA, by omega, h0, h1, hc⟩
/-- The cursor's three cells, in a block of the call's own. -/
structure CurAt (w : World) (B g : Nat) (A : Option Addr) (n c : Nat) (i h : Int) : Prop where
  cells : Whole w g 80 #[.slice A n c, .int .i64 i, .int .i64 h]
  own : B ≤ g
  bytes : BytesAt w B A n
  size : n ≤ 9223372036854775807
  lo : 0 ≤ i
  hi : i ≤ n
/-- A cursor. -/
def Cur (w : World) (B g : Nat) : Prop := ∃ A n c i h, CurAt w B g A n c i h
theorem Cur.lt {w : World} {B g : Nat} (h : Cur w B g) : g < w.heap.size := by
  obtain ⟨A, n, c, i, h, hc⟩ := h
  exact hc.cells.lt
theorem Cur.own {w : World} {B g : Nat} (h : Cur w B g) : B ≤ g := by
  obtain ⟨A, n, c, i, h, hc⟩ := h
  exact hc.own
theorem Cur.kept {w w' : World} {B g : Nat} (h : Cur w B g) (hb : Below w.heap.size w w') : Cur w' B g := by
  have hlt := h.lt
  obtain ⟨A, n, c, i, h, hc⟩ := h
  exact ⟨A, n, c, i, h, hc.cells.below hb hlt, hc.own, hc.bytes.below (hb.mono (by have := hc.own; omega)), hc.size, hc.lo, hc.hi⟩

/-- WHAT A DRAW LEAVES: the cursor moved, whatever else lay there unturned. -/
def Drawn (P : Value → Prop) (B g : Nat) (w : World) (e : Ending) (w' : World) : Prop := ∃ v, e = .returned v ∧ P v ∧ Cur w' B g ∧ But g w w'

def IsByte (v : Value) : Prop := ∃ x : Int, v = .int .i64 x ∧ 0 ≤ x ∧ x ≤ 255

theorem and255 (n : Int) : bits .and .i64 n 255 = n % 256 := by
  have h : (BitVec.ofInt 64 255).toNat = 2 ^ 8 - 1 := by decide
  have key : (BitVec.ofInt 64 n &&& BitVec.ofInt 64 255).toNat = (n % ((2 ^ 64 : Nat) : Int)).toNat % 2 ^ 8 := by
    rw [BitVec.toNat_and, BitVec.toNat_ofInt, h, Nat.and_two_pow_sub_one_eq_mod]
  show IntKind.i64.wrap ((BitVec.ofInt 64 n &&& BitVec.ofInt 64 255).toNat : Nat) = n % 256
  rw [key, IntKind.wrap_i64]
  omega
theorem and30 (n : Int) : bits .and .i64 n 1073741823 = n % 1073741824 := by
  have h : (BitVec.ofInt 64 1073741823).toNat = 2 ^ 30 - 1 := by decide
  have key : (BitVec.ofInt 64 n &&& BitVec.ofInt 64 1073741823).toNat = (n % ((2 ^ 64 : Nat) : Int)).toNat % 2 ^ 30 := by
    rw [BitVec.toNat_and, BitVec.toNat_ofInt, h, Nat.and_two_pow_sub_one_eq_mod]
  show IntKind.i64.wrap ((BitVec.ofInt 64 n &&& BitVec.ofInt 64 1073741823).toNat : Nat) = n % 1073741824
  rw [key, IntKind.wrap_i64]
  omega

theorem CurAt.set2 {w : World} {B g : Nat} {A : Option Addr} {n c : Nat} {i h : Int} (hc : CurAt w B g A n c i h) (h' : Int) : CurAt (w.setCell ⟨g, 2, none⟩ (.int .i64 h')) B g A n c i h' :=
  ⟨by have := hc.cells.set_ 2 (.int .i64 h'); simpa using this, hc.own, hc.bytes.below ((Below.refl B w).setCell hc.own _), hc.size, hc.lo, hc.hi⟩
theorem CurAt.set1 {w : World} {B g : Nat} {A : Option Addr} {n c : Nat} {i h : Int} (hc : CurAt w B g A n c i h) (i' : Int) (h0 : 0 ≤ i') (h1 : i' ≤ n) : CurAt (w.setCell ⟨g, 1, none⟩ (.int .i64 i')) B g A n c i' h :=
  ⟨by have := hc.cells.set_ 1 (.int .i64 i'); simpa using this, hc.own, hc.bytes.below ((Below.refl B w).setCell hc.own _), hc.size, h0, h1⟩
theorem CurAt.drewN {w : World} {B g : Nat} {A : Option Addr} {n c : Nat} {i h : Int} (hc : CurAt w B g A n c i h) (k : Nat) : CurAt (w.drewN k) B g A n c i h :=
  ⟨hc.cells, hc.own, hc.bytes, hc.size, hc.lo, hc.hi⟩
theorem But.drewN_ {g : Nat} {a w : World} (h : But g a w) (k : Nat) : But g a (w.drewN k) := h.trans ⟨rfl, rfl, rfl, Nat.le_refl _, fun _ _ _ => rfl⟩

set_option maxRecDepth 100000 in
set_option maxHeartbeats 1000000 in
theorem drawByte (B g : Nat) (w : World) (hw : Cur w B g) :
    Calls Try.prog 77 #[.pointer (some ⟨g, 0, none⟩)] w (Drawn IsByte B g w) := by
  obtain ⟨A, n, c, i, h, hc⟩ := hw
  obtain ⟨k, rfl⟩ := Int.eq_ofNat_of_zero_le hc.lo
  have hkn : k ≤ n := by have := hc.hi; omega
  have hn := hc.size
  have c2 : w.cell? ⟨g, 2, none⟩ = some (.int .i64 h) := by rw [hc.cells.cell]; rfl
  have f2 : w.frozen? ⟨g, 2, none⟩ = false := hc.cells.frozen 2
  have k255 := and255
  go_enter Try.func77, Try.ntmps77
  go_wp2
  generalize RowKit.wrap64 (RowKit.wrap64 (h * 6364136223846793005) + 1442695040888963407) = h'
  have hc' := hc.set2 h'
  have hb' : But g w (w.setCell ⟨g, 2, none⟩ (.int .i64 h')) := But.set_ g w 2 (.int .i64 h')
  clear c2 f2
  generalize w.setCell ⟨g, 2, none⟩ (.int .i64 h') = w1 at *
  have c0 : w1.cell? ⟨g, 0, none⟩ = some (.slice A n c) := by rw [hc'.cells.cell]; rfl
  have c1 : w1.cell? ⟨g, 1, none⟩ = some (.int .i64 k) := by rw [hc'.cells.cell]; rfl
  have c2 : w1.cell? ⟨g, 2, none⟩ = some (.int .i64 h') := by rw [hc'.cells.cell]; rfl
  have f1 : w1.frozen? ⟨g, 1, none⟩ = false := hc'.cells.frozen 1
  by_cases hlt : k < n
  · obtain ⟨b, o, z, rfl, hb, hz0, hz1, cz⟩ := hc'.bytes k hlt
    have hk0 : (0 : Int) ≤ k := by omega
    go_quiet (fail)
    go_wp2
    go_quiet (fail)
    go_wp2
    go_quiet (fail)
    go_wp2
    go_ret
    exact ⟨_, rfl, ⟨_, rfl, by omega, by omega⟩, ⟨_, _, _, _, _, (hc'.drewN _).set1 (k + 1) (by omega) (by omega)⟩, (hb'.drewN_ _).trans (But.set_ g _ 1 _)⟩
  · go_quiet (fail)
    go_wp2
    go_quiet (fail)
    go_wp2
    go_ret
    exact ⟨_, rfl, ⟨_, rfl, by omega, by omega⟩, ⟨_, _, _, _, _, (hc'.drewN _).drewN _⟩, (hb'.drewN_ _).drewN_ _⟩

/-- A number from 0 on, below n. -/
def IsBelow (n : Int) (v : Value) : Prop := ∃ x : Int, v = .int .i64 x ∧ 0 ≤ x ∧ x < n

set_option maxRecDepth 100000 in
set_option maxHeartbeats 1000000 in
theorem drawBelow (B g : Nat) (n : Int) (w : World) (hw : Cur w B g) (h0 : 0 < n) (h1 : n ≤ 9223372036854775807) :
    Calls Try.prog 66 #[.pointer (some ⟨g, 0, none⟩), .int .i64 n] w (Drawn (IsBelow n) B g w) := by
  by_cases hs : n ≤ 256
  · go_enter Try.func66, Try.ntmps66
    go_wp2_with fail
    refine (drawByte B g _ hw).mono ?_
    rintro e w1 ⟨v, rfl, ⟨x, rfl, x0, x1⟩, hc1, hb1⟩
    have hm0 := Int.emod_nonneg x (show n ≠ 0 by omega)
    have hm1 := Int.emod_lt_of_pos x h0
    go_wp2
    go_ret
    exact ⟨_, rfl, ⟨_, rfl, hm0, hm1⟩, hc1, hb1⟩
  · go_enter Try.func66, Try.ntmps66
    go_wp2_with fail
    refine (drawByte B g _ hw).mono ?_
    rintro e w1 ⟨v, rfl, ⟨x, rfl, x0, x1⟩, hc1, hb1⟩
    go_wp2_with fail
    refine (drawByte B g _ hc1).mono ?_
    rintro e w2 ⟨v, rfl, ⟨y, rfl, y0, y1⟩, hc2, hb2⟩
    go_wp2_with fail
    refine (drawByte B g _ hc2).mono ?_
    rintro e w3 ⟨v, rfl, ⟨z, rfl, z0, z1⟩, hc3, hb3⟩
    go_wp2_with fail
    refine (drawByte B g _ hc3).mono ?_
    rintro e w4 ⟨v, rfl, ⟨t, rfl, t0, t1⟩, hc4, hb4⟩
    have hm0 := Int.emod_nonneg (x * 16777216 + y * 65536 + z * 256 + t) (show n ≠ 0 by omega)
    have hm1 := Int.emod_lt_of_pos (x * 16777216 + y * 65536 + z * 256 + t) h0
    go_wp2
    go_ret
    exact ⟨_, rfl, ⟨_, rfl, hm0, hm1⟩, hc4, ((hb1.trans hb2).trans hb3).trans hb4⟩

/-- One of the strings of a list. -/
def IsOneOf (ss : List ByteArray) (v : Value) : Prop := ∃ x ∈ ss, v = .string x
set_option maxRecDepth 100000 in
theorem drawPick (B g r c : Nat) (ss : List ByteArray) (w : World) (hw : Cur w B g) (hr : Whole w r 9 (ss.map Value.string).toArray) (hne : 0 < ss.length) (hlen : ss.length ≤ 1000000) (hrg : r ≠ g) :
    Calls Try.prog 73 #[.pointer (some ⟨g, 0, none⟩), .slice (some ⟨r, 0, none⟩) ss.length c] w (Drawn (IsOneOf ss) B g w) := by
  have hrl := hr.lt
  go_enter Try.func73, Try.ntmps73
  go_wp2_with fail
  refine (drawBelow B g _ _ hw (by omega) (by omega)).mono ?_
  rintro e w1 ⟨v, rfl, ⟨x, rfl, x0, x1⟩, hc1, hb1⟩
  obtain ⟨k, rfl⟩ := Int.eq_ofNat_of_zero_le x0
  have hk : k < ss.length := by omega
  have hcell : w1.cell? ⟨r, k, none⟩ = some (.string ss[k]) := by
    have h2 : Whole w1 r 9 (ss.map Value.string).toArray := (hb1.block r hrl hrg).trans hr
    rw [h2.cell]; simp [hk]
  go_wp2
  go_ret
  exact ⟨_, rfl, ⟨_, List.getElem_mem hk, rfl⟩, hc1, hb1⟩

/-- A NEW CURSOR. -/
def NewCur (w : World) (e : Ending) (w' : World) : Prop := ∃ g, e = .returned (.pointer (some ⟨g, 0, none⟩)) ∧ Cur w' w.heap.size g ∧ Below w.heap.size w w'
set_option maxRecDepth 100000 in
set_option maxHeartbeats 1000000 in
theorem drawNew (A : Option Addr) (n c : Nat) (w : World) (hA : BytesAt w w.heap.size A n) (hn : n ≤ 140737488355328) :
    Calls Try.prog 49 #[.slice A n c] w (NewCur w) := by
  have k30 := and30
  have HA := Lib.hid hA
  clear hA
  go_enter Try.func49, Try.ntmps49
  go_wp2
  go_loop [3, 4] (fun hv iv => ∃ (k : Nat) (h : Int), k ≤ n ∧ iv = .int .i64 k ∧ hv = .int .i64 h ∧ 0 ≤ h ∧ h ≤ 281474976710656) (fun _ iv => n - (Go.RowKit.intOf iv).toNat)
  case atStart => exact ⟨0, _, Nat.zero_le _, rfl, rfl, by omega, by omega⟩
  case round =>
    obtain ⟨k, h, hk, rfl, rfl, h0, h1⟩ := hrel
    by_cases hlt : k < n
    · obtain ⟨b, o, z, rfl, hb, hz0, hz1, cz⟩ := HA.out k hlt
      by_cases hs : k < 4000
      · go_wp2
        go_round
        case rel => exact ⟨k + 1, _, by omega, by go_num, rfl, by omega, by omega⟩
        case measure => simp [Go.RowKit.intOf]; omega
      · go_wp2
        go_ret
        refine ⟨_, rfl, ⟨_, _, _, _, _, ⟨Whole.new _ _ _, Nat.le_refl _, ?_, by omega, by omega, by omega⟩⟩, (Below.refl _ _).alloc (Nat.le_refl _) _⟩
        exact HA.out.below ((Below.refl _ _).alloc (Nat.le_refl _) _)
    · go_wp2
      go_ret
      refine ⟨_, rfl, ⟨_, _, _, _, _, ⟨Whole.new _ _ _, Nat.le_refl _, ?_, by omega, by omega, by omega⟩⟩, (Below.refl _ _).alloc (Nat.le_refl _) _⟩
      exact HA.out.below ((Below.refl _ _).alloc (Nat.le_refl _) _)
end Go.Proofs.Ytbnfdjhcakimhaa

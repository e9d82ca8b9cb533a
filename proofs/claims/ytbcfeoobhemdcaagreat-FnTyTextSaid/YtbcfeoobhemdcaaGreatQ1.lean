/- Texts that the claims share, joined. -/
import Derived.WalkKit
import Derived.Laws.BytesArg
import Derived.Laws.OwnMore
import Derived.Test.YtbcfeoobhemdcaaGreatProg
import Derived.BigQuiet
import Derived.Deep.QuietTactic
import Derived.Lib.Hide
import Derived.Outline
import Derived.Laws.BitsLemmas
import Derived.Deep.RegionHeld3
import Derived.Deep.AppendLies
import Derived.Deep.DrawnRows
import Derived.Tactics
import Derived.Maps.AppendAt
import Derived.OwnWalkIn
import Derived.Laws.MakeOwn
import Derived.Laws.ResultCell
import Derived.Lib.QuietBelow
import Derived.Deep.RegionWith
import Derived.Deep.LoopGhost
import Derived.Deep.CutRange
import Derived.RegionTactic
import Derived.Maps.OwnOps
import Derived.Maps.Views
import Derived.IntWalk
import Derived.Lib.Join
import Derived.Lib.AppendStr
import Derived.Laws.IdiomStrings
import Derived.Laws.RangeAny
namespace Go.Proofs.YtbcfeoobhemdcaaGreat
open Go.RowKit

/-- A slice of one byte, just made, becomes the string of that byte. -/
theorem conv_one {P : Program} {src dst e : TypeId} (hs : P.underlying src = some (.slice e)) (he : P.underlying e = some (.int .u8)) (hd : P.underlying dst = some .string) (w : World) (z : Int) :
    (convert src dst (.slice (some ⟨w.heap.size, 0, none⟩) 1 1)).run P (w.alloc (.cells #[.int .u8 z] e)) = .ok (.string ⟨#[UInt8.ofNat z.toNat]⟩) (w.alloc (.cells #[.int .u8 z] e)) := by
  have h := run_convert_bytes_arg (P := P) (w.alloc (.cells #[.int .u8 z] e)) src e hs he w.heap.size 0 1 1 [z] rfl (fun i hi => by
    obtain rfl : i = 0 := by omega
    simp) dst hd
  rw [h]
  rfl
theorem append_byte (b : UInt8) (l : List UInt8) : (⟨#[b]⟩ : ByteArray) ++ (⟨l.toArray⟩ : ByteArray) = ⟨(b :: l).toArray⟩ := by
  apply ByteArray.ext
  simp
theorem ret_str {a b : ByteArray} (h : a = b) : Ending.returned (.string a) = .returned (.string b) := by rw [h]
theorem ret_int {k : IntKind} {a b : Int} (h : a = b) : Ending.returned (.int k a) = .returned (.int k b) := by rw [h]
theorem int_of {k : IntKind} {a b : Int} (h : a = b) : Value.int k a = .int k b := by rw [h]
theorem str_of {a b : ByteArray} (h : a = b) : Value.string a = .string b := by rw [h]

/-- Two new cells, then a world that only grew: what they hold. -/
theorem two_cells {w w1 : World} {a b : Value} {s t : TypeId} (h : Below ((w.alloc (.cells #[a] s)).alloc (.cells #[b] t)).heap.size ((w.alloc (.cells #[a] s)).alloc (.cells #[b] t)) w1) :
    w1.cell? ⟨w.heap.size, 0, none⟩ = some a ∧ w1.frozen? ⟨w.heap.size, 0, none⟩ = false ∧ w1.cell? ⟨w.heap.size + 1, 0, none⟩ = some b ∧ w1.frozen? ⟨w.heap.size + 1, 0, none⟩ = false ∧ Below w.heap.size w w1 ∧ w.heap.size + 1 < w1.heap.size := by
  have hz := h.size
  simp at hz
  refine ⟨(h.cell (p := ⟨w.heap.size, 0, none⟩) (by simp; omega)).trans (by simp [go_sem]), (h.frozen (p := ⟨w.heap.size, 0, none⟩) (by simp; omega)).trans (by simp [go_sem]),
    (h.cell (p := ⟨w.heap.size + 1, 0, none⟩) (by simp)).trans (by simp [go_sem]), (h.frozen (p := ⟨w.heap.size + 1, 0, none⟩) (by simp)).trans (by simp [go_sem]), ?_, by omega⟩
  exact (((Below.refl w.heap.size w).alloc (Nat.le_refl _) _).alloc (by simp) _).trans (h.mono (by simp; omega))
/-- The two cells written: what they hold. -/
theorem two_set {w w1 : World} {a b u v : Value} {B : Nat} (c1 : w1.cell? ⟨w.heap.size, 0, none⟩ = some a) (c2 : w1.cell? ⟨w.heap.size + 1, 0, none⟩ = some b) (hb : Below w.heap.size w w1) (hB : B = w.heap.size) :
    ((w1.setCell ⟨w.heap.size, 0, none⟩ u).setCell ⟨w.heap.size + 1, 0, none⟩ v).cell? ⟨w.heap.size, 0, none⟩ = some u ∧ ((w1.setCell ⟨w.heap.size, 0, none⟩ u).setCell ⟨w.heap.size + 1, 0, none⟩ v).cell? ⟨w.heap.size + 1, 0, none⟩ = some v ∧
      Below B w ((w1.setCell ⟨w.heap.size, 0, none⟩ u).setCell ⟨w.heap.size + 1, 0, none⟩ v) := by
  subst hB
  have hne : (⟨w.heap.size + 1, 0, none⟩ : Addr) ≠ ⟨w.heap.size, 0, none⟩ := by intro e; injection e with e; omega
  have c2' : (w1.setCell ⟨w.heap.size, 0, none⟩ u).cell? ⟨w.heap.size + 1, 0, none⟩ = some b := (World.cell?_setCell_other w1 _ _ _ (Ne.symm hne)).trans c2
  refine ⟨(World.cell?_setCell_other _ _ _ _ hne).trans (World.cell?_setCell_same _ _ _ c1), World.cell?_setCell_same _ _ _ c2', (hb.setCell (by simp) _).setCell (by simp) _⟩
end Go.Proofs.YtbcfeoobhemdcaaGreat
namespace Go.Proofs.YtbcfeoobhemdcaaGreat
open Go.RowKit

/-- The slice at A reads as these strings. -/
def Strs (w : World) (A : Option Addr) (ss : List ByteArray) : Prop :=
  ss = [] ∨ ∃ g o, A = some ⟨g, o, none⟩ ∧ g < w.heap.size ∧ ∀ j s, ss[j]? = some s → w.cell? ⟨g, o + j, none⟩ = some (.string s)
theorem Strs.below {w w' : World} {A : Option Addr} {ss : List ByteArray} (h : Strs w A ss) (hb : Below w.heap.size w w') : Strs w' A ss := by
  rcases h with h | ⟨g, o, hA, hg, hc⟩
  · exact .inl h
  · exact .inr ⟨g, o, hA, Nat.lt_of_lt_of_le hg hb.size, fun j s hj => (hb.cell (p := ⟨g, o + j, none⟩) hg).trans (hc j s hj)⟩
/-- Where there is a string at j: the address, and what lies there. -/
theorem Strs.at_ {w : World} {A : Option Addr} {ss : List ByteArray} (h : Strs w A ss) {j : Nat} (hj : j < ss.length) :
    ∃ g o, A = some ⟨g, o, none⟩ ∧ w.cell? ⟨g, o + j, none⟩ = some (.string ss[j]) := by
  rcases h with h | ⟨g, o, hA, _, hc⟩
  · subst h; simp at hj
  · exact ⟨g, o, hA, hc j _ (List.getElem?_eq_getElem hj)⟩

/-- A block known whole: just these cells of this type, none closed to writing. -/
def Whole (w : World) (g : Nat) (t : TypeId) (cs : Array Value) : Prop := w.heap[g]? = some (.cells cs t (0, 0))
theorem Whole.lt {w : World} {g : Nat} {t : TypeId} {cs : Array Value} (h : Whole w g t cs) : g < w.heap.size := by
  unfold Whole at h
  rcases Nat.lt_or_ge g w.heap.size with h1 | h1
  · exact h1
  · rw [Array.getElem?_eq_none h1] at h; cases h
theorem Whole.cell {w : World} {g : Nat} {t : TypeId} {cs : Array Value} (h : Whole w g t cs) (i : Nat) : w.cell? ⟨g, i, none⟩ = cs[i]? := by
  unfold Whole at h
  simp [World.cell?, h]
theorem Whole.frozen {w : World} {g : Nat} {t : TypeId} {cs : Array Value} (h : Whole w g t cs) (i : Nat) : w.frozen? ⟨g, i, none⟩ = false := by
  unfold Whole at h
  simp [World.frozen?, h]
theorem Whole.new (w : World) (t : TypeId) (cs : Array Value) : Whole (w.alloc (.cells cs t)) w.heap.size t cs := by
  show (w.heap.push _)[w.heap.size]? = _
  simp
theorem Whole.below {w w' : World} {g B : Nat} {t : TypeId} {cs : Array Value} (h : Whole w g t cs) (hb : Below B w w') (hg : g < B) : Whole w' g t cs := (hb.block g hg).trans h
theorem Whole.set_ {w : World} {g : Nat} {t : TypeId} {cs : Array Value} (h : Whole w g t cs) (i : Nat) (v : Value) : Whole (w.setCell ⟨g, i, none⟩ v) g t (cs.setIfInBounds i v) := by
  unfold Whole at h ⊢
  simp [World.setCell, Array.getElem?_modify, h]
theorem Whole.strs {w : World} {g : Nat} {t : TypeId} {ss : List ByteArray} (h : Whole w g t (ss.map Value.string).toArray) : Strs w (some ⟨g, 0, none⟩) ss :=
  .inr ⟨g, 0, rfl, h.lt, fun j s hj => by rw [h.cell, Nat.zero_add]; simp [hj]⟩

/-- A store elsewhere. -/
theorem cell_far {w : World} {p : Addr} {v : Value} {b o : Nat} (h : p.block ≠ b) : (w.setCell p v).cell? ⟨b, o, none⟩ = w.cell? ⟨b, o, none⟩ :=
  World.cell?_setCell_other _ _ _ _ (fun e => h (by rw [e]))
/-- All blocks but g are as they were; the streams are as they were. -/
structure But (g : Nat) (w w' : World) : Prop where
  os : w'.os = w.os
  tape : w'.tape = w.tape
  output : w'.output = w.output
  size : w.heap.size ≤ w'.heap.size
  block : ∀ k, k < w.heap.size → k ≠ g → w'.heap[k]? = w.heap[k]?
theorem But.refl (g : Nat) (w : World) : But g w w := ⟨rfl, rfl, rfl, Nat.le_refl _, fun _ _ _ => rfl⟩
theorem But.trans {g : Nat} {a b c : World} (h : But g a b) (k : But g b c) : But g a c :=
  ⟨k.os.trans h.os, k.tape.trans h.tape, k.output.trans h.output, Nat.le_trans h.size k.size, fun i hi hg => (k.block i (Nat.lt_of_lt_of_le hi h.size) hg).trans (h.block i hi hg)⟩
theorem But.of_below {g : Nat} {w w' : World} (h : Below w.heap.size w w') : But g w w' := ⟨h.os, h.tape, h.output, h.size, fun k hk _ => h.block k hk⟩
theorem But.set_ (g : Nat) (w : World) (i : Nat) (v : Value) : But g w (w.setCell ⟨g, i, none⟩ v) :=
  ⟨rfl, rfl, rfl, by simp [World.setCell], fun k _ hg => Below.heap_setCell _ _ _ _ hg⟩
theorem But.to_below {g B : Nat} {w w' : World} (h : But g w w') (hg : B ≤ g) (hB : B ≤ w.heap.size) : Below B w w' :=
  ⟨h.os, h.tape, h.output, h.size, fun k hk => h.block k (by omega) (by omega)⟩
theorem But.strs {g b o : Nat} {w w' : World} {ss : List ByteArray} (hb : But g w w') (h : ∀ j s, ss[j]? = some s → w.cell? ⟨b, o + j, none⟩ = some (.string s)) (hlt : b < w.heap.size) (hne : b ≠ g) : Strs w' (some ⟨b, o, none⟩) ss :=
  .inr ⟨b, o, rfl, Nat.lt_of_lt_of_le hlt hb.size, fun j s hj => (World.cell?_of_block (w := w) (w' := w') (a := ⟨b, o + j, none⟩) (hb.block b hlt hne)).trans (h j s hj)⟩

/-- The result's two cells written. -/
theorem res_set {w w1 : World} {a b : Value} {t : TypeId} (hw : Whole w1 w.heap.size t #[a, b]) (hb : Below w.heap.size w w1) (u v : Value) :
    ∀ w2, w2 = (w1.setCell ⟨w.heap.size, 0, none⟩ u).setCell ⟨w.heap.size, 1, none⟩ v → w2.cell? ⟨w.heap.size, 0, none⟩ = some u ∧ w2.cell? ⟨w.heap.size, 1, none⟩ = some v ∧ Below w.heap.size w w2 ∧ (∀ k, k ≠ w.heap.size → w2.heap[k]? = w1.heap[k]?) ∧ w2.heap.size = w1.heap.size := by
  rintro w2 rfl
  have h := (hw.set_ 0 u).set_ 1 v
  refine ⟨by rw [h.cell]; rfl, by rw [h.cell]; rfl, (hb.setCell (by simp) _).setCell (by simp) _, fun k hk => ?_, by simp⟩
  rw [Below.heap_setCell _ _ _ _ (by exact hk), Below.heap_setCell _ _ _ _ (by exact hk)]
end Go.Proofs.YtbcfeoobhemdcaaGreat
namespace Go.Proofs.YtbcfeoobhemdcaaGreat
open Go.RowKit

/-- The n bytes at A, below block B. -/
def BytesAt (w : World) (B : Nat) (A : Option Addr) (n : Nat) : Prop :=
  ∀ j, j < n → ∃ b o z, A = some ⟨b, o, none⟩ ∧ b < B ∧ 0 ≤ z ∧ z ≤ 255 ∧ w.cell? ⟨b, o + j, none⟩ = some (.int .u8 z)
theorem BytesAt.below {w w' : World} {B : Nat} {A : Option Addr} {n : Nat} (h : BytesAt w B A n) (hb : Below B w w') : BytesAt w' B A n := fun j hj => by
  obtain ⟨b, o, z, hA, hlt, h0, h1, hc⟩ := h j hj
  exact ⟨b, o, z, hA, hlt, h0, h1, (hb.cell (p := ⟨b, o + j, none⟩) hlt).trans hc⟩
theorem BytesAt.mono_ {w : World} {B B' : Nat} {A : Option Addr} {n : Nat} (h : BytesAt w B A n) (hB : B ≤ B') : BytesAt w B' A n := fun j hj => by
  obtain ⟨b, o, z, hA, hlt, h0, h1, hc⟩ := h j hj
  exact ⟨b, o, z, hA, by omega, h0, h1, hc⟩
/-- The cursor's three cells, in a block of the call's own. -/
structure CurAt (w : World) (B g : Nat) (A : Option Addr) (n c : Nat) (i h : Int) : Prop where
  cells : Whole w g 63 #[.slice A n c, .int .i64 i, .int .i64 h]
  own : B ≤ g
  bytes : BytesAt w B A n
  size : n ≤ 9223372036854775807
  lo : 0 ≤ i
  hi : i ≤ n
/-- A cursor. -/
def Cur (w : World) (B g : Nat) : Prop := ∃ A n c i h, CurAt w B g A n c i h
theorem Cur.lt {w : World} {B g : Nat} (h : Cur w B g) : g < w.heap.size := by
  obtain ⟨A, n, c, i, h, hc⟩ := h
  exact hc.cells.lt
theorem Cur.own {w : World} {B g : Nat} (h : Cur w B g) : B ≤ g := by
  obtain ⟨A, n, c, i, h, hc⟩ := h
  exact hc.own
theorem Cur.kept {w w' : World} {B g : Nat} (h : Cur w B g) (hb : Below w.heap.size w w') : Cur w' B g := by
  have hlt := h.lt
  obtain ⟨A, n, c, i, h, hc⟩ := h
  exact ⟨A, n, c, i, h, hc.cells.below hb hlt, hc.own, hc.bytes.below (hb.mono (by have := hc.own; omega)), hc.size, hc.lo, hc.hi⟩

/-- WHAT A DRAW LEAVES: the cursor moved, whatever else lay there unturned. -/
def Drawn (P : Value → Prop) (B g : Nat) (w : World) (e : Ending) (w' : World) : Prop := ∃ v, e = .returned v ∧ P v ∧ Cur w' B g ∧ But g w w'

def IsByte (v : Value) : Prop := ∃ x : Int, v = .int .i64 x ∧ 0 ≤ x ∧ x ≤ 255

theorem and255 (n : Int) : bits .and .i64 n 255 = n % 256 := by
  have h : (BitVec.ofInt 64 255).toNat = 2 ^ 8 - 1 := by decide
  have key : (BitVec.ofInt 64 n &&& BitVec.ofInt 64 255).toNat = (n % ((2 ^ 64 : Nat) : Int)).toNat % 2 ^ 8 := by
    rw [BitVec.toNat_and, BitVec.toNat_ofInt, h, Nat.and_two_pow_sub_one_eq_mod]
  show IntKind.i64.wrap ((BitVec.ofInt 64 n &&& BitVec.ofInt 64 255).toNat : Nat) = n % 256
  rw [key, IntKind.wrap_i64]
  omega
theorem and30 (n : Int) : bits .and .i64 n 1073741823 = n % 1073741824 := by
  have h : (BitVec.ofInt 64 1073741823).toNat = 2 ^ 30 - 1 := by decide
  have key : (BitVec.ofInt 64 n &&& BitVec.ofInt 64 1073741823).toNat = (n % ((2 ^ 64 : Nat) : Int)).toNat % 2 ^ 30 := by
    rw [BitVec.toNat_and, BitVec.toNat_ofInt, h, Nat.and_two_pow_sub_one_eq_mod]
  show IntKind.i64.wrap ((BitVec.ofInt 64 n &&& BitVec.ofInt 64 1073741823).toNat : Nat) = n % 1073741824
  rw [key, IntKind.wrap_i64]
  omega

theorem CurAt.set2 {w : World} {B g : Nat} {A : Option Addr} {n c : Nat} {i h : Int} (hc : CurAt w B g A n c i h) (h' : Int) : CurAt (w.setCell ⟨g, 2, none⟩ (.int .i64 h')) B g A n c i h' :=
  ⟨by have := hc.cells.set_ 2 (.int .i64 h'); simpa using this, hc.own, hc.bytes.below ((Below.refl B w).setCell hc.own _), hc.size, hc.lo, hc.hi⟩
theorem CurAt.set1 {w : World} {B g : Nat} {A : Option Addr} {n c : Nat} {i h : Int} (hc : CurAt w B g A n c i h) (i' : Int) (h0 : 0 ≤ i') (h1 : i' ≤ n) : CurAt (w.setCell ⟨g, 1, none⟩ (.int .i64 i')) B g A n c i' h :=
  ⟨by have := hc.cells.set_ 1 (.int .i64 i'); simpa using this, hc.own, hc.bytes.below ((Below.refl B w).setCell hc.own _), hc.size, h0, h1⟩
theorem CurAt.drewN {w : World} {B g : Nat} {A : Option Addr} {n c : Nat} {i h : Int} (hc : CurAt w B g A n c i h) (k : Nat) : CurAt (w.drewN k) B g A n c i h :=
  ⟨hc.cells, hc.own, hc.bytes, hc.size, hc.lo, hc.hi⟩
theorem But.drewN_ {g : Nat} {a w : World} (h : But g a w) (k : Nat) : But g a (w.drewN k) := h.trans ⟨rfl, rfl, rfl, Nat.le_refl _, fun _ _ _ => rfl⟩

set_option maxRecDepth 100000 in
set_option maxHeartbeats 1000000 in
theorem drawByte (B g : Nat) (w : World) (hw : Cur w B g) :
    Calls Tryz.prog 61 #[.pointer (some ⟨g, 0, none⟩)] w (Drawn IsByte B g w) := by
  obtain ⟨A, n, c, i, h, hc⟩ := hw
  obtain ⟨k, rfl⟩ := Int.eq_ofNat_of_zero_le hc.lo
  have hkn : k ≤ n := by have := hc.hi; omega
  have hn := hc.size
  have c2 : w.cell? ⟨g, 2, none⟩ = some (.int .i64 h) := by rw [hc.cells.cell]; rfl
  have f2 : w.frozen? ⟨g, 2, none⟩ = false := hc.cells.frozen 2
  have k255 := and255
  go_enter Tryz.func61, Tryz.ntmps61
  go_wp2
  generalize RowKit.wrap64 (RowKit.wrap64 (h * 6364136223846793005) + 1442695040888963407) = h'
  have hc' := hc.set2 h'
  have hb' : But g w (w.setCell ⟨g, 2, none⟩ (.int .i64 h')) := But.set_ g w 2 (.int .i64 h')
  clear c2 f2
  generalize w.setCell ⟨g, 2, none⟩ (.int .i64 h') = w1 at *
  have c0 : w1.cell? ⟨g, 0, none⟩ = some (.slice A n c) := by rw [hc'.cells.cell]; rfl
  have c1 : w1.cell? ⟨g, 1, none⟩ = some (.int .i64 k) := by rw [hc'.cells.cell]; rfl
  have c2 : w1.cell? ⟨g, 2, none⟩ = some (.int .i64 h') := by rw [hc'.cells.cell]; rfl
  have f1 : w1.frozen? ⟨g, 1, none⟩ = false := hc'.cells.frozen 1
  by_cases hlt : k < n
  · obtain ⟨b, o, z, rfl, hb, hz0, hz1, cz⟩ := hc'.bytes k hlt
    have hk0 : (0 : Int) ≤ k := by omega
    go_quiet (fail)
    go_wp2
    go_quiet (fail)
    go_wp2
    go_quiet (fail)
    go_wp2
    go_ret
    exact ⟨_, rfl, ⟨_, rfl, by omega, by omega⟩, ⟨_, _, _, _, _, (hc'.drewN _).set1 (k + 1) (by omega) (by omega)⟩, (hb'.drewN_ _).trans (But.set_ g _ 1 _)⟩
  · go_quiet (fail)
    go_wp2
    go_quiet (fail)
    go_wp2
    go_ret
    exact ⟨_, rfl, ⟨_, rfl, by omega, by omega⟩, ⟨_, _, _, _, _, (hc'.drewN _).drewN _⟩, (hb'.drewN_ _).drewN_ _⟩

/-- A number from 0 on, below n. -/
def IsBelow (n : Int) (v : Value) : Prop := ∃ x : Int, v = .int .i64 x ∧ 0 ≤ x ∧ x < n

set_option maxRecDepth 100000 in
set_option maxHeartbeats 1000000 in
theorem drawBelow (B g : Nat) (n : Int) (w : World) (hw : Cur w B g) (h0 : 0 < n) (h1 : n ≤ 9223372036854775807) :
    Calls Tryz.prog 28 #[.pointer (some ⟨g, 0, none⟩), .int .i64 n] w (Drawn (IsBelow n) B g w) := by
  by_cases hs : n ≤ 256
  · go_enter Tryz.func28, Tryz.ntmps28
    go_wp2_with fail
    refine (drawByte B g _ hw).mono ?_
    rintro e w1 ⟨v, rfl, ⟨x, rfl, x0, x1⟩, hc1, hb1⟩
    have hm0 := Int.emod_nonneg x (show n ≠ 0 by omega)
    have hm1 := Int.emod_lt_of_pos x h0
    go_wp2
    go_ret
    exact ⟨_, rfl, ⟨_, rfl, hm0, hm1⟩, hc1, hb1⟩
  · go_enter Tryz.func28, Tryz.ntmps28
    go_wp2_with fail
    refine (drawByte B g _ hw).mono ?_
    rintro e w1 ⟨v, rfl, ⟨x, rfl, x0, x1⟩, hc1, hb1⟩
    go_wp2_with fail
    refine (drawByte B g _ hc1).mono ?_
    rintro e w2 ⟨v, rfl, ⟨y, rfl, y0, y1⟩, hc2, hb2⟩
    go_wp2_with fail
    refine (drawByte B g _ hc2).mono ?_
    rintro e w3 ⟨v, rfl, ⟨z, rfl, z0, z1⟩, hc3, hb3⟩
    go_wp2_with fail
    refine (drawByte B g _ hc3).mono ?_
    rintro e w4 ⟨v, rfl, ⟨t, rfl, t0, t1⟩, hc4, hb4⟩
    have hm0 := Int.emod_nonneg (x * 16777216 + y * 65536 + z * 256 + t) (show n ≠ 0 by omega)
    have hm1 := Int.emod_lt_of_pos (x * 16777216 + y * 65536 + z * 256 + t) h0
    go_wp2
    go_ret
    exact ⟨_, rfl, ⟨_, rfl, hm0, hm1⟩, hc4, ((hb1.trans hb2).trans hb3).trans hb4⟩

/-- One of the strings of a list. -/
def IsOneOf (ss : List ByteArray) (v : Value) : Prop := ∃ x ∈ ss, v = .string x
set_option maxRecDepth 100000 in
theorem drawPick (B g r c : Nat) (ss : List ByteArray) (w : World) (hw : Cur w B g) (hr : Whole w r 9 (ss.map Value.string).toArray) (hne : 0 < ss.length) (hlen : ss.length ≤ 1000000) (hrg : r ≠ g) :
    Calls Tryz.prog 42 #[.pointer (some ⟨g, 0, none⟩), .slice (some ⟨r, 0, none⟩) ss.length c] w (Drawn (IsOneOf ss) B g w) := by
  have hrl := hr.lt
  go_enter Tryz.func42, Tryz.ntmps42
  go_wp2_with fail
  refine (drawBelow B g _ _ hw (by omega) (by omega)).mono ?_
  rintro e w1 ⟨v, rfl, ⟨x, rfl, x0, x1⟩, hc1, hb1⟩
  obtain ⟨k, rfl⟩ := Int.eq_ofNat_of_zero_le x0
  have hk : k < ss.length := by omega
  have hcell : w1.cell? ⟨r, k, none⟩ = some (.string ss[k]) := by
    have h2 : Whole w1 r 9 (ss.map Value.string).toArray := (hb1.block r hrl hrg).trans hr
    rw [h2.cell]; simp [hk]
  go_wp2
  go_ret
  exact ⟨_, rfl, ⟨_, List.getElem_mem hk, rfl⟩, hc1, hb1⟩

/-- A NEW CURSOR. -/
def NewCur (w : World) (e : Ending) (w' : World) : Prop := ∃ g, e = .returned (.pointer (some ⟨g, 0, none⟩)) ∧ Cur w' w.heap.size g ∧ Below w.heap.size w w'
set_option maxRecDepth 100000 in
set_option maxHeartbeats 1000000 in
theorem drawNew (A : Option Addr) (n c : Nat) (w : World) (hA : BytesAt w w.heap.size A n) (hn : n ≤ 140737488355328) :
    Calls Tryz.prog 18 #[.slice A n c] w (NewCur w) := by
  have k30 := and30
  have HA := Lib.hid hA
  clear hA
  go_enter Tryz.func18, Tryz.ntmps18
  go_wp2
  go_loop [3, 4] (fun hv iv => ∃ (k : Nat) (h : Int), k ≤ n ∧ iv = .int .i64 k ∧ hv = .int .i64 h ∧ 0 ≤ h ∧ h ≤ 281474976710656) (fun _ iv => n - (Go.RowKit.intOf iv).toNat)
  case atStart => exact ⟨0, _, Nat.zero_le _, rfl, rfl, by omega, by omega⟩
  case round =>
    obtain ⟨k, h, hk, rfl, rfl, h0, h1⟩ := hrel
    by_cases hlt : k < n
    · obtain ⟨b, o, z, rfl, hb, hz0, hz1, cz⟩ := HA.out k hlt
      by_cases hs : k < 4000
      · go_wp2
        go_round
        case rel => exact ⟨k + 1, _, by omega, by go_num, rfl, by omega, by omega⟩
        case measure => simp [Go.RowKit.intOf]; omega
      · go_wp2
        go_ret
        refine ⟨_, rfl, ⟨_, _, _, _, _, ⟨Whole.new _ _ _, Nat.le_refl _, ?_, by omega, by omega, by omega⟩⟩, (Below.refl _ _).alloc (Nat.le_refl _) _⟩
        exact HA.out.below ((Below.refl _ _).alloc (Nat.le_refl _) _)
    · go_wp2
      go_ret
      refine ⟨_, rfl, ⟨_, _, _, _, _, ⟨Whole.new _ _ _, Nat.le_refl _, ?_, by omega, by omega, by omega⟩⟩, (Below.refl _ _).alloc (Nat.le_refl _) _⟩
      exact HA.out.below ((Below.refl _ _).alloc (Nat.le_refl _) _)
end Go.Proofs.YtbcfeoobhemdcaaGreat
namespace Go.Proofs.YtbcfeoobhemdcaaGreat
open Go.RowKit

def IsBool (v : Value) : Prop := ∃ x : Bool, v = .bool x
theorem drawOnce (B g : Nat) (n : Int) (w : World) (hw : Cur w B g) (h0 : 0 < n) (h1 : n ≤ 9223372036854775807) :
    Calls Tryz.prog 23 #[.pointer (some ⟨g, 0, none⟩), .int .i64 n] w (Drawn IsBool B g w) := by
  go_enter Tryz.func23, Tryz.ntmps23
  go_wp2_with fail
  refine (drawBelow B g n _ hw h0 h1).mono ?_
  rintro e w1 ⟨v, rfl, ⟨x, rfl, x0, x1⟩, hc1, hb1⟩
  go_wp2
  go_ret
  exact ⟨_, rfl, ⟨_, rfl⟩, hc1, hb1⟩
end Go.Proofs.YtbcfeoobhemdcaaGreat
namespace Go.Proofs.YtbcfeoobhemdcaaGreat
open Go.RowKit

inductive SX where
  | mk (atom : ByteArray) (list : List SX)
def SX.atom : SX → ByteArray | .mk a _ => a
def SX.list : SX → List SX | .mk _ l => l

mutual
def SX.nodes : SX → Nat
  | .mk _ l => 1 + SX.nodesL l
def SX.nodesL : List SX → Nat
  | [] => 0
  | x :: r => x.nodes + SX.nodesL r
end
mutual
/-- What the laws' guard counts. -/
def SX.wt : SX → Nat
  | .mk a l => a.size + SX.wtL l
def SX.wtL : List SX → Nat
  | [] => 0
  | x :: r => 1 + x.wt + SX.wtL r
end
mutual
/-- No text and no list is longer than a Go int. -/
def SX.ok : SX → Prop
  | .mk a l => a.size ≤ 9223372036854775807 ∧ l.length ≤ 9223372036854775807 ∧ SX.okL l
def SX.okL : List SX → Prop
  | [] => True
  | x :: r => x.ok ∧ SX.okL r
end
theorem SX.nodes_eq (x : SX) : x.nodes = 1 + SX.nodesL x.list := by cases x; rw [SX.nodes]; rfl
theorem SX.wt_eq (x : SX) : x.wt = x.atom.size + SX.wtL x.list := by cases x; rw [SX.wt]; rfl
theorem SX.nodesL_at : ∀ (l : List SX) (j : Nat) (h : j < l.length), l[j].nodes ≤ SX.nodesL l
  | x :: r, 0, _ => by rw [SX.nodesL]; simp
  | x :: r, j + 1, h => by
    have := SX.nodesL_at r j (by simpa using h)
    rw [SX.nodesL]; simp; omega
theorem SX.wtL_take : ∀ (l : List SX) (j : Nat) (h : j < l.length), SX.wtL (l.take (j + 1)) = SX.wtL (l.take j) + 1 + l[j].wt
  | x :: r, 0, _ => by simp [SX.wtL]
  | x :: r, j + 1, h => by
    have := SX.wtL_take r j (by simpa using h)
    rw [List.take_succ_cons, List.take_succ_cons, SX.wtL, SX.wtL, this]
    simp; omega
theorem SX.wtL_le : ∀ (l : List SX) (j : Nat), SX.wtL (l.take j) ≤ SX.wtL l
  | [], j => by simp
  | x :: r, 0 => by simp [SX.wtL]
  | x :: r, j + 1 => by
    have := SX.wtL_le r j
    rw [List.take_succ_cons, SX.wtL, SX.wtL]; omega
theorem SX.wtL_length : ∀ (l : List SX), l.length ≤ SX.wtL l
  | [] => by simp [SX.wtL]
  | x :: r => by have := SX.wtL_length r; rw [SX.wtL, List.length_cons]; omega
theorem SX.wtL_at (l : List SX) (j : Nat) (h : j < l.length) : 1 + l[j].wt ≤ SX.wtL l := by
  have h1 := SX.wtL_take l j h
  have h2 := SX.wtL_le l (j + 1)
  omega
theorem SX.wtL_rest : ∀ (l : List SX) (j : Nat), j ≤ l.length → SX.wtL (l.take j) + (l.length - j) ≤ SX.wtL l
  | [], j, h => by simp at h; subst h; simp [SX.wtL]
  | x :: r, 0, _ => by have := SX.wtL_length (x :: r); simp [SX.wtL] at this ⊢; omega
  | x :: r, j + 1, h => by
    have := SX.wtL_rest r j (by simpa using h)
    rw [List.take_succ_cons, SX.wtL, SX.wtL, List.length_cons]; omega
theorem SX.okL_at : ∀ (l : List SX), SX.okL l → ∀ (j : Nat) (h : j < l.length), l[j].ok
  | x :: r, ho, 0, _ => by rw [SX.okL] at ho; exact ho.1
  | x :: r, ho, j + 1, h => by rw [SX.okL] at ho; exact SX.okL_at r ho.2 j (by simpa using h)
theorem SX.ok_eq (x : SX) (h : x.ok) : x.atom.size ≤ 9223372036854775807 ∧ x.list.length ≤ 9223372036854775807 ∧ SX.okL x.list := by
  cases x; rw [SX.ok] at h; exact h

mutual
/-- The two cells at (b, o) are this expression; the rows that it leads to lie in blocks of P. -/
def RdX (w : World) (P : Nat → Prop) : SX → Nat → Nat → Prop
  | .mk a l, b, o => w.cell? ⟨b, o, none⟩ = some (.string a) ∧ ∃ A c, w.cell? ⟨b, o + 1, none⟩ = some (.slice A l.length c) ∧ (l = [] ∨ ∃ b' o', A = some ⟨b', o', none⟩ ∧ P b' ∧ RdE w P l b' o')
def RdE (w : World) (P : Nat → Prop) : List SX → Nat → Nat → Prop
  | [], _, _ => True
  | x :: r, b, o => RdX w P x b o ∧ RdE w P r b (o + 2)
end
/-- The slice at A reads as this list. -/
def ListAt (w : World) (P : Nat → Prop) (A : Option Addr) (l : List SX) : Prop := l = [] ∨ ∃ b o, A = some ⟨b, o, none⟩ ∧ P b ∧ RdE w P l b o

theorem RdX_iff {w : World} {P : Nat → Prop} {x : SX} {b o : Nat} : RdX w P x b o ↔ w.cell? ⟨b, o, none⟩ = some (.string x.atom) ∧ ∃ A c, w.cell? ⟨b, o + 1, none⟩ = some (.slice A x.list.length c) ∧ ListAt w P A x.list := by
  cases x with
  | mk a l => rw [RdX]; rfl
theorem RdE_at {w : World} {P : Nat → Prop} : ∀ (l : List SX) (b o : Nat), RdE w P l b o → ∀ (j : Nat) (h : j < l.length), RdX w P l[j] b (o + j * 2)
  | x :: r, b, o, hr, 0, _ => by rw [RdE] at hr; simpa using hr.1
  | x :: r, b, o, hr, j + 1, h => by
    rw [RdE] at hr
    have := RdE_at r b (o + 2) hr.2 j (by simpa using h)
    rw [show o + (j + 1) * 2 = o + 2 + j * 2 by omega]
    simpa using this
theorem RdE_of {w : World} {P : Nat → Prop} : ∀ (l : List SX) (b o : Nat), (∀ (j : Nat) (h : j < l.length), RdX w P l[j] b (o + j * 2)) → RdE w P l b o
  | [], _, _, _ => by rw [RdE]; trivial
  | x :: r, b, o, hr => by
    rw [RdE]
    refine ⟨by have h0 := hr 0 (by simp); rw [Nat.zero_mul, Nat.add_zero] at h0; exact h0, RdE_of r b (o + 2) fun j h => ?_⟩
    have := hr (j + 1) (by simpa using h)
    rw [show o + (j + 1) * 2 = o + 2 + j * 2 by omega] at this
    simpa using this

mutual
theorem RdX_frame {w w' : World} {P Q : Nat → Prop} (hPQ : ∀ b, P b → Q b) (hk : ∀ b o, P b → w'.cell? ⟨b, o, none⟩ = w.cell? ⟨b, o, none⟩) :
    ∀ (x : SX) (b o : Nat), w'.cell? ⟨b, o, none⟩ = w.cell? ⟨b, o, none⟩ → w'.cell? ⟨b, o + 1, none⟩ = w.cell? ⟨b, o + 1, none⟩ → RdX w P x b o → RdX w' Q x b o
  | .mk a l, b, o, h0, h1, h => by
    rw [RdX] at h ⊢
    obtain ⟨ha, A, c, hc, hl⟩ := h
    refine ⟨h0.trans ha, A, c, h1.trans hc, ?_⟩
    rcases hl with hl | ⟨b', o', hA, hP, hr⟩
    · exact .inl hl
    · exact .inr ⟨b', o', hA, hPQ b' hP, RdE_frame hPQ hk l b' o' (fun k => hk b' k hP) hr⟩
theorem RdE_frame {w w' : World} {P Q : Nat → Prop} (hPQ : ∀ b, P b → Q b) (hk : ∀ b o, P b → w'.cell? ⟨b, o, none⟩ = w.cell? ⟨b, o, none⟩) :
    ∀ (l : List SX) (b o : Nat), (∀ k, w'.cell? ⟨b, k, none⟩ = w.cell? ⟨b, k, none⟩) → RdE w P l b o → RdE w' Q l b o
  | [], _, _, _, _ => by rw [RdE]; trivial
  | x :: r, b, o, hb, h => by
    rw [RdE] at h ⊢
    exact ⟨RdX_frame hPQ hk x b o (hb o) (hb (o + 1)) h.1, RdE_frame hPQ hk r b (o + 2) hb h.2⟩
end
theorem ListAt.frame {w w' : World} {P Q : Nat → Prop} {A : Option Addr} {l : List SX} (h : ListAt w P A l) (hPQ : ∀ b, P b → Q b) (hk : ∀ b o, P b → w'.cell? ⟨b, o, none⟩ = w.cell? ⟨b, o, none⟩) : ListAt w' Q A l := by
  rcases h with h | ⟨b, o, hA, hP, hr⟩
  · exact .inl h
  · exact .inr ⟨b, o, hA, hPQ b hP, RdE_frame hPQ hk l b o (fun k => hk b k hP) hr⟩
/-- Where there is an element at j: where it lies, and what it is. -/
theorem ListAt.at_ {w : World} {P : Nat → Prop} {A : Option Addr} {l : List SX} (h : ListAt w P A l) {j : Nat} (hj : j < l.length) :
    ∃ b o A' c', A = some ⟨b, o, none⟩ ∧ P b ∧ w.cell? ⟨b, o + j * 2, none⟩ = some (.string l[j].atom) ∧ w.cell? ⟨b, o + j * 2 + 1, none⟩ = some (.slice A' l[j].list.length c') ∧ ListAt w P A' l[j].list := by
  rcases h with h | ⟨b, o, hA, hP, hr⟩
  · subst h; simp at hj
  · obtain ⟨h0, A', c', h1, hl⟩ := RdX_iff.1 (RdE_at l b o hr j hj)
    exact ⟨b, o, A', c', hA, hP, h0, h1, hl⟩
/-- Below a block number. -/
def Lt (B : Nat) (b : Nat) : Prop := b < B
theorem ListAt.below {w w' : World} {B : Nat} {A : Option Addr} {l : List SX} (h : ListAt w (Lt B) A l) (hb : Below B w w') : ListAt w' (Lt B) A l :=
  h.frame (fun _ h => h) fun b o hP => hb.cell (p := ⟨b, o, none⟩) hP
theorem ListAt.grow {w w' : World} {A : Option Addr} {l : List SX} (h : ListAt w (Lt w.heap.size) A l) (hb : Below w.heap.size w w') : ListAt w' (Lt w'.heap.size) A l :=
  h.frame (fun _ h => Nat.lt_of_lt_of_le h hb.size) fun b o hP => hb.cell (p := ⟨b, o, none⟩) hP
end Go.Proofs.YtbcfeoobhemdcaaGreat
namespace Go.Proofs.YtbcfeoobhemdcaaGreat
open Go.RowKit

theorem infoString : (Tryz.prog.info? 9).map (fun i => (i.zero, i.size, i.bytes)) = some (some (.string ByteArray.empty), 1, 16) := by kernel_rfl
theorem news_one (w : World) (t : TypeId) (x : Value) : ∀ (j : Nat) (u : Value), [x][j]? = some u → (w.alloc (.cells #[x] t)).cell? ((⟨w.heap.size, 0, none⟩ : Addr).add j) = some u := by
  intro j u hj
  match j, hj with
  | 0, hj => simp at hj; subst hj; simp [Addr.add]
theorem one_string (x : ByteArray) : ∀ u ∈ [Value.string x], u.oneCell' = true := by
  intro u hu
  simp at hu
  subst hu
  rfl
theorem strs_map (d : List ByteArray) (x : ByteArray) : d.map Value.string ++ [.string x] = (d ++ [x]).map Value.string := by simp

/-- What is owned stays so under a call that turns nothing that was there. -/
theorem owns_below {B : Nat} {e : TypeId} {k : Nat} {v : Value} {n : Nat} {xs : List Value} {w w' : World} (h : w.ownsRow B e k v n xs) (hb : Below w.heap.size w w') : w'.ownsRow B e k v n xs :=
  h.kept (row := none) ⟨hb.os, hb.tape, hb.output, hb.size, fun j hj _ => hb.block j hj⟩ (by cases hv : v.ownBlock <;> simp)
/-- An owned row of strings reads as them. -/
theorem strs_own {w : World} {B : Nat} {e : TypeId} {v : Value} {d : List ByteArray} (h : w.ownsRow B e 1 v d.length (d.map Value.string)) : ∃ A c, v = .slice A d.length c ∧ Strs w A d := by
  rcases h.2 with ⟨rfl, h0⟩ | ⟨g, cap, cur, rfl, _⟩
  · exact ⟨none, 0, by rw [h0], .inl (List.eq_nil_of_length_eq_zero h0)⟩
  · refine ⟨_, cap, rfl, .inr ⟨g, 0, rfl, (h.lt g rfl).2, fun j s hj => ?_⟩⟩
    have hjl : j < d.length := by
      rcases Nat.lt_or_ge j d.length with h | h
      · exact h
      · rw [List.getElem?_eq_none h] at hj; cases hj
    rw [Nat.zero_add, World.ownsRow.cellAt h j (by omega), List.getElem?_map, hj]
    rfl
theorem own_same {w w' : World} {B size n : Nat} {e : TypeId} {v : Value} {xs : List Value} (h : w.ownsRow B e size v n xs) (hb : ∀ b, v.ownBlock = some b → w'.heap[b]? = w.heap[b]?) : w'.ownsRow B e size v n xs := by
  refine ⟨h.1, ?_⟩
  rcases h.2 with hn | ⟨g, cap, cur, rfl, hbg, hg, rest⟩
  · exact .inl hn
  · exact .inr ⟨g, cap, cur, rfl, hbg, (hb g rfl).trans hg, rest⟩
end Go.Proofs.YtbcfeoobhemdcaaGreat
namespace Go.Proofs.YtbcfeoobhemdcaaGreat
open Go.RowKit Go.Lib

theorem infoSx : (Tryz.prog.info? 33).map (fun i => (i.zero, i.size, i.bytes)) = some (some (.agg #[.string ByteArray.empty, .slice none 0 0]), 2, 40) := by kernel_rfl

/-- Blocks from B on, below C. -/
def New (B C : Nat) (b : Nat) : Prop := B ≤ b ∧ b < C
/-- The cells vs are these expressions, one after another. -/
def Elems (w : World) (P : Nat → Prop) : List SX → List Value → Prop
  | [], vs => vs = []
  | x :: r, vs => ∃ A c rest, vs = .string x.atom :: .slice A x.list.length c :: rest ∧ ListAt w P A x.list ∧ Elems w P r rest
theorem Elems.snoc {w : World} {P : Nat → Prop} : ∀ {l : List SX} {vs : List Value}, Elems w P l vs → ∀ {x : SX} {A : Option Addr} {c : Nat}, ListAt w P A x.list → Elems w P (l ++ [x]) (vs ++ [.string x.atom, .slice A x.list.length c])
  | [], vs, h, x, A, c, hl => by
    rw [Elems] at h; subst h
    exact ⟨A, c, [], rfl, hl, rfl⟩
  | y :: r, vs, h, x, A, c, hl => by
    obtain ⟨A', c', rest, rfl, h1, h2⟩ := h
    exact ⟨A', c', rest ++ _, rfl, h1, h2.snoc hl⟩
theorem Elems.frame {w w' : World} {P Q : Nat → Prop} (hPQ : ∀ b, P b → Q b) (hk : ∀ b o, P b → w'.cell? ⟨b, o, none⟩ = w.cell? ⟨b, o, none⟩) : ∀ {l : List SX} {vs : List Value}, Elems w P l vs → Elems w' Q l vs
  | [], vs, h => h
  | y :: r, vs, h => by
    obtain ⟨A', c', rest, rfl, h1, h2⟩ := h
    exact ⟨A', c', rest, rfl, h1.frame hPQ hk, h2.frame hPQ hk⟩
theorem Elems.at_ {w : World} {P : Nat → Prop} : ∀ {l : List SX} {vs : List Value}, Elems w P l vs → ∀ (j : Nat) (h : j < l.length), vs[j * 2]? = some (.string l[j].atom) ∧ ∃ A c, vs[j * 2 + 1]? = some (.slice A l[j].list.length c) ∧ ListAt w P A l[j].list
  | y :: r, vs, h, 0, _ => by
    obtain ⟨A', c', rest, rfl, h1, h2⟩ := h
    exact ⟨rfl, A', c', rfl, h1⟩
  | y :: r, vs, h, j + 1, hj => by
    obtain ⟨A', c', rest, rfl, h1, h2⟩ := h
    have h3 := h2.at_ j (by simpa using hj)
    rw [show (j + 1) * 2 = j * 2 + 1 + 1 by omega]
    simpa using h3
/-- A row of the call's own that holds these expressions reads as them. -/
theorem list_own {w : World} {P : Nat → Prop} {B : Nat} {e : TypeId} {v : Value} {l : List SX} {vs : List Value} (h : w.ownsRow B e 2 v l.length vs) (he : Elems w P l vs) (hP : ∀ b, v.ownBlock = some b → P b) :
    ∃ A c, v = .slice A l.length c ∧ ListAt w P A l := by
  rcases h.2 with ⟨rfl, h0⟩ | ⟨g, cap, cur, rfl, _⟩
  · exact ⟨none, 0, by rw [h0], .inl (List.eq_nil_of_length_eq_zero h0)⟩
  · refine ⟨_, cap, rfl, .inr ⟨g, 0, rfl, hP g rfl, RdE_of l g 0 fun j hj => ?_⟩⟩
    obtain ⟨h0, A, c, h1, h2⟩ := he.at_ j hj
    refine RdX_iff.2 ⟨?_, A, c, ?_, h2⟩
    · rw [Nat.zero_add, World.ownsRow.cellAt h _ (by omega), h0]
    · rw [Nat.zero_add, World.ownsRow.cellAt h _ (by omega), h1]
/-- The cells of one expression, just laid into a new block. -/
theorem news_sx (w : World) (t : TypeId) (a b : Value) : ∀ (j : Nat) (u : Value), [a, b][j]? = some u → (w.alloc (.cells #[a, b] t)).cell? ((⟨w.heap.size, 0, none⟩ : Addr).add j) = some u := by
  intro j u hj
  match j, hj with
  | 0, hj => simp at hj; subst hj; simp [Addr.add]
  | 1, hj => simp at hj; subst hj; simp [Addr.add]
theorem one_sx (x : ByteArray) (A : Option Addr) (n c : Nat) : ∀ u ∈ [Value.string x, Value.slice A n c], u.oneCell' = true := by
  intro u hu
  simp at hu
  rcases hu with rfl | rfl <;> rfl
end Go.Proofs.YtbcfeoobhemdcaaGreat
namespace Go.Proofs.YtbcfeoobhemdcaaGreat
open Go.RowKit Go.Lib

theorem Whole.but {w w' : World} {g h : Nat} {t : TypeId} {cs : Array Value} (hw : Whole w h t cs) (hb : But g w w') (hne : h ≠ g) : Whole w' h t cs := (hb.block h hw.lt hne).trans hw
theorem Whole.drewN_ {w : World} {h : Nat} {t : TypeId} {cs : Array Value} (hw : Whole w h t cs) (n : Nat) : Whole (w.drewN n) h t cs := hw
theorem Whole.of_alloc {w : World} {h : Nat} {t : TypeId} {cs : Array Value} (hw : Whole w h t cs) (o : Obj) : Whole (w.alloc o) h t cs := (Below.heap_alloc w o h hw.lt).trans hw
theorem But.far {g : Nat} {a w : World} (h : But g a w) {p : Addr} (hp : a.heap.size ≤ p.block) (v : Value) : But g a (w.setCell p v) := by
  obtain ⟨h1, h2, h3, h4, h5⟩ := h
  refine ⟨h1, h2, h3, by simpa using h4, fun k hk hne => ?_⟩
  rw [Below.heap_setCell _ _ _ _ (by omega)]
  exact h5 k hk hne
theorem But.alloc_ {g : Nat} {a w : World} (h : But g a w) (o : Obj) : But g a (w.alloc o) := h.trans (But.of_below ((Below.refl _ _).alloc (Nat.le_refl _) o))
theorem But.grown {g : Nat} {a w w' : World} {row : Option Nat} (h : But g a w) (hg : w.grownBy w' row) (hrow : ∀ k, row = some k → a.heap.size ≤ k) : But g a w' :=
  ⟨hg.os.trans h.os, hg.tape.trans h.tape, hg.output.trans h.output, Nat.le_trans h.size hg.size, fun k hk hne =>
    (hg.block k (Nat.lt_of_lt_of_le hk h.size) (fun e => by have := hrow k e.symm; omega)).trans (h.block k hk hne)⟩
theorem But.under {g : Nat} {a w : World} {o : Obj} (h : But g (a.alloc o) w) : But g a w := (But.of_below ((Below.refl _ _).alloc (Nat.le_refl _) o)).trans h
theorem own_shape {w : World} {B : Nat} {e : TypeId} {size n : Nat} {v : Value} {xs : List Value} (h : w.ownsRow B e size v n xs) : ∃ A c, v = .slice A n c := by
  rcases h.2 with ⟨rfl, rfl⟩ | ⟨g, cap, cur, rfl, _⟩
  · exact ⟨_, _, rfl⟩
  · exact ⟨_, _, rfl⟩
theorem own_but {w w' : World} {g B : Nat} {e : TypeId} {size n : Nat} {v : Value} {xs : List Value} (h : w.ownsRow B e size v n xs) (hb : But g w w') (hg : g < B) : w'.ownsRow B e size v n xs :=
  h.kept (row := some g) ⟨hb.os, hb.tape, hb.output, hb.size, fun k hk hne => hb.block k hk (fun e => hne (by rw [e]))⟩ (by
    cases hv : v.ownBlock with
    | none => exact .inl rfl
    | some b => exact .inr (by intro e; injection e with e; have := (h.lt b hv).1; omega))
theorem behind2 {X k : Nat} {w6 w7 : World} {V v : Value} {vs : List Value} {o : Obj} {e : TypeId} (hc : w6.cell? ⟨X, 1, none⟩ = some v) (hf : w6.frozen? ⟨X, 1, none⟩ = false) (hown : w6.ownsRow (X + 1) e 2 V k vs) (hX : X < w6.heap.size) (hg : (w6.alloc o).grownBy w7 V.ownBlock) :
    w7.cell? ⟨X, 1, none⟩ = some v ∧ w7.frozen? ⟨X, 1, none⟩ = false := by
  have hb : w7.heap[X]? = w6.heap[X]? := (hg.block X (by simp; omega) (fun e => by have := (hown.lt X e.symm).1; omega)).trans (Below.heap_alloc _ _ _ hX)
  exact ⟨(World.cell?_of_block (a := ⟨X, 1, none⟩) hb).trans hc, (World.frozen?_of_block (a := ⟨X, 1, none⟩) hb).trans hf⟩
end Go.Proofs.YtbcfeoobhemdcaaGreat
namespace Go.Proofs.YtbcfeoobhemdcaaGreat
open Go.RowKit

/-- What a cell holds: a plain value, or a slice: its elements, each the data of its k cells; e: the elements' type. -/
inductive DV where
  | pl (u : Value)
  | row (e : TypeId) (k : Nat) (xs : List (List DV))

mutual
def DV.nodes : DV → Nat
  | .pl _ => 0
  | .row _ _ xs => DV.nodesE xs
def DV.nodesL : List DV → Nat
  | [] => 0
  | d :: r => d.nodes + DV.nodesL r
def DV.nodesE : List (List DV) → Nat
  | [] => 0
  | x :: r => 1 + DV.nodesL x + DV.nodesE r
end
def uwt : Value → Nat
  | .string s => s.size
  | _ => 0
mutual
/-- What the laws' guard counts. -/
def DV.wt : DV → Nat
  | .pl u => uwt u
  | .row _ _ xs => DV.wtE xs
def DV.wtL : List DV → Nat
  | [] => 0
  | d :: r => d.wt + DV.wtL r
def DV.wtE : List (List DV) → Nat
  | [] => 0
  | x :: r => 1 + DV.wtL x + DV.wtE r
end

mutual
/-- The value v is this; the rows that it leads to lie in blocks of P. -/
def RdV (w : World) (P : Nat → Prop) : DV → Value → Prop
  | .pl u, v => v = u
  | .row _ k xs, v => ∃ A cap, v = .slice A xs.length cap ∧ xs.length ≤ cap ∧ cap ≤ 9223372036854775807 ∧
      (xs = [] ∨ ∃ b o, A = some ⟨b, o, none⟩ ∧ P b ∧ ∃ vs, RdVE w P k xs vs ∧ ∀ i v, vs[i]? = some v → w.cell? ⟨b, o + i, none⟩ = some v)
def RdVs (w : World) (P : Nat → Prop) : List DV → List Value → Prop
  | [], vs => vs = []
  | d :: r, vs => ∃ v vs', vs = v :: vs' ∧ RdV w P d v ∧ RdVs w P r vs'
def RdVE (w : World) (P : Nat → Prop) (k : Nat) : List (List DV) → List Value → Prop
  | [], vs => vs = []
  | x :: r, vs => ∃ v1 v2, vs = v1 ++ v2 ∧ x.length = k ∧ RdVs w P x v1 ∧ RdVE w P k r v2
end
theorem RdV_pl {w : World} {P : Nat → Prop} {u v : Value} : RdV w P (.pl u) v ↔ v = u := by rw [RdV]
theorem RdV_row {w : World} {P : Nat → Prop} {e : TypeId} {k : Nat} {xs : List (List DV)} {v : Value} : RdV w P (.row e k xs) v ↔ ∃ A cap, v = .slice A xs.length cap ∧ xs.length ≤ cap ∧ cap ≤ 9223372036854775807 ∧
      (xs = [] ∨ ∃ b o, A = some ⟨b, o, none⟩ ∧ P b ∧ ∃ vs, RdVE w P k xs vs ∧ ∀ i v, vs[i]? = some v → w.cell? ⟨b, o + i, none⟩ = some v) := by rw [RdV]
theorem RdV_e {w : World} {P : Nat → Prop} {e e' : TypeId} {k : Nat} {xs : List (List DV)} {v : Value} (h : RdV w P (.row e k xs) v) : RdV w P (.row e' k xs) v := by rw [RdV] at h ⊢; exact h
theorem RdVs_length {w : World} {P : Nat → Prop} : ∀ {ds : List DV} {vs : List Value}, RdVs w P ds vs → vs.length = ds.length
  | [], vs, h => by rw [RdVs] at h; rw [h]; rfl
  | d :: r, vs, h => by
    rw [RdVs] at h
    obtain ⟨v, vs', rfl, _, h2⟩ := h
    rw [List.length_cons, List.length_cons, RdVs_length h2]
theorem RdVE_length {w : World} {P : Nat → Prop} {k : Nat} : ∀ {xs : List (List DV)} {vs : List Value}, RdVE w P k xs vs → vs.length = xs.length * k
  | [], vs, h => by rw [RdVE] at h; rw [h]; simp
  | x :: r, vs, h => by
    rw [RdVE] at h
    obtain ⟨v1, v2, rfl, hk, h1, h2⟩ := h
    rw [List.length_append, RdVs_length h1, RdVE_length h2, hk, List.length_cons, Nat.add_mul]; omega
theorem RdVE_at {w : World} {P : Nat → Prop} {k : Nat} : ∀ {xs : List (List DV)} {vs : List Value}, RdVE w P k xs vs → ∀ (j : Nat) (h : j < xs.length), ∃ ws, RdVs w P xs[j] ws ∧ xs[j].length = k ∧ ∀ i v, ws[i]? = some v → vs[j * k + i]? = some v
  | x :: r, vs, h, 0, _ => by
    rw [RdVE] at h
    obtain ⟨v1, v2, rfl, hk, h1, h2⟩ := h
    refine ⟨v1, h1, hk, fun i v hi => ?_⟩
    rw [Nat.zero_mul, Nat.zero_add, List.getElem?_append_left]
    · exact hi
    · exact (List.getElem?_eq_some_iff.1 hi).1
  | x :: r, vs, h, j + 1, hj => by
    rw [RdVE] at h
    obtain ⟨v1, v2, rfl, hk, h1, h2⟩ := h
    obtain ⟨ws, h3, h4, h5⟩ := RdVE_at h2 j (by simpa using hj)
    refine ⟨ws, by simpa using h3, by simpa using h4, fun i v hi => ?_⟩
    have hl : v1.length = k := by rw [RdVs_length h1, hk]
    rw [List.getElem?_append_right (by rw [hl, Nat.add_mul]; omega), hl, show (j + 1) * k + i - k = j * k + i by rw [Nat.add_mul]; omega]
    exact h5 i v hi
/-- Where there is an element at j: where it lies, and what it is. -/
theorem RdV.at_ {w : World} {P : Nat → Prop} {e : TypeId} {k : Nat} {xs : List (List DV)} {A : Option Addr} {n cap : Nat} (h : RdV w P (.row e k xs) (.slice A n cap)) {j : Nat} (hj : j < xs.length) :
    ∃ b o ws, A = some ⟨b, o, none⟩ ∧ P b ∧ RdVs w P xs[j] ws ∧ ∀ i v, ws[i]? = some v → w.cell? ⟨b, o + j * k + i, none⟩ = some v := by
  rw [RdV] at h
  obtain ⟨A', cap', hv, _, _, h⟩ := h
  injection hv with hA _ _
  subst hA
  rcases h with h | ⟨b, o, hA, hP, vs, hE, hc⟩
  · subst h; simp at hj
  · obtain ⟨ws, h1, _, h3⟩ := RdVE_at hE j hj
    exact ⟨b, o, ws, hA, hP, h1, fun i v hi => by rw [Nat.add_assoc]; exact hc _ _ (h3 i v hi)⟩
theorem RdV.shape {w : World} {P : Nat → Prop} {e : TypeId} {k : Nat} {xs : List (List DV)} {v : Value} (h : RdV w P (.row e k xs) v) : ∃ A cap, v = .slice A xs.length cap ∧ xs.length ≤ cap ∧ cap ≤ 9223372036854775807 := by
  rw [RdV] at h
  obtain ⟨A, cap, hv, h1, h2, _⟩ := h
  exact ⟨A, cap, hv, h1, h2⟩

mutual
theorem RdV_frame {w w' : World} {P Q : Nat → Prop} (hPQ : ∀ b, P b → Q b) (hk : ∀ b o, P b → w'.cell? ⟨b, o, none⟩ = w.cell? ⟨b, o, none⟩) : ∀ (d : DV) {v : Value}, RdV w P d v → RdV w' Q d v
  | .pl u, v, h => by rw [RdV] at h ⊢; exact h
  | .row e k xs, v, h => by
    rw [RdV] at h ⊢
    obtain ⟨A, cap, hv, h1, h2, h⟩ := h
    refine ⟨A, cap, hv, h1, h2, ?_⟩
    rcases h with h | ⟨b, o, hA, hP, vs, hE, hc⟩
    · exact .inl h
    · exact .inr ⟨b, o, hA, hPQ b hP, vs, RdVE_frame hPQ hk xs hE, fun i v hi => (hk b _ hP).trans (hc i v hi)⟩
theorem RdVs_frame {w w' : World} {P Q : Nat → Prop} (hPQ : ∀ b, P b → Q b) (hk : ∀ b o, P b → w'.cell? ⟨b, o, none⟩ = w.cell? ⟨b, o, none⟩) : ∀ (ds : List DV) {vs : List Value}, RdVs w P ds vs → RdVs w' Q ds vs
  | [], vs, h => by rw [RdVs] at h ⊢; exact h
  | d :: r, vs, h => by
    rw [RdVs] at h ⊢
    obtain ⟨v, vs', rfl, h1, h2⟩ := h
    exact ⟨v, vs', rfl, RdV_frame hPQ hk d h1, RdVs_frame hPQ hk r h2⟩
theorem RdVE_frame {w w' : World} {P Q : Nat → Prop} (hPQ : ∀ b, P b → Q b) (hk : ∀ b o, P b → w'.cell? ⟨b, o, none⟩ = w.cell? ⟨b, o, none⟩) {k : Nat} : ∀ (xs : List (List DV)) {vs : List Value}, RdVE w P k xs vs → RdVE w' Q k xs vs
  | [], vs, h => by rw [RdVE] at h ⊢; exact h
  | x :: r, vs, h => by
    rw [RdVE] at h ⊢
    obtain ⟨v1, v2, rfl, hk1, h1, h2⟩ := h
    exact ⟨v1, v2, rfl, hk1, RdVs_frame hPQ hk x h1, RdVE_frame hPQ hk r h2⟩
end
/-- Below a block number. -/
def Und (B : Nat) (b : Nat) : Prop := b < B
theorem RdV.grow {w w' : World} {d : DV} {v : Value} (h : RdV w (Und w.heap.size) d v) (hb : Below w.heap.size w w') : RdV w' (Und w'.heap.size) d v :=
  RdV_frame (fun _ h => Nat.lt_of_lt_of_le h hb.size) (fun b o hP => hb.cell (p := ⟨b, o, none⟩) hP) d h
theorem RdVs.grow {w w' : World} {d : List DV} {v : List Value} (h : RdVs w (Und w.heap.size) d v) (hb : Below w.heap.size w w') : RdVs w' (Und w'.heap.size) d v :=
  RdVs_frame (fun _ h => Nat.lt_of_lt_of_le h hb.size) (fun b o hP => hb.cell (p := ⟨b, o, none⟩) hP) d h

mutual
/-- The value v is this; its rows, all the call's own, lie in just the blocks bs. -/
def OwV (w : World) (B : Nat) : DV → Value → List Nat → Prop
  | .pl u, v, bs => v = u ∧ bs = []
  | .row e k xs, v, bs => ∃ (vs : List Value) (bs' : List Nat), w.ownsRow B e k v xs.length vs ∧ OwVE w B k xs vs bs' ∧ bs = v.ownBlock.toList ++ bs'
def OwVs (w : World) (B : Nat) : List DV → List Value → List Nat → Prop
  | [], vs, bs => vs = [] ∧ bs = []
  | d :: r, vs, bs => ∃ (v : Value) (vs' : List Value) (b1 b2 : List Nat), vs = v :: vs' ∧ bs = b1 ++ b2 ∧ OwV w B d v b1 ∧ OwVs w B r vs' b2
def OwVE (w : World) (B : Nat) (k : Nat) : List (List DV) → List Value → List Nat → Prop
  | [], vs, bs => vs = [] ∧ bs = []
  | x :: r, vs, bs => ∃ (v1 v2 : List Value) (b1 b2 : List Nat), vs = v1 ++ v2 ∧ bs = b1 ++ b2 ∧ x.length = k ∧ OwVs w B x v1 b1 ∧ OwVE w B k r v2 b2
end
theorem OwVs_length {w : World} {B : Nat} : ∀ {ds : List DV} {vs : List Value} {bs : List Nat}, OwVs w B ds vs bs → vs.length = ds.length
  | [], vs, bs, h => by rw [OwVs] at h; rw [h.1]; rfl
  | d :: r, vs, bs, h => by
    rw [OwVs] at h
    obtain ⟨v, vs', b1, b2, rfl, _, _, h2⟩ := h
    rw [List.length_cons, List.length_cons, OwVs_length h2]
theorem OwVE_length {w : World} {B k : Nat} : ∀ {xs : List (List DV)} {vs : List Value} {bs : List Nat}, OwVE w B k xs vs bs → vs.length = xs.length * k
  | [], vs, bs, h => by rw [OwVE] at h; rw [h.1]; simp
  | x :: r, vs, bs, h => by
    rw [OwVE] at h
    obtain ⟨v1, v2, b1, b2, rfl, _, hk, h1, h2⟩ := h
    rw [List.length_append, OwVs_length h1, OwVE_length h2, hk, List.length_cons, Nat.add_mul]; omega
mutual
theorem OwV_frame {w w' : World} {B : Nat} : ∀ (d : DV) {v : Value} {bs : List Nat}, (∀ b ∈ bs, w'.heap[b]? = w.heap[b]?) → OwV w B d v bs → OwV w' B d v bs
  | .pl u, v, bs, _, h => by rw [OwV] at h ⊢; exact h
  | .row e k xs, v, bs, hb, h => by
    rw [OwV] at h ⊢
    obtain ⟨vs, bs', h1, h2, rfl⟩ := h
    exact ⟨vs, bs', own_same h1 fun b hv => hb b (by rw [hv]; simp), OwVE_frame xs (fun b hm => hb b (List.mem_append_right _ hm)) h2, rfl⟩
theorem OwVs_frame {w w' : World} {B : Nat} : ∀ (ds : List DV) {vs : List Value} {bs : List Nat}, (∀ b ∈ bs, w'.heap[b]? = w.heap[b]?) → OwVs w B ds vs bs → OwVs w' B ds vs bs
  | [], vs, bs, _, h => by rw [OwVs] at h ⊢; exact h
  | d :: r, vs, bs, hb, h => by
    rw [OwVs] at h ⊢
    obtain ⟨v, vs', b1, b2, rfl, rfl, h1, h2⟩ := h
    exact ⟨v, vs', b1, b2, rfl, rfl, OwV_frame d (fun b hm => hb b (List.mem_append_left _ hm)) h1, OwVs_frame r (fun b hm => hb b (List.mem_append_right _ hm)) h2⟩
theorem OwVE_frame {w w' : World} {B k : Nat} : ∀ (xs : List (List DV)) {vs : List Value} {bs : List Nat}, (∀ b ∈ bs, w'.heap[b]? = w.heap[b]?) → OwVE w B k xs vs bs → OwVE w' B k xs vs bs
  | [], vs, bs, _, h => by rw [OwVE] at h ⊢; exact h
  | x :: r, vs, bs, hb, h => by
    rw [OwVE] at h ⊢
    obtain ⟨v1, v2, b1, b2, rfl, rfl, hk, h1, h2⟩ := h
    exact ⟨v1, v2, b1, b2, rfl, rfl, hk, OwVs_frame x (fun b hm => hb b (List.mem_append_left _ hm)) h1, OwVE_frame r (fun b hm => hb b (List.mem_append_right _ hm)) h2⟩
end
mutual
/-- Its blocks are from B on, and are there. -/
theorem OwV_lt {w : World} {B : Nat} : ∀ (d : DV) {v : Value} {bs : List Nat}, OwV w B d v bs → ∀ b ∈ bs, B ≤ b ∧ b < w.heap.size
  | .pl u, v, bs, h => by rw [OwV] at h; rw [h.2]; simp
  | .row e k xs, v, bs, h => by
    rw [OwV] at h
    obtain ⟨vs, bs', h1, h2, rfl⟩ := h
    intro b hb
    rcases List.mem_append.1 hb with hb | hb
    · exact h1.lt b (by simpa using hb)
    · exact OwVE_lt xs h2 b hb
theorem OwVs_lt {w : World} {B : Nat} : ∀ (ds : List DV) {vs : List Value} {bs : List Nat}, OwVs w B ds vs bs → ∀ b ∈ bs, B ≤ b ∧ b < w.heap.size
  | [], vs, bs, h => by rw [OwVs] at h; rw [h.2]; simp
  | d :: r, vs, bs, h => by
    rw [OwVs] at h
    obtain ⟨v, vs', b1, b2, rfl, rfl, h1, h2⟩ := h
    intro b hb
    rcases List.mem_append.1 hb with hb | hb
    · exact OwV_lt d h1 b hb
    · exact OwVs_lt r h2 b hb
theorem OwVE_lt {w : World} {B k : Nat} : ∀ (xs : List (List DV)) {vs : List Value} {bs : List Nat}, OwVE w B k xs vs bs → ∀ b ∈ bs, B ≤ b ∧ b < w.heap.size
  | [], vs, bs, h => by rw [OwVE] at h; rw [h.2]; simp
  | x :: r, vs, bs, h => by
    rw [OwVE] at h
    obtain ⟨v1, v2, b1, b2, rfl, rfl, hk, h1, h2⟩ := h
    intro b hb
    rcases List.mem_append.1 hb with hb | hb
    · exact OwVs_lt x h1 b hb
    · exact OwVE_lt r h2 b hb
end
mutual
/-- What is owned from B on is owned from further down on. -/
theorem OwV_wide {w : World} {B B' : Nat} (hB : B' ≤ B) : ∀ (d : DV) {v : Value} {bs : List Nat}, OwV w B d v bs → OwV w B' d v bs
  | .pl u, v, bs, h => by rw [OwV] at h ⊢; exact h
  | .row e k xs, v, bs, h => by
    rw [OwV] at h ⊢
    obtain ⟨vs, bs', h1, h2, rfl⟩ := h
    refine ⟨vs, bs', ⟨h1.1, ?_⟩, OwVE_wide hB xs h2, rfl⟩
    rcases h1.2 with hn | ⟨g, cap, cur, rfl, hbg, rest⟩
    · exact .inl hn
    · exact .inr ⟨g, cap, cur, rfl, by omega, rest⟩
theorem OwVs_wide {w : World} {B B' : Nat} (hB : B' ≤ B) : ∀ (ds : List DV) {vs : List Value} {bs : List Nat}, OwVs w B ds vs bs → OwVs w B' ds vs bs
  | [], vs, bs, h => by rw [OwVs] at h ⊢; exact h
  | d :: r, vs, bs, h => by
    rw [OwVs] at h ⊢
    obtain ⟨v, vs', b1, b2, rfl, rfl, h1, h2⟩ := h
    exact ⟨v, vs', b1, b2, rfl, rfl, OwV_wide hB d h1, OwVs_wide hB r h2⟩
theorem OwVE_wide {w : World} {B B' : Nat} (hB : B' ≤ B) {k : Nat} : ∀ (xs : List (List DV)) {vs : List Value} {bs : List Nat}, OwVE w B k xs vs bs → OwVE w B' k xs vs bs
  | [], vs, bs, h => by rw [OwVE] at h ⊢; exact h
  | x :: r, vs, bs, h => by
    rw [OwVE] at h ⊢
    obtain ⟨v1, v2, b1, b2, rfl, rfl, hk, h1, h2⟩ := h
    exact ⟨v1, v2, b1, b2, rfl, rfl, hk, OwVs_wide hB x h1, OwVE_wide hB r h2⟩
end
mutual
/-- What is owned reads as what it is. -/
theorem OwV_read {w : World} {B : Nat} {P : Nat → Prop} : ∀ (d : DV) {v : Value} {bs : List Nat}, (∀ b ∈ bs, P b) → OwV w B d v bs → RdV w P d v
  | .pl u, v, bs, _, h => by rw [OwV] at h; rw [RdV]; exact h.1
  | .row e k xs, v, bs, hP, h => by
    rw [OwV] at h
    rw [RdV]
    obtain ⟨vs, bs', h1, h2, rfl⟩ := h
    have hE := OwVE_read xs (fun b hm => hP b (List.mem_append_right _ hm)) h2
    rcases h1.2 with ⟨rfl, hn⟩ | ⟨g, cap, cur, rfl, hbg, hg, hnc, hcm, rest⟩
    · exact ⟨none, 0, by rw [hn], by omega, by omega, .inl (List.eq_nil_of_length_eq_zero hn)⟩
    · refine ⟨_, cap, rfl, hnc, by unfold maxLen at hcm; omega, .inr ⟨g, 0, rfl, hP g (by simp [Value.ownBlock]), vs, hE, fun i v hi => ?_⟩⟩
      have hil : i < xs.length * k := by rw [← h1.1]; exact (List.getElem?_eq_some_iff.1 hi).1
      rw [Nat.zero_add, World.ownsRow.cellAt h1 i hil]
      exact hi
theorem OwVs_read {w : World} {B : Nat} {P : Nat → Prop} : ∀ (ds : List DV) {vs : List Value} {bs : List Nat}, (∀ b ∈ bs, P b) → OwVs w B ds vs bs → RdVs w P ds vs
  | [], vs, bs, _, h => by rw [OwVs] at h; rw [RdVs]; exact h.1
  | d :: r, vs, bs, hP, h => by
    rw [OwVs] at h
    rw [RdVs]
    obtain ⟨v, vs', b1, b2, rfl, rfl, h1, h2⟩ := h
    exact ⟨v, vs', rfl, OwV_read d (fun b hm => hP b (List.mem_append_left _ hm)) h1, OwVs_read r (fun b hm => hP b (List.mem_append_right _ hm)) h2⟩
theorem OwVE_read {w : World} {B k : Nat} {P : Nat → Prop} : ∀ (xs : List (List DV)) {vs : List Value} {bs : List Nat}, (∀ b ∈ bs, P b) → OwVE w B k xs vs bs → RdVE w P k xs vs
  | [], vs, bs, _, h => by rw [OwVE] at h; rw [RdVE]; exact h.1
  | x :: r, vs, bs, hP, h => by
    rw [OwVE] at h
    rw [RdVE]
    obtain ⟨v1, v2, b1, b2, rfl, rfl, hk, h1, h2⟩ := h
    exact ⟨v1, v2, rfl, hk, OwVs_read x (fun b hm => hP b (List.mem_append_left _ hm)) h1, OwVE_read r (fun b hm => hP b (List.mem_append_right _ hm)) h2⟩
end
theorem OwV_below {w w' : World} {B : Nat} {d : DV} {v : Value} {bs : List Nat} (h : OwV w B d v bs) (hb : Below w.heap.size w w') : OwV w' B d v bs := OwV_frame d (fun b hm => hb.block b (OwV_lt d h b hm).2) h
theorem OwVs_below {w w' : World} {B : Nat} {d : List DV} {v : List Value} {bs : List Nat} (h : OwVs w B d v bs) (hb : Below w.heap.size w w') : OwVs w' B d v bs := OwVs_frame d (fun b hm => hb.block b (OwVs_lt d h b hm).2) h
theorem OwVs_app {w : World} {B : Nat} : ∀ {ds : List DV} {vs : List Value} {bs : List Nat}, OwVs w B ds vs bs → ∀ {ds' : List DV} {vs' : List Value} {bs' : List Nat}, OwVs w B ds' vs' bs' → OwVs w B (ds ++ ds') (vs ++ vs') (bs ++ bs')
  | [], vs, bs, h, _, _, _, h' => by
    rw [OwVs] at h
    obtain ⟨rfl, rfl⟩ := h
    exact h'
  | d :: r, vs, bs, h, _, _, _, h' => by
    rw [OwVs] at h
    obtain ⟨v, vs', b1, b2, rfl, rfl, h1, h2⟩ := h
    rw [List.cons_append, OwVs]
    exact ⟨v, _, b1, _, rfl, by rw [List.append_assoc], h1, OwVs_app h2 h'⟩
theorem OwVE_snoc {w : World} {B k : Nat} : ∀ {xs : List (List DV)} {vs : List Value} {bs : List Nat}, OwVE w B k xs vs bs → ∀ {x : List DV} {v : List Value} {bx : List Nat}, x.length = k → OwVs w B x v bx → OwVE w B k (xs ++ [x]) (vs ++ v) (bs ++ bx)
  | [], vs, bs, h, x, v, bx, hk, hx => by
    rw [OwVE] at h
    obtain ⟨rfl, rfl⟩ := h
    rw [List.nil_append, OwVE]
    exact ⟨v, [], bx, [], by simp, by simp, hk, hx, by rw [OwVE]; exact ⟨rfl, rfl⟩⟩
  | y :: r, vs, bs, h, x, v, bx, hk, hx => by
    rw [OwVE] at h
    obtain ⟨v1, v2, b1, b2, rfl, rfl, hk1, h1, h2⟩ := h
    rw [List.cons_append, OwVE]
    exact ⟨v1, _, b1, _, by rw [List.append_assoc], by rw [List.append_assoc], hk1, h1, OwVE_snoc h2 hk hx⟩
theorem OwV_nil (w : World) (B : Nat) (e : TypeId) (k : Nat) : OwV w B (.row e k []) (.slice none 0 0) [] := by
  rw [OwV]
  exact ⟨[], [], World.ownsRow_nil _ _ _ _, by rw [OwVE]; exact ⟨rfl, rfl⟩, rfl⟩

/-- A STRUCT in memory of its own, by value. -/
def MadeV (d : List DV) (w : World) (e : Ending) (w' : World) : Prop :=
  ∃ (vs : List Value) (bs : List Nat), e = .returned (.agg vs.toArray) ∧ OwVs w' w.heap.size d vs bs ∧ bs.Nodup ∧ Below w.heap.size w w'
/-- A SLICE in memory of its own. -/
def MadeR (d : DV) (w : World) (e : Ending) (w' : World) : Prop :=
  ∃ (v : Value) (bs : List Nat), e = .returned v ∧ OwV w' w.heap.size d v bs ∧ bs.Nodup ∧ Below w.heap.size w w'
end Go.Proofs.YtbcfeoobhemdcaaGreat
namespace Go.Proofs.YtbcfeoobhemdcaaGreat
open Go.RowKit

theorem nodesVE_at : ∀ (xs : List (List DV)) (j : Nat) (h : j < xs.length), 1 + DV.nodesL xs[j] ≤ DV.nodesE xs
  | x :: r, 0, _ => by rw [DV.nodesE]; simp
  | x :: r, j + 1, h => by
    have := nodesVE_at r j (by simpa using h)
    rw [DV.nodesE]; simp; omega
theorem nodesVE_count : ∀ (xs : List (List DV)), xs.length ≤ DV.nodesE xs
  | [] => by simp [DV.nodesE]
  | x :: r => by have := nodesVE_count r; rw [DV.nodesE, List.length_cons]; omega
theorem wtVE_take : ∀ (l : List (List DV)) (j : Nat) (h : j < l.length), DV.wtE (l.take (j + 1)) = DV.wtE (l.take j) + 1 + DV.wtL l[j]
  | x :: r, 0, _ => by simp [DV.wtE]
  | x :: r, j + 1, h => by
    have := wtVE_take r j (by simpa using h)
    rw [List.take_succ_cons, List.take_succ_cons, DV.wtE, DV.wtE, this]
    simp; omega
theorem wtVE_le : ∀ (l : List (List DV)) (j : Nat), DV.wtE (l.take j) ≤ DV.wtE l
  | [], j => by simp
  | x :: r, 0 => by simp [DV.wtE]
  | x :: r, j + 1 => by
    have := wtVE_le r j
    rw [List.take_succ_cons, DV.wtE, DV.wtE]; omega
theorem wtVE_length : ∀ (l : List (List DV)), l.length ≤ DV.wtE l
  | [] => by simp [DV.wtE]
  | x :: r => by have := wtVE_length r; rw [DV.wtE, List.length_cons]; omega
theorem wtVE_at (l : List (List DV)) (j : Nat) (h : j < l.length) : 1 + DV.wtL l[j] ≤ DV.wtE l := by
  have h1 := wtVE_take l j h
  have h2 := wtVE_le l (j + 1)
  omega
theorem wtVE_rest : ∀ (l : List (List DV)) (j : Nat), j ≤ l.length → DV.wtE (l.take j) + (l.length - j) ≤ DV.wtE l
  | [], j, h => by simp at h; subst h; simp [DV.wtE]
  | x :: r, 0, _ => by have := wtVE_length (x :: r); simp [DV.wtE] at this ⊢; omega
  | x :: r, j + 1, h => by
    have := wtVE_rest r j (by simpa using h)
    rw [List.take_succ_cons, DV.wtE, DV.wtE, List.length_cons]; omega

/-- A plain value that Go holds. -/
def uok : Value → Prop
  | .string s => s.size ≤ 9223372036854775807
  | .int _ i => -9223372036854775808 ≤ i ∧ i ≤ 9223372036854775807
  | _ => True
mutual
/-- No text and no slice is longer than a Go int. -/
def DV.ok : DV → Prop
  | .pl u => uok u
  | .row _ _ xs => xs.length ≤ 9223372036854775807 ∧ DV.okE xs
def DV.okL : List DV → Prop
  | [] => True
  | d :: r => d.ok ∧ DV.okL r
def DV.okE : List (List DV) → Prop
  | [] => True
  | x :: r => DV.okL x ∧ DV.okE r
end
theorem okVE_at : ∀ (xs : List (List DV)), DV.okE xs → ∀ (j : Nat) (h : j < xs.length), DV.okL xs[j]
  | x :: r, ho, 0, _ => by rw [DV.okE] at ho; exact ho.1
  | x :: r, ho, j + 1, h => by rw [DV.okE] at ho; exact okVE_at r ho.2 j (by simpa using h)

/-- What is left: -1 where there was more. -/
def leftV (L n : Nat) : Int := if n ≤ L then (L : Int) - n else -1
theorem leftV_yes {L n : Nat} (h : n ≤ L) : leftV L n = (L : Int) - n := by rw [leftV, if_pos h]
theorem leftV_no {L n : Nat} (h : L < n) : leftV L n = -1 := by rw [leftV, if_neg (by omega)]
end Go.Proofs.YtbcfeoobhemdcaaGreat
namespace Go.Proofs.YtbcfeoobhemdcaaGreat
open Go.RowKit Go.Lib

def strRows (l : List ByteArray) : List (List DV) := l.map fun s => [.pl (.string s)]
def intRows (l : List Int) : List (List DV) := l.map fun s => [.pl (.int .i64 s)]
theorem strRows_length (l : List ByteArray) : (strRows l).length = l.length := by rw [strRows, List.length_map]
theorem intRows_length (l : List Int) : (intRows l).length = l.length := by rw [intRows, List.length_map]
/-- The slice at A reads as these strings. -/
def StrRow (w : World) (P : Nat → Prop) (A : Option Addr) (c : Nat) (l : List ByteArray) : Prop := RdV w P (.row 9 1 (strRows l)) (.slice A l.length c)
def IntRow (w : World) (P : Nat → Prop) (A : Option Addr) (c : Nat) (l : List Int) : Prop := RdV w P (.row 3 1 (intRows l)) (.slice A l.length c)
theorem StrRow.frame {w w' : World} {P Q : Nat → Prop} {A : Option Addr} {c : Nat} {l : List ByteArray} (h : StrRow w P A c l) (hPQ : ∀ b, P b → Q b) (hk : ∀ b o, P b → w'.cell? ⟨b, o, none⟩ = w.cell? ⟨b, o, none⟩) : StrRow w' Q A c l := RdV_frame hPQ hk _ h
theorem IntRow.frame {w w' : World} {P Q : Nat → Prop} {A : Option Addr} {c : Nat} {l : List Int} (h : IntRow w P A c l) (hPQ : ∀ b, P b → Q b) (hk : ∀ b o, P b → w'.cell? ⟨b, o, none⟩ = w.cell? ⟨b, o, none⟩) : IntRow w' Q A c l := RdV_frame hPQ hk _ h
theorem StrRow.grow {w w' : World} {A : Option Addr} {c : Nat} {l : List ByteArray} (h : StrRow w (Und w.heap.size) A c l) (hb : Below w.heap.size w w') : StrRow w' (Und w'.heap.size) A c l := RdV.grow h hb
theorem IntRow.grow {w w' : World} {A : Option Addr} {c : Nat} {l : List Int} (h : IntRow w (Und w.heap.size) A c l) (hb : Below w.heap.size w w') : IntRow w' (Und w'.heap.size) A c l := RdV.grow h hb
theorem StrRow.of_read {w : World} {P : Nat → Prop} {l : List ByteArray} {v : Value} (h : RdV w P (.row 9 1 (strRows l)) v) : ∃ A c, v = .slice A l.length c ∧ StrRow w P A c l := by
  obtain ⟨A, c, rfl, _, _⟩ := h.shape
  rw [strRows_length] at h ⊢
  exact ⟨A, c, rfl, h⟩
theorem IntRow.of_read {w : World} {P : Nat → Prop} {l : List Int} {v : Value} (h : RdV w P (.row 3 1 (intRows l)) v) : ∃ A c, v = .slice A l.length c ∧ IntRow w P A c l := by
  obtain ⟨A, c, rfl, _, _⟩ := h.shape
  rw [intRows_length] at h ⊢
  exact ⟨A, c, rfl, h⟩
theorem StrRow.strs {w : World} {A : Option Addr} {c : Nat} {l : List ByteArray} (h : StrRow w (Und w.heap.size) A c l) : Strs w A l := by
  by_cases h0 : l = []
  · exact .inl h0
  · have hp : 0 < l.length := List.length_pos_iff.2 h0
    obtain ⟨b, o, _, hA, hP, _, _⟩ := RdV.at_ h (j := 0) (by rw [strRows_length]; exact hp)
    refine .inr ⟨b, o, hA, hP, fun j s hj => ?_⟩
    have hjl : j < l.length := (List.getElem?_eq_some_iff.1 hj).1
    obtain ⟨b', o', ws, hA', _, hR, hc⟩ := RdV.at_ h (j := j) (by rw [strRows_length]; exact hjl)
    rw [hA] at hA'
    injection hA' with hA'
    injection hA' with h1 h2
    subst h1 h2
    have e : (strRows l)[j]'(by rw [strRows_length]; exact hjl) = [.pl (.string l[j])] := by simp [strRows]
    rw [e] at hR
    simp only [RdVs] at hR
    obtain ⟨v, _, rfl, hv, rfl⟩ := hR
    rw [RdV_pl] at hv
    have := hc 0 v rfl
    rw [hv, Nat.mul_one, Nat.add_zero] at this
    rw [this]
    congr 2
    exact (List.getElem?_eq_some_iff.1 hj).2
end Go.Proofs.YtbcfeoobhemdcaaGreat
namespace Go.Proofs.YtbcfeoobhemdcaaGreat
open Go.RowKit Go.Lib

mutual
/-- The cells of a value. -/
def SX.cells : SX → List DV
  | .mk atom list => [.pl (.string atom), .row 33 2 (SX.rows list)]
def SX.rows : List SX → List (List DV)
  | [] => []
  | x :: r => x.cells :: SX.rows r
end
theorem SX.cells_eq (x : SX) : x.cells = [.pl (.string x.atom), .row 33 2 (SX.rows x.list)] := by cases x with | mk xatom xlist => rw [SX.cells]; rfl
theorem SX.rows_map : ∀ l : List SX, SX.rows l = l.map SX.cells
  | [] => by rw [SX.rows]; rfl
  | x :: r => by rw [SX.rows, SX.rows_map r]; rfl
theorem SX.rows_length (l : List SX) : (SX.rows l).length = l.length := by rw [SX.rows_map, List.length_map]
theorem SX.rows_at (l : List SX) (j : Nat) (h : j < l.length) (h' : j < (SX.rows l).length) : (SX.rows l)[j] = l[j].cells := by simp [SX.rows_map]
theorem SX.rows_take (l : List SX) (j : Nat) : SX.rows (l.take j) = (SX.rows l).take j := by simp [SX.rows_map, List.map_take]
theorem SX.rows_snoc (l : List SX) (x : SX) : SX.rows (l ++ [x]) = SX.rows l ++ [x.cells] := by simp [SX.rows_map]
theorem SX.cells_length (x : SX) : x.cells.length = 2 := by rw [SX.cells_eq]; rfl
/-- The slice at A reads as this list. -/
def SxRow (w : World) (P : Nat → Prop) (A : Option Addr) (c : Nat) (l : List SX) : Prop := RdV w P (.row 33 2 (SX.rows l)) (.slice A l.length c)
theorem SxRow.frame {w w' : World} {P Q : Nat → Prop} {A : Option Addr} {c : Nat} {l : List SX} (h : SxRow w P A c l) (hPQ : ∀ b, P b → Q b) (hk : ∀ b o, P b → w'.cell? ⟨b, o, none⟩ = w.cell? ⟨b, o, none⟩) : SxRow w' Q A c l := RdV_frame hPQ hk _ h
theorem SxRow.grow {w w' : World} {A : Option Addr} {c : Nat} {l : List SX} (h : SxRow w (Und w.heap.size) A c l) (hb : Below w.heap.size w w') : SxRow w' (Und w'.heap.size) A c l := RdV.grow h hb
theorem SxRow.of_read {w : World} {P : Nat → Prop} {l : List SX} {v : Value} (h : RdV w P (.row 33 2 (SX.rows l)) v) : ∃ A c, v = .slice A l.length c ∧ SxRow w P A c l := by
  obtain ⟨A, c, rfl, _, _⟩ := h.shape
  rw [SX.rows_length] at h ⊢
  exact ⟨A, c, rfl, h⟩
theorem SxRow.cap {w : World} {P : Nat → Prop} {A : Option Addr} {c : Nat} {l : List SX} (h : SxRow w P A c l) : l.length ≤ c ∧ c ≤ 9223372036854775807 := by
  obtain ⟨A', c', e, h1, h2⟩ := RdV.shape h
  injection e with _ _ e
  rw [SX.rows_length] at h1
  omega
theorem SxRow.nil (w : World) (P : Nat → Prop) (c : Nat) (A : Option Addr) (hc : c ≤ 9223372036854775807) : SxRow w P A c [] := RdV_row.2 ⟨A, c, by rw [SX.rows_length], by rw [SX.rows_length]; exact Nat.zero_le _, hc, .inl (by rw [SX.rows_map]; rfl)⟩
/-- This value, by value. -/
def SxAt (w : World) (P : Nat → Prop) (x : SX) (v : Value) : Prop := ∃ (A1 : Option Addr) (c1 : Nat), v = .agg #[.string x.atom, .slice A1 x.list.length c1] ∧ SxRow w P A1 c1 x.list
theorem SxAt.of_reads {w : World} {P : Nat → Prop} {x : SX} {vs : List Value} (h : RdVs w P x.cells vs) : SxAt w P x (.agg vs.toArray) := by
  rw [SX.cells_eq] at h
  simp only [RdVs] at h
  obtain ⟨v0, _, rfl, h0, v1, _, rfl, h1, rfl⟩ := h
  rw [RdV_pl] at h0
  subst h0
  obtain ⟨A1, c1, rfl, k1⟩ := SxRow.of_read h1
  exact ⟨A1, c1, rfl, k1⟩
theorem SxAt.frame {w w' : World} {P Q : Nat → Prop} {x : SX} {v : Value} (h : SxAt w P x v) (hPQ : ∀ b, P b → Q b) (hk : ∀ b o, P b → w'.cell? ⟨b, o, none⟩ = w.cell? ⟨b, o, none⟩) : SxAt w' Q x v := by
  obtain ⟨A1, c1, rfl, k1⟩ := h
  exact ⟨A1, c1, rfl, k1.frame hPQ hk⟩
theorem SxAt.grow {w w' : World} {x : SX} {v : Value} (h : SxAt w (Und w.heap.size) x v) (hb : Below w.heap.size w w') : SxAt w' (Und w'.heap.size) x v := h.frame (fun _ h => Nat.lt_of_lt_of_le h hb.size) (fun b o hP => hb.cell (p := ⟨b, o, none⟩) hP)
/-- Where there is an element at j: where it lies, and what it is. -/
theorem SxRow.at_ {w : World} {P : Nat → Prop} {A : Option Addr} {c : Nat} {l : List SX} (h : SxRow w P A c l) {j : Nat} (hj : j < l.length) :
    ∃ (b o : Nat) (A1 : Option Addr) (c1 : Nat), A = some ⟨b, o, none⟩ ∧ P b ∧ w.cell? ⟨b, o + j * 2, none⟩ = some (.string l[j].atom) ∧ w.cell? ⟨b, o + j * 2 + 1, none⟩ = some (.slice A1 l[j].list.length c1) ∧ SxRow w P A1 c1 l[j].list := by
  obtain ⟨b, o, ws, hA, hP, hR, hc⟩ := RdV.at_ h (j := j) (by rw [SX.rows_length]; exact hj)
  rw [SX.rows_at l j hj, SX.cells_eq] at hR
  simp only [RdVs] at hR
  obtain ⟨v0, _, rfl, h0, v1, _, rfl, h1, rfl⟩ := hR
  rw [RdV_pl] at h0
  subst h0
  obtain ⟨A1, c1, rfl, k1⟩ := SxRow.of_read h1
  exact ⟨b, o, A1, c1, hA, hP, hc 0 _ rfl, hc 1 _ rfl, k1⟩
end Go.Proofs.YtbcfeoobhemdcaaGreat
namespace Go.Proofs.YtbcfeoobhemdcaaGreat
open Go.RowKit Go.Lib

theorem list_ofRd {w : World} {P : Nat → Prop} (l : List SX) (k : ∀ (b o : Nat) (vs : List Value), RdVE w P 2 (SX.rows l) vs → (∀ i v, vs[i]? = some v → w.cell? ⟨b, o + i, none⟩ = some v) → RdE w P l b o) {A : Option Addr} {c : Nat} (h : SxRow w P A c l) : ListAt w P A l := by
  rcases l with _ | ⟨x, r⟩
  · exact .inl rfl
  · obtain ⟨A', cap, e, h1, h2, h3⟩ := RdV_row.1 h
    injection e with e1 _ e3
    subst e1 e3
    rcases h3 with h3 | ⟨b, o, hA, hP, vs, hE, hc⟩
    · rw [SX.rows] at h3; cases h3
    · exact .inr ⟨b, o, hA, hP, k b o vs hE hc⟩
mutual
theorem SxRow_x {w : World} {P : Nat → Prop} : ∀ (x : SX) (b o : Nat) (vs : List Value), RdVE w P 2 (SX.rows x.list) vs → (∀ i v, vs[i]? = some v → w.cell? ⟨b, o + i, none⟩ = some v) → RdE w P x.list b o
  | .mk _ m => SxRow_rd m
theorem SxRow_rd {w : World} {P : Nat → Prop} : ∀ (l : List SX) (b o : Nat) (vs : List Value), RdVE w P 2 (SX.rows l) vs → (∀ i v, vs[i]? = some v → w.cell? ⟨b, o + i, none⟩ = some v) → RdE w P l b o
  | [], _, _, _, _, _ => by rw [RdE]; trivial
  | x :: r, b, o, vs, h, hc => by
    rw [SX.rows, RdVE] at h
    obtain ⟨u1, u2, rfl, hk, h1, h2⟩ := h
    rw [SX.cells_eq] at h1
    simp only [RdVs] at h1
    obtain ⟨v0, _, rfl, k0, v1, _, rfl, k1, rfl⟩ := h1
    rw [RdV_pl] at k0
    subst k0
    obtain ⟨A1, c1, rfl, k2⟩ := SxRow.of_read k1
    rw [RdE]
    exact ⟨RdX_iff.2 ⟨hc 0 _ rfl, A1, c1, hc 1 _ rfl, list_ofRd x.list (SxRow_x x) k2⟩, SxRow_rd r b (o + 2) u2 h2 fun i v hi => by
      have := hc (2 + i) v (by rw [List.getElem?_append_right (by simp)]; simpa using hi)
      rw [← Nat.add_assoc] at this
      exact this⟩
end
theorem SxRow_list {w : World} {P : Nat → Prop} {l : List SX} {A : Option Addr} {c : Nat} (h : SxRow w P A c l) : ListAt w P A l := list_ofRd l (SxRow_rd l) h
end Go.Proofs.YtbcfeoobhemdcaaGreat
namespace Go.Proofs.YtbcfeoobhemdcaaGreat
open Go.RowKit Go.Lib

theorem nodesLen : ∀ l : List SX, l.length ≤ SX.nodesL l
  | [] => by simp
  | x :: r => by have := nodesLen r; have := SX.nodes_eq x; rw [SX.nodesL, List.length_cons]; omega
/-- Blocks from B on that are there, neither the row's own nor X. -/
def Off (V : Value) (B X C : Nat) (b : Nat) : Prop := New B C b ∧ V.ownBlock ≠ some b ∧ b ≠ X
/-- The cells vs are these expressions, one after another, with their capacities. -/
def ElemsC (w : World) (P : Nat → Prop) (l : List SX) (vs : List Value) : Prop := RdVE w P 2 (SX.rows l) vs
theorem SxRow.empty' {w : World} {P : Nat → Prop} {A : Option Addr} {c : Nat} {r : List SX} (h : r = []) (hc : c ≤ 9223372036854775807) : SxRow w P A c r := by subst h; exact SxRow.nil _ _ _ _ hc
theorem ElemsC.frame {w w' : World} {P Q : Nat → Prop} {l : List SX} {vs : List Value} (h : ElemsC w P l vs) (hPQ : ∀ b, P b → Q b) (hk : ∀ b o, P b → w'.cell? ⟨b, o, none⟩ = w.cell? ⟨b, o, none⟩) : ElemsC w' Q l vs := RdVE_frame hPQ hk _ h
theorem ElemsC.nil (w : World) (P : Nat → Prop) : ElemsC w P [] [] := by rw [ElemsC, SX.rows, RdVE]
theorem RdVE_snocC {w : World} {P : Nat → Prop} {k : Nat} : ∀ {xs : List (List DV)} {vs : List Value}, RdVE w P k xs vs → ∀ {x : List DV} {v : List Value}, x.length = k → RdVs w P x v → RdVE w P k (xs ++ [x]) (vs ++ v)
  | [], vs, h, x, v, hk, hx => by
    rw [RdVE] at h
    subst h
    rw [List.nil_append, List.nil_append, RdVE]
    exact ⟨v, [], (List.append_nil v).symm, hk, hx, by rw [RdVE]⟩
  | y :: r, vs, h, x, v, hk, hx => by
    rw [RdVE] at h
    obtain ⟨v1, v2, rfl, hk1, h1, h2⟩ := h
    rw [List.cons_append, RdVE]
    exact ⟨v1, v2 ++ v, List.append_assoc _ _ _, hk1, h1, RdVE_snocC h2 hk hx⟩
theorem SxRow.reads {w : World} {P : Nat → Prop} {y : SX} {A : Option Addr} {c : Nat} (h : SxRow w P A c y.list) : RdVs w P y.cells [.string y.atom, .slice A y.list.length c] := by
  rw [SX.cells_eq]
  simp only [RdVs]
  exact ⟨_, _, rfl, by rw [RdV_pl], _, [], rfl, h, rfl⟩
theorem ElemsC.snoc {w : World} {P : Nat → Prop} {l : List SX} {vs : List Value} (h : ElemsC w P l vs) {x : SX} {A : Option Addr} {c : Nat} (hx : SxRow w P A c x.list) : ElemsC w P (l ++ [x]) (vs ++ [.string x.atom, .slice A x.list.length c]) := by
  rw [ElemsC, SX.rows_snoc]
  exact RdVE_snocC h (SX.cells_length x) hx.reads
/-- A row of the call's own that holds these reads as them. -/
theorem row_own {w : World} {P : Nat → Prop} {B : Nat} {A : Option Addr} {n c : Nat} {l : List SX} {vs : List Value} (h : w.ownsRow B 33 2 (.slice A n c) l.length vs) (he : ElemsC w P l vs) (hP : ∀ b, (Value.slice A n c).ownBlock = some b → P b) : SxRow w P A c l := by
  rcases h.2 with ⟨hv, h0⟩ | ⟨g, cap, cur, hv, _, hg, hn, hm, hs, ht⟩
  · injection hv with hA hn hc
    subst hA hn hc
    exact SxRow.empty' (List.eq_nil_of_length_eq_zero h0) (by decide)
  · injection hv with hA hn' hc
    subst hA hc hn'
    unfold maxLen at hm
    refine RdV_row.2 ⟨_, _, by rw [SX.rows_length], by rw [SX.rows_length]; exact hn, by omega, .inr ⟨g, 0, rfl, hP g rfl, vs, he, fun i v hi => ?_⟩⟩
    have hl := h.1
    rw [Nat.zero_add, World.ownsRow.cellAt h i (by have := (List.getElem?_eq_some_iff.1 hi).1; omega)]
    exact hi
/-- V is a row of the call's own, from B on, and not X, that holds just these. -/
def RowX (B X : Nat) (V : Value) (acc : List SX) (w : World) : Prop :=
  ∃ vs, w.ownsRow B 33 2 V acc.length vs ∧ ElemsC w (Off V B X w.heap.size) acc vs ∧ V.ownBlock ≠ some X
theorem RowX.nil (B X : Nat) (w : World) : RowX B X (.slice none 0 0) [] w := ⟨[], World.ownsRow_nil _ _ _ _, ElemsC.nil _ _, by simp [Value.ownBlock]⟩
theorem RowX.shape {B X : Nat} {V : Value} {acc : List SX} {w : World} (h : RowX B X V acc w) : ∃ A c, V = .slice A acc.length c := by
  obtain ⟨vs, h1, _⟩ := h
  exact own_shape h1
theorem RowX.keep {B X : Nat} {V : Value} {acc : List SX} {w w' : World} (h : RowX B X V acc w) (hsz : w.heap.size ≤ w'.heap.size) (hk : ∀ b, B ≤ b → b < w.heap.size → b ≠ X → w'.heap[b]? = w.heap[b]?) : RowX B X V acc w' := by
  obtain ⟨vs, h1, h2, h3⟩ := h
  refine ⟨vs, own_same h1 fun b hb => hk b (h1.lt b hb).1 (h1.lt b hb).2 (fun e => h3 (by rw [hb, e])), h2.frame (fun b hP => ⟨⟨hP.1.1, by have := hP.1.2; omega⟩, hP.2⟩) (fun b o hP => World.cell?_of_block (a := ⟨b, o, none⟩) (hk b hP.1.1 hP.1.2 hP.2.2)), h3⟩
theorem RowX.below {B X : Nat} {V : Value} {acc : List SX} {w w' : World} (h : RowX B X V acc w) (hb : Below w.heap.size w w') : RowX B X V acc w' := h.keep hb.size fun b _ h2 _ => hb.block b h2
theorem RowX.but {B X k : Nat} {V : Value} {acc : List SX} {w w' : World} (h : RowX B X V acc w) (hb : But k w w') (hk : k < B ∨ k = X) : RowX B X V acc w' := h.keep hb.size fun b h1 h2 h3 => hb.block b h2 (by omega)
theorem RowX.row {B X : Nat} {A : Option Addr} {n c : Nat} {acc : List SX} {w : World} (h : RowX B X (.slice A n c) acc w) : SxRow w (fun b => New B w.heap.size b ∧ b ≠ X) A c acc := by
  obtain ⟨vs, h1, h2, h3⟩ := h
  exact row_own h1 (h2.frame (Q := fun b => New B w.heap.size b ∧ b ≠ X) (fun b hP => ⟨hP.1, hP.2.2⟩) fun _ _ _ => rfl) (fun b hb => ⟨⟨(h1.lt b hb).1, (h1.lt b hb).2⟩, fun e => h3 (by rw [hb, e])⟩)
theorem RowX.list {B X : Nat} {A : Option Addr} {n c : Nat} {acc : List SX} {w : World} (h : RowX B X (.slice A n c) acc w) : ListAt w (fun b => New B w.heap.size b ∧ b ≠ X) A acc := SxRow_list h.row
/-- Further down, and apart from a block that is not there yet. -/
theorem RowX.wide {B B' X X' : Nat} {V : Value} {acc : List SX} {w : World} (h : RowX B X V acc w) (hB : B' ≤ B) (hX : X' < B ∨ w.heap.size ≤ X' ∨ X' = X) : RowX B' X' V acc w := by
  obtain ⟨vs, h1, h2, h3⟩ := h
  refine ⟨vs, ?_, h2.frame (fun b hP => ⟨⟨by have := hP.1.1; omega, hP.1.2⟩, hP.2.1, by have := hP.1.1; have := hP.1.2; have := hP.2.2; omega⟩) fun _ _ _ => rfl, ?_⟩
  · refine ⟨h1.1, ?_⟩
    rcases h1.2 with hn | ⟨g, cap, cur, rfl, hbg, rest⟩
    · exact .inl hn
    · exact .inr ⟨g, cap, cur, rfl, by omega, rest⟩
  · intro e
    have := h1.lt X' e
    rcases hX with h | h | h
    · omega
    · omega
    · subst h; exact h3 e
/-- One expression more. -/
theorem RowX.more_ {B X g' cap' : Nat} {V : Value} {acc : List SX} {w3 w4 : World} {y : SX} {A : Option Addr} {c : Nat} {vs : List Value} (hel : ElemsC w3 (Off V B X w3.heap.size) acc vs) (hVX : V.ownBlock ≠ some X) (hX : X < w3.heap.size ∨ ∃ k, X = w4.heap.size + k)
    (hl : SxRow w3 (Off V B X w3.heap.size) A c y.list) (hsz4 : w3.heap.size ≤ w4.heap.size) (hn4 : ∀ b, b < w3.heap.size → V.ownBlock ≠ some b → w4.heap[b]? = w3.heap[b]?)
    (hown4 : w4.ownsRow B 33 2 (.slice (some ⟨g', 0, none⟩) (acc.length + 1) cap') (acc.length + 1) (vs ++ [.string y.atom, .slice A y.list.length c])) (hat : V.ownBlock = some g' ∨ w3.heap.size ≤ g') :
    RowX B X (.slice (some ⟨g', 0, none⟩) (acc.length + 1) cap') (acc ++ [y]) w4 := by
  have hne' : ∀ b, b < w3.heap.size → V.ownBlock ≠ some b → (Value.slice (some ⟨g', 0, none⟩) (acc.length + 1) cap').ownBlock ≠ some b := fun b hb hne e => by
    have e' : g' = b := by simpa [Value.ownBlock] using e
    rcases hat with h | h
    · exact hne (by rw [h, e'])
    · omega
  have step : ∀ b, Off V B X w3.heap.size b → Off (.slice (some ⟨g', 0, none⟩) (acc.length + 1) cap') B X w4.heap.size b := fun b hP => ⟨⟨hP.1.1, by have := hP.1.2; omega⟩, hne' b hP.1.2 hP.2.1, hP.2.2⟩
  refine ⟨_, by rw [List.length_append]; exact hown4, ElemsC.snoc ?_ ?_, ?_⟩
  · exact hel.frame step fun b o hP => World.cell?_of_block (a := ⟨b, o, none⟩) (hn4 b hP.1.2 hP.2.1)
  · exact hl.frame step fun b o hP => World.cell?_of_block (a := ⟨b, o, none⟩) (hn4 b hP.1.2 hP.2.1)
  · rcases hX with hX | ⟨k, rfl⟩
    · exact hne' X hX hVX
    · intro e
      have := (hown4.lt _ e).2
      omega
theorem RowX.more {B X g' cap' H : Nat} {V : Value} {acc : List SX} {w3 w4 : World} {y : SX} {A : Option Addr} {c : Nat} {vs : List Value} (hel : ElemsC w3 (Off V B X w3.heap.size) acc vs) (hVX : V.ownBlock ≠ some X) (hX : X < w3.heap.size)
    (hl : SxRow w3 (Off V B X w3.heap.size) A c y.list) (hgrow : (w3.alloc (.cells #[.string y.atom, .slice A y.list.length c] 33)).grownBy w4 V.ownBlock)
    (hown4 : w4.ownsRow B 33 2 (.slice (some ⟨g', 0, none⟩) (acc.length + 1) cap') (acc.length + 1) (vs ++ [.string y.atom, .slice A y.list.length c])) (hat : V.ownBlock = some g' ∨ g' = H) (hH : w3.heap.size < H) :
    RowX B X (.slice (some ⟨g', 0, none⟩) (acc.length + 1) cap') (acc ++ [y]) w4 :=
  RowX.more_ hel hVX (.inl hX) hl (by have := hgrow.size; simp at this; omega) (fun b hb hne => (hgrow.block b (by simp; omega) (fun e => hne e.symm)).trans (Below.heap_alloc _ _ _ hb)) hown4 (hat.imp id fun h => by omega)
/-- What a row with its variable turns into when another expression is appended to the variable. -/
theorem cur_but {w w' : World} {B g k : Nat} (h : Cur w B g) (hb : But k w w') (hk : g < k) : Cur w' B g := by
  have hlt := h.lt
  have ho := h.own
  obtain ⟨A, n, c, i, x, hc⟩ := h
  refine ⟨A, n, c, i, x, ⟨hc.cells.but hb (by omega), ho, fun j hj => ?_, hc.size, hc.lo, hc.hi⟩⟩
  obtain ⟨b, o, z, hA, hl, h0, h1, hz⟩ := hc.bytes j hj
  exact ⟨b, o, z, hA, hl, h0, h1, (World.cell?_of_block (a := ⟨b, o + j, none⟩) (hb.block b (by omega) (by omega))).trans hz⟩
end Go.Proofs.YtbcfeoobhemdcaaGreat
namespace Go.Proofs.YtbcfeoobhemdcaaGreat
open Go.RowKit

theorem run_append_nil {P : Program} {w : World} (base : Nat) (t ty e : TypeId) (i : TypeInfo) (size : Nat) (ht : P.underlying t = some (.slice e)) (hi : P.info? e = some i)
    (v : Value) (n c : Nat) (xs : List Value) (hown : w.ownsRow base e size v n xs) :
    (Builtin.append_ #[t, t] ty #[v, .slice none 0 c]).run P w = .ok v w := by
  rcases hown.2 with ⟨rfl, rfl⟩ | ⟨g, cap, cur, rfl, _, _, hnc, _⟩
  · simp [Builtin.append_, run_underlying ht, sizeOf, typeInfo, hi, Builtin.lenOf, Builtin.firstCells]
  · simp [Builtin.append_, run_underlying ht, sizeOf, typeInfo, hi, Builtin.lenOf, Builtin.firstCells, hnc, storeCells]

theorem wp_append_any {P : Program} {w : World} {o : Oper} {a : Act} {K : Act → World → Prop} {Q : Exit → Act → World → Prop} (s x : Operand) (t : TypeId)
    (ho : o.op = .call { callee := .builtin .append, args := #[s, x], argTypes := #[t, t] })
    (base : Nat) (e : TypeId) (i : TypeInfo) (z : Value) (size bytes : Nat) (ht : P.underlying t = some (.slice e)) (hi : P.info? e = some i) (hz : i.zero = some z)
    (hsize : i.size = size) (hby : i.bytes = bytes) (hzs : z.cells.size = size) (hsz : 0 < size)
    (v : Value) (n : Nat) (xs : List Value) (hs : a.eval s = v) (hown : w.ownsRow base e size v n xs)
    (A : Option Addr) (m c : Nat) (news : List Value) (hx : a.eval x = .slice A m c) (hl : news.length = m * size)
    (hA : m = 0 ∨ ∃ ad, A = some ad ∧ ∀ (j : Nat) (u : Value), news[j]? = some u → w.cell? (ad.add j) = some u) (h1 : ∀ u ∈ news, u.oneCell' = true)
    (h63 : n + m ≤ maxLen) (hbytes : (n + m) * bytes ≤ 140737488355328) (hbase : base ≤ w.heap.size) (H : Nat) (hH : w.heap.size = H)
    (h : ∀ v' w', w'.ownsRow base e size v' (n + m) (xs ++ news) → w.grownBy w' v.ownBlock → (v'.ownBlock = v.ownBlock ∨ v'.ownBlock = some H) → K (a.put o.dst v') w') : o.wp P a w K Q := by
  subst hH
  cases A with
  | none =>
    have hm0 : m = 0 := by
      rcases hA with hA | ⟨ad, hA, _⟩
      · exact hA
      · cases hA
    subst hm0
    have hn : news = [] := List.eq_nil_of_length_eq_zero (by rw [hl, Nat.zero_mul])
    subst hn
    have hrun := run_append_nil (P := P) (w := w) base t o.type e i size ht hi v n c xs hown
    unfold Oper.wp
    simp [execOp, ho, resolve, invoke, builtin, hs, hx, hrun, Result.andThen]
    refine h v w ?_ ⟨rfl, rfl, rfl, Nat.le_refl _, fun _ _ _ => rfl⟩ (.inl rfl)
    simpa using hown
  | some ad =>
    have hc : ∀ (j : Nat) (u : Value), news[j]? = some u → w.cell? (ad.add j) = some u := by
      rcases hA with hA | ⟨ad', hA, hc⟩
      · subst hA
        have hn : news = [] := List.eq_nil_of_length_eq_zero (by rw [hl, Nat.zero_mul])
        subst hn
        intro j u hj
        simp at hj
      · injection hA with hA; subst hA; exact hc
    obtain ⟨v', w', hr, h2, h3, _, h5⟩ := run_append_own_at (P := P) w base t o.type e i z size bytes ht hi hz hsize hby hzs hsz v n xs hown ad m c news hl hc h1 h63 hbytes hbase
    unfold Oper.wp execOp
    simp only [ho, resolve, invoke, builtin, Sem.run_bind, Sem.run_pure, Result.andThen_ok, List.map_toArray, List.map_cons, List.map_nil, hs, hx, hr]
    exact h v' w' h2 h3 h5

/-- At a step of a region that draws its order. -/
theorem step_append_any {P : Program} {w : World} {ops : Array Oper} {o : Oper} {a : Act} {K : Act → World → Prop} {Q : Exit → Act → World → Prop} {E : Prop} (hgd : o.guard = none) (s x : Operand) (t : TypeId)
    (ho : o.op = .call { callee := .builtin .append, args := #[s, x], argTypes := #[t, t] })
    (base : Nat) (e : TypeId) (i : TypeInfo) (z : Value) (size bytes : Nat) (ht : P.underlying t = some (.slice e)) (hi : P.info? e = some i) (hz : i.zero = some z)
    (hsize : i.size = size) (hby : i.bytes = bytes) (hzs : z.cells.size = size) (hsz : 0 < size)
    (v : Value) (n : Nat) (xs : List Value) (hs : a.eval s = v) (hown : w.ownsRow base e size v n xs)
    (A : Option Addr) (m c : Nat) (news : List Value) (hx : a.eval x = .slice A m c) (hl : news.length = m * size)
    (hA : m = 0 ∨ ∃ ad, A = some ad ∧ ∀ (j : Nat) (u : Value), news[j]? = some u → w.cell? (ad.add j) = some u) (h1 : ∀ u ∈ news, u.oneCell' = true)
    (h63 : n + m ≤ maxLen) (hbytes : (n + m) * bytes ≤ 140737488355328) (hbase : base ≤ w.heap.size) (H : Nat) (hH : w.heap.size = H)
    (h : ∀ v' w', w'.ownsRow base e size v' (n + m) (xs ++ news) → w.grownBy w' v.ownBlock → (v'.ownBlock = v.ownBlock ∨ v'.ownBlock = some H) → K (a.put o.dst v') w') :
    if Region.wanted o (yielded ops a.tmps) = true then Oper.wp P o a w K Q else E := by
  have hw : Region.wanted o (yielded ops a.tmps) = true := by simp [Region.wanted, hgd]
  rw [if_pos hw]
  exact wp_append_any s x t ho base e i z size bytes ht hi hz hsize hby hzs hsz v n xs hs hown A m c news hx hl hA h1 h63 hbytes hbase H hH h
end Go.Proofs.YtbcfeoobhemdcaaGreat
namespace Go.Proofs.YtbcfeoobhemdcaaGreat
open Go.RowKit

/-- The last element taken off a row of the call's own. -/
theorem own_pop {w : World} {B g cap n size : Nat} {e : TypeId} {xs ys : List Value} (h : w.ownsRow B e size (.slice (some ⟨g, 0, none⟩) (n + 1) cap) (n + 1) (xs ++ ys)) (hx : xs.length = n * size) (_hy : ys.length = size) :
    w.ownsRow B e size (.slice (some ⟨g, 0, none⟩) n cap) n xs ∧ (∀ j, j < size → w.cell? ⟨g, n * size + j, none⟩ = ys[j]?) ∧ n + 1 ≤ cap ∧ cap ≤ maxLen ∧ B ≤ g ∧ g < w.heap.size := by
  have hc : ∀ j, j < size → w.cell? ⟨g, n * size + j, none⟩ = ys[j]? := fun j hj => by
    rw [World.ownsRow.cellAt h _ (by rw [Nat.add_mul]; omega), List.getElem?_append_right (by omega)]
    congr 1
    omega
  have hlt := h.lt g rfl
  rcases h.2 with ⟨h', _⟩ | ⟨g', cap', cur, h', hb, hg, hnc, hcm, hcs, htake⟩
  · simp at h'
  · simp only [Value.slice.injEq, Option.some.injEq, Addr.mk.injEq, and_true, true_and] at h'
    obtain ⟨rfl, rfl⟩ := h'
    refine ⟨⟨hx, .inr ⟨g, cap, cur, rfl, hb, hg, by omega, hcm, hcs, ?_⟩⟩, hc, hnc, hcm, hb, hlt.2⟩
    have h2 := congrArg (List.take (n * size)) htake
    rw [List.take_take, Nat.min_eq_left (Nat.mul_le_mul_right _ (by omega)), List.take_append_of_le_length (by omega), List.take_of_length_le (l := xs) (by omega)] at h2
    exact h2
theorem own_nil {w : World} {B size : Nat} {e : TypeId} {v : Value} {n : Nat} {xs : List Value} (h : w.ownsRow B e size v n xs) : ∃ A c, v = .slice A n c := by
  rcases h.2 with ⟨rfl, rfl⟩ | ⟨g, cap, cur, rfl, _⟩
  · exact ⟨_, _, rfl⟩
  · exact ⟨_, _, rfl⟩
theorem own_some {w : World} {B size : Nat} {e : TypeId} {v : Value} {n : Nat} {xs : List Value} (h : w.ownsRow B e size v (n + 1) xs) : ∃ g c, v = .slice (some ⟨g, 0, none⟩) (n + 1) c := by
  rcases h.2 with ⟨_, h0⟩ | ⟨g, cap, cur, rfl, _⟩
  · omega
  · exact ⟨_, _, rfl⟩

theorem one_slice (A : Option Addr) (n c : Nat) : ∀ u ∈ [Value.slice A n c], u.oneCell' = true := by
  intro u hu
  simp at hu
  subst hu
  rfl
theorem concat_cases {α : Type} (st : List α) : st = [] ∨ ∃ st0 l, st = st0 ++ [l] := by
  rcases List.eq_nil_or_concat st with h | ⟨a, b, h⟩
  · exact .inl h
  · exact .inr ⟨a, b, by rw [h, List.concat_eq_append]⟩

theorem wpListIn_append_at {F : Fence} {n : Nat} {P : Program} (w : World) {ops : Array Oper} {rest : List Oper} {o : Oper} {a : Act} {Q : Exit → Act → World → Prop}
    (hg : o.guard = none) (s x : Operand) (t : TypeId) (hop : o.op = Op.call { callee := Callee.builtin Builtin.append, args := #[s, x], argTypes := #[t, t] })
    (base : Nat) (e : TypeId) (i : TypeInfo) (z : Value) (size bytes : Nat) (h1 : P.underlying t = some (.slice e)) (h2 : P.info? e = some i) (h3 : i.zero = some z) (h4 : i.size = size) (h5 : i.bytes = bytes) (h6 : z.cells.size = size) (h7 : 0 < size)
    (v : Value) (k : Nat) (xs : List Value) (hs : a.eval s = v) (hown : w.ownsRow base e size v k xs) (ad : Addr) (m c : Nat) (news : List Value) (hx : a.eval x = .slice (some ad) m c) (hn : news.length = m * size)
    (hc : ∀ j u, news[j]? = some u → w.cell? (ad.add j) = some u) (h1c : ∀ u ∈ news, u.oneCell' = true) (b1 : k + m ≤ maxLen) (b2 : (k + m) * bytes ≤ 140737488355328) (b3 : base ≤ w.heap.size)
    (hK : ∀ v' w', w'.ownsRow base e size v' (k + m) (xs ++ news) → w.grownBy w' v.ownBlock → (v'.ownBlock = v.ownBlock ∨ v'.ownBlock = some w.heap.size) → wpListIn F n P ops Q rest (a.put o.dst v') w') :
    wpListIn F n P ops Q (o :: rest) a w := by
  refine wpListIn_plain hg fun K hK' => ?_
  obtain ⟨v', w', hrun, r1, r2, _, r3⟩ := run_append_own_at (P := P) w base t o.type e i z size bytes h1 h2 h3 h4 h5 h6 h7 v k xs hown ad m c news hn hc h1c b1 b2 b3
  unfold Oper.wpIn
  refine ⟨?_, ?_⟩
  · simp [Oper.about, hop, resolve, Target.leads, Sem.run_pure]
  · rw [Oper.semAt_plain F _ _ (by rw [hop]; intro c hc'; cases hc')]
    simp [execOp, hop, resolve, invoke, builtin, hs, hx, hrun, Result.andThen]
    exact hK' _ _ (hK v' w' r1 r2 r3)
end Go.Proofs.YtbcfeoobhemdcaaGreat
namespace Go.Proofs.YtbcfeoobhemdcaaGreat
open Go.RowKit Go.Lib

inductive TypeX where
  | mk (kind_ : Int) (name_ : ByteArray) (args_ : List TypeX)
def TypeX.kind_ : TypeX → Int | .mk kind_ _ _ => kind_
def TypeX.name_ : TypeX → ByteArray | .mk _ name_ _ => name_
def TypeX.args_ : TypeX → List TypeX | .mk _ _ args_ => args_
mutual
/-- The cells of a value. -/
def TypeX.cells : TypeX → List DV
  | .mk kind_ name_ args_ => [.pl (.int .i64 kind_), .pl (.string name_), .row 26 3 (TypeX.rows args_)]
def TypeX.rows : List TypeX → List (List DV)
  | [] => []
  | x :: r => x.cells :: TypeX.rows r
end
theorem TypeX.cells_eq (x : TypeX) : x.cells = [.pl (.int .i64 x.kind_), .pl (.string x.name_), .row 26 3 (TypeX.rows x.args_)] := by cases x with | mk xkind_ xname_ xargs_ => rw [TypeX.cells]; rfl
theorem TypeX.rows_map : ∀ l : List TypeX, TypeX.rows l = l.map TypeX.cells
  | [] => by rw [TypeX.rows]; rfl
  | x :: r => by rw [TypeX.rows, TypeX.rows_map r]; rfl
theorem TypeX.rows_length (l : List TypeX) : (TypeX.rows l).length = l.length := by rw [TypeX.rows_map, List.length_map]
theorem TypeX.rows_at (l : List TypeX) (j : Nat) (h : j < l.length) (h' : j < (TypeX.rows l).length) : (TypeX.rows l)[j] = l[j].cells := by simp [TypeX.rows_map]
theorem TypeX.rows_take (l : List TypeX) (j : Nat) : TypeX.rows (l.take j) = (TypeX.rows l).take j := by simp [TypeX.rows_map, List.map_take]
theorem TypeX.rows_snoc (l : List TypeX) (x : TypeX) : TypeX.rows (l ++ [x]) = TypeX.rows l ++ [x.cells] := by simp [TypeX.rows_map]
theorem TypeX.cells_length (x : TypeX) : x.cells.length = 3 := by rw [TypeX.cells_eq]; rfl
/-- The slice at A reads as this list. -/
def TypeRow (w : World) (P : Nat → Prop) (A : Option Addr) (c : Nat) (l : List TypeX) : Prop := RdV w P (.row 26 3 (TypeX.rows l)) (.slice A l.length c)
theorem TypeRow.frame {w w' : World} {P Q : Nat → Prop} {A : Option Addr} {c : Nat} {l : List TypeX} (h : TypeRow w P A c l) (hPQ : ∀ b, P b → Q b) (hk : ∀ b o, P b → w'.cell? ⟨b, o, none⟩ = w.cell? ⟨b, o, none⟩) : TypeRow w' Q A c l := RdV_frame hPQ hk _ h
theorem TypeRow.grow {w w' : World} {A : Option Addr} {c : Nat} {l : List TypeX} (h : TypeRow w (Und w.heap.size) A c l) (hb : Below w.heap.size w w') : TypeRow w' (Und w'.heap.size) A c l := RdV.grow h hb
theorem TypeRow.of_read {w : World} {P : Nat → Prop} {l : List TypeX} {v : Value} (h : RdV w P (.row 26 3 (TypeX.rows l)) v) : ∃ A c, v = .slice A l.length c ∧ TypeRow w P A c l := by
  obtain ⟨A, c, rfl, _, _⟩ := h.shape
  rw [TypeX.rows_length] at h ⊢
  exact ⟨A, c, rfl, h⟩
theorem TypeRow.cap {w : World} {P : Nat → Prop} {A : Option Addr} {c : Nat} {l : List TypeX} (h : TypeRow w P A c l) : l.length ≤ c ∧ c ≤ 9223372036854775807 := by
  obtain ⟨A', c', e, h1, h2⟩ := RdV.shape h
  injection e with _ _ e
  rw [TypeX.rows_length] at h1
  omega
theorem TypeRow.nil (w : World) (P : Nat → Prop) (c : Nat) (A : Option Addr) (hc : c ≤ 9223372036854775807) : TypeRow w P A c [] := RdV_row.2 ⟨A, c, by rw [TypeX.rows_length], by rw [TypeX.rows_length]; exact Nat.zero_le _, hc, .inl (by rw [TypeX.rows_map]; rfl)⟩
/-- This value, by value. -/
def TypeAt (w : World) (P : Nat → Prop) (x : TypeX) (v : Value) : Prop := ∃ (A2 : Option Addr) (c2 : Nat), v = .agg #[.int .i64 x.kind_, .string x.name_, .slice A2 x.args_.length c2] ∧ TypeRow w P A2 c2 x.args_
theorem TypeAt.of_reads {w : World} {P : Nat → Prop} {x : TypeX} {vs : List Value} (h : RdVs w P x.cells vs) : TypeAt w P x (.agg vs.toArray) := by
  rw [TypeX.cells_eq] at h
  simp only [RdVs] at h
  obtain ⟨v0, _, rfl, h0, v1, _, rfl, h1, v2, _, rfl, h2, rfl⟩ := h
  rw [RdV_pl] at h0
  subst h0
  rw [RdV_pl] at h1
  subst h1
  obtain ⟨A2, c2, rfl, k2⟩ := TypeRow.of_read h2
  exact ⟨A2, c2, rfl, k2⟩
theorem TypeAt.frame {w w' : World} {P Q : Nat → Prop} {x : TypeX} {v : Value} (h : TypeAt w P x v) (hPQ : ∀ b, P b → Q b) (hk : ∀ b o, P b → w'.cell? ⟨b, o, none⟩ = w.cell? ⟨b, o, none⟩) : TypeAt w' Q x v := by
  obtain ⟨A2, c2, rfl, k2⟩ := h
  exact ⟨A2, c2, rfl, k2.frame hPQ hk⟩
theorem TypeAt.grow {w w' : World} {x : TypeX} {v : Value} (h : TypeAt w (Und w.heap.size) x v) (hb : Below w.heap.size w w') : TypeAt w' (Und w'.heap.size) x v := h.frame (fun _ h => Nat.lt_of_lt_of_le h hb.size) (fun b o hP => hb.cell (p := ⟨b, o, none⟩) hP)
/-- Where there is an element at j: where it lies, and what it is. -/
theorem TypeRow.at_ {w : World} {P : Nat → Prop} {A : Option Addr} {c : Nat} {l : List TypeX} (h : TypeRow w P A c l) {j : Nat} (hj : j < l.length) :
    ∃ (b o : Nat) (A2 : Option Addr) (c2 : Nat), A = some ⟨b, o, none⟩ ∧ P b ∧ w.cell? ⟨b, o + j * 3, none⟩ = some (.int .i64 l[j].kind_) ∧ w.cell? ⟨b, o + j * 3 + 1, none⟩ = some (.string l[j].name_) ∧ w.cell? ⟨b, o + j * 3 + 2, none⟩ = some (.slice A2 l[j].args_.length c2) ∧ TypeRow w P A2 c2 l[j].args_ := by
  obtain ⟨b, o, ws, hA, hP, hR, hc⟩ := RdV.at_ h (j := j) (by rw [TypeX.rows_length]; exact hj)
  rw [TypeX.rows_at l j hj, TypeX.cells_eq] at hR
  simp only [RdVs] at hR
  obtain ⟨v0, _, rfl, h0, v1, _, rfl, h1, v2, _, rfl, h2, rfl⟩ := hR
  rw [RdV_pl] at h0
  subst h0
  rw [RdV_pl] at h1
  subst h1
  obtain ⟨A2, c2, rfl, k2⟩ := TypeRow.of_read h2
  exact ⟨b, o, A2, c2, hA, hP, hc 0 _ rfl, hc 1 _ rfl, hc 2 _ rfl, k2⟩
end Go.Proofs.YtbcfeoobhemdcaaGreat
namespace Go.Proofs.YtbcfeoobhemdcaaGreat
open Go.RowKit Go.Lib

theorem TypeX.wt_eq (x : TypeX) : DV.wtL x.cells = x.name_.size + DV.wtE (TypeX.rows x.args_) := by
  rw [TypeX.cells_eq]
  simp only [DV.wtL, DV.wt, uwt]
  omega
theorem TypeX.nodes_eq (x : TypeX) : DV.nodesL x.cells = DV.nodesE (TypeX.rows x.args_) := by
  rw [TypeX.cells_eq]
  simp only [DV.nodesL, DV.nodes]
  omega
end Go.Proofs.YtbcfeoobhemdcaaGreat
namespace Go.Proofs.YtbcfeoobhemdcaaGreat
open Go.RowKit Go.Lib

mutual
def TypeX.size : TypeX → Nat
  | .mk _ _ l => 1 + TypeX.sizeL l
def TypeX.sizeL : List TypeX → Nat
  | [] => 0
  | x :: r => x.size + TypeX.sizeL r
end
theorem TypeX.size_eq (x : TypeX) : x.size = 1 + TypeX.sizeL x.args_ := by cases x with | mk a b c => rw [TypeX.size]; rfl
theorem TypeX.sizeL_take : ∀ (l : List TypeX) (j : Nat) (h : j < l.length), TypeX.sizeL (l.take (j + 1)) = TypeX.sizeL (l.take j) + l[j].size
  | x :: r, 0, _ => by simp [TypeX.sizeL]
  | x :: r, j + 1, h => by
    have := TypeX.sizeL_take r j (by simpa using h)
    rw [List.take_succ_cons, List.take_succ_cons, TypeX.sizeL, TypeX.sizeL, this]
    simp; omega
theorem TypeX.sizeL_le : ∀ (l : List TypeX) (j : Nat), TypeX.sizeL (l.take j) ≤ TypeX.sizeL l
  | [], j => by simp
  | x :: r, 0 => by simp [TypeX.sizeL]
  | x :: r, j + 1 => by
    have := TypeX.sizeL_le r j
    rw [List.take_succ_cons, TypeX.sizeL, TypeX.sizeL]; omega

end Go.Proofs.YtbcfeoobhemdcaaGreat
namespace Go.Proofs.YtbcfeoobhemdcaaGreat
open Go.RowKit Go.Lib

theorem calls_gen {P : Program} {f : Nat} {args : Array Value} {W : World} {R : Ending → World → Prop} (Q : World → Prop) (hQ : Q W) (h : ∀ W', Q W' → Calls P f args W' R) : Calls P f args W R := h W hQ
theorem Whole.far {w : World} {g : Nat} {t : TypeId} {cs : Array Value} (h : Whole w g t cs) {b : Nat} (hne : g ≠ b) (i : Nat) (v : Value) : Whole (w.setCell ⟨b, i, none⟩ v) g t cs := by
  unfold Whole at h ⊢
  rw [Below.heap_setCell _ _ _ _ (by exact hne)]
  exact h
theorem OwVs_set {w : World} {B : Nat} {ds : List DV} {vs : List Value} {bs : List Nat} (h : OwVs w B ds vs bs) {g : Nat} (hg : g < B) (i : Nat) (v : Value) : OwVs (w.setCell ⟨g, i, none⟩ v) B ds vs bs :=
  OwVs_frame ds (fun b hb => Below.heap_setCell _ _ _ _ (by have := (OwVs_lt ds h b hb).1; exact (show b ≠ g by omega))) h
theorem OwVs_plain {w : World} {B : Nat} {ds : List DV} {vs : List Value} {bs : List Nat} (h : OwVs w B ds vs bs) (u : Value) : OwVs w B (ds ++ [.pl u]) (vs ++ [u]) bs := by
  have h2 : OwVs w B [.pl u] [u] [] := by rw [OwVs]; exact ⟨u, [], [], [], rfl, rfl, by rw [OwV]; exact ⟨rfl, rfl⟩, by rw [OwVs]; exact ⟨rfl, rfl⟩⟩
  have h3 := OwVs_app h h2
  rwa [List.append_nil] at h3
theorem OwVs_start (w : World) (B : Nat) : OwVs w B [] [] [] := by rw [OwVs]; exact ⟨rfl, rfl⟩
theorem OwVs_struct {W W' : World} {B : Nat} {ds ds2 : List DV} {vs vs2 : List Value} {bs b2 : List Nat} (h : OwVs W B ds vs bs) (hn : bs.Nodup) (hb : Below W.heap.size W W') (h2 : OwVs W' W.heap.size ds2 vs2 b2) (hn2 : b2.Nodup) (hB : B ≤ W.heap.size) :
    OwVs W' B (ds ++ ds2) (vs ++ vs2) (bs ++ b2) ∧ (bs ++ b2).Nodup := by
  refine ⟨OwVs_app (OwVs_below h hb) (OwVs_wide hB ds2 h2), ?_⟩
  rw [List.nodup_append]
  refine ⟨hn, hn2, fun a ha c hc e => ?_⟩
  have h3 := (OwVs_lt ds h a ha).2
  have h4 := (OwVs_lt ds2 h2 c hc).1
  omega
theorem OwVs_row {W W' : World} {B : Nat} {ds : List DV} {d : DV} {vs : List Value} {v : Value} {bs b2 : List Nat} (h : OwVs W B ds vs bs) (hn : bs.Nodup) (hb : Below W.heap.size W W') (h2 : OwV W' W.heap.size d v b2) (hn2 : b2.Nodup) (hB : B ≤ W.heap.size) :
    OwVs W' B (ds ++ [d]) (vs ++ [v]) (bs ++ b2) ∧ (bs ++ b2).Nodup :=
  OwVs_struct h hn hb (by rw [OwVs]; exact ⟨v, [], b2, [], rfl, by rw [List.append_nil], h2, by rw [OwVs]; exact ⟨rfl, rfl⟩⟩) hn2 hB

theorem OwV_shape {w : World} {B k n : Nat} {e : TypeId} {xs : List (List DV)} {v : Value} {bs : List Nat} (h : OwV w B (.row e k xs) v bs) (hn : xs.length = n) : ∃ A c, v = .slice A n c := by
  rw [OwV] at h
  obtain ⟨vs, bs', h1, _, _⟩ := h
  rw [hn] at h1
  rcases h1.2 with ⟨rfl, h0⟩ | ⟨g, cap, cur, rfl, _⟩
  · exact ⟨none, 0, by rw [h0]⟩
  · exact ⟨_, cap, rfl⟩

/-- Cells set one after another. -/
def setAt (cs : Array Value) (o : Nat) : List Value → Array Value
  | [] => cs
  | v :: r => setAt (cs.setIfInBounds o v) (o + 1) r
theorem setAt_size : ∀ (vs : List Value) (cs : Array Value) (o : Nat), (setAt cs o vs).size = cs.size
  | [], _, _ => rfl
  | v :: r, cs, o => by rw [setAt, setAt_size r]; simp
theorem setAt_take : ∀ (vs : List Value) (cs : Array Value) (o : Nat), o + vs.length ≤ cs.size → (setAt cs o vs).toList.take (o + vs.length) = cs.toList.take o ++ vs
  | [], cs, o, _ => by simp [setAt]
  | v :: r, cs, o, h => by
    rw [List.length_cons] at h
    have h1 := setAt_take r (cs.setIfInBounds o v) (o + 1) (by simp; omega)
    rw [setAt, List.length_cons, show o + (r.length + 1) = o + 1 + r.length by omega, h1]
    have h2 : (cs.setIfInBounds o v).toList.take (o + 1) = cs.toList.take o ++ [v] := by
      rw [Array.toList_setIfInBounds, List.take_succ_eq_append_getElem (by simp; omega), List.take_set_of_le (Nat.le_refl _)]
      simp
    rw [h2, List.append_assoc]
    rfl
theorem Whole.own {w : World} {g n K : Nat} {t : TypeId} {cs : Array Value} (h : Whole w g t cs) (hs : cs.size = n * K) (hn : n ≤ maxLen) : w.ownsRow g t K (.slice (some ⟨g, 0, none⟩) n n) n cs.toList :=
  ⟨by simpa using hs, .inr ⟨g, n, cs, rfl, Nat.le_refl _, h, Nat.le_refl _, hn, hs, List.take_of_length_le (by simp [hs])⟩⟩
/-- A row that has been filled. -/
theorem OwV_filled {w : World} {g n K : Nat} {t : TypeId} {cs : Array Value} {xs : List (List DV)} {bs : List Nat} (h : Whole w g t cs) (hs : cs.size = n * K) (hn : n ≤ maxLen) (hx : xs.length = n) (hE : OwVE w (g + 1) K xs cs.toList bs) (hnd : bs.Nodup) :
    OwV w g (.row t K xs) (.slice (some ⟨g, 0, none⟩) n n) (g :: bs) ∧ (g :: bs).Nodup := by
  refine ⟨?_, List.nodup_cons.2 ⟨fun hm => by have := (OwVE_lt xs hE g hm).1; omega, hnd⟩⟩
  rw [OwV]
  exact ⟨cs.toList, bs, by rw [hx]; exact h.own hs hn, OwVE_wide (Nat.le_succ g) xs hE, rfl⟩
/-- One element more of a row that is being filled. -/
theorem OwVE_fill {wr w1 w2 : World} {g K k : Nat} {cs : Array Value} {xs : List (List DV)} {x : List DV} {vs : List Value} {bs b2 : List Nat} (hE : OwVE wr (g + 1) K xs (cs.toList.take (k * K)) bs) (hn : bs.Nodup) (hb1 : Below wr.heap.size wr w1) (hg : g < wr.heap.size)
    (hx : OwVs w1 wr.heap.size x vs b2) (hn2 : b2.Nodup) (hk : x.length = K) (hcs : k * K + K ≤ cs.size) (h2 : ∀ b, b ≠ g → w2.heap[b]? = w1.heap[b]?) :
    OwVE w2 (g + 1) K (xs ++ [x]) ((setAt cs (k * K) vs).toList.take ((k + 1) * K)) (bs ++ b2) ∧ (bs ++ b2).Nodup := by
  have hv := OwVs_length hx
  have e : (setAt cs (k * K) vs).toList.take ((k + 1) * K) = cs.toList.take (k * K) ++ vs := by
    have := setAt_take vs cs (k * K) (by omega)
    rw [hv, hk] at this
    rw [Nat.add_mul, Nat.one_mul]
    exact this
  rw [e]
  refine ⟨OwVE_snoc (OwVE_frame xs (fun b hm => ?_) hE) hk (OwVs_frame x (fun b hm => h2 b ?_) (OwVs_wide (by omega) x hx)), ?_⟩
  · have := OwVE_lt xs hE b hm
    rw [h2 b (by omega)]
    exact hb1.block b this.2
  · have := (OwVs_lt x hx b hm).1
    omega
  · rw [List.nodup_append]
    refine ⟨hn, hn2, fun a ha c hc e => ?_⟩
    have h3 := (OwVE_lt xs hE a ha).2
    have h4 := (OwVs_lt x hx c hc).1
    omega
end Go.Proofs.YtbcfeoobhemdcaaGreat
namespace Go.Proofs.YtbcfeoobhemdcaaGreat
open Go.RowKit Go.Lib

theorem infoType : (Tryz.prog.info? 26).map (fun i => (i.zero, i.size, i.bytes)) = some (some (.agg #[.int .i64 0, .string ByteArray.empty, .slice none 0 0]), 3, 48) := by kernel_rfl
end Go.Proofs.YtbcfeoobhemdcaaGreat
namespace Go.Proofs.YtbcfeoobhemdcaaGreat
open Go.RowKit Go.Lib

theorem TypeX.nodes_sum (x : TypeX) : DV.nodesL x.cells = DV.nodesE (TypeX.rows x.args_) := by
  rw [TypeX.cells_eq]
  simp only [DV.nodesL, DV.nodes]
  omega
end Go.Proofs.YtbcfeoobhemdcaaGreat
namespace Go.Proofs.YtbcfeoobhemdcaaGreat
open Go.RowKit Go.Lib

mutual
theorem TypeX.size_wt : ∀ x : TypeX, x.size ≤ DV.wtL x.cells + 1
  | .mk a b c => by
    rw [TypeX.size, TypeX.cells]
    simp only [DV.wtL, DV.wt]
    have h := TypeX.sizeL_wt c
    omega
theorem TypeX.sizeL_wt : ∀ l : List TypeX, TypeX.sizeL l ≤ DV.wtE (TypeX.rows l)
  | [] => by rw [TypeX.sizeL]; omega
  | x :: r => by
    have h1 := TypeX.size_wt x
    have h2 := TypeX.sizeL_wt r
    rw [TypeX.sizeL, TypeX.rows, DV.wtE]; omega
end
/-- A new type reads as one. -/
theorem made_type {x : TypeX} {w w' : World} {e : Ending} (h : MadeV x.cells w e w') : ∃ (A : Option Addr) (c : Nat), e = .returned (.agg #[.int .i64 x.kind_, .string x.name_, .slice A x.args_.length c]) ∧ TypeRow w' (Und w'.heap.size) A c x.args_ ∧ Below w.heap.size w w' := by
  obtain ⟨vs, bs, rfl, ho, _, hb⟩ := h
  obtain ⟨A, c, e, hr⟩ := TypeAt.of_reads (OwVs_read (P := Und w'.heap.size) x.cells (fun b hb' => (OwVs_lt x.cells ho b hb').2) ho)
  exact ⟨A, c, by rw [e], hr, hb⟩
theorem cells3 {w : World} {g : Nat} {t : TypeId} {a b c : Value} (h : Whole w g t #[a, b, c]) : w.cell? ⟨g, 0, none⟩ = some a ∧ w.cell? ⟨g, 1, none⟩ = some b ∧ w.cell? ⟨g, 2, none⟩ = some c :=
  ⟨by rw [h.cell]; rfl, by rw [h.cell]; rfl, by rw [h.cell]; rfl⟩
theorem whole_keep {w w' : World} {g : Nat} {t : TypeId} {cs : Array Value} (h : Whole w g t cs) (hb : Below w.heap.size w w') : Whole w' g t cs := h.below hb h.lt
theorem TypeRow.drew_ {w : World} {A : Option Addr} {c : Nat} {l : List TypeX} (h : TypeRow w (Und w.heap.size) A c l) : TypeRow w.drew (Und w.drew.heap.size) A c l := h.frame (fun _ h => h) fun _ _ _ => rfl
end Go.Proofs.YtbcfeoobhemdcaaGreat
namespace Go.Proofs.YtbcfeoobhemdcaaGreat
open Go.RowKit Go.Lib

theorem wpList_append_any {P : Program} {w : World} {ops : Array Oper} {rest : List Oper} {o : Oper} {a : Act} {Q : Exit → Act → World → Prop} (hgd : o.guard = none) (s x : Operand) (t : TypeId)
    (ho : o.op = .call { callee := .builtin .append, args := #[s, x], argTypes := #[t, t] })
    (base : Nat) (e : TypeId) (i : TypeInfo) (z : Value) (size bytes : Nat) (ht : P.underlying t = some (.slice e)) (hi : P.info? e = some i) (hz : i.zero = some z)
    (hsize : i.size = size) (hby : i.bytes = bytes) (hzs : z.cells.size = size) (hsz : 0 < size)
    (v : Value) (n : Nat) (xs : List Value) (hs : a.eval s = v) (hown : w.ownsRow base e size v n xs)
    (A : Option Addr) (m c : Nat) (news : List Value) (hx : a.eval x = .slice A m c) (hl : news.length = m * size)
    (hA : m = 0 ∨ ∃ ad, A = some ad ∧ ∀ (j : Nat) (u : Value), news[j]? = some u → w.cell? (ad.add j) = some u) (h1 : ∀ u ∈ news, u.oneCell' = true)
    (h63 : n + m ≤ maxLen) (hbytes : (n + m) * bytes ≤ 140737488355328) (hbase : base ≤ w.heap.size) (H : Nat) (hH : w.heap.size = H)
    (h : ∀ v' w', w'.ownsRow base e size v' (n + m) (xs ++ news) → w.grownBy w' v.ownBlock → (v'.ownBlock = v.ownBlock ∨ v'.ownBlock = some H) → wpList P ops Q rest (a.put o.dst v') w') : wpList P ops Q (o :: rest) a w :=
  wpList_plain hgd fun _ hK => wp_append_any s x t ho base e i z size bytes ht hi hz hsize hby hzs hsz v n xs hs hown A m c news hx hl hA h1 h63 hbytes hbase H hH fun v' w' h2 h3 h4 => hK _ _ (h v' w' h2 h3 h4)

/-- These cells are those types, one after another; what they lead to lies in P. -/
def ElemsT (w : World) (P : Nat → Prop) : List TypeX → List Value → Prop
  | [], vs => vs = []
  | x :: r, vs => ∃ (A : Option Addr) (c : Nat) (rest : List Value), vs = .int .i64 x.kind_ :: .string x.name_ :: .slice A x.args_.length c :: rest ∧ TypeRow w P A c x.args_ ∧ ElemsT w P r rest
theorem ElemsT.length {w : World} {P : Nat → Prop} : ∀ {l : List TypeX} {vs : List Value}, ElemsT w P l vs → vs.length = l.length * 3
  | [], vs, h => by rw [ElemsT] at h; subst h; rfl
  | x :: r, vs, h => by
    obtain ⟨A, c, rest, rfl, _, h2⟩ := h
    simp only [List.length_cons, h2.length]; omega
theorem ElemsT.last {w : World} {P : Nat → Prop} : ∀ {l : List TypeX} {x : TypeX} {vs : List Value}, ElemsT w P (l ++ [x]) vs → ∃ vs0 A c, vs = vs0 ++ [.int .i64 x.kind_, .string x.name_, .slice A x.args_.length c] ∧ ElemsT w P l vs0 ∧ TypeRow w P A c x.args_
  | [], x, vs, h => by
    obtain ⟨A', c', rest, rfl, h1, h2⟩ := h
    rw [ElemsT] at h2; subst h2
    exact ⟨[], A', c', rfl, rfl, h1⟩
  | y :: r, x, vs, h => by
    obtain ⟨A', c', rest, rfl, h1, h2⟩ := h
    obtain ⟨vs0, A, c, rfl, h3, h4⟩ := ElemsT.last (l := r) h2
    exact ⟨_ :: _ :: _ :: vs0, A, c, rfl, ⟨A', c', vs0, rfl, h1, h3⟩, h4⟩
theorem ElemsT.append {w : World} {P : Nat → Prop} : ∀ {l : List TypeX} {vs : List Value}, ElemsT w P l vs → ∀ {m : List TypeX} {us : List Value}, ElemsT w P m us → ElemsT w P (l ++ m) (vs ++ us)
  | [], vs, h, m, us, hm => by rw [ElemsT] at h; subst h; exact hm
  | y :: r, vs, h, m, us, hm => by
    obtain ⟨A', c', rest, rfl, h1, h2⟩ := h
    exact ⟨A', c', rest ++ us, rfl, h1, h2.append hm⟩
theorem ElemsT.of_rows {w : World} {P : Nat → Prop} : ∀ {l : List TypeX} {vs : List Value}, RdVE w P 3 (TypeX.rows l) vs → ElemsT w P l vs ∧ ∀ u ∈ vs, u.oneCell' = true
  | [], vs, h => by rw [TypeX.rows, RdVE] at h; subst h; exact ⟨rfl, by simp⟩
  | x :: r, vs, h => by
    rw [TypeX.rows, RdVE] at h
    obtain ⟨v1, v2, rfl, _, h1, h2⟩ := h
    obtain ⟨h3, h4⟩ := ElemsT.of_rows h2
    rw [TypeX.cells_eq] at h1
    simp only [RdVs] at h1
    obtain ⟨u0, _, rfl, g0, u1, _, rfl, g1, u2, _, rfl, g2, rfl⟩ := h1
    rw [RdV_pl] at g0 g1
    subst g0 g1
    obtain ⟨A, c, rfl, k2⟩ := TypeRow.of_read g2
    refine ⟨⟨A, c, v2, rfl, k2, h3⟩, fun u hu => ?_⟩
    simp at hu
    rcases hu with rfl | rfl | rfl | hu
    · rfl
    · rfl
    · rfl
    · exact h4 u hu
theorem TypeRow.cells {w : World} {P : Nat → Prop} {A : Option Addr} {c : Nat} {l : List TypeX} (h : TypeRow w P A c l) :
    ∃ us : List Value, ElemsT w P l us ∧ us.length = l.length * 3 ∧ (∀ u ∈ us, u.oneCell' = true) ∧ (l.length = 0 ∨ ∃ b o, A = some ⟨b, o, none⟩ ∧ P b ∧ ∀ (j : Nat) (u : Value), us[j]? = some u → w.cell? ⟨b, o + j, none⟩ = some u) := by
  obtain ⟨A', c', e, _, _, h⟩ := RdV_row.1 h
  injection e with e1 _ _
  subst e1
  rcases h with h | ⟨b, o, hA, hP, vs, hE, hc⟩
  · have hl : l = [] := by rw [TypeX.rows_map] at h; simpa using h
    subst hl
    exact ⟨[], rfl, rfl, by simp, .inl rfl⟩
  · obtain ⟨h1, h2⟩ := ElemsT.of_rows hE
    exact ⟨vs, h1, h1.length, h2, .inr ⟨b, o, hA, hP, hc⟩⟩
theorem sizeL_snoc : ∀ (l : List TypeX) (x : TypeX), TypeX.sizeL (l ++ [x]) = TypeX.sizeL l + x.size
  | [], x => by simp [TypeX.sizeL]
  | y :: r, x => by rw [List.cons_append, TypeX.sizeL, TypeX.sizeL, sizeL_snoc r x]; omega
theorem sizeL_append : ∀ (l m : List TypeX), TypeX.sizeL (l ++ m) = TypeX.sizeL l + TypeX.sizeL m
  | [], m => by simp [TypeX.sizeL]
  | y :: r, m => by rw [List.cons_append, TypeX.sizeL, TypeX.sizeL, sizeL_append r m]; omega
theorem sizeL_length : ∀ (l : List TypeX), l.length ≤ TypeX.sizeL l
  | [] => Nat.zero_le _
  | x :: r => by have := sizeL_length r; have := TypeX.size_eq x; rw [TypeX.sizeL, List.length_cons]; omega
/-- The same cells, in a world that has grown. -/
theorem cells_inT {w w' : World} {B : Nat} {A : Option Addr} {n : Nat} {us : List Value} (hb : Below B w w') (h : n = 0 ∨ ∃ b o, A = some ⟨b, o, none⟩ ∧ Und B b ∧ ∀ (j : Nat) (u : Value), us[j]? = some u → w.cell? ⟨b, o + j, none⟩ = some u) :
    n = 0 ∨ ∃ ad, A = some ad ∧ ∀ (j : Nat) (u : Value), us[j]? = some u → w'.cell? (ad.add j) = some u := by
  rcases h with h | ⟨b, o, rfl, hP, h3⟩
  · exact .inl h
  · refine .inr ⟨_, rfl, fun j u hj => ?_⟩
    rw [Go.WideShapes.add_plain]
    exact (hb.cell (p := ⟨b, o + j, none⟩) hP).trans (h3 j u hj)
theorem pop_eqT {ls ms : List TypeX} {p q : TypeX} {Q : Prop} (h : Q ↔ ls ++ [p] = ms ++ [q]) (hl : ls.length = ms.length) : (p.kind_ = q.kind_ → p.name_ = q.name_ → p.args_.length = q.args_.length → (Q ↔ ls ++ p.args_ = ms ++ q.args_)) ∧ (p.kind_ ≠ q.kind_ ∨ p.name_ ≠ q.name_ ∨ p.args_.length ≠ q.args_.length → ¬ Q) := by
  cases p with | mk k a l => cases q with | mk k' b m =>
  constructor
  · intro hk ha hn
    rw [h]
    simp only [TypeX.kind_, TypeX.name_, TypeX.args_] at hk ha hn ⊢
    subst hk ha
    constructor
    · intro e
      obtain ⟨e1, e2⟩ := List.append_inj e hl
      simp at e2
      rw [e1, e2]
    · intro e
      obtain ⟨e1, e2⟩ := List.append_inj e hl
      rw [e1, e2]
  · intro hne hq
    obtain ⟨_, e2⟩ := List.append_inj (h.1 hq) hl
    simp at e2
    rcases hne with h | h | h
    · exact h e2.1
    · exact h e2.2.1
    · exact h (by simp only [TypeX.args_]; rw [e2.2.2])
theorem two_boxesT {w : World} {T : TypeId} (ca cb : Array Value) :
    Whole (((w.alloc (.cells ca T)).alloc (.cells cb T)).drew) w.heap.size T ca ∧ Whole (((w.alloc (.cells ca T)).alloc (.cells cb T)).drew) (w.heap.size + 1) T cb := by
  constructor
  · exact ((Whole.new w T ca).below ((Below.refl _ _).alloc (Nat.le_refl _) _) (by simp) : Whole ((w.alloc (.cells ca T)).alloc (.cells cb T)) w.heap.size T ca)
  · have h := Whole.new (w.alloc (.cells ca T)) T cb
    rw [World.size_alloc] at h
    exact h
theorem two_rowsT {w : World} {T : TypeId} {B : Nat} (a b c a' b' c' : Value) (hB : B ≤ w.heap.size) :
    (((w.alloc (.cells #[a, b, c] T)).alloc (.cells #[a', b', c'] T)).drew).ownsRow B T 3 (.slice (some ⟨w.heap.size, 0, none⟩) 1 1) 1 [a, b, c] ∧ (((w.alloc (.cells #[a, b, c] T)).alloc (.cells #[a', b', c'] T)).drew).ownsRow B T 3 (.slice (some ⟨w.heap.size + 1, 0, none⟩) 1 1) 1 [a', b', c'] := by
  constructor
  · exact ((World.ownsRow_lit w #[a, b, c] 1 hB (by decide) rfl).alloc _ : ((w.alloc (.cells #[a, b, c] T)).alloc (.cells #[a', b', c'] T)).ownsRow B T 3 (.slice (some ⟨w.heap.size, 0, none⟩) 1 1) 1 [a, b, c])
  · have h := World.ownsRow_lit (base := B) (size := 3) (e := T) (w.alloc (.cells #[a, b, c] T)) #[a', b', c'] 1 (by simp; omega) (by decide) rfl
    rw [World.size_alloc] at h
    exact h

theorem infoTy : (Tryz.prog.info? 26).map (fun i => (i.zero, i.size, i.bytes)) = some (some (.agg #[.int .i64 0, .string ByteArray.empty, .slice none 0 0]), 3, 48) := by kernel_rfl

end Go.Proofs.YtbcfeoobhemdcaaGreat
namespace Go.Proofs.YtbcfeoobhemdcaaGreat
open Go.RowKit Go.Lib

/-- A block that is there, and none of G. -/
def Nog (G : Nat → Prop) (w : World) (b : Nat) : Prop := b < w.heap.size ∧ ¬ G b
/-- A ROW OF TYPES of the call's own; what its types lead to lies neither in it nor in G. -/
def TopT (G : Nat → Prop) (w w' : World) (V : Value) (l : List TypeX) : Prop :=
  ∃ us, w'.ownsRow w.heap.size 26 3 V l.length us ∧ ElemsT w' (fun b => Nog G w' b ∧ V.ownBlock ≠ some b) l us
/-- A TYPE whose arguments' row is the call's own. -/
def MadeT (G : Nat → Prop) (x : TypeX) (w : World) (e : Ending) (w' : World) : Prop := ∃ V, e = .returned (.agg #[.int .i64 x.kind_, .string x.name_, V]) ∧ TopT G w w' V x.args_

theorem ElemsT.frame {w w' : World} {P Q : Nat → Prop} (hPQ : ∀ b, P b → Q b) (hk : ∀ b o, P b → w'.cell? ⟨b, o, none⟩ = w.cell? ⟨b, o, none⟩) : ∀ {l : List TypeX} {us : List Value}, ElemsT w P l us → ElemsT w' Q l us
  | [], us, h => h
  | x :: r, us, h => by
    obtain ⟨A, c, rest, rfl, h1, h2⟩ := h
    exact ⟨A, c, rest, rfl, h1.frame hPQ hk, ElemsT.frame hPQ hk h2⟩
theorem ElemsT.rows {w : World} {P : Nat → Prop} : ∀ {l : List TypeX} {us : List Value}, ElemsT w P l us → RdVE w P 3 (TypeX.rows l) us
  | [], us, h => by rw [ElemsT] at h; subst h; rw [TypeX.rows, RdVE]
  | x :: r, us, h => by
    obtain ⟨A, c, rest, rfl, h1, h2⟩ := h
    rw [TypeX.rows, RdVE]
    refine ⟨[.int .i64 x.kind_, .string x.name_, .slice A x.args_.length c], rest, rfl, x.cells_length, ?_, h2.rows⟩
    rw [TypeX.cells_eq]
    simp only [RdVs]
    exact ⟨_, _, rfl, by rw [RdV_pl], _, _, rfl, by rw [RdV_pl], _, _, rfl, h1, rfl⟩
theorem ElemsT.one {w : World} {P : Nat → Prop} {l : List TypeX} {us : List Value} (h : ElemsT w P l us) : ∀ u ∈ us, u.oneCell' = true := (ElemsT.of_rows h.rows).2
/-- An owned row of types reads as one. -/
theorem own_typeRow {w : World} {P Q : Nat → Prop} {B : Nat} {V : Value} {l : List TypeX} {us : List Value} (ho : w.ownsRow B 26 3 V l.length us) (he : ElemsT w P l us) (hPQ : ∀ b, P b → Q b) (hV : ∀ b, V.ownBlock = some b → Q b) :
    ∃ A c, V = .slice A l.length c ∧ TypeRow w Q A c l := by
  have hE : RdVE w Q 3 (TypeX.rows l) us := (he.frame hPQ (fun _ _ _ => rfl)).rows
  rcases ho.2 with ⟨rfl, hn⟩ | ⟨g, cap, cur, rfl, _, hg, hnc, hcm, _⟩
  · have hl : l = [] := List.eq_nil_of_length_eq_zero hn
    subst hl
    exact ⟨none, 0, rfl, TypeRow.nil _ _ _ _ (by omega)⟩
  · refine ⟨some ⟨g, 0, none⟩, cap, rfl, RdV_row.2 ⟨some ⟨g, 0, none⟩, cap, by rw [TypeX.rows_length], by rw [TypeX.rows_length]; exact hnc, by unfold maxLen at hcm; omega, .inr ⟨g, 0, rfl, hV g rfl, us, hE, fun i v hi => ?_⟩⟩⟩
    have hil : i < l.length * 3 := by rw [← ho.1]; exact (List.getElem?_eq_some_iff.1 hi).1
    rw [Nat.zero_add, World.ownsRow.cellAt ho i hil]
    exact hi
theorem TopT.row {G : Nat → Prop} {w w' : World} {V : Value} {l : List TypeX} (hG : ∀ b, G b → b < w.heap.size) (h : TopT G w w' V l) : ∃ A c, V = .slice A l.length c ∧ TypeRow w' (Nog G w') A c l := by
  obtain ⟨us, ho, he⟩ := h
  exact own_typeRow ho he (fun b h => h.1) (fun b hb => ⟨(ho.lt b hb).2, fun hg => by have := (ho.lt b hb).1; have := hG b hg; omega⟩)
theorem TopT.shape {G : Nat → Prop} {w w' : World} {V : Value} {l : List TypeX} (h : TopT G w w' V l) : ∃ A c, V = .slice A l.length c := by
  obtain ⟨us, ho, _⟩ := h
  rcases ho.2 with ⟨rfl, h0⟩ | ⟨g, cap, cur, rfl, _⟩
  · exact ⟨none, 0, by rw [h0]⟩
  · exact ⟨_, cap, rfl⟩
/-- It stays while only blocks of G change. -/
theorem TopT.but {G : Nat → Prop} {g : Nat} {w w' w'' : World} {V : Value} {l : List TypeX} (hG : ∀ b, G b → b < w.heap.size) (hg : G g) (h : TopT G w w' V l) (hb : But g w' w'') : TopT G w w'' V l := by
  obtain ⟨us, ho, he⟩ := h
  refine ⟨us, own_same ho fun b hv => hb.block b (ho.lt b hv).2 (fun e => by have := (ho.lt b hv).1; have := hG g hg; omega), he.frame (fun b h => ⟨⟨Nat.lt_of_lt_of_le h.1.1 hb.size, h.1.2⟩, h.2⟩) fun b o h => World.cell?_of_block (a := ⟨b, o, none⟩) (hb.block b h.1.1 (fun e => h.1.2 (e ▸ hg)))⟩
theorem TopT.below {G : Nat → Prop} {w w' w'' : World} {V : Value} {l : List TypeX} (h : TopT G w w' V l) (hb : Below w'.heap.size w' w'') : TopT G w w'' V l := by
  obtain ⟨us, ho, he⟩ := h
  refine ⟨us, own_same ho fun b hv => hb.block b (ho.lt b hv).2, he.frame (fun b h => ⟨⟨Nat.lt_of_lt_of_le h.1.1 hb.size, h.1.2⟩, h.2⟩) fun b o h => hb.cell (p := ⟨b, o, none⟩) h.1.1⟩
/-- The same, of a block that is none of the row's. -/
theorem TopT.butX {G : Nat → Prop} {g : Nat} {w w' w'' : World} {V : Value} {l : List TypeX} (h : TopT G w w' V l) (hV : V.ownBlock ≠ some g) (hg : G g) (hb : But g w' w'') : TopT G w w'' V l := by
  obtain ⟨us, ho, he⟩ := h
  refine ⟨us, own_same ho fun b hv => hb.block b (ho.lt b hv).2 (fun e => hV (by rw [hv, e])), he.frame (fun b h => ⟨⟨Nat.lt_of_lt_of_le h.1.1 hb.size, h.1.2⟩, h.2⟩) fun b o h => World.cell?_of_block (a := ⟨b, o, none⟩) (hb.block b h.1.1 (fun e => h.1.2 (e ▸ hg)))⟩
theorem TopT.wide {G : Nat → Prop} {w w1 w' : World} {V : Value} {l : List TypeX} (h : TopT G w1 w' V l) (hs : w.heap.size ≤ w1.heap.size) : TopT G w w' V l := by
  obtain ⟨us, ho, he⟩ := h
  refine ⟨us, ⟨ho.1, ?_⟩, he⟩
  rcases ho.2 with h' | ⟨g, cap, cur, e, hb, rest⟩
  · exact .inl h'
  · exact .inr ⟨g, cap, cur, e, Nat.le_trans hs hb, rest⟩
theorem TopT.less {G G' : Nat → Prop} {w w' : World} {V : Value} {l : List TypeX} (h : TopT G' w w' V l) (hG : ∀ b, G b → G' b) : TopT G w w' V l := by
  obtain ⟨us, ho, he⟩ := h
  exact ⟨us, ho, he.frame (fun b h => ⟨⟨h.1.1, fun hg => h.1.2 (hG b hg)⟩, h.2⟩) fun _ _ _ => rfl⟩
theorem TopT.nil (G : Nat → Prop) (w w' : World) : TopT G w w' (.slice none 0 0) [] := ⟨[], World.ownsRow_nil _ _ _ _, rfl⟩
/-- The result's three cells written. -/
theorem tyEnd {w w3 : World} {a b c : Value} {k : Int} {s : ByteArray} {A : Option Addr} {n cc : Nat} (hx : Whole w3 w.heap.size 26 #[a, b, c]) (hb : Below w.heap.size w w3) :
    ∀ w4, w4 = ((w3.setCell ⟨w.heap.size, 0, none⟩ (.int .i64 k)).setCell ⟨w.heap.size, 1, none⟩ (.string s)).setCell ⟨w.heap.size, 2, none⟩ (.slice A n cc) →
      w4.cell? ⟨w.heap.size, 0, none⟩ = some (.int .i64 k) ∧ w4.cell? ⟨w.heap.size, 1, none⟩ = some (.string s) ∧ w4.cell? ⟨w.heap.size, 2, none⟩ = some (.slice A n cc) ∧ But w.heap.size w3 w4 ∧ Below w.heap.size w w4 := by
  rintro w4 rfl
  have hx3 := ((hx.set_ 0 (.int .i64 k)).set_ 1 (.string s)).set_ 2 (.slice A n cc)
  obtain ⟨e0, e1, e2⟩ := cells3 (by simpa using hx3)
  exact ⟨e0, e1, e2, ((But.set_ _ _ 0 _).trans (But.set_ _ _ 1 _)).trans (But.set_ _ _ 2 _), ((hb.setCell (p := ⟨w.heap.size, 0, none⟩) (Nat.le_refl _) _).setCell (p := ⟨w.heap.size, 1, none⟩) (Nat.le_refl _) _).setCell (p := ⟨w.heap.size, 2, none⟩) (Nat.le_refl _) _⟩

set_option maxRecDepth 100000 in
theorem varC (G : Nat → Prop) (s : ByteArray) (w : World) : Calls Tryz.prog 68 #[.string s] w fun e w' => MadeT G (.mk 1 s []) w e w' ∧ Below w.heap.size w w' := by
  have hb0 : ∀ a b c, Below w.heap.size w (w.alloc (.cells #[a, b, c] 26)) := fun a b c => (Below.refl _ _).alloc (Nat.le_refl _) _
  go_enter Tryz.func68, Tryz.ntmps68
  go_wp2
  exact bodyPost_ret (v := .agg #[.int .i64 1, .string s, .slice none 0 0]) (by simp [results, Tryz.results68, go_sem]) rfl ⟨⟨_, rfl, TopT.nil _ _ _⟩, hb0 _ _ _⟩

set_option maxRecDepth 100000 in
set_option maxHeartbeats 2000000 in
theorem conC (G : Nat → Prop) (s : ByteArray) (A : Option Addr) (c : Nat) (l : List TypeX) (w : World) (hl : l.length ≤ 1000000) (hA : TypeRow w (Nog G w) A c l) :
    Calls Tryz.prog 45 #[.string s, .slice A l.length c] w fun e w' => MadeT G (.mk 2 s l) w e w' ∧ Below w.heap.size w w' := by
  obtain ⟨i0, hi, hz0, hz1, hz2⟩ := info_parts infoTy
  obtain ⟨us, he, hul, hone, hadr⟩ := hA.cells
  have hb0 : Below w.heap.size w ((w.alloc (.cells #[.int .i64 0, .string ByteArray.empty, .slice none 0 0] 26)).alloc (.cells #[] 26)) := ((Below.refl _ _).alloc (Nat.le_refl _) _).alloc (by simp) _
  have hown := World.ownsRow_made (base := w.heap.size + 1) (e := 26) (size := 3) (w.alloc (.cells #[.int .i64 0, .string ByteArray.empty, .slice none 0 0] 26)) #[] 0 (by simp) (by decide) rfl
  rw [World.size_alloc] at hown
  have hx0 : Whole ((w.alloc (.cells #[.int .i64 0, .string ByteArray.empty, .slice none 0 0] 26)).alloc (.cells #[] 26)) w.heap.size 26 #[.int .i64 0, .string ByteArray.empty, .slice none 0 0] :=
    (Whole.new w _ _).below ((Below.refl (w.heap.size + 1) _).alloc (by simp) _) (by omega)
  have hcells : l.length = 0 ∨ ∃ ad, A = some ad ∧ ∀ (j : Nat) (u : Value), us[j]? = some u → ((w.alloc (.cells #[.int .i64 0, .string ByteArray.empty, .slice none 0 0] 26)).alloc (.cells #[] 26)).cell? (ad.add j) = some u := by
    rcases hadr with h | ⟨b, o, rfl, hP, hc⟩
    · exact .inl h
    · refine .inr ⟨_, rfl, fun j u hj => ?_⟩
      rw [Go.WideShapes.add_plain]
      exact (hb0.cell (p := ⟨b, o + j, none⟩) hP.1).trans (hc j u hj)
  have HB := Lib.hid hb0
  have HO := Lib.hid hown
  have HX := Lib.hid hx0
  have HC := Lib.hid hcells
  have HE := Lib.hid he
  have HL := Lib.hid hul
  have H1 := Lib.hid hone
  clear hb0 hown hx0 hcells he hul hone hadr hA
  go_enter Tryz.func45, Tryz.ntmps45
  go_wp2_with (at_builtin; refine wpList_append_any rfl (.tmp 6) (.tmp 7) 24 rfl (w.heap.size + 1) 26 i0 (.agg #[.int .i64 0, .string ByteArray.empty, .slice none 0 0]) 3 48 Tryz.underlying24 hi hz0 hz1 hz2 rfl (by decide) (.slice (some ⟨w.heap.size + 1, 0, none⟩) 0 0) 0 [] rfl HO.out A l.length c us rfl HL.out HC.out H1.out (by unfold maxLen; omega) (by omega) (by simp) (w.heap.size + 2) (by simp) ?_)
  intro V w2 hown2 hgrow2 hat2
  have hz2' := hgrow2.size
  simp only [World.size_alloc] at hz2'
  have hx2 : Whole w2 w.heap.size 26 #[.int .i64 0, .string ByteArray.empty, .slice none 0 0] := (hgrow2.block _ HX.out.lt (by simp [Value.ownBlock])).trans HX.out
  have hb2 : Below w.heap.size w w2 := HB.out.grown hgrow2 HB.out.size (fun k hk => by simp [Value.ownBlock] at hk; omega)
  have he2 : ElemsT w2 (fun b => Nog G w b) l us := HE.out.frame (fun b h => h) fun b o hP => hb2.cell (p := ⟨b, o, none⟩) hP.1
  have hVb : ∀ b, V.ownBlock = some b → w.heap.size + 1 ≤ b := fun b hb => (hown2.lt b hb).1
  obtain ⟨A2, n2, hV⟩ := own_nil hown2
  subst hV
  have htop : TopT (fun b => G b ∨ b = w.heap.size) w w2 (.slice A2 l.length n2) l := by
    refine ⟨us, ⟨hown2.1, ?_⟩, he2.frame (fun b h => ⟨⟨by have := h.1; omega, fun hg => hg.elim h.2 (fun e => by have := h.1; omega)⟩, fun e => by have := hVb b e; have := h.1; omega⟩) fun _ _ _ => rfl⟩
    rcases hown2.2 with h' | ⟨g', cap, cur, e, hb, rest⟩
    · exact .inl h'
    · exact .inr ⟨g', cap, cur, e, by omega, rest⟩
  have hend := tyEnd (k := 2) (s := s) (A := A2) (n := l.length) (cc := n2) hx2 hb2
  have hVX : (Value.slice A2 l.length n2).ownBlock ≠ some w.heap.size := fun e => by have := hVb _ e; omega
  obtain ⟨r0, r1, r2⟩ := cells3 hx2
  have rf0 := hx2.frozen 0
  have rf1 := hx2.frozen 1
  have rf2 := hx2.frozen 2
  have hlt := hx2.lt
  have HT := Lib.hid htop
  have HE2 := Lib.hid hend
  have HVX := Lib.hid hVX
  clear htop hend he2 hown2 hgrow2 hat2 hb2 hx2 hVX
  go_wp2
  obtain ⟨e0, e1, e2, hbut, hb3⟩ := HE2.out _ rfl
  exact bodyPost_ret (v := .agg #[.int .i64 2, .string s, .slice A2 l.length n2]) (by simp [results, Tryz.results45, go_sem, e0, e1, e2]) rfl ⟨⟨_, rfl, (HT.out.butX HVX.out (.inr rfl) hbut).less fun b h => .inl h⟩, hb3⟩
end Go.Proofs.YtbcfeoobhemdcaaGreat
namespace Go.Proofs.YtbcfeoobhemdcaaGreat
open Go.RowKit

/-- The list holds the string. -/
def has (l : List ByteArray) (s : ByteArray) : Bool := l.any fun x => x.data.toList == s.data.toList
theorem data_inj {x s : ByteArray} (h : x.data.toList = s.data.toList) : x = s := ByteArray.ext (Array.toList_inj.1 h)
theorem has_snoc (l : List ByteArray) (x s : ByteArray) : has (l ++ [x]) s = (has l s || x.data.toList == s.data.toList) := by simp [has]
theorem has_append (l m : List ByteArray) (s : ByteArray) : has (l ++ m) s = (has l s || has m s) := by simp [has]
theorem has_iff {l : List ByteArray} {s : ByteArray} : has l s = true ↔ s ∈ l := by
  rw [has, List.any_eq_true]
  constructor
  · rintro ⟨x, hx, h⟩
    rw [beq_iff_eq] at h
    rw [← data_inj h]; exact hx
  · intro h
    exact ⟨s, h, by simp⟩

/-- What a map of strings to bools reads as: true just at these. -/
def SetIs (D : DataW Unit) (l : List ByteArray) : Prop := Maps.IsMap D ∧ ∀ s : ByteArray, D.atKey (.string s.data.toList) (.lit (.bool false)) = .lit (.bool (has l s))
theorem SetIs.nil : SetIs (.map []) [] := ⟨Maps.isMap_empty, fun _ => rfl⟩
theorem SetIs.put {D : DataW Unit} {l : List ByteArray} (h : SetIs D l) (x : ByteArray) : SetIs (D.put (.string x.data.toList) (.lit (.bool true))) (l ++ [x]) := by
  refine ⟨h.1.put _ _, fun s => ?_⟩
  rw [has_snoc]
  by_cases e : s.data.toList = x.data.toList
  · rw [e, Maps.atKey_put_same h.1 (k := .string x.data.toList) (show WideAt.IsKeyLit (.string x.data.toList) from trivial)]
    simp
  · rw [Maps.atKey_put_other (fun he => e (by injection he)), h.2 s]
    have : (x.data.toList == s.data.toList) = false := by rw [beq_eq_false_iff_ne]; exact fun he => e he.symm
    rw [this, Bool.or_false]
theorem boolElem_inv {H : Type} {P : Program} {e : TypeId} (he : P.underlying e = some .bool) {v : Value} {z : DataW H × List MemPlace} (h : plainElem P e v = some z) : ∃ x, v = .bool x ∧ z = (.lit (.bool x), []) := by
  unfold plainElem at h
  rw [he] at h
  cases v <;> simp at h
  exact ⟨_, rfl, h.symm⟩

/-- Block b is a map of at most n entries that holds true just at these strings. -/
def Seen (P : Program) (k e : TypeId) (w : World) (b n : Nat) (l : List ByteArray) : Prop := ∃ D : DataW Unit, w.ownsMap P k (plainElem P e) b n D ∧ SetIs D l
theorem Seen.made {P : Program} {k e : TypeId} (w : World) : Seen P k e (w.alloc (.map #[] 0)) w.heap.size 0 [] := ⟨_, World.ownsMap_made _ _ _ _, SetIs.nil⟩
theorem Seen.kept {P : Program} {k e : TypeId} {w w' : World} {b n : Nat} {l : List ByteArray} {row : Option Nat} (h : Seen P k e w b n l) (hg : w.grownBy w' row) (hne : some b ≠ row) : Seen P k e w' b n l := by
  obtain ⟨D, h1, h2⟩ := h
  exact ⟨D, h1.kept hg hne, h2⟩
theorem Seen.lt {P : Program} {k e : TypeId} {w : World} {b n : Nat} {l : List ByteArray} (h : Seen P k e w b n l) : b < w.heap.size := by
  obtain ⟨D, h1, _⟩ := h
  exact h1.lt
theorem Seen.look {P : Program} {t k e : TypeId} {w : World} {b n : Nat} {l : List ByteArray} (h : Seen P k e w b n l) (ht : P.underlying t = some (.map k e)) (hk : P.underlying k = some .string) (he : P.underlying e = some .bool) (hz : (zeroValue e).run P w = .ok (.bool false) w) (s : ByteArray) (hs : s.size ≤ 9223372036854775807) :
    (Instr.lookup t (.map (some b)) (.string s) false).run P w = .ok (.bool (has l s)) w := by
  obtain ⟨D, h1, h2⟩ := h
  obtain ⟨v, ps, hrun, hv⟩ := h1.lookup (Maps.string_keyed hk) ht hz (plainElem_bool he false) (WideMaps.keyOf_string_mk hk (by unfold maxLen; omega))
  obtain ⟨x, rfl, hx⟩ := boolElem_inv he hv
  rw [h2.2 s] at hx
  simp only [Prod.mk.injEq, DataW.lit.injEq, Lit.bool.injEq] at hx
  rw [hrun, hx.1]
theorem Seen.store {P : Program} {t k e : TypeId} {w : World} {b n : Nat} {l : List ByteArray} (h : Seen P k e w b n l) (ht : P.underlying t = some (.map k e)) (hk : P.underlying k = some .string) (he : P.underlying e = some .bool) (hn : n ≤ 17179869184) (s : ByteArray) (hs : s.size ≤ 9223372036854775807) :
    ∃ w', (Instr.mapUpdate t (.map (some b)) (.string s) (.bool true)).run P w = .ok () w' ∧ Seen P k e w' b (n + 1) (l ++ [s]) ∧ w.grownBy w' (some b) := by
  obtain ⟨D, h1, h2⟩ := h
  obtain ⟨w', hrun, hown, hg⟩ := h1.update (Maps.string_keyed hk) ht (by unfold maxLen; omega) (WideMaps.keyOf_string_mk hk (by unfold maxLen; omega)) (plainElem_bool he true)
  exact ⟨w', hrun, ⟨_, hown, h2.put s⟩, hg⟩

section
variable {P : Program} (w : World) {ops : Array Oper} {rest : List Oper} {o : Oper} {a : Act} {Q : Exit → Act → World → Prop}
/-- 'm[s]', for the walk. -/
theorem wp_seen_look (hg : o.guard = none) (m x : Operand) (t : TypeId) (hop : o.op = Op.lookup t m x false) (k e : TypeId) (ht : P.underlying t = some (.map k e)) (hk : P.underlying k = some .string) (he : P.underlying e = some .bool) (hz : (zeroValue e).run P w = .ok (.bool false) w)
    (b n : Nat) (l : List ByteArray) (hm : a.eval m = .map (some b)) (h : Seen P k e w b n l) (key : Value) (hx : a.eval x = key) (s : ByteArray) (hk2 : key = .string s) (hs : s.size ≤ 9223372036854775807)
    (hK : wpList P ops Q rest (a.put o.dst (.bool (has l s))) w) : wpList P ops Q (o :: rest) a w := by
  subst hk2
  refine wpList_plain hg fun K' hK' => ?_
  have hrun := h.look ht hk he hz s hs
  unfold Oper.wp
  simp [execOp, hop, hm, hx, hrun, Result.andThen]
  exact hK' _ _ hK
/-- 'm[s] = true', for the walk. -/
theorem wp_seen_store (hg : o.guard = none) (m x v : Operand) (t : TypeId) (hop : o.op = Op.mapUpdate t m x v) (k e : TypeId) (ht : P.underlying t = some (.map k e)) (hk : P.underlying k = some .string) (he : P.underlying e = some .bool)
    (b n : Nat) (l : List ByteArray) (hm : a.eval m = .map (some b)) (h : Seen P k e w b n l) (hn : n ≤ 17179869184) (key val : Value) (hx : a.eval x = key) (hv : a.eval v = val) (s : ByteArray) (hk2 : key = .string s) (hv2 : val = .bool true) (hs : s.size ≤ 9223372036854775807)
    (hK : ∀ w', Seen P k e w' b (n + 1) (l ++ [s]) → w.grownBy w' (some b) → wpList P ops Q rest (a.put o.dst undef) w') : wpList P ops Q (o :: rest) a w := by
  subst hk2 hv2
  refine wpList_plain hg fun K' hK' => ?_
  obtain ⟨w', hrun, r1, r2⟩ := h.store ht hk he hn s hs
  unfold Oper.wp
  simp [execOp, hop, hm, hx, hv, hrun, Result.andThen]
  exact hK' _ _ (hK w' r1 r2)
/-- An entry of a map's literal, for the walk. -/
theorem wp_seen_insert (hg : o.guard = none) (m x v : Operand) (t : TypeId) (hop : o.op = Op.insert t m x v) (k e : TypeId) (ht : P.underlying t = some (.map k e)) (hk : P.underlying k = some .string) (he : P.underlying e = some .bool)
    (b n : Nat) (l : List ByteArray) (hm : a.eval m = .map (some b)) (h : Seen P k e w b n l) (hn : n ≤ 17179869184) (key val : Value) (hx : a.eval x = key) (hv : a.eval v = val) (s : ByteArray) (hk2 : key = .string s) (hv2 : val = .bool true) (hs : s.size ≤ 9223372036854775807)
    (hK : ∀ w', Seen P k e w' b (n + 1) (l ++ [s]) → w.grownBy w' (some b) → wpList P ops Q rest (a.put o.dst undef) w') : wpList P ops Q (o :: rest) a w := by
  subst hk2 hv2
  refine wpList_plain hg fun K' hK' => ?_
  obtain ⟨w', hrun, r1, r2⟩ := h.store ht hk he hn s hs
  unfold Oper.wp
  simp [execOp, hop, hm, hx, hv, hrun, Result.andThen]
  exact hK' _ _ (hK w' r1 r2)
end
end Go.Proofs.YtbcfeoobhemdcaaGreat
namespace Go.Proofs.YtbcfeoobhemdcaaGreat
open Go.RowKit

theorem text_ne {a b : ByteArray} (h : a ≠ b) : (a.toList == b.toList) = false := by
  rw [beq_eq_false_iff_ne]
  intro e
  rw [ByteArray.toList_eq, ByteArray.toList_eq] at e
  exact h (ByteArray.ext (Array.toList_inj.1 e))
theorem has_take {ss : List ByteArray} {k : Nat} (h : k < ss.length) (s : ByteArray) : has (ss.take (k + 1)) s = (has (ss.take k) s || ss[k].data.toList == s.data.toList) := by
  rw [List.take_succ_eq_append_getElem h, has_snoc]
theorem has_of_take {ss : List ByteArray} {k : Nat} {s : ByteArray} (h : has (ss.take k) s = true) : has ss s = true := by
  rw [has_iff] at h ⊢
  exact List.mem_of_mem_take h

set_option maxRecDepth 100000 in
set_option maxHeartbeats 400000 in
theorem specHas (A : Option Addr) (c : Nat) (ss : List ByteArray) (s : ByteArray) (w : World) (hA : Strs w A ss) (hn : ss.length ≤ 9223372036854775807) :
    Calls Tryz.prog 98 #[.slice A ss.length c, .string s] w fun e w' => e = .returned (.bool (has ss s)) ∧ w = w' := by
  have HA := Lib.hid hA
  clear hA
  go_enter Tryz.func98, Tryz.ntmps98
  go_wp2
  go_loop [5] (fun i => ∃ k : Nat, k ≤ ss.length ∧ i = .int .i64 k ∧ has (ss.take k) s = false) (fun i => ss.length - (Go.RowKit.intOf i).toNat)
  case atStart => exact ⟨0, Nat.zero_le _, rfl, rfl⟩
  case round =>
    obtain ⟨k, hk, rfl, hno⟩ := hrel
    by_cases hlt : k < ss.length
    · obtain ⟨g, o, rfl, hc⟩ := HA.out.at_ hlt
      have hst := has_take hlt s
      rw [hno, Bool.false_or] at hst
      have hup := @has_of_take ss (k + 1) s
      have HS := Lib.hid hst
      have HU := Lib.hid hup
      clear hst hup hno
      cases he : ss[k].data.toList == s.data.toList with
      | true =>
        have hy := HU.out (HS.out.trans he)
        have HY := Lib.hid hy
        have he1 : ss[k] = s := data_inj (by simpa using he)
        clear hy
        go_wp2
        go_ret
        exact ⟨congrArg (fun b => Ending.returned (.bool b)) HY.out.symm, rfl⟩
      | false =>
        have hf := HS.out.trans he
        have HF := Lib.hid hf
        have he1 : (ss[k].toList == s.toList) = false := text_ne (by intro e; rw [e] at he; simp at he)
        clear hf
        go_wp2
        go_round
        case rel => exact ⟨k + 1, by omega, by go_num, HF.out⟩
        case measure => simp [Go.RowKit.intOf]; omega
    · have hkl : k = ss.length := by omega
      subst hkl
      rw [List.take_length] at hno
      have HN := Lib.hid hno
      clear hno
      go_wp2
      go_ret
      exact ⟨congrArg (fun b => Ending.returned (.bool b)) HN.out.symm, rfl⟩
end Go.Proofs.YtbcfeoobhemdcaaGreat
namespace Go.Proofs.YtbcfeoobhemdcaaGreat
open Go.RowKit Go.Lib

mutual
def TypeX.same : TypeX → TypeX → Bool
  | .mk k s l, .mk k' s' m => (k == k') && (decide (s = s') && (decide (l.length = m.length) && TypeX.sameL l m))
def TypeX.sameL : List TypeX → List TypeX → Bool
  | [], _ => true
  | _ :: _, [] => true
  | x :: r, y :: s => x.same y && TypeX.sameL r s
end
theorem TypeX.same_eq (x y : TypeX) : x.same y = ((x.kind_ == y.kind_) && (decide (x.name_ = y.name_) && (decide (x.args_.length = y.args_.length) && TypeX.sameL x.args_ y.args_))) := by cases x; cases y; rw [TypeX.same]; rfl
theorem TypeX.sameL_take : ∀ (l m : List TypeX) (j : Nat) (h : j < l.length) (h' : j < m.length), TypeX.sameL (l.take (j + 1)) (m.take (j + 1)) = (TypeX.sameL (l.take j) (m.take j) && l[j].same m[j])
  | x :: r, y :: s, 0, _, _ => by simp [TypeX.sameL]
  | x :: r, y :: s, j + 1, h, h' => by
    have := TypeX.sameL_take r s j (by simpa using h) (by simpa using h')
    rw [List.take_succ_cons, List.take_succ_cons, List.take_succ_cons, List.take_succ_cons, TypeX.sameL, TypeX.sameL, this]
    simp [Bool.and_assoc]
theorem TypeX.sameL_false : ∀ (l m : List TypeX) (j : Nat) (h : j < l.length) (h' : j < m.length), l[j].same m[j] = false → TypeX.sameL l m = false
  | x :: r, y :: s, 0, _, _, hf => by rw [TypeX.sameL]; simp at hf; rw [hf]; rfl
  | x :: r, y :: s, j + 1, h, h', hf => by rw [TypeX.sameL, TypeX.sameL_false r s j (by simpa using h) (by simpa using h') (by simpa using hf), Bool.and_false]
mutual
theorem TypeX.same_iff : ∀ (x y : TypeX), x.same y = true ↔ x = y
  | .mk a s l, .mk b t m => by
    rw [TypeX.same, Bool.and_eq_true, Bool.and_eq_true, Bool.and_eq_true, decide_eq_true_eq, decide_eq_true_eq, beq_iff_eq, TypeX.mk.injEq]
    constructor
    · rintro ⟨h1, h2, h3, h4⟩; exact ⟨h1, h2, (TypeX.sameL_iff l m h3).1 h4⟩
    · rintro ⟨h1, h2, h3⟩; subst h3; exact ⟨h1, h2, rfl, (TypeX.sameL_iff l l rfl).2 rfl⟩
theorem TypeX.sameL_iff : ∀ (l m : List TypeX), l.length = m.length → (TypeX.sameL l m = true ↔ l = m)
  | [], m, h => by rw [TypeX.sameL]; simp; exact List.eq_nil_of_length_eq_zero h.symm
  | x :: r, [], h => by simp at h
  | x :: r, y :: s, h => by rw [TypeX.sameL, Bool.and_eq_true, TypeX.same_iff x y, TypeX.sameL_iff r s (by simpa using h), List.cons.injEq]
end
theorem TypeX.sizeL_at : ∀ (l : List TypeX) (j : Nat) (h : j < l.length), l[j].size ≤ TypeX.sizeL l
  | x :: r, 0, _ => by rw [TypeX.sizeL]; simp
  | x :: r, j + 1, h => by
    have := TypeX.sizeL_at r j (by simpa using h)
    rw [TypeX.sizeL]; simp; omega

def SameT (N : Nat) : Prop := ∀ (x y : TypeX) (v v' : Value) (w : World), x.size ≤ N → TypeAt w (Und w.heap.size) x v → TypeAt w (Und w.heap.size) y v' →
  Calls Tryz.prog 13 #[v, v'] w fun e w' => e = .returned (.bool (x.same y)) ∧ Below w.heap.size w w'
def SameTL (N : Nat) : Prop := ∀ (l m : List TypeX) (A B : Option Addr) (c d : Nat) (w : World), TypeX.sizeL l ≤ N → TypeRow w (Und w.heap.size) A c l → TypeRow w (Und w.heap.size) B d m →
  Calls Tryz.prog 38 #[.slice A l.length c, .slice B m.length d] w fun e w' => e = .returned (.bool (decide (l.length = m.length) && TypeX.sameL l m)) ∧ Below w.heap.size w w'

set_option maxRecDepth 100000 in
set_option maxHeartbeats 2000000 in
theorem sameTL_step (N : Nat) (ih : SameT N) : SameTL N := by
  intro l m A B c d w hn hA hB
  have hcl := hA.cap
  have hcm := hB.cap
  have HA := Lib.hid hA
  have HB := Lib.hid hB
  have HN := Lib.hid hn
  clear hA hB hn
  by_cases hlen : l.length = m.length
  · rw [decide_eq_true hlen, Bool.true_and, ← hlen]
    have HL := Lib.hid hlen
    clear hlen hcm
    go_enter Tryz.func38, Tryz.ntmps38
    go_wp2
    go_loopw [5] (fun iv wr => ∃ k : Nat, k ≤ l.length ∧ iv = .int .i64 k ∧ TypeX.sameL (l.take k) (m.take k) = true ∧ Below w.heap.size w wr) (fun iv _ => l.length - (Go.RowKit.intOf iv).toNat)
    case atStart => exact ⟨0, Nat.zero_le _, rfl, by simp [TypeX.sameL], Below.refl _ _⟩
    case round =>
      obtain ⟨k, hk, rfl, hs, hb⟩ := hrel
      have HT := Lib.hid hs
      clear hs
      by_cases hlt : k < l.length
      · have hlt2 : k < m.length := by have := HL.out; omega
        obtain ⟨b, o, A2, c2, hAe, hP, p0, p1, p2, h2⟩ := (HA.out.grow hb).at_ hlt
        subst hAe
        obtain ⟨b2, o2, B2, d2, hBe, hP2, r0, r1, r2, g2⟩ := (HB.out.grow hb).at_ hlt2
        subst hBe
        have hst := TypeX.sameL_take l m k hlt hlt2
        have hno := TypeX.sameL_false l m k hlt hlt2
        rw [HT.out, Bool.true_and] at hst
        have hnx : l[k].size ≤ N := by have := TypeX.sizeL_at l k hlt; have := HN.out; omega
        have cE : ∀ dr os, Calls Tryz.prog 13 #[.agg #[.int .i64 l[k].kind_, .string l[k].name_, .slice A2 l[k].args_.length c2], .agg #[.int .i64 m[k].kind_, .string m[k].name_, .slice B2 m[k].args_.length d2]] (Go.Sort.grow (redrawn wr dr) os) fun e w'' => e = .returned (.bool (l[k].same m[k])) ∧ ∃ p : Regrown, w'' = Go.Sort.grow (redrawn wr p.d) p.os :=
          fun dr os => Calls.regrown_of (ih l[k] m[k] _ _ _ hnx ⟨_, _, rfl, h2.grow (below_regrown wr dr os)⟩ ⟨_, _, rfl, g2.grow (below_regrown wr dr os)⟩)
        have kp0 := cell_regrown p0
        have kr0 := cell_regrown r0
        have kp1 := cell_regrown p1
        have kr1 := cell_regrown r1
        have kp2 := cell_regrown p2
        have kr2 := cell_regrown r2
        have hk0 : (0 : Int) ≤ k := by omega
        have HSt := Lib.hid hst
        have HNo := Lib.hid hno
        clear h2 g2 hnx hst hno
        go_wp2
        refine wp_region_quiet_below (by kernel_rfl) (by kernel_rfl) ?_
        repeat (quiet_step (exact cE _ _))
        refine wpQuiet_nil ?_
        intro _ hw'
        obtain ⟨⟨dq, osq⟩, hw''⟩ := hw'
        subst hw''
        have hb3 := hb.trans ((below_regrown wr dq osq).mono hb.size)
        clear cE kp0 kr0 kp1 kr1 kp2 kr2
        cases hc : l[k].same m[k] with
        | true =>
          have HC := Lib.hid hc
          clear hc
          go_wp2
          go_roundw
          case rel => exact ⟨k + 1, by omega, by go_num, by rw [HSt.out, HC.out], hb3⟩
          case measure => simp [Go.RowKit.intOf]; omega
        | false =>
          have HC := Lib.hid hc
          clear hc
          go_wp2
          go_ret
          exact ⟨congrArg (fun b => Ending.returned (.bool b)) (HNo.out HC.out).symm, hb3⟩
      · have hkl : k = l.length := by omega
        subst hkl
        have ht := HT.out
        rw [List.take_length, HL.out, List.take_length] at ht
        have HT' := Lib.hid ht
        clear ht
        go_wp2
        go_ret
        exact ⟨congrArg (fun b => Ending.returned (.bool b)) HT'.out.symm, hb⟩
  · rw [decide_eq_false hlen, Bool.false_and]
    have hlz : ((l.length : Int) == m.length) = false := by rw [beq_eq_false_iff_ne]; omega
    clear hlen
    go_enter Tryz.func38, Tryz.ntmps38
    go_wp2
    go_ret
    exact ⟨rfl, Below.refl _ _⟩

set_option maxRecDepth 100000 in
set_option maxHeartbeats 2000000 in
theorem sameT_step (N : Nat) (ih : SameTL N) : SameT (N + 1) := by
  intro x y v v' w hn hv hv'
  obtain ⟨A, c, rfl, hx⟩ := hv
  obtain ⟨B, d, rfl, hy⟩ := hv'
  have hsq := TypeX.same_eq x y
  have hb0 : Below w.heap.size w ((w.alloc (.cells #[.int .i64 x.kind_, .string x.name_, .slice A x.args_.length c] 26)).alloc (.cells #[.int .i64 y.kind_, .string y.name_, .slice B y.args_.length d] 26)) := ((Below.refl _ _).alloc (Nat.le_refl _) _).alloc (by simp) _
  have HX := Lib.hid (hx.grow hb0)
  have HY := Lib.hid (hy.grow hb0)
  have HN := Lib.hid hn
  clear hx hy hn
  cases hk : (x.kind_ == y.kind_) with
  | false =>
    rw [hk, Bool.false_and] at hsq
    have HS := Lib.hid hsq
    clear hsq
    go_enter Tryz.func13, Tryz.ntmps13
    go_wp2
    go_ret
    exact ⟨congrArg (fun b => Ending.returned (.bool b)) HS.out.symm, hb0⟩
  | true =>
    rw [hk, Bool.true_and] at hsq
    by_cases hnm : x.name_ = y.name_
    · rw [decide_eq_true hnm, Bool.true_and] at hsq
      have HS := Lib.hid hsq
      have he1 : (x.name_.toList == y.name_.toList) = true := by rw [hnm]; simp
      clear hsq hnm
      go_enter Tryz.func13, Tryz.ntmps13
      go_wp2_with fail
      refine (ih x.args_ y.args_ _ _ _ _ _ (by have := HN.out; rw [TypeX.size_eq] at this; omega) HX.out HY.out).mono ?_
      rw [← HS.out]
      rintro e w1 ⟨rfl, hb1⟩
      have hb2 := hb0.trans (hb1.mono hb0.size)
      go_wp2
      go_ret
      exact ⟨rfl, hb2⟩
    · rw [decide_eq_false hnm, Bool.false_and] at hsq
      have HS := Lib.hid hsq
      have he1 : (x.name_.toList == y.name_.toList) = false := text_ne hnm
      clear hsq hnm
      go_enter Tryz.func13, Tryz.ntmps13
      go_wp2
      go_ret
      exact ⟨congrArg (fun b => Ending.returned (.bool b)) HS.out.symm, hb0⟩
theorem sameTAll : ∀ N, SameT N
  | 0 => fun x y v v' w hn => by rw [TypeX.size_eq] at hn; omega
  | N + 1 => sameT_step N (sameTL_step N (sameTAll N))
theorem specSameTy (x y : TypeX) (v v' : Value) (w : World) (hv : TypeAt w (Und w.heap.size) x v) (hv' : TypeAt w (Und w.heap.size) y v') :
    Calls Tryz.prog 13 #[v, v'] w fun e w' => e = .returned (.bool (x.same y)) ∧ Below w.heap.size w w' := sameTAll _ x y v v' w (Nat.le_refl _) hv hv'
end Go.Proofs.YtbcfeoobhemdcaaGreat
namespace Go.Proofs.YtbcfeoobhemdcaaGreat
open Go.RowKit Go.Lib

abbrev zeroT : Array Value := #[.int .i64 0, .string ⟨#[]⟩, .slice none 0 0]
/-- A base type: the result's cell laid, l4Con called, the result stored. -/
theorem baseEnd {G : Nat → Prop} {s : ByteArray} {w w2 : World} {e : Ending} (hb0 : Below w.heap.size w (w.alloc (.cells zeroT 26))) (h : MadeT (fun b => G b ∨ b = w.heap.size) (.mk 2 s []) (w.alloc (.cells zeroT 26)) e w2) (hb : Below (w.alloc (.cells zeroT 26)).heap.size (w.alloc (.cells zeroT 26)) w2) :
    ∃ A c, e = .returned (.agg #[.int .i64 2, .string s, .slice A 0 c]) ∧ Whole w2 w.heap.size 26 zeroT ∧ ∀ w4, w4 = ((w2.setCell ⟨w.heap.size, 0, none⟩ (.int .i64 2)).setCell ⟨w.heap.size, 1, none⟩ (.string s)).setCell ⟨w.heap.size, 2, none⟩ (.slice A 0 c) →
      w4.cell? ⟨w.heap.size, 0, none⟩ = some (.int .i64 2) ∧ w4.cell? ⟨w.heap.size, 1, none⟩ = some (.string s) ∧ w4.cell? ⟨w.heap.size, 2, none⟩ = some (.slice A 0 c) ∧ MadeT G (.mk 2 s []) w (.returned (.agg #[.int .i64 2, .string s, .slice A 0 c])) w4 ∧ Below w.heap.size w w4 := by
  obtain ⟨V, rfl, ht⟩ := h
  obtain ⟨A, c, rfl⟩ := ht.shape
  have hx2 : Whole w2 w.heap.size 26 zeroT := (Whole.new w _ _).below hb (by simp)
  refine ⟨A, c, rfl, hx2, fun w4 h4 => ?_⟩
  obtain ⟨e0, e1, e2, hbut, hb4⟩ := tyEnd (k := 2) (s := s) (A := A) (n := 0) (cc := c) hx2 (hb0.trans (hb.mono (by simp))) w4 h4
  have hV : (Value.slice A 0 c).ownBlock ≠ some w.heap.size := fun e => by
    obtain ⟨us, ho, _⟩ := ht
    have := (ho.lt _ e).1
    simp at this
    omega
  exact ⟨e0, e1, e2, ⟨_, rfl, ((ht.butX hV (.inr rfl) hbut).less fun b h => .inl h).wide (by simp)⟩, hb4⟩

set_option maxRecDepth 100000 in
theorem intC (G : Nat → Prop) (w : World) : Calls Tryz.prog 43 #[] w fun e w' => MadeT G (.mk 2 ⟨#[105, 110, 116]⟩ []) w e w' ∧ Below w.heap.size w w' := by
  have hb0 : Below w.heap.size w (w.alloc (.cells zeroT 26)) := (Below.refl _ _).alloc (Nat.le_refl _) _
  go_enter Tryz.func43, Tryz.ntmps43
  go_wp2_with fail
  refine (conC (fun b => G b ∨ b = w.heap.size) ⟨#[105, 110, 116]⟩ none 0 [] _ (by decide) (TypeRow.nil _ _ _ _ (by decide))).mono ?_
  intro e w2 ⟨hm, hb⟩
  obtain ⟨A, c, rfl, hx2, hend⟩ := baseEnd hb0 hm hb
  obtain ⟨r0, r1, r2⟩ := cells3 hx2
  have rf0 := hx2.frozen 0
  have rf1 := hx2.frozen 1
  have rf2 := hx2.frozen 2
  have hlt := hx2.lt
  have HE := Lib.hid hend
  clear hend hx2 hm hb
  go_wp2
  obtain ⟨e0, e1, e2, e3⟩ := HE.out _ rfl
  exact bodyPost_ret (v := .agg #[.int .i64 2, .string ⟨#[105, 110, 116]⟩, .slice A 0 c]) (by simp [results, Tryz.results43, go_sem, e0, e1, e2]) rfl e3
set_option maxRecDepth 100000 in
theorem boolC (G : Nat → Prop) (w : World) : Calls Tryz.prog 44 #[] w fun e w' => MadeT G (.mk 2 ⟨#[98, 111, 111, 108]⟩ []) w e w' ∧ Below w.heap.size w w' := by
  have hb0 : Below w.heap.size w (w.alloc (.cells zeroT 26)) := (Below.refl _ _).alloc (Nat.le_refl _) _
  go_enter Tryz.func44, Tryz.ntmps44
  go_wp2_with fail
  refine (conC (fun b => G b ∨ b = w.heap.size) ⟨#[98, 111, 111, 108]⟩ none 0 [] _ (by decide) (TypeRow.nil _ _ _ _ (by decide))).mono ?_
  intro e w2 ⟨hm, hb⟩
  obtain ⟨A, c, rfl, hx2, hend⟩ := baseEnd hb0 hm hb
  obtain ⟨r0, r1, r2⟩ := cells3 hx2
  have rf0 := hx2.frozen 0
  have rf1 := hx2.frozen 1
  have rf2 := hx2.frozen 2
  have hlt := hx2.lt
  have HE := Lib.hid hend
  clear hend hx2 hm hb
  go_wp2
  obtain ⟨e0, e1, e2, e3⟩ := HE.out _ rfl
  exact bodyPost_ret (v := .agg #[.int .i64 2, .string ⟨#[98, 111, 111, 108]⟩, .slice A 0 c]) (by simp [results, Tryz.results44, go_sem, e0, e1, e2]) rfl e3

/-- A result's three cells written, whatever its block. -/
theorem tyEndX {w w3 : World} {X : Nat} {a b c : Value} {k : Int} {s : ByteArray} {A : Option Addr} {n cc : Nat} (hx : Whole w3 X 26 #[a, b, c]) (hX : w.heap.size ≤ X) (hb : Below w.heap.size w w3) :
    ∀ w4, w4 = ((w3.setCell ⟨X, 0, none⟩ (.int .i64 k)).setCell ⟨X, 1, none⟩ (.string s)).setCell ⟨X, 2, none⟩ (.slice A n cc) →
      w4.cell? ⟨X, 0, none⟩ = some (.int .i64 k) ∧ w4.cell? ⟨X, 1, none⟩ = some (.string s) ∧ w4.cell? ⟨X, 2, none⟩ = some (.slice A n cc) ∧ But X w3 w4 ∧ Below w.heap.size w w4 ∧ Whole w4 X 26 #[.int .i64 k, .string s, .slice A n cc] := by
  rintro w4 rfl
  have hx3 : Whole (((w3.setCell ⟨X, 0, none⟩ (.int .i64 k)).setCell ⟨X, 1, none⟩ (.string s)).setCell ⟨X, 2, none⟩ (.slice A n cc)) X 26 #[.int .i64 k, .string s, .slice A n cc] := by
    simpa using ((hx.set_ 0 (.int .i64 k)).set_ 1 (.string s)).set_ 2 (.slice A n cc)
  obtain ⟨e0, e1, e2⟩ := cells3 hx3
  exact ⟨e0, e1, e2, ((But.set_ _ _ 0 _).trans (But.set_ _ _ 1 _)).trans (But.set_ _ _ 2 _), ((hb.setCell (p := ⟨X, 0, none⟩) hX _).setCell (p := ⟨X, 1, none⟩) hX _).setCell (p := ⟨X, 2, none⟩) hX _, hx3⟩
/-- The row of a type under way is not a block of G. -/
theorem TopT.ne {G : Nat → Prop} {X : Nat} {w w' : World} {V : Value} {l : List TypeX} (h : TopT G w w' V l) (hX : X < w.heap.size) : V.ownBlock ≠ some X := fun e => by
  obtain ⟨us, ho, _⟩ := h
  have := (ho.lt _ e).1
  omega

/-! Copies. -/
def CopyT (N : Nat) : Prop := ∀ (G : Nat → Prop) (x : TypeX) (v : Value) (w : World), (∀ b, G b → b < w.heap.size) → x.size ≤ N → N ≤ 1000000 → TypeAt w (Nog G w) x v →
  Calls Tryz.prog 84 #[v] w fun e w' => MadeT G x w e w' ∧ Below w.heap.size w w'
def CopiesT (N : Nat) : Prop := ∀ (G : Nat → Prop) (l : List TypeX) (A : Option Addr) (c : Nat) (w : World), (∀ b, G b → b < w.heap.size) → TypeX.sizeL l ≤ N → N ≤ 1000000 → TypeRow w (Nog G w) A c l →
  Calls Tryz.prog 95 #[.slice A l.length c] w fun e w' => (∃ V, e = .returned V ∧ TopT G w w' V l) ∧ Below w.heap.size w w'

theorem TypeRow.nog {G : Nat → Prop} {w w' : World} {A : Option Addr} {c : Nat} {l : List TypeX} (h : TypeRow w (Nog G w) A c l) (hb : Below w.heap.size w w') : TypeRow w' (Nog G w') A c l :=
  h.frame (fun _ h => ⟨Nat.lt_of_lt_of_le h.1 hb.size, h.2⟩) fun b o h => hb.cell (p := ⟨b, o, none⟩) h.1
theorem TypeRow.nogX {G G' : Nat → Prop} {w w' : World} {A : Option Addr} {c : Nat} {l : List TypeX} (h : TypeRow w (Nog G w) A c l) (hb : Below w.heap.size w w') (hG : ∀ b, b < w.heap.size → G' b → G b) : TypeRow w' (Nog G' w') A c l :=
  h.frame (fun _ h => ⟨Nat.lt_of_lt_of_le h.1 hb.size, fun h' => h.2 (hG _ h.1 h')⟩) fun b o h => hb.cell (p := ⟨b, o, none⟩) h.1

set_option maxRecDepth 100000 in
set_option maxHeartbeats 2000000 in
theorem copyT_step (N : Nat) (ih : CopiesT N) : CopyT (N + 1) := by
  intro G x v w hG hn hN hv
  obtain ⟨A, c, rfl, hx⟩ := hv
  have hbb : Below w.heap.size w ((w.alloc (.cells #[.int .i64 x.kind_, .string x.name_, .slice A x.args_.length c] 26)).alloc (.cells zeroT 26)) := ((Below.refl _ _).alloc (Nat.le_refl _) _).alloc (by simp) _
  obtain ⟨W, hW⟩ : ∃ W, W = (w.alloc (.cells #[.int .i64 x.kind_, .string x.name_, .slice A x.args_.length c] 26)).alloc (.cells zeroT 26) := ⟨_, rfl⟩
  have hs : W.heap.size = w.heap.size + 2 := by rw [hW]; simp
  have hx1 : Whole W w.heap.size 26 #[.int .i64 x.kind_, .string x.name_, .slice A x.args_.length c] := by rw [hW]; exact (Whole.new w _ _).below ((Below.refl (w.heap.size + 1) _).alloc (by simp) _) (by omega)
  have hx2 : Whole W (w.heap.size + 1) 26 zeroT := by
    have h := Whole.new (w.alloc (.cells #[.int .i64 x.kind_, .string x.name_, .slice A x.args_.length c] 26)) 26 zeroT
    rw [World.size_alloc] at h; rw [hW]; exact h
  rw [← hW] at hbb
  have hr : TypeRow W (Nog (fun b => G b ∨ b = w.heap.size + 1) W) A c x.args_ := hx.nogX hbb fun b hb h => h.elim id (fun e => by omega)
  have hG' : ∀ b, (G b ∨ b = w.heap.size + 1) → b < W.heap.size := fun b h => h.elim (fun h => by have := hG b h; omega) (fun e => by omega)
  have hc := ih (fun b => G b ∨ b = w.heap.size + 1) x.args_ A c W.drew hG' (by rw [TypeX.size_eq] at hn; omega) (by omega) (hr.frame (fun _ h => h) fun _ _ _ => rfl)
  have HC := Lib.hid hc
  have HW := Lib.hid hW.symm
  have HS := Lib.hid hs
  have HX1 := Lib.hid hx1
  have HX2 := Lib.hid hx2
  have HB := Lib.hid hbb
  clear hc hW hs hx1 hx2 hbb hr hx
  go_enter Tryz.func84, Tryz.ntmps84
  go_upto_region 1 with (fail)
  rw [HW.out]
  obtain ⟨p0, p1, p2⟩ := cells3 HX1.out
  obtain ⟨r0, r1, r2⟩ := cells3 HX2.out
  have rf0 := HX2.out.frozen 0
  have rf1 := HX2.out.frozen 1
  have rf2 := HX2.out.frozen 2
  have hlt := HX2.out.lt
  have HX2e := fun (w2 : World) (h : Below W.heap.size W w2) => HX2.out.below h HX2.out.lt
  have HX1e := fun (w2 : World) (h : Below W.heap.size W w2) => HX1.out.below h HX1.out.lt
  have H2E := Lib.hid HX2e
  have H1E := Lib.hid HX1e
  clear HX2e HX1e
  go_region_held3 (fun w' => w'.cell? ⟨w.heap.size, 0, none⟩ = some (.int .i64 x.kind_) ∧ w'.cell? ⟨w.heap.size, 1, none⟩ = some (.string x.name_) ∧ w'.cell? ⟨w.heap.size, 2, none⟩ = some (.slice A x.args_.length c))
    (first
      | go_keep
      | exact cells3 (H1E.out _ hb2')
      | exact HSS _ _ _)
    (first
      | (go_at_call 95
         refine HC.out.mono ?_
         rintro e w2 ⟨⟨V, rfl, ht⟩, hb2⟩
         have hb2' : Below W.heap.size W w2 := (Below.refl _ W).drew.trans hb2
         obtain ⟨A2, c2, rfl⟩ := ht.shape
         have hx2 := H2E.out w2 hb2'
         have hbw := HB.out.trans (hb2'.mono HB.out.size)
         have r0 : w2.cell? ⟨w.heap.size + 1, 0, none⟩ = some (.int .i64 0) := by rw [hx2.cell]; rfl
         have r1 : w2.cell? ⟨w.heap.size + 1, 1, none⟩ = some (.string ⟨#[]⟩) := by rw [hx2.cell]; rfl
         have r2 : w2.cell? ⟨w.heap.size + 1, 2, none⟩ = some (.slice none 0 0) := by rw [hx2.cell]; rfl
         have rf0 := hx2.frozen 0
         have rf1 := hx2.frozen 1
         have rf2 := hx2.frozen 2
         have hlt := hx2.lt
         have HT := Lib.hid ht
         have HXX := Lib.hid hx2
         clear ht hx2 hb2))
  obtain ⟨e0, e1, e2, hbut, hb4, -⟩ := tyEndX (k := x.kind_) (s := x.name_) (A := A2) (n := x.args_.length) (cc := c2) HXX.out (by omega) hbw _ rfl
  have ht4 := ((HT.out.butX (HT.out.ne (by have := HS.out; show w.heap.size + 1 < W.heap.size; omega)) (.inr rfl) hbut).less (G := G) fun b h => .inl h).wide (w := w) (by have := HS.out; show w.heap.size ≤ W.heap.size; omega)
  have HT4 := Lib.hid ht4
  have HB4 := Lib.hid hb4
  clear hbut ht4 hb4
  go_wp2
  exact bodyPost_ret (v := .agg #[.int .i64 x.kind_, .string x.name_, .slice A2 x.args_.length c2]) (by simp [results, Tryz.results84, go_sem, e0, e1, e2]) rfl ⟨⟨_, rfl, HT4.out⟩, HB4.out⟩

set_option maxRecDepth 100000 in
set_option maxHeartbeats 4000000 in
theorem copiesT_step (N : Nat) (ih : CopyT N) : CopiesT N := by
  intro G l A c w hG hn hN hA
  obtain ⟨i0, hi, hz0, hz1, hz2⟩ := info_parts infoTy
  have hcap := hA.cap
  have hll := sizeL_length l
  have hb0 : Below w.heap.size w (w.alloc (.cells #[] 26)) := (Below.refl _ _).alloc (Nat.le_refl _) _
  have hown := World.ownsRow_made (base := w.heap.size) (e := 26) (size := 3) w #[] 0 (Nat.le_refl _) (by decide) rfl
  have HA := Lib.hid hA
  have HN := Lib.hid hn
  have HB := Lib.hid hb0
  have HO := Lib.hid hown
  clear hA hn hb0 hown
  go_enter Tryz.func95, Tryz.ntmps95
  go_wp2
  go_loopw [3, 4] (fun ov iv wr => ∃ (k : Nat), k ≤ l.length ∧ iv = .int .i64 k ∧ TopT G w wr ov (l.take k) ∧ Below w.heap.size w wr) (fun _ iv _ => l.length - (Go.RowKit.intOf iv).toNat)
  case atStart => exact ⟨0, Nat.zero_le _, rfl, ⟨[], HO.out, rfl⟩, HB.out⟩
  case round =>
    obtain ⟨k, hk, rfl, ht, hb⟩ := hrel
    obtain ⟨A1, c1, rfl⟩ := ht.shape
    by_cases hlt : k < l.length
    · have hG1 : ∀ b, (G b ∨ (Value.slice A1 (l.take k).length c1).ownBlock = some b) → b < wr.heap.size := fun b h => by
        have := hb.size
        rcases h with h | h
        · have := hG b h; omega
        · obtain ⟨us, ho, _⟩ := ht
          exact (ho.lt b h).2
      have hrow : TypeRow wr (Nog (fun b => G b ∨ (Value.slice A1 (l.take k).length c1).ownBlock = some b) wr) A c l := HA.out.nogX hb fun b hb' h => h.elim id fun e => by
        obtain ⟨us, ho, _⟩ := ht
        have := (ho.lt b e).1; omega
      obtain ⟨b, o, A2, c2, rfl, hP, p0, p1, p2, h2⟩ := hrow.at_ hlt
      have hsx : l[k].size ≤ N := by have := TypeX.sizeL_at l k hlt; have := HN.out; omega
      have hlen : (l.take k).length = k := by rw [List.length_take]; omega
      have hc := ih (fun b => G b ∨ (Value.slice A1 (l.take k).length c1).ownBlock = some b) l[k] (.agg #[.int .i64 l[k].kind_, .string l[k].name_, .slice A2 l[k].args_.length c2]) wr hG1 hsx hN ⟨_, _, rfl, h2⟩
      rw [hlen] at ht hc ⊢
      have HC := Lib.hid hc
      have HT := Lib.hid ht
      have HL := Lib.hid hlen
      clear hc ht hlen h2 hrow hG1
      go_wp2_with fail
      refine HC.out.mono ?_
      rintro e w2 ⟨⟨V2, rfl, ht2⟩, hb2⟩
      obtain ⟨A3, c3, rfl⟩ := ht2.shape
      obtain ⟨A3', c3', e3, hr3⟩ := ht2.row (fun b h => by
        rcases h with h | h
        · have := hG b h; have := hb.size; omega
        · obtain ⟨us, ho, _⟩ := HT.out
          exact (ho.lt b h).2)
      injection e3 with e3 _ e4
      subst e3 e4
      obtain ⟨us, ho, he⟩ := HT.out.below hb2
      rw [HL.out] at ho
      have hbw := hb.trans (hb2.mono hb.size)
      have HO2 := Lib.hid (ho.alloc (.cells #[.int .i64 l[k].kind_, .string l[k].name_, .slice A3 l[k].args_.length c3] 26))
      have HE := Lib.hid he
      have HR3 := Lib.hid hr3
      have HOW := Lib.hid ho
      have hk3 : k ≤ 1000000 := by have := HN.out; omega
      clear he hr3 ht2 hb2 p0 p1 p2 ho
      have hcell := fun (j : Nat) (u : Value) => (fun (h : [.int .i64 l[k].kind_, .string l[k].name_, .slice A3 l[k].args_.length c3][j]? = some u) => (by
        match j, h with
        | 0, h => simp at h; subst h; simp [Addr.add]
        | 1, h => simp at h; subst h; simp [Addr.add]
        | 2, h => simp at h; subst h; simp [Addr.add] : (w2.alloc (.cells #[.int .i64 l[k].kind_, .string l[k].name_, .slice A3 l[k].args_.length c3] 26)).cell? ((⟨w2.heap.size, 0, none⟩ : Addr).add j) = some u))
      have HCE := Lib.hid hcell
      clear hcell
      go_wp2_with (at_builtin; refine wpList_append_any rfl (.tmp 12) (.tmp 18) 24 rfl w.heap.size 26 i0 (.agg #[.int .i64 0, .string ByteArray.empty, .slice none 0 0]) 3 48 Tryz.underlying24 hi hz0 hz1 hz2 rfl (by decide) (.slice A1 k c1) k us rfl HO2.out (some ⟨w2.heap.size, 0, none⟩) 1 1 [.int .i64 l[k].kind_, .string l[k].name_, .slice A3 l[k].args_.length c3] rfl rfl (.inr ⟨_, rfl, HCE.out⟩) (by simp [Value.oneCell']) (by unfold maxLen; omega) (by omega) (by have := hbw.size; simp; omega) (w2.heap.size + 1) (by simp) ?_)
      intro V w3 hown3 hgrow3 hat3
      have hz3 := hgrow3.size
      simp only [World.size_alloc] at hz3
      have hbelow : Below w.heap.size w w3 := (hbw.alloc hbw.size (.cells #[.int .i64 l[k].kind_, .string l[k].name_, .slice A3 l[k].args_.length c3] 26)).grown hgrow3 (by have := hbw.size; simp; omega) (fun j hj => by have := (HOW.out.lt j hj).1; omega)
      have hsame : ∀ b, b < w2.heap.size → (Value.slice A1 k c1).ownBlock ≠ some b → w3.heap[b]? = w2.heap[b]? := fun b hb' hne => (hgrow3.block b (by simp; omega) (fun e => hne e.symm)).trans (Below.heap_alloc _ _ _ hb')
      have hnew : ∀ b, b < w2.heap.size → (Value.slice A1 k c1).ownBlock ≠ some b → V.ownBlock ≠ some b := fun b hb' hne e => by
        rcases hat3 with h | h
        · exact hne (h ▸ e)
        · rw [h] at e; injection e with e; omega
      have hend : TopT G w w3 V (l.take (k + 1)) := by
        refine ⟨us ++ [.int .i64 l[k].kind_, .string l[k].name_, .slice A3 l[k].args_.length c3], ?_, ?_⟩
        · rw [show (l.take (k + 1)).length = k + 1 by rw [List.length_take]; omega]; exact hown3
        · rw [List.take_succ_eq_append_getElem hlt]
          refine ElemsT.append (HE.out.frame (fun b h => ⟨⟨by have := h.1.1; omega, h.1.2⟩, hnew b h.1.1 h.2⟩) fun b o h => World.cell?_of_block (a := ⟨b, o, none⟩) (hsame b h.1.1 h.2)) ⟨A3, c3, [], rfl, ?_, rfl⟩
          exact HR3.out.frame (fun b h => ⟨⟨by have := h.1; omega, fun hg => h.2 (.inl hg)⟩, hnew b h.1 (fun e => h.2 (.inr e))⟩) fun b o h => World.cell?_of_block (a := ⟨b, o, none⟩) (hsame b h.1 (fun e => h.2 (.inr e)))
      have HEND := Lib.hid hend
      clear hend hown3 hgrow3 hat3 hsame hnew hz3
      go_wp2
      go_roundw
      case rel => exact ⟨k + 1, by omega, by go_num, HEND.out, hbelow⟩
      case measure => simp [Go.RowKit.intOf]; omega
    · have hkl : k = l.length := by omega
      subst hkl
      rw [List.take_length] at ht ⊢
      have HT := Lib.hid ht
      clear ht
      go_wp2
      go_ret
      exact ⟨⟨_, rfl, HT.out⟩, hb⟩
theorem copyTAll : ∀ N, CopyT N
  | 0 => fun G x v w _ hn => by rw [TypeX.size_eq] at hn; omega
  | N + 1 => copyT_step N (copiesT_step N (copyTAll N))
theorem copyT (G : Nat → Prop) (x : TypeX) (v : Value) (w : World) (hG : ∀ b, G b → b < w.heap.size) (hn : x.size ≤ 1000000) (hv : TypeAt w (Nog G w) x v) :
    Calls Tryz.prog 84 #[v] w fun e w' => MadeT G x w e w' ∧ Below w.heap.size w w' := copyTAll 1000000 G x v w hG hn (Nat.le_refl _) hv
end Go.Proofs.YtbcfeoobhemdcaaGreat
namespace Go.Proofs.YtbcfeoobhemdcaaGreat
open Go.RowKit Go.Lib

mutual
/-- A small type: as the draws make them. -/
def TypeX.tame : TypeX → Prop
  | .mk k s l => (-9 ≤ k ∧ k ≤ 9) ∧ s.size ≤ 100 ∧ TypeX.tameL l
def TypeX.tameL : List TypeX → Prop
  | [] => True
  | x :: r => x.tame ∧ TypeX.tameL r
end
theorem TypeX.tame_eq (x : TypeX) : x.tame = ((-9 ≤ x.kind_ ∧ x.kind_ ≤ 9) ∧ x.name_.size ≤ 100 ∧ TypeX.tameL x.args_) := by cases x with | mk a b c => rw [TypeX.tame]; rfl
mutual
theorem TypeX.tame_ok : ∀ x : TypeX, x.tame → x.size ≤ 4294967296 → DV.okL x.cells
  | .mk k s l, h, hn => by
    rw [TypeX.tame] at h
    rw [TypeX.size] at hn
    have hl := sizeL_length l
    rw [TypeX.cells]
    simp only [DV.okL, DV.ok, uok, TypeX.rows_length]
    exact ⟨by omega, by omega, ⟨by omega, TypeX.tameL_ok l h.2.2 (by omega)⟩, trivial⟩
theorem TypeX.tameL_ok : ∀ l : List TypeX, TypeX.tameL l → TypeX.sizeL l ≤ 4294967296 → DV.okE (TypeX.rows l)
  | [], _, _ => by rw [TypeX.rows, DV.okE]; trivial
  | x :: r, h, hn => by
    rw [TypeX.tameL] at h
    rw [TypeX.sizeL] at hn
    rw [TypeX.rows, DV.okE]
    exact ⟨TypeX.tame_ok x h.1 (by omega), TypeX.tameL_ok r h.2 (by omega)⟩
end

theorem whole_but {w w' : World} {g k : Nat} {t : TypeId} {cs : Array Value} (h : Whole w g t cs) (hb : But k w w') (hne : g ≠ k) : Whole w' g t cs := (hb.block g h.lt hne).trans h
theorem cur_far {w w' : World} {B g k : Nat} (h : Cur w B g) (hb : But k w w') (hk : g < k) : Cur w' B g := by
  have ho := h.own
  obtain ⟨A, n, c, i, x, hc⟩ := h
  refine ⟨A, n, c, i, x, ⟨whole_but hc.cells hb (by omega), ho, fun j hj => ?_, hc.size, hc.lo, hc.hi⟩⟩
  have hlt := hc.cells.lt
  obtain ⟨b, o, z, hA, hl, h0, h1, hz⟩ := hc.bytes j hj
  exact ⟨b, o, z, hA, hl, h0, h1, (World.cell?_of_block (a := ⟨b, o + j, none⟩) (hb.block b (by omega) (by omega))).trans hz⟩
/-- Whatever changes beyond what was there. -/
theorem but_new {g X : Nat} {w w3 w4 : World} (hb : But g w w3) (h : But X w3 w4) (hX : w.heap.size ≤ X) : But g w w4 :=
  ⟨h.os.trans hb.os, h.tape.trans hb.tape, h.output.trans hb.output, Nat.le_trans hb.size h.size, fun k hk hg => (h.block k (Nat.lt_of_lt_of_le hk hb.size) (by omega)).trans (hb.block k hk hg)⟩

/-- WHAT A DRAW OF A TYPE LEAVES. -/
def DrawnT (G : Nat → Prop) (N B g : Nat) (w : World) (e : Ending) (w' : World) : Prop := ∃ x : TypeX, MadeT G x w e w' ∧ x.size ≤ N ∧ x.tame ∧ Cur w' B g ∧ But g w w'

/-- The ending of a draw: the result's cells written. -/
theorem drawEnd {G G' : Nat → Prop} {N B g : Nat} {w wa w3 : World} {x : TypeX} {A : Option Addr} {cc : Nat} {a b c : Value} (hg : g < w.heap.size) (hx : Whole w3 w.heap.size 26 #[a, b, c])
    (ht : TopT G' wa w3 (.slice A x.args_.length cc) x.args_) (hX : G' w.heap.size) (hlt : w.heap.size < wa.heap.size) (hsub : ∀ b, G b → G' b) (hc : Cur w3 B g) (hb : But g w w3) (hN : x.size ≤ N) (htm : x.tame) :
    ∀ w4, w4 = ((w3.setCell ⟨w.heap.size, 0, none⟩ (.int .i64 x.kind_)).setCell ⟨w.heap.size, 1, none⟩ (.string x.name_)).setCell ⟨w.heap.size, 2, none⟩ (.slice A x.args_.length cc) →
      w4.cell? ⟨w.heap.size, 0, none⟩ = some (.int .i64 x.kind_) ∧ w4.cell? ⟨w.heap.size, 1, none⟩ = some (.string x.name_) ∧ w4.cell? ⟨w.heap.size, 2, none⟩ = some (.slice A x.args_.length cc) ∧ DrawnT G N B g w (.returned (.agg #[.int .i64 x.kind_, .string x.name_, .slice A x.args_.length cc])) w4 := by
  intro w4 h4
  have hx3 : Whole w4 w.heap.size 26 #[.int .i64 x.kind_, .string x.name_, .slice A x.args_.length cc] := by
    rw [h4]; simpa using ((hx.set_ 0 (.int .i64 x.kind_)).set_ 1 (.string x.name_)).set_ 2 (.slice A x.args_.length cc)
  have hbut : But w.heap.size w3 w4 := by rw [h4]; exact ((But.set_ _ _ 0 _).trans (But.set_ _ _ 1 _)).trans (But.set_ _ _ 2 _)
  obtain ⟨e0, e1, e2⟩ := cells3 hx3
  exact ⟨e0, e1, e2, x, ⟨_, rfl, ((ht.butX (ht.ne hlt) hX hbut).less hsub).wide (Nat.le_of_lt hlt)⟩, hN, htm, cur_far hc hbut hg, but_new hb hbut (Nat.le_refl _)⟩

set_option maxRecDepth 100000 in
set_option maxHeartbeats 2000000 in
theorem projC (G : Nat → Prop) (s : ByteArray) (x : TypeX) (v : Value) (w : World) (hG : ∀ b, G b → b < w.heap.size) (hn : x.size ≤ 1000000) (hv : TypeAt w (Nog G w) x v) :
    Calls Tryz.prog 60 #[.string s, v] w fun e w' => MadeT G (.mk 3 s [x]) w e w' ∧ Below w.heap.size w w' := by
  obtain ⟨A, c, rfl, hx⟩ := hv
  have hbb : Below w.heap.size w ((w.alloc (.cells #[.int .i64 x.kind_, .string x.name_, .slice A x.args_.length c] 26)).alloc (.cells zeroT 26)) := ((Below.refl _ _).alloc (Nat.le_refl _) _).alloc (by simp) _
  obtain ⟨W, hW⟩ : ∃ W, W = (w.alloc (.cells #[.int .i64 x.kind_, .string x.name_, .slice A x.args_.length c] 26)).alloc (.cells zeroT 26) := ⟨_, rfl⟩
  have hs : W.heap.size = w.heap.size + 2 := by rw [hW]; simp
  have hx1 : Whole W w.heap.size 26 #[.int .i64 x.kind_, .string x.name_, .slice A x.args_.length c] := by rw [hW]; exact (Whole.new w _ _).below ((Below.refl (w.heap.size + 1) _).alloc (by simp) _) (by omega)
  have hx2 : Whole W (w.heap.size + 1) 26 zeroT := by
    have h := Whole.new (w.alloc (.cells #[.int .i64 x.kind_, .string x.name_, .slice A x.args_.length c] 26)) 26 zeroT
    rw [World.size_alloc] at h; rw [hW]; exact h
  rw [← hW] at hbb
  have hr : TypeRow W (Nog (fun b => G b ∨ b = w.heap.size + 1) W) A c x.args_ := hx.nogX hbb fun b hb h => h.elim id (fun e => by omega)
  have hG' : ∀ b, (G b ∨ b = w.heap.size + 1) → b < W.heap.size := fun b h => h.elim (fun h => by have := hG b h; omega) (fun e => by omega)
  have hc := copyT (fun b => G b ∨ b = w.heap.size + 1) x _ W hG' hn ⟨_, _, rfl, hr⟩
  have HC := Lib.hid hc
  have HW := Lib.hid hW.symm
  have HS := Lib.hid hs
  have HX2 := Lib.hid hx2
  have HB := Lib.hid hbb
  have HG := Lib.hid hG'
  clear hc hW hs hx1 hx2 hbb hr hx hG'
  go_enter Tryz.func60, Tryz.ntmps60
  go_wp2_with fail
  rw [HW.out]
  refine HC.out.mono ?_
  rintro e w2 ⟨⟨V, rfl, ht⟩, hb2⟩
  obtain ⟨A2, c2, rfl⟩ := ht.shape
  obtain ⟨A2', c2', e2, hr2⟩ := ht.row HG.out
  injection e2 with e2 _ e3
  subst e2 e3
  have hbw := HB.out.trans (hb2.mono HB.out.size)
  have hx3 : Whole (w2.alloc (.cells #[.int .i64 x.kind_, .string x.name_, .slice A2 x.args_.length c2] 26)) (w.heap.size + 1) 26 zeroT := whole_keep (HX2.out.below hb2 HX2.out.lt) ((Below.refl _ _).alloc (Nat.le_refl _) _)
  have hz2 : w.heap.size + 2 ≤ w2.heap.size := by have := hb2.size; have := HS.out; omega
  have ht3 : TopT (fun b => G b ∨ b = w.heap.size + 1) w (w2.alloc (.cells #[.int .i64 x.kind_, .string x.name_, .slice A2 x.args_.length c2] 26)) (.slice (some ⟨w2.heap.size, 0, none⟩) 1 1) [x] :=
    ⟨_, World.ownsRow_lit (base := w.heap.size) (size := 3) (e := 26) w2 #[.int .i64 x.kind_, .string x.name_, .slice A2 x.args_.length c2] 1 (by omega) (by decide) rfl, A2, c2, [], rfl,
      hr2.frame (fun b h => ⟨⟨by simp; have := h.1; omega, h.2⟩, fun e => by simp [Value.ownBlock] at e; have := h.1; omega⟩) (fun b o h => ((Below.refl w2.heap.size w2).alloc (Nat.le_refl _) _).cell (p := ⟨b, o, none⟩) h.1), rfl⟩
  have hend := tyEndX (w := w) (k := 3) (s := s) (A := some ⟨w2.heap.size, 0, none⟩) (n := 1) (cc := 1) hx3 (by omega) (hbw.alloc hbw.size _)
  obtain ⟨r0, r1, r2⟩ := cells3 hx3
  have rf0 := hx3.frozen 0
  have rf1 := hx3.frozen 1
  have rf2 := hx3.frozen 2
  have hlt := hx3.lt
  have HE := Lib.hid hend
  have HT := Lib.hid ht3
  clear hend ht3 hx3 hr2 ht hb2 hbw
  go_wp2
  obtain ⟨e0, e1, e2, hbut, hb4, -⟩ := HE.out _ rfl
  exact bodyPost_ret (v := .agg #[.int .i64 3, .string s, .slice (some ⟨w2.heap.size, 0, none⟩) 1 1]) (by simp [results, Tryz.results60, go_sem, e0, e1, e2]) rfl
    ⟨⟨_, rfl, (HT.out.butX (by simp [Value.ownBlock]; omega) (.inr rfl) hbut).less fun b h => .inl h⟩, hb4⟩
end Go.Proofs.YtbcfeoobhemdcaaGreat
namespace Go.Proofs.YtbcfeoobhemdcaaGreat
open Go.RowKit Go.Lib

/-- The cells vs are these lists, one after another. -/
def Lists (w : World) (P : Nat → Prop) : List (List SX) → List Value → Prop
  | [], vs => vs = []
  | l :: r, vs => ∃ A c rest, vs = .slice A l.length c :: rest ∧ ListAt w P A l ∧ Lists w P r rest
theorem Lists.length {w : World} {P : Nat → Prop} : ∀ {st : List (List SX)} {vs : List Value}, Lists w P st vs → vs.length = st.length
  | [], vs, h => by rw [Lists] at h; subst h; rfl
  | l :: r, vs, h => by
    obtain ⟨A, c, rest, rfl, _, h2⟩ := h
    rw [List.length_cons, List.length_cons, h2.length]
theorem Lists.snoc {w : World} {P : Nat → Prop} : ∀ {st : List (List SX)} {vs : List Value}, Lists w P st vs → ∀ {l : List SX} {A : Option Addr} {c : Nat}, ListAt w P A l → Lists w P (st ++ [l]) (vs ++ [.slice A l.length c])
  | [], vs, h, l, A, c, hl => by
    rw [Lists] at h; subst h
    exact ⟨A, c, [], rfl, hl, rfl⟩
  | y :: r, vs, h, l, A, c, hl => by
    obtain ⟨A', c', rest, rfl, h1, h2⟩ := h
    exact ⟨A', c', rest ++ _, rfl, h1, h2.snoc hl⟩
theorem Lists.last {w : World} {P : Nat → Prop} : ∀ {st : List (List SX)} {l : List SX} {vs : List Value}, Lists w P (st ++ [l]) vs → ∃ vs0 A c, vs = vs0 ++ [.slice A l.length c] ∧ Lists w P st vs0 ∧ ListAt w P A l
  | [], l, vs, h => by
    obtain ⟨A', c', rest, rfl, h1, h2⟩ := h
    rw [Lists] at h2; subst h2
    exact ⟨[], A', c', rfl, rfl, h1⟩
  | y :: r, l, vs, h => by
    obtain ⟨A', c', rest, rfl, h1, h2⟩ := h
    obtain ⟨vs0, A, c, rfl, h3, h4⟩ := Lists.last (st := r) h2
    exact ⟨_ :: vs0, A, c, rfl, ⟨A', c', vs0, rfl, h1, h3⟩, h4⟩
end Go.Proofs.YtbcfeoobhemdcaaGreat
namespace Go.Proofs.YtbcfeoobhemdcaaGreat
open Go.RowKit

/-- A byte of an atom. -/
def okByte (c : UInt8) : Bool := (decide (97 ≤ c.toNat) && decide (c.toNat ≤ 122)) || (decide (48 ≤ c.toNat) && decide (c.toNat ≤ 57)) || (c.toNat == 39) || (c.toNat == 45) || (c.toNat == 43) || (c.toNat == 42) || (c.toNat == 60) || (c.toNat == 61) || (c.toNat == 46)

set_option maxRecDepth 100000 in
set_option maxHeartbeats 1000000 in
theorem byteIs (c : UInt8) (w : World) : Calls Tryz.prog 102 #[.int .u8 c.toNat] w fun e w' => e = .returned (.bool (okByte c)) ∧ w = w' := by
  go_enter Tryz.func102, Tryz.ntmps102
  go_wp2
  go_ways
  all_goals (
    go_ret
    refine ⟨congrArg (fun b => Ending.returned (.bool b)) ?_, rfl⟩
    rw [Bool.eq_iff_iff]
    simp only [okByte, Bool.or_eq_true, Bool.and_eq_true, decide_eq_true_eq, beq_iff_eq, true_iff]
    omega)

theorem within (x lo hi : Int) (w : World) : Calls Tryz.prog 90 #[.int .i64 x, .int .i64 lo, .int .i64 hi] w fun e w' => e = .returned (.bool (decide (lo ≤ x ∧ x ≤ hi))) ∧ w = w' := by
  by_cases h1 : lo ≤ x
  · go_enter Tryz.func90, Tryz.ntmps90
    go_wp2
    go_ret
    refine ⟨congrArg (fun b => Ending.returned (.bool b)) ?_, rfl⟩
    rw [Bool.eq_iff_iff]
    simp [h1]
  · go_enter Tryz.func90, Tryz.ntmps90
    go_wp2
    go_ret
    refine ⟨congrArg (fun b => Ending.returned (.bool b)) ?_, rfl⟩
    rw [Bool.eq_iff_iff]
    simp
    omega
/-- What an atom is. -/
def okAtom (a : ByteArray) : Bool := a.data.toList.all okByte && decide (1 ≤ a.size ∧ a.size ≤ 12)
theorem all_take_snoc (s : ByteArray) (k : Nat) (h : k < s.size) : (s.data.toList.take (k + 1)).all okByte = ((s.data.toList.take k).all okByte && okByte s[k]) := by
  rw [List.take_succ_eq_append_getElem (by simpa using h)]
  simp
  rfl
theorem all_not {s : ByteArray} {k : Nat} (h : k < s.size) (hc : okByte s[k] = false) : okAtom s = false := by
  have : s.data.toList.all okByte = false := by
    rw [List.all_eq_false]
    exact ⟨s[k], by simp [Array.mem_iff_getElem]; exact ⟨k, h, rfl⟩, by simp [hc]⟩
  rw [okAtom, this, Bool.false_and]

set_option maxRecDepth 100000 in
set_option maxHeartbeats 1000000 in
theorem validAtom (s : ByteArray) (w : World) (hs : s.size ≤ 9223372036854775807) : Calls Tryz.prog 97 #[.string s] w fun e w' => e = .returned (.bool (okAtom s)) ∧ w = w' := by
  go_enter Tryz.func97, Tryz.ntmps97
  go_wp2
  go_loopw [3] (fun iv wr => ∃ k : Nat, k ≤ s.size ∧ iv = .int .i64 k ∧ (s.data.toList.take k).all okByte = true ∧ w = wr) (fun iv _ => s.size - (Go.RowKit.intOf iv).toNat)
  case atStart => exact ⟨0, Nat.zero_le _, rfl, rfl, rfl⟩
  case round =>
    obtain ⟨k, hk, rfl, ha, rfl⟩ := hrel
    by_cases hlt : k < s.size
    · have hst := all_take_snoc s k hlt
      have hno := @all_not s k hlt
      rw [ha, Bool.true_and] at hst
      have HS := Lib.hid hst
      have HN := Lib.hid hno
      have HA := Lib.hid ha
      clear hst hno ha
      go_wp2_with fail
      refine (byteIs s[k] _).mono ?_
      rintro e w1 ⟨rfl, rfl⟩
      cases hc : okByte s[k] with
      | true =>
        have HC := Lib.hid hc
        clear hc
        go_wp2
        go_roundw
        case rel => exact ⟨k + 1, by omega, by go_num, by rw [HS.out, HC.out], trivial⟩
        case measure => simp [Go.RowKit.intOf]; omega
      | false =>
        have HC := Lib.hid hc
        clear hc
        go_wp2
        go_ret
        exact ⟨congrArg (fun b => Ending.returned (.bool b)) (HN.out HC.out).symm, rfl⟩
    · have hkl : k = s.size := by omega
      subst hkl
      have hall : s.data.toList.all okByte = true := by rw [List.take_of_length_le (by simp)] at ha; exact ha
      have HA := Lib.hid hall
      clear ha hall
      go_wp2_with fail
      refine (within _ _ _ _).mono ?_
      rintro e w1 ⟨rfl, rfl⟩
      go_wp2
      go_ret
      refine ⟨congrArg (fun b => Ending.returned (.bool b)) ?_, rfl⟩
      rw [okAtom, HA.out, Bool.true_and]
      rw [Bool.eq_iff_iff]
      simp only [Bool.and_eq_true, decide_eq_true_eq]
      omega
end Go.Proofs.YtbcfeoobhemdcaaGreat
namespace Go.Proofs.YtbcfeoobhemdcaaGreat
open Go.RowKit

/-- White space. -/
def isW (c : UInt8) : Bool := c == 32 || c == 10
def skipW (l : List UInt8) : List UInt8 := l.dropWhile isW
theorem skipW_nil : skipW [] = [] := rfl
theorem skipW_yes {c : UInt8} {l : List UInt8} (h : isW c = true) : skipW (c :: l) = skipW l := by rw [skipW, List.dropWhile_cons, if_pos h]; rfl
theorem skipW_no {c : UInt8} {l : List UInt8} (h : isW c = false) : skipW (c :: l) = c :: l := by rw [skipW, List.dropWhile_cons, if_neg (by rw [h]; decide)]
theorem skipW_le : ∀ l : List UInt8, (skipW l).length ≤ l.length
  | [] => by simp [skipW]
  | c :: l => by
    cases h : isW c with
    | true => rw [skipW_yes h, List.length_cons]; have := skipW_le l; omega
    | false => rw [skipW_no h]; exact Nat.le_refl _
theorem drop_step (s : ByteArray) (k : Nat) (h : k < s.size) : s.data.toList.drop k = s[k] :: s.data.toList.drop (k + 1) := by
  rw [List.drop_eq_getElem_cons (by simpa using h)]; rfl
theorem drop_done (s : ByteArray) {k : Nat} (h : s.size ≤ k) : s.data.toList.drop k = [] := by
  rw [List.drop_eq_nil_iff]; simpa using h

theorem But.drewN_s {g : Nat} {a w : World} (h : But g a w) (k : Nat) : But g a (w.drewN k) := h.trans ⟨rfl, rfl, rfl, Nat.le_refl _, fun _ _ _ => rfl⟩
/-- The number in a cell. -/
def numAt (w : World) (g i : Nat) : Nat := match w.cell? ⟨g, i, none⟩ with | some (.int _ z) => z.toNat | _ => 0
end Go.Proofs.YtbcfeoobhemdcaaGreat
namespace Go.Proofs.YtbcfeoobhemdcaaGreat
open Go.RowKit

set_option maxRecDepth 100000 in
set_option maxHeartbeats 1000000 in
theorem maxOf (a b : Nat) (w : World) : Calls Tryz.prog 71 #[.int .i64 a, .int .i64 b] w fun e w' => e = .returned (.int .i64 (max a b : Nat)) ∧ w = w' := by
  by_cases h1 : b < a
  · go_enter Tryz.func71, Tryz.ntmps71
    go_wp2
    go_ret
    exact ⟨ret_int (by omega), rfl⟩
  · go_enter Tryz.func71, Tryz.ntmps71
    go_wp2
    go_ret
    exact ⟨ret_int (by omega), rfl⟩
end Go.Proofs.YtbcfeoobhemdcaaGreat
namespace Go.Proofs.YtbcfeoobhemdcaaGreat
open Go.RowKit

/-- The boxed parameter's block, and what the loop reads of it. -/
theorem boxed {w wr : World} {t : TypeId} {a : ByteArray} {A : Option Addr} {n c : Nat} (hb : Below (w.alloc (.cells #[.string a, .slice A n c] t)).heap.size (w.alloc (.cells #[.string a, .slice A n c] t)) wr) :
    wr.cell? ⟨w.heap.size, 0, none⟩ = some (.string a) ∧ wr.cell? ⟨w.heap.size, 1, none⟩ = some (.slice A n c) ∧ Below w.heap.size w wr := by
  have h := (Whole.new w t #[.string a, .slice A n c]).below hb (by simp)
  refine ⟨by rw [h.cell]; rfl, by rw [h.cell]; rfl, ?_⟩
  exact ((Below.refl _ _).alloc (Nat.le_refl _) _).trans (hb.mono (by simp))
theorem boxedList {w wr : World} {t : TypeId} {a : ByteArray} {A : Option Addr} {n c : Nat} {l : List SX} (hl : ListAt w (Lt w.heap.size) A l) (hb : Below (w.alloc (.cells #[.string a, .slice A n c] t)).heap.size (w.alloc (.cells #[.string a, .slice A n c] t)) wr) : ListAt wr (Lt wr.heap.size) A l := by
  have h1 : Below w.heap.size w wr := (boxed hb).2.2
  exact hl.grow h1

theorem SX.nodesL_take : ∀ (l : List SX) (j : Nat) (h : j < l.length), SX.nodesL (l.take (j + 1)) = SX.nodesL (l.take j) + l[j].nodes
  | x :: r, 0, _ => by simp [SX.nodesL]
  | x :: r, j + 1, h => by
    have := SX.nodesL_take r j (by simpa using h)
    rw [List.take_succ_cons, List.take_succ_cons, SX.nodesL, SX.nodesL, this]
    simp; omega
theorem SX.nodesL_le : ∀ (l : List SX) (j : Nat), SX.nodesL (l.take j) ≤ SX.nodesL l
  | [], j => by simp
  | x :: r, 0 => by simp [SX.nodesL]
  | x :: r, j + 1 => by
    have := SX.nodesL_le r j
    rw [List.take_succ_cons, SX.nodesL, SX.nodesL]; omega
theorem SX.nodesL_length : ∀ (l : List SX), l.length ≤ SX.nodesL l
  | [] => by simp [SX.nodesL]
  | x :: r => by have := SX.nodesL_length r; have := SX.nodes_eq x; rw [SX.nodesL, List.length_cons]; omega

end Go.Proofs.YtbcfeoobhemdcaaGreat
namespace Go.Proofs.YtbcfeoobhemdcaaGreat
open Go.RowKit

mutual
def SX.depth : SX → Nat
  | .mk a l => if a.size = 0 then SX.depthL l + 1 else 0
def SX.depthL : List SX → Nat
  | [] => 0
  | x :: r => max x.depth (SX.depthL r)
end
theorem SX.depth_eq (x : SX) : x.depth = if x.atom.size = 0 then SX.depthL x.list + 1 else 0 := by cases x; rw [SX.depth]; rfl
theorem SX.depthL_take : ∀ (l : List SX) (j : Nat) (h : j < l.length), SX.depthL (l.take (j + 1)) = max (SX.depthL (l.take j)) l[j].depth
  | x :: r, 0, _ => by simp [SX.depthL]
  | x :: r, j + 1, h => by
    have := SX.depthL_take r j (by simpa using h)
    rw [List.take_succ_cons, List.take_succ_cons, SX.depthL, SX.depthL, this]
    simp
mutual
theorem SX.depth_le : ∀ (x : SX), x.depth ≤ x.nodes
  | .mk a l => by have := SX.depthL_le l; rw [SX.depth, SX.nodes]; split <;> omega
theorem SX.depthL_le : ∀ (l : List SX), SX.depthL l ≤ SX.nodesL l
  | [] => by rw [SX.depthL, SX.nodesL]; omega
  | x :: r => by have := SX.depth_le x; have := SX.depthL_le r; rw [SX.depthL, SX.nodesL]; omega
end
theorem empty_of {a : ByteArray} (h : a.size = 0) : a = ByteArray.empty := ByteArray.size_eq_zero_iff.1 h
theorem nonempty_of {a : ByteArray} (h : a.size ≠ 0) : a.toList.isEmpty = false := by
  rw [ByteArray.toList_eq, List.isEmpty_eq_false_iff]; intro e; apply h; have := congrArg List.length e; simpa using this

def DepthX (N : Nat) : Prop := ∀ (x : SX) (A : Option Addr) (c : Nat) (w : World), x.nodes ≤ N → x.nodes ≤ 4294967296 → ListAt w (Lt w.heap.size) A x.list →
  Calls Tryz.prog 88 #[.agg #[.string x.atom, .slice A x.list.length c]] w fun e w' => e = .returned (.int .i64 x.depth) ∧ Below w.heap.size w w'

set_option maxRecDepth 100000 in
set_option maxHeartbeats 1000000 in
theorem depthX : ∀ N, DepthX N
  | 0 => fun x A c w hn => by rw [SX.nodes_eq] at hn; omega
  | N + 1 => by
    intro x A c w hn hm hl
    have ih := depthX N
    have hne := SX.nodes_eq x
    have hll := SX.nodesL_length x.list
    have hdn := SX.depthL_le x.list
    have hlen : x.list.length ≤ 4294967296 := by omega
    have hde := SX.depth_eq x
    by_cases ha : x.atom.size = 0
    · rw [if_pos ha] at hde
      have HL := Lib.hid hl
      have HE := Lib.hid hne
      have HD := Lib.hid hde
      have HN := Lib.hid hdn
      clear hl hne hde hdn
      rw [empty_of ha]
      clear ha
      go_enter Tryz.func88, Tryz.ntmps88
      go_wp2
      go_loopw [3, 4] (fun nv iv wr => ∃ k : Nat, k ≤ x.list.length ∧ iv = .int .i64 k ∧ nv = .int .i64 (SX.depthL (x.list.take k) : Nat) ∧ Below (w.alloc (.cells #[.string ByteArray.empty, .slice A x.list.length c] 33)).heap.size (w.alloc (.cells #[.string ByteArray.empty, .slice A x.list.length c] 33)) wr) (fun _ iv _ => x.list.length - (Go.RowKit.intOf iv).toNat)
      case atStart => exact ⟨0, Nat.zero_le _, rfl, by simp [SX.depthL], Below.refl _ _⟩
      case round =>
        obtain ⟨k, hk, rfl, rfl, hb⟩ := hrel
        obtain ⟨b0, b1, hbw⟩ := boxed hb
        by_cases hlt : k < x.list.length
        · obtain ⟨b, o, A', c', rfl, hP, hc0, hc1, hl'⟩ := (boxedList HL.out hb).at_ hlt
          have hst := SX.depthL_take x.list k hlt
          have hx : x.list[k].nodes ≤ N := by have := SX.nodesL_at x.list k hlt; have := HE.out; omega
          have hsm : x.list[k].nodes ≤ 4294967296 := by have := SX.nodesL_at x.list k hlt; have := HE.out; omega
          have HS := Lib.hid hst
          have HX := Lib.hid hl'
          clear hst hl'
          go_wp2_with fail
          refine (ih x.list[k] A' c' _ hx hsm HX.out).mono ?_
          rintro e w1 ⟨rfl, hb1⟩
          have hb2 := hb.trans (hb1.mono hb.size)
          go_wp2_with fail
          refine (maxOf _ _ _).mono ?_
          rintro e w2 ⟨rfl, rfl⟩
          go_wp2
          go_roundw
          case rel => exact ⟨k + 1, by omega, by go_num, int_of (by rw [HS.out]), hb2⟩
          case measure => simp [Go.RowKit.intOf]; omega
        · have hkl : k = x.list.length := by omega
          subst hkl
          rw [List.take_length]
          have hdb : SX.depthL x.list ≤ 4294967296 := by have := HN.out; have := HE.out; omega
          go_wp2
          go_ret
          exact ⟨ret_int (by rw [HD.out]; omega), hbw⟩
    · rw [if_neg ha] at hde
      have HD := Lib.hid hde
      have hne := nonempty_of ha
      clear hde hl
      go_enter Tryz.func88, Tryz.ntmps88
      go_wp2
      go_ret
      exact ⟨ret_int (by rw [HD.out]; rfl), (Below.refl _ _).alloc (Nat.le_refl _) _⟩
end Go.Proofs.YtbcfeoobhemdcaaGreat
namespace Go.Proofs.YtbcfeoobhemdcaaGreat
open Go.RowKit

/-- What is left: -1 where there was more. -/
def leftOf (L n : Nat) : Int := if n ≤ L then (L : Int) - n else -1
theorem leftOf_yes {L n : Nat} (h : n ≤ L) : leftOf L n = (L : Int) - n := by rw [leftOf, if_pos h]
theorem leftOf_no {L n : Nat} (h : L < n) : leftOf L n = -1 := by rw [leftOf, if_neg (by omega)]

end Go.Proofs.YtbcfeoobhemdcaaGreat
namespace Go.Proofs.YtbcfeoobhemdcaaGreat
open Go.RowKit

mutual
def SX.form : SX → Bool
  | .mk a l => if a.size = 0 then SX.formL l else okAtom a && decide (l.length = 0)
def SX.formL : List SX → Bool
  | [] => true
  | x :: r => x.form && SX.formL r
end
theorem SX.form_eq (x : SX) : x.form = if x.atom.size = 0 then SX.formL x.list else okAtom x.atom && decide (x.list.length = 0) := by cases x; rw [SX.form]; rfl
theorem SX.formL_take : ∀ (l : List SX) (j : Nat) (h : j < l.length), SX.formL (l.take (j + 1)) = (SX.formL (l.take j) && l[j].form)
  | x :: r, 0, _ => by simp [SX.formL]
  | x :: r, j + 1, h => by
    have := SX.formL_take r j (by simpa using h)
    rw [List.take_succ_cons, List.take_succ_cons, SX.formL, SX.formL, this]
    simp [Bool.and_assoc]
theorem SX.formL_false : ∀ (l : List SX) (j : Nat) (h : j < l.length), l[j].form = false → SX.formL l = false
  | x :: r, 0, _, hf => by rw [SX.formL]; simp at hf; rw [hf]; rfl
  | x :: r, j + 1, h, hf => by rw [SX.formL, SX.formL_false r j (by simpa using h) (by simpa using hf), Bool.and_false]

def FormX (N : Nat) : Prop := ∀ (x : SX) (A : Option Addr) (c : Nat) (w : World), x.nodes ≤ N → x.nodes ≤ 4294967296 → x.ok → ListAt w (Lt w.heap.size) A x.list →
  Calls Tryz.prog 87 #[.agg #[.string x.atom, .slice A x.list.length c]] w fun e w' => e = .returned (.bool x.form) ∧ Below w.heap.size w w'

set_option maxRecDepth 100000 in
set_option maxHeartbeats 1000000 in
theorem formX : ∀ N, FormX N
  | 0 => fun x A c w hn => by rw [SX.nodes_eq] at hn; omega
  | N + 1 => by
    intro x A c w hn hm hok hl
    have ih := formX N
    have hne := SX.nodes_eq x
    have hll := SX.nodesL_length x.list
    have hlen : x.list.length ≤ 4294967296 := by omega
    have hfe := SX.form_eq x
    obtain ⟨hza, -, hol⟩ := SX.ok_eq x hok
    by_cases ha : x.atom.size = 0
    · rw [if_pos ha] at hfe
      have HL := Lib.hid hl
      have HE := Lib.hid hne
      have HF := Lib.hid hfe
      have HO := Lib.hid hol
      clear hl hne hfe hol hok
      rw [empty_of ha]
      clear ha
      go_enter Tryz.func87, Tryz.ntmps87
      go_wp2
      go_loopw [3] (fun iv wr => ∃ k : Nat, k ≤ x.list.length ∧ iv = .int .i64 k ∧ SX.formL (x.list.take k) = true ∧ Below (w.alloc (.cells #[.string ByteArray.empty, .slice A x.list.length c] 33)).heap.size (w.alloc (.cells #[.string ByteArray.empty, .slice A x.list.length c] 33)) wr) (fun iv _ => x.list.length - (Go.RowKit.intOf iv).toNat)
      case atStart => exact ⟨0, Nat.zero_le _, rfl, by simp [SX.formL], Below.refl _ _⟩
      case round =>
        obtain ⟨k, hk, rfl, hf, hb⟩ := hrel
        obtain ⟨b0, b1, hbw⟩ := boxed hb
        have HT := Lib.hid hf
        clear hf
        by_cases hlt : k < x.list.length
        · obtain ⟨b, o, A', c', rfl, hP, hc0, hc1, hl'⟩ := (boxedList HL.out hb).at_ hlt
          have hst := SX.formL_take x.list k hlt
          have hno := SX.formL_false x.list k hlt
          rw [HT.out, Bool.true_and] at hst
          have hx : x.list[k].nodes ≤ N := by have := SX.nodesL_at x.list k hlt; have := HE.out; omega
          have hsm : x.list[k].nodes ≤ 4294967296 := by have := SX.nodesL_at x.list k hlt; have := HE.out; omega
          have HS := Lib.hid hst
          have HX := Lib.hid hl'
          have HNo := Lib.hid hno
          clear hst hl' hno
          go_wp2_with fail
          refine (ih x.list[k] A' c' _ hx hsm (SX.okL_at _ HO.out k hlt) HX.out).mono ?_
          rintro e w1 ⟨rfl, hb1⟩
          have hb2 := hb.trans (hb1.mono hb.size)
          cases hc : x.list[k].form with
          | true =>
            have HC := Lib.hid hc
            clear hc
            go_wp2
            go_roundw
            case rel => exact ⟨k + 1, by omega, by go_num, by rw [HS.out, HC.out], hb2⟩
            case measure => simp [Go.RowKit.intOf]; omega
          | false =>
            have HC := Lib.hid hc
            clear hc
            have hbw2 := hbw.trans (hb1.mono hbw.size)
            go_wp2
            go_ret
            exact ⟨congrArg (fun b => Ending.returned (.bool b)) (HF.out.trans (HNo.out HC.out)).symm, hbw2⟩
        · have hkl : k = x.list.length := by omega
          subst hkl
          have ht := HT.out
          rw [List.take_length] at ht
          have HT' := Lib.hid ht
          clear ht
          go_wp2
          go_ret
          exact ⟨congrArg (fun b => Ending.returned (.bool b)) (HF.out.trans HT'.out).symm, hbw⟩
    · rw [if_neg ha] at hfe
      have HF := Lib.hid hfe
      have hnem := nonempty_of ha
      clear hfe hl
      cases hc : okAtom x.atom with
      | true =>
        have HC := Lib.hid hc
        clear hc
        go_enter Tryz.func87, Tryz.ntmps87
        go_wp2_with fail
        refine (validAtom x.atom _ hza).mono ?_
        rintro e w1 ⟨rfl, rfl⟩
        have hc := HC.out
        rw [hc]
        clear hc
        go_wp2
        go_ret
        refine ⟨congrArg (fun b => Ending.returned (.bool b)) ?_, (Below.refl _ _).alloc (Nat.le_refl _) _⟩
        rw [HF.out, HC.out, Bool.true_and]
        rw [Bool.eq_iff_iff]; simp
      | false =>
        have HC := Lib.hid hc
        clear hc
        go_enter Tryz.func87, Tryz.ntmps87
        go_wp2_with fail
        refine (validAtom x.atom _ hza).mono ?_
        rintro e w1 ⟨rfl, rfl⟩
        have hc := HC.out
        rw [hc]
        clear hc
        go_wp2
        go_ret
        refine ⟨congrArg (fun b => Ending.returned (.bool b)) ?_, (Below.refl _ _).alloc (Nat.le_refl _) _⟩
        rw [HF.out, HC.out, Bool.false_and]

def LeftX (N : Nat) : Prop := ∀ (x : SX) (A : Option Addr) (c L : Nat) (w : World), x.nodes ≤ N → x.nodes ≤ 4294967296 → L ≤ 4294967296 → ListAt w (Lt w.heap.size) A x.list →
  Calls Tryz.prog 86 #[.agg #[.string x.atom, .slice A x.list.length c], .int .i64 L] w fun e w' => e = .returned (.int .i64 (leftOf L x.nodes)) ∧ Below w.heap.size w w'

theorem left_some {L n : Nat} (h : n ≤ L) : leftOf L n = ((L - n : Nat) : Int) := by rw [leftOf]; split <;> omega
theorem left_none {L n : Nat} (h : L < n) : leftOf L n = -1 := by rw [leftOf]; split <;> omega

set_option maxRecDepth 100000 in
set_option maxHeartbeats 1000000 in
theorem leftX : ∀ N, LeftX N
  | 0 => fun x A c L w hn => by rw [SX.nodes_eq] at hn; omega
  | N + 1 => by
    intro x A c L w hn hm hL hl
    have ih := leftX N
    have hne := SX.nodes_eq x
    have hll := SX.nodesL_length x.list
    have hlen : x.list.length ≤ 4294967296 := by omega
    have HL := Lib.hid hl
    have HE := Lib.hid hne
    clear hl hne
    go_enter Tryz.func86, Tryz.ntmps86
    go_wp2
    go_loopw [1, 5] (fun lv iv wr => ∃ k : Nat, k ≤ x.list.length ∧ iv = .int .i64 k ∧ lv = .int .i64 (leftOf L (1 + SX.nodesL (x.list.take k))) ∧ Below (w.alloc (.cells #[.string x.atom, .slice A x.list.length c] 33)).heap.size (w.alloc (.cells #[.string x.atom, .slice A x.list.length c] 33)) wr) (fun _ iv _ => x.list.length - (Go.RowKit.intOf iv).toNat)
    case atStart =>
      refine ⟨0, Nat.zero_le _, rfl, int_of ?_, Below.refl _ _⟩
      rw [List.take_zero, SX.nodesL]
      by_cases h0 : L = 0
      · subst h0; rw [left_none (by omega)]; rfl
      · rw [left_some (by omega)]; omega
    case round =>
      obtain ⟨k, hk, rfl, rfl, hb⟩ := hrel
      obtain ⟨b0, b1, hbw⟩ := boxed hb
      by_cases hlt : k < x.list.length
      · by_cases hle : 1 + SX.nodesL (x.list.take k) ≤ L
        · obtain ⟨b, o, A', c', rfl, hP, hc0, hc1, hl'⟩ := (boxedList HL.out hb).at_ hlt
          have hst := SX.nodesL_take x.list k hlt
          have hx : x.list[k].nodes ≤ N := by have := SX.nodesL_at x.list k hlt; have := HE.out; omega
          have hsm : x.list[k].nodes ≤ 4294967296 := by have := SX.nodesL_at x.list k hlt; have := HE.out; omega
          have hnew : leftOf (L - (1 + SX.nodesL (x.list.take k))) x.list[k].nodes = leftOf L (1 + SX.nodesL (x.list.take (k + 1))) := by
            rw [hst, leftOf, leftOf]; split <;> split <;> omega
          have HS := Lib.hid hnew
          have HX := Lib.hid hl'
          clear hst hl' hnew
          rw [left_some hle]
          go_wp2_with fail
          refine (ih x.list[k] A' c' (L - (1 + SX.nodesL (x.list.take k))) _ hx hsm (by omega) HX.out).mono ?_
          rintro e w1 ⟨rfl, hb1⟩
          have hb2 := hb.trans (hb1.mono hb.size)
          go_wp2
          go_roundw
          case rel => exact ⟨k + 1, by omega, by go_num, int_of (by rw [HS.out]), hb2⟩
          case measure => simp [Go.RowKit.intOf]; omega
        · have hr : leftOf L x.nodes = -1 := left_none (by have := HE.out; have := SX.nodesL_le x.list k; omega)
          have HR := Lib.hid hr
          clear hr
          rw [left_none (by omega)]
          go_wp2
          go_ret
          exact ⟨ret_int (by rw [HR.out]), hbw⟩
      · have hkl : k = x.list.length := by omega
        subst hkl
        have hr : leftOf L x.nodes = leftOf L (1 + SX.nodesL (x.list.take x.list.length)) := by rw [HE.out, List.take_length]
        have HR := Lib.hid hr
        clear hr
        go_wp2
        go_ret
        exact ⟨ret_int (by rw [HR.out]), hbw⟩
end Go.Proofs.YtbcfeoobhemdcaaGreat
namespace Go.Proofs.YtbcfeoobhemdcaaGreat
open Go.RowKit Go.Lib

def sizes (ss : List ByteArray) : Nat := (ss.map (·.size)).sum
theorem sizes_take (ss : List ByteArray) (k : Nat) (h : k < ss.length) : sizes (ss.take (k + 1)) = sizes (ss.take k) + ss[k].size := by
  rw [List.take_succ_eq_append_getElem h, sizes, List.map_append, List.sum_append]
  simp [sizes]
theorem sizes_le (ss : List ByteArray) (k : Nat) : sizes (ss.take k) ≤ sizes ss := by
  have h : ss = ss.take k ++ ss.drop k := (List.take_append_drop k ss).symm
  have h2 : sizes ss = sizes (ss.take k) + sizes (ss.drop k) := by
    conv => lhs; rw [h]
    simp only [sizes, List.map_append, List.sum_append]
  omega

theorem join_take_one (d : List (List UInt8)) (sep : List UInt8) (h : 0 < d.length) : join (d.take 1) sep = d[0] := by
  match d, h with
  | x :: r, _ => rw [List.take_succ_cons, List.take_zero, join_one]; rfl
theorem join_take_succ (d : List (List UInt8)) (sep : List UInt8) (k : Nat) (h0 : 0 < k) (h : k < d.length) : join (d.take (k + 1)) sep = join (d.take k) sep ++ sep ++ d[k] := by
  match d, k, h0, h with
  | x :: r, k + 1, _, h =>
    have hr : k < r.length := by simp at h; omega
    rw [List.take_succ_cons, List.take_succ_cons, join_cons, join_cons, joinTail_take_succ sep r k r[k] (List.getElem?_eq_getElem hr)]
    simp [List.append_assoc]
theorem join_length_le (d : List (List UInt8)) (sep : List UInt8) : (join d sep).length ≤ sep.length * d.length + lens d := by
  cases d with
  | nil => simp [join_nil]
  | cons x r =>
    rw [join_length, List.length_cons, Nat.mul_add]
    omega
theorem lens_sizes (ss : List ByteArray) : lens (ss.map (·.data.toList)) = sizes ss := by
  simp [lens, sizes, Function.comp_def]
/-- How long what is joined may become. -/
theorem joined_le (ss : List ByteArray) (sep : ByteArray) (k : Nat) (h1 : ss.length + sizes ss ≤ 1048576) (h2 : sep.size ≤ 1048576) : (join ((ss.map (·.data.toList)).take k) sep.data.toList).length ≤ 1099512676352 := by
  have h := join_length_le ((ss.map (·.data.toList)).take k) sep.data.toList
  have hl := lens_take_le (ss.map (·.data.toList)) k
  rw [lens_sizes] at hl
  have hn : ((ss.map (·.data.toList)).take k).length ≤ 1048576 := by
    have := List.length_take_le k (ss.map (·.data.toList))
    rw [List.length_take, List.length_map]
    omega
  have hs : sep.data.toList.length ≤ 1048576 := by simpa using h2
  have hm := Nat.mul_le_mul hs hn
  omega
end Go.Proofs.YtbcfeoobhemdcaaGreat
namespace Go.Proofs.YtbcfeoobhemdcaaGreat
open Go.RowKit Go.Lib

theorem infoByte : (Tryz.prog.info? 5).map (fun i => (i.zero, i.size, i.bytes)) = some (some (.int .u8 0), 1, 1) := by kernel_rfl
def bv (b : UInt8) : Value := .int .u8 b.toNat
theorem strCells_bv (s : ByteArray) : strCells s = s.data.toList.map bv := rfl

set_option maxRecDepth 100000 in
set_option maxHeartbeats 2000000 in
theorem specJoin (A : Option Addr) (c : Nat) (ss : List ByteArray) (sep : ByteArray) (w : World) (hA : Strs w A ss) (h1 : ss.length + sizes ss ≤ 1048576) (h2 : sep.size ≤ 1048576) :
    Calls Tryz.prog 89 #[.slice A ss.length c, .string sep] w fun e w' => e = .returned (.string ⟨(join (ss.map (·.data.toList)) sep.data.toList).toArray⟩) ∧ Below w.heap.size w w' := by
  obtain ⟨i0, hi, hz0, hz1, hz2⟩ := info_parts infoByte
  have HA := Lib.hid hA
  have hbl := fun k => joined_le ss sep k h1 h2
  have HBL := Lib.hid hbl
  have hml : (ss.map (·.data.toList)).length = ss.length := by simp
  have HML := Lib.hid hml
  clear hA hbl hml
  go_enter Tryz.func89, Tryz.ntmps89
  go_wp2
  go_loopw [5, 6] (fun v iv wr => ∃ k : Nat, k ≤ ss.length ∧ iv = .int .i64 k ∧ wr.ownsRow w.heap.size 5 1 v (join ((ss.map (·.data.toList)).take k) sep.data.toList).length ((join ((ss.map (·.data.toList)).take k) sep.data.toList).map bv) ∧ Below w.heap.size w wr) (fun _ iv _ => ss.length - (Go.RowKit.intOf iv).toNat)
  case atStart => exact ⟨0, Nat.zero_le _, rfl, World.ownsRow_made w #[] 0 (Nat.le_refl _) (by decide) rfl, (Below.refl _ _).alloc (Nat.le_refl _) _⟩
  case round =>
    obtain ⟨k, hk, rfl, hown, hb⟩ := hrel
    by_cases hlt : k < ss.length
    · have hkm : k < (ss.map (·.data.toList)).length := by rw [HML.out]; exact hlt
      have hkd : (ss.map (·.data.toList))[k] = ss[k].data.toList := by simp
      have hz : ss[k].size ≤ 1048576 := by have := sizes_take ss k hlt; have := sizes_le ss (k + 1); omega
      by_cases h0 : 0 < k
      · have hst := join_take_succ (ss.map (·.data.toList)) sep.data.toList k h0 hkm
        rw [hkd] at hst
        have HS := Lib.hid hst
        have hb0 := HBL.out k
        have hb1 := HBL.out (k + 1)
        have hk1 : (join ((ss.map (·.data.toList)).take k) sep.data.toList).length ≤ 1099512676352 := hb0
        clear hst hkd hkm hb0 hb1
        generalize hJ : join ((ss.map (·.data.toList)).take k) sep.data.toList = J at *
        have HJ := Lib.hid hJ
        clear hJ
        go_wp2_with (at_builtin; refine wpList_append_own_string _ rfl _ _ 22 9 rfl w.heap.size 5 i0 Tryz.underlying22 Tryz.underlying9 hi hz0 hz1 hz2 _ _ _ rfl hown sep rfl (by unfold maxLen; omega) (by omega) hb.size ?_)
        intro v1 w1 hown1 hgrow1 _
        have hbe1 : Below w.heap.size w w1 := hb.grown hgrow1 hb.size (fun q hq => (hown.lt q hq).1)
        obtain ⟨g, o, rfl, hc⟩ := (HA.out.below hbe1).at_ hlt
        go_wp2_with (at_builtin; refine wpList_append_own_string _ rfl _ _ 22 9 rfl w.heap.size 5 i0 Tryz.underlying22 Tryz.underlying9 hi hz0 hz1 hz2 _ _ _ rfl hown1 ss[k] rfl (by unfold maxLen; omega) (by omega) hbe1.size ?_)
        intro v2 w2 hown2 hgrow2 _
        have hbe2 : Below w.heap.size w w2 := hbe1.grown hgrow2 hbe1.size (fun q hq => (hown1.lt q hq).1)
        have e1 : (J ++ sep.data.toList ++ ss[k].data.toList).length = J.length + sep.size + ss[k].size := by simp [List.length_append]; omega
        have e2 : (J ++ sep.data.toList ++ ss[k].data.toList).map bv = J.map bv ++ (strCells sep ++ strCells ss[k]) := by simp [strCells_bv]
        rw [← e1, ← e2, ← HS.out] at hown2
        have HO := Lib.hid hown2
        clear e1 e2 hown hown1 hown2 hgrow1 hgrow2
        go_wp2
        go_roundw
        case rel => exact ⟨k + 1, by omega, by go_num, HO.out, hbe2⟩
        case measure => simp [Go.RowKit.intOf]; omega
      · have hk0 : k = 0 := by omega
        subst hk0
        obtain ⟨g, o, rfl, hc⟩ := (HA.out.below hb).at_ hlt
        rw [Nat.add_zero] at hc
        have hst := join_take_one (ss.map (·.data.toList)) sep.data.toList hkm
        rw [hkd] at hst
        have HS := Lib.hid hst
        have hown0 := hown
        simp only [List.take_zero, join_nil, List.length_nil, List.map_nil] at hown0
        clear hst hkd hkm
        go_wp2_with (at_builtin; refine wpList_append_own_string _ rfl _ _ 22 9 rfl w.heap.size 5 i0 Tryz.underlying22 Tryz.underlying9 hi hz0 hz1 hz2 _ _ _ rfl hown0 ss[0] rfl (by unfold maxLen; omega) (by omega) hb.size ?_)
        intro v2 w2 hown2 hgrow2 _
        have hbe2 : Below w.heap.size w w2 := hb.grown hgrow2 hb.size (fun q hq => (hown.lt q hq).1)
        have hown3 : w2.ownsRow w.heap.size 5 1 v2 (join ((ss.map (·.data.toList)).take 1) sep.data.toList).length ((join ((ss.map (·.data.toList)).take 1) sep.data.toList).map bv) := by
          rw [HS.out]
          simpa [join_nil, strCells_bv] using hown2
        have HO := Lib.hid hown3
        clear hown hown0 hown2 hown3 hgrow2
        go_wp2
        go_roundw
        case rel => exact ⟨1, by omega, rfl, HO.out, hbe2⟩
        case measure => simp [Go.RowKit.intOf]; omega
    · have hkl : k = ss.length := by omega
      subst hkl
      have hall : (ss.map (·.data.toList)).take ss.length = ss.map (·.data.toList) := List.take_of_length_le (by rw [HML.out]; exact Nat.le_refl _)
      rw [hall] at hown
      clear hall
      generalize hJ : join (ss.map (·.data.toList)) sep.data.toList = J at *
      have HJ := Lib.hid hJ
      clear hJ
      rcases hown.2 with ⟨rfl, hj0⟩ | ⟨g, cap, cur, rfl, _⟩
      · have hJ0 : J = [] := List.eq_nil_of_length_eq_zero hj0
        subst hJ0
        have kc := run_convert_bytes_nil (P := Tryz.prog) wr 22 5 Tryz.underlying22 Tryz.underlying5 0 0 9 Tryz.underlying9
        go_wp2
        go_ret
        exact ⟨ret_str (by rw [HJ.out]; rfl), hb⟩
      · have kc := run_convert_bytes_back (P := Tryz.prog) wr 22 9 5 ⟨g, 0, none⟩ cap J Tryz.underlying22 Tryz.underlying5 Tryz.underlying9 (fun j hj => by
          have h := hown.cells (g := g) rfl j (bv J[j]) (by rw [List.getElem?_map, List.getElem?_eq_getElem hj]; rfl)
          exact h)
        go_wp2
        go_ret
        exact ⟨ret_str (by rw [HJ.out]), hb⟩
end Go.Proofs.YtbcfeoobhemdcaaGreat
namespace Go.Proofs.YtbcfeoobhemdcaaGreat
open Go.RowKit Go.Lib

mutual
def SX.text : SX → ByteArray
  | .mk a l => if a.size = 0 then (⟨#[40]⟩ : ByteArray) ++ ⟨(join ((SX.textL l).map (·.data.toList)) [32]).toArray⟩ ++ ⟨#[41]⟩ else a
def SX.textL : List SX → List ByteArray
  | [] => []
  | x :: r => x.text :: SX.textL r
end
theorem SX.text_eq (x : SX) : x.text = if x.atom.size = 0 then (⟨#[40]⟩ : ByteArray) ++ ⟨(join ((SX.textL x.list).map (·.data.toList)) [32]).toArray⟩ ++ ⟨#[41]⟩ else x.atom := by cases x; rw [SX.text]; rfl
theorem SX.textL_length : ∀ (l : List SX), (SX.textL l).length = l.length
  | [] => rfl
  | x :: r => by rw [SX.textL, List.length_cons, List.length_cons, SX.textL_length r]
theorem SX.textL_take : ∀ (l : List SX) (j : Nat) (h : j < l.length), SX.textL (l.take (j + 1)) = SX.textL (l.take j) ++ [l[j].text]
  | x :: r, 0, _ => by simp [SX.textL]
  | x :: r, j + 1, h => by
    have := SX.textL_take r j (by simpa using h)
    rw [List.take_succ_cons, List.take_succ_cons, SX.textL, SX.textL, this]
    simp
mutual
/-- How long a text may be. -/
theorem SX.text_le : ∀ (x : SX), x.text.size ≤ x.wt + 3 * x.nodes
  | .mk a l => by
    rw [SX.text, SX.wt, SX.nodes]
    split
    · have h := SX.textL_le l
      have hj := join_length_le ((SX.textL l).map (·.data.toList)) [32]
      rw [lens_sizes] at hj
      have hn := SX.textL_length l
      simp only [List.length_map, hn, List.length_singleton, Nat.one_mul] at hj
      simp only [ByteArray.size_append]
      have e1 : (⟨(join ((SX.textL l).map (·.data.toList)) [32]).toArray⟩ : ByteArray).size = (join ((SX.textL l).map (·.data.toList)) [32]).length := by simp [ByteArray.size]
      have e2 : (⟨#[40]⟩ : ByteArray).size = 1 := rfl
      have e3 : (⟨#[41]⟩ : ByteArray).size = 1 := rfl
      omega
    · omega
theorem SX.textL_le : ∀ (l : List SX), l.length + sizes (SX.textL l) ≤ SX.wtL l + 3 * SX.nodesL l
  | [] => by simp [SX.textL, sizes]
  | x :: r => by
    have h1 := SX.text_le x
    have h2 := SX.textL_le r
    have h3 : sizes (SX.textL (x :: r)) = x.text.size + sizes (SX.textL r) := by rw [SX.textL]; simp [sizes]
    rw [h3, SX.wtL, SX.nodesL, List.length_cons]
    omega
end

def TextX (N : Nat) : Prop := ∀ (x : SX) (A : Option Addr) (c : Nat) (w : World), x.nodes ≤ N → x.wt + 3 * x.nodes ≤ 1048576 → ListAt w (Lt w.heap.size) A x.list →
  Calls Tryz.prog 70 #[.agg #[.string x.atom, .slice A x.list.length c]] w fun e w' => e = .returned (.string x.text) ∧ Below w.heap.size w w'

theorem wt_nodes_at (l : List SX) (j : Nat) (h : j < l.length) : l[j].wt + 3 * l[j].nodes ≤ SX.wtL l + 3 * SX.nodesL l := by
  have := SX.wtL_at l j h
  have := SX.nodesL_at l j h
  omega

set_option maxRecDepth 100000 in
set_option maxHeartbeats 2000000 in
theorem textX : ∀ N, TextX N
  | 0 => fun x A c w hn => by rw [SX.nodes_eq] at hn; omega
  | N + 1 => by
    intro x A c w hn hm hl
    have ih := textX N
    obtain ⟨i0, hi, hz0, hz1, hz2⟩ := info_parts infoString
    have hne := SX.nodes_eq x
    have hwe := SX.wt_eq x
    have hll := SX.wtL_length x.list
    have hlen : x.list.length ≤ 1048576 := by omega
    have hte := SX.text_eq x
    by_cases ha : x.atom.size = 0
    · rw [if_pos ha] at hte
      have htl := SX.textL_length x.list
      have hsz := SX.textL_le x.list
      have hjl : (join ((SX.textL x.list).map (·.data.toList)) [32]).length ≤ 1048576 := by
        have h1 := SX.text_le x
        have h2 : x.text.size = 1 + (join ((SX.textL x.list).map (·.data.toList)) [32]).length + 1 := by rw [hte]; simp only [ByteArray.size_append]; rw [show (⟨(join ((SX.textL x.list).map (·.data.toList)) [32]).toArray⟩ : ByteArray).size = (join ((SX.textL x.list).map (·.data.toList)) [32]).length by simp [ByteArray.size]]; rfl
        omega
      have hm2 : SX.wtL x.list + 3 * SX.nodesL x.list ≤ 1048576 := by omega
      have hn2 : SX.nodesL x.list ≤ N := by omega
      have HL := Lib.hid hl
      have HT := Lib.hid hte
      have HTL := Lib.hid htl
      have HSZ := Lib.hid hsz
      clear hl hne hwe hll hte htl hsz hm hn
      rw [empty_of ha]
      clear ha
      have hb0 : Below w.heap.size w ((w.alloc (.cells #[.string ByteArray.empty, .slice A x.list.length c] 33)).alloc (.cells #[] 9)) := ((Below.refl _ _).alloc (Nat.le_refl _) _).alloc (by simp) _
      go_enter Tryz.func70, Tryz.ntmps70
      go_wp2
      go_loopw [3, 4] (fun v iv wr => ∃ k : Nat, k ≤ x.list.length ∧ iv = .int .i64 k ∧ wr.ownsRow (w.heap.size + 1) 9 1 v k ((SX.textL (x.list.take k)).map Value.string) ∧ Below (w.heap.size + 1) (w.alloc (.cells #[.string ByteArray.empty, .slice A x.list.length c] 33)) wr) (fun _ iv _ => x.list.length - (Go.RowKit.intOf iv).toNat)
      case atStart => exact ⟨0, Nat.zero_le _, rfl, (by have h := World.ownsRow_made (base := w.heap.size + 1) (size := 1) (e := 9) (w.alloc (.cells #[.string ByteArray.empty, .slice A x.list.length c] 33)) #[] 0 (by simp) (by decide) rfl; rw [World.size_alloc] at h; exact h), (Below.refl (w.heap.size + 1) (w.alloc (.cells #[.string ByteArray.empty, .slice A x.list.length c] 33))).alloc (by simp) _⟩
      case round =>
        obtain ⟨k, hk, rfl, hown, hb⟩ := hrel
        have hbs : w.heap.size + 1 ≤ wr.heap.size := by simpa using hb.size
        obtain ⟨b0, b1, hbw⟩ := boxed (hb.mono (by simp))
        by_cases hlt : k < x.list.length
        · obtain ⟨b, o, A', c', rfl, hP, hc0, hc1, hl'⟩ := (boxedList HL.out (hb.mono (by simp))).at_ hlt
          have hst := SX.textL_take x.list k hlt
          have hx : x.list[k].nodes ≤ N := by have := SX.nodesL_at x.list k hlt; omega
          have hsm : x.list[k].wt + 3 * x.list[k].nodes ≤ 1048576 := by have := wt_nodes_at x.list k hlt; omega
          have HS := Lib.hid hst
          have HX := Lib.hid hl'
          clear hst hl'
          go_wp2_with fail
          refine (ih x.list[k] A' c' _ hx hsm HX.out).mono ?_
          rintro e w1 ⟨rfl, hb1⟩
          have hown1 := owns_below hown hb1
          have hb2 := hb.trans (hb1.mono hbs)
          have hbs2 := Nat.le_trans hbs hb1.size
          go_wp2_with (at_builtin; refine wpList_append_own _ rfl _ _ 59 rfl (w.heap.size + 1) 9 i0 (.string ByteArray.empty) 1 16 Tryz.underlying59 hi hz0 hz1 hz2 rfl (by decide) _ _ _ rfl (hown1.alloc _) ⟨w1.heap.size, 0, none⟩ 1 1 [.string x.list[k].text] rfl rfl (news_one w1 _ _) (one_string _) (by unfold maxLen; omega) (by omega) (by simp; omega) ?_)
          intro v' w2 hown2 hgrow _
          have hb3 := (hb2.alloc hbs2 _).grown hgrow (by simp; omega) (fun k hk => (hown1.lt k hk).1)
          rw [strs_map, ← HS.out] at hown2
          have HO := Lib.hid hown2
          clear hown2 hown1 hown
          go_wp2
          go_roundw
          case rel => exact ⟨k + 1, by omega, by go_num, HO.out, hb3⟩
          case measure => simp [Go.RowKit.intOf]; omega
        · have hkl : k = x.list.length := by omega
          subst hkl
          rw [List.take_length] at hown
          conv at hown => arg 6; rw [← HTL.out]
          obtain ⟨B, d, rfl, hS⟩ := strs_own hown
          have HS := Lib.hid hS
          clear hS hown
          go_wp2_with fail
          refine (specJoin B d _ ⟨#[32]⟩ _ HS.out (by have := HSZ.out; have := HTL.out; omega) (by decide)).mono ?_
          rintro e w1 ⟨rfl, hb1⟩
          have hb2 := hbw.trans (hb1.mono hbw.size)
          go_wp2
          go_ret
          exact ⟨ret_str (by rw [HT.out]), hb2⟩
    · rw [if_neg ha] at hte
      have HT := Lib.hid hte
      have hnem := nonempty_of ha
      clear hte hl
      go_enter Tryz.func70, Tryz.ntmps70
      go_wp2
      go_ret
      exact ⟨ret_str (by rw [HT.out]), (Below.refl _ _).alloc (Nat.le_refl _) _⟩
end Go.Proofs.YtbcfeoobhemdcaaGreat
namespace Go.Proofs.YtbcfeoobhemdcaaGreat
open Go.RowKit Go.Lib

def SX.valid (x : SX) : Bool := decide (x.nodes ≤ 900) && x.form && decide (x.depth ≤ 14)
mutual
theorem SX.form_wt : ∀ (x : SX), x.form = true → x.wt + 1 ≤ 13 * x.nodes
  | .mk a l => fun h => by
    rw [SX.form] at h
    rw [SX.wt, SX.nodes]
    split at h
    · have := SX.formL_wt l h; omega
    · rw [Bool.and_eq_true, okAtom, Bool.and_eq_true, decide_eq_true_eq, decide_eq_true_eq] at h
      rw [List.eq_nil_of_length_eq_zero h.2, SX.wtL, SX.nodesL]
      omega
theorem SX.formL_wt : ∀ (l : List SX), SX.formL l = true → SX.wtL l ≤ 13 * SX.nodesL l
  | [] => fun _ => by rw [SX.wtL]; omega
  | x :: r => fun h => by
    rw [SX.formL, Bool.and_eq_true] at h
    have := SX.form_wt x h.1
    have := SX.formL_wt r h.2
    rw [SX.wtL, SX.nodesL]; omega
end
theorem SX.valid_iff {x : SX} : x.valid = true ↔ x.nodes ≤ 900 ∧ x.form = true ∧ x.depth ≤ 14 := by
  rw [SX.valid, Bool.and_eq_true, Bool.and_eq_true, decide_eq_true_eq, decide_eq_true_eq, and_assoc]
theorem SX.valid_wt {x : SX} (h : x.valid = true) : x.wt + 3 * x.nodes ≤ 1048576 := by
  obtain ⟨h1, h2, _⟩ := SX.valid_iff.1 h
  have := SX.form_wt x h2
  omega

/-- The boxed parameter, loaded whole. -/
theorem boxed_grow {w : World} {t : TypeId} {a : ByteArray} {A : Option Addr} {n c : Nat} {l : List SX} (hl : ListAt w (Lt w.heap.size) A l) :
    ListAt (w.alloc (.cells #[.string a, .slice A n c] t)) (Lt (w.alloc (.cells #[.string a, .slice A n c] t)).heap.size) A l := boxedList hl (Below.refl _ _)

set_option maxRecDepth 100000 in
set_option maxHeartbeats 1000000 in
theorem validX (x : SX) (A : Option Addr) (c : Nat) (w : World) (hm : x.nodes ≤ 4294967296) (hok : x.ok) (hl : ListAt w (Lt w.heap.size) A x.list) :
    Calls Tryz.prog 69 #[.agg #[.string x.atom, .slice A x.list.length c]] w fun e w' => e = .returned (.bool x.valid) ∧ Below w.heap.size w w' := by
  have hl0 := @boxed_grow w 33 x.atom A x.list.length c x.list hl
  have hb0 : Below w.heap.size w (w.alloc (.cells #[.string x.atom, .slice A x.list.length c] 33)) := (Below.refl _ _).alloc (Nat.le_refl _) _
  have HL := Lib.hid hl0
  clear hl hl0
  by_cases hn : x.nodes ≤ 900
  · have hlf : leftOf 900 x.nodes = ((900 - x.nodes : Nat) : Int) := left_some hn
    have HLF := Lib.hid hlf
    clear hlf
    go_enter Tryz.func69, Tryz.ntmps69
    go_wp2_with fail
    refine (leftX _ x A c 900 _ (Nat.le_refl _) hm (by decide) HL.out).mono ?_
    rintro e w1 ⟨rfl, hb1⟩
    rw [HLF.out]
    have hb2 := hb0.trans (hb1.mono hb0.size)
    have hl1 := HL.out.grow hb1
    have hc0 := (boxed hb1).1
    have hc1 := (boxed hb1).2.1
    have HL1 := Lib.hid hl1
    clear hl1
    go_wp2_with fail
    refine (formX _ x A c _ (Nat.le_refl _) hm hok HL1.out).mono ?_
    rintro e w2 ⟨rfl, hb3⟩
    have hb4 := hb2.trans (hb3.mono hb2.size)
    have hb13 := hb1.trans (hb3.mono hb1.size)
    have hl2 := HL1.out.grow hb3
    have hd0 := (boxed hb13).1
    have hd1 := (boxed hb13).2.1
    have HL2 := Lib.hid hl2
    clear hl2
    cases hf : x.form with
    | true =>
      have HF := Lib.hid hf
      clear hf
      go_wp2_with fail
      refine (depthX _ x A c _ (Nat.le_refl _) hm HL2.out).mono ?_
      rintro e w3 ⟨rfl, hb5⟩
      have hb6 := hb4.trans (hb5.mono hb4.size)
      go_wp2
      go_ret
      refine ⟨congrArg (fun b => Ending.returned (.bool b)) ?_, hb6⟩
      rw [SX.valid, HF.out, Bool.and_true, Bool.eq_iff_iff]
      simp only [Bool.and_eq_true, decide_eq_true_eq]
      omega
    | false =>
      have HF := Lib.hid hf
      clear hf
      go_wp2
      go_ret
      refine ⟨congrArg (fun b => Ending.returned (.bool b)) ?_, hb4⟩
      rw [SX.valid, HF.out]
      simp
  · have hlf : leftOf 900 x.nodes = -1 := left_none (by omega)
    have HLF := Lib.hid hlf
    clear hlf
    go_enter Tryz.func69, Tryz.ntmps69
    go_wp2_with fail
    refine (leftX _ x A c 900 _ (Nat.le_refl _) hm (by decide) HL.out).mono ?_
    rintro e w1 ⟨rfl, hb1⟩
    rw [HLF.out]
    have hb2 := hb0.trans (hb1.mono hb0.size)
    go_wp2
    go_ret
    refine ⟨congrArg (fun b => Ending.returned (.bool b)) ?_, hb2⟩
    rw [SX.valid]
    simp
    omega

/-- What a valid expression's text is; "" for another. -/
def SX.said (x : SX) : ByteArray := if x.valid then x.text else ByteArray.empty

set_option maxRecDepth 100000 in
set_option maxHeartbeats 1000000 in
theorem formatX (x : SX) (A : Option Addr) (c : Nat) (w : World) (hm : x.nodes ≤ 4294967296) (hok : x.ok) (hl : ListAt w (Lt w.heap.size) A x.list) :
    Calls Tryz.prog 34 #[.agg #[.string x.atom, .slice A x.list.length c]] w fun e w' => e = .returned (.string x.said) ∧ Below w.heap.size w w' := by
  have hl0 := @boxed_grow w 33 x.atom A x.list.length c x.list hl
  have hb0 : Below w.heap.size w (w.alloc (.cells #[.string x.atom, .slice A x.list.length c] 33)) := (Below.refl _ _).alloc (Nat.le_refl _) _
  have HL := Lib.hid hl0
  clear hl hl0
  go_enter Tryz.func34, Tryz.ntmps34
  go_wp2_with fail
  refine (validX x A c _ hm hok HL.out).mono ?_
  rintro e w1 ⟨rfl, hb1⟩
  have hb2 := hb0.trans (hb1.mono hb0.size)
  have hl1 := HL.out.grow hb1
  have hc0 := (boxed hb1).1
  have hc1 := (boxed hb1).2.1
  have HL1 := Lib.hid hl1
  clear hl1
  cases hv : x.valid with
  | true =>
    have hs : x.said = x.text := by rw [SX.said, if_pos hv]
    have hwt := SX.valid_wt hv
    have HS := Lib.hid hs
    clear hv hs
    go_wp2_with fail
    refine (textX _ x A c _ (Nat.le_refl _) hwt HL1.out).mono ?_
    rintro e w2 ⟨rfl, hb3⟩
    have hb4 := hb2.trans (hb3.mono hb2.size)
    go_wp2
    go_ret
    exact ⟨ret_str (by rw [HS.out]), hb4⟩
  | false =>
    have hs : x.said = ByteArray.empty := by rw [SX.said, if_neg (by rw [hv]; decide)]
    have HS := Lib.hid hs
    clear hv hs
    go_wp2
    go_ret
    exact ⟨ret_str (by rw [HS.out]; rfl), hb2⟩
end Go.Proofs.YtbcfeoobhemdcaaGreat
namespace Go.Proofs.YtbcfeoobhemdcaaGreat
open Go.RowKit Go.Lib

mutual
/-- One expression read: what is left of the bytes, and how many were counted; none: it failed. -/
def readX : Nat → List UInt8 → Nat → Nat → Option (SX × List UInt8 × Nat)
  | 0, _, _, _ => none
  | n + 1, rest, d, z =>
    if skipW rest = [] ∨ 900 < z + 1 then none
    else if (skipW rest).takeWhile okByte ≠ [] then some (.mk ⟨((skipW rest).takeWhile okByte).toArray⟩ [], (skipW rest).dropWhile okByte, z + 1)
    else if (skipW rest).head? ≠ some 40 ∨ d = 14 then none
    else readL n (skipW rest).tail (d + 1) (z + 1) []
def readL : Nat → List UInt8 → Nat → Nat → List SX → Option (SX × List UInt8 × Nat)
  | 0, _, _, _, _ => none
  | n + 1, rest, d, z, acc =>
    if (skipW rest).head? = some 41 then some (.mk ByteArray.empty acc, (skipW rest).tail, z)
    else match readX n (skipW rest) d z with
      | none => none
      | some (y, rest', z') => readL n rest' d z' (acc ++ [y])
end

theorem skipW_head {l : List UInt8} {c : UInt8} (h : (skipW l).head? = some c) : isW c = false := by
  induction l with
  | nil => simp [skipW] at h
  | cons a r ih =>
    cases ha : isW a with
    | true => rw [skipW_yes ha] at h; exact ih h
    | false => rw [skipW_no ha] at h; simp at h; subst h; exact ha
theorem skipW_idem (l : List UInt8) : skipW (skipW l) = skipW l := by
  cases h : skipW l with
  | nil => rfl
  | cons a r => exact skipW_no (skipW_head (l := l) (by rw [h]; rfl))

mutual
theorem readX_less : ∀ (n : Nat) (rest : List UInt8) (d z : Nat) {x : SX} {r : List UInt8} {z' : Nat}, readX n rest d z = some (x, r, z') → r.length < rest.length
  | 0, _, _, _, _, _, _, h => by rw [readX] at h; cases h
  | n + 1, rest, d, z, x, r, z', h => by
    rw [readX] at h
    have hl := skipW_le rest
    split at h
    · cases h
    · split at h
      · rename_i h1 h2
        injection h with h; injection h with h h'; injection h' with h' h''
        subst h'
        have e := congrArg List.length (List.takeWhile_append_dropWhile (p := okByte) (l := skipW rest))
        rw [List.length_append] at e
        have := List.length_pos_iff.2 h2
        omega
      · split at h
        · cases h
        · rename_i h1 _ _
          have := readL_less n _ _ _ _ h
          have h3 : skipW rest ≠ [] := fun e => h1 (.inl e)
          have := List.length_pos_iff.2 h3
          rw [List.length_tail] at *
          omega
theorem readL_less : ∀ (n : Nat) (rest : List UInt8) (d z : Nat) (acc : List SX) {x : SX} {r : List UInt8} {z' : Nat}, readL n rest d z acc = some (x, r, z') → r.length < rest.length
  | 0, _, _, _, _, _, _, _, h => by rw [readL] at h; cases h
  | n + 1, rest, d, z, acc, x, r, z', h => by
    rw [readL] at h
    have hl := skipW_le rest
    split at h
    · rename_i h1
      injection h with h; injection h with h h'; injection h' with h' h''
      subst h'
      have h3 : skipW rest ≠ [] := fun e => by rw [e] at h1; cases h1
      have := List.length_pos_iff.2 h3
      rw [List.length_tail]
      omega
    · split at h
      · cases h
      · rename_i h1
        have := readX_less n _ _ _ h1
        have := readL_less n _ _ _ _ h
        omega
end
end Go.Proofs.YtbcfeoobhemdcaaGreat
namespace Go.Proofs.YtbcfeoobhemdcaaGreat
open Go.RowKit Go.Lib

mutual
theorem readX_more : ∀ (n : Nat) (rest : List UInt8) (d z : Nat) {x : SX} {r : List UInt8} {z' : Nat}, readX n rest d z = some (x, r, z') → z < z' ∧ z' ≤ 900
  | 0, _, _, _, _, _, _, h => by rw [readX] at h; cases h
  | n + 1, rest, d, z, x, r, z', h => by
    rw [readX] at h
    split at h
    · cases h
    · rename_i h0
      have hz : ¬ 900 < z + 1 := fun e => h0 (.inr e)
      split at h
      · injection h with h; injection h with h h'; injection h' with h' h''
        omega
      · split at h
        · cases h
        · have := readL_more n _ _ _ _ h
          omega
theorem readL_more : ∀ (n : Nat) (rest : List UInt8) (d z : Nat) (acc : List SX) {x : SX} {r : List UInt8} {z' : Nat}, readL n rest d z acc = some (x, r, z') → z ≤ z' ∧ (z ≤ 900 → z' ≤ 900)
  | 0, _, _, _, _, _, _, _, h => by rw [readL] at h; cases h
  | n + 1, rest, d, z, acc, x, r, z', h => by
    rw [readL] at h
    split at h
    · injection h with h; injection h with h h'; injection h' with h' h''
      omega
    · split at h
      · cases h
      · rename_i h1
        have := readX_more n _ _ _ h1
        have := readL_more n _ _ _ _ h
        omega
end

theorem byteQ {c : UInt8} {b : Bool} (h : okByte c = b) (w : World) (n : Nat) : Calls Tryz.prog 102 #[.int .u8 c.toNat] (w.drewN n) fun e w'' => e = .returned (.bool b) ∧ ∃ m, w'' = w.drewN m :=
  (byteIs c _).mono fun e w' ⟨he, hw⟩ => ⟨by rw [he, h], n, hw.symm⟩
theorem drop_len (s : ByteArray) (k : Nat) : (s.data.toList.drop k).length = s.size - k := by simp
/-- Where a scan ends, and what it has passed. -/
theorem word_of (s : ByteArray) {a b : Nat} (hab : a ≤ b) (hb : b ≤ s.size) (h : s.data.toList.drop b = (s.data.toList.drop a).dropWhile okByte) :
    (⟨((s.data.toList.drop a).takeWhile okByte).toArray⟩ : ByteArray) = s.extract a b ∧ ((s.data.toList.drop a).takeWhile okByte ≠ [] ↔ a < b) := by
  have e := List.takeWhile_append_dropWhile (p := okByte) (l := s.data.toList.drop a)
  have el := congrArg List.length e
  rw [List.length_append, ← h, drop_len, drop_len] at el
  have e2 : (s.data.toList.drop a).takeWhile okByte = (s.data.toList.drop a).take (b - a) := by
    conv => rhs; rw [← e]
    rw [List.take_append_of_le_length (by omega), List.take_of_length_le (by omega)]
  refine ⟨?_, ?_⟩
  · rw [e2]
    apply ByteArray.ext
    apply Array.toList_inj.1
    rw [extract_data]
  · constructor
    · intro h0
      have := List.length_pos_iff.2 h0
      omega
    · intro h0 e0
      rw [e0] at el
      simp at el
      omega

/-- What a reading is, case by case. -/
def ask (m : Nat) (l : List UInt8) (d z : Nat) : Option (SX × List UInt8 × Nat) :=
  if l = [] ∨ 900 < z + 1 then none
  else if l.takeWhile okByte ≠ [] then some (.mk ⟨(l.takeWhile okByte).toArray⟩ [], l.dropWhile okByte, z + 1)
  else if l.head? ≠ some 40 ∨ d = 14 then none
  else readL m l.tail (d + 1) (z + 1) []
theorem ask_word {m d z a b : Nat} {s : ByteArray} (hz : z + 1 ≤ 900) (hab : a < b) (hb : b ≤ s.size) (h : s.data.toList.drop b = (s.data.toList.drop a).dropWhile okByte) :
    ask m (s.data.toList.drop a) d z = some (.mk (s.extract a b) [], s.data.toList.drop b, z + 1) := by
  obtain ⟨e1, e2⟩ := word_of s (Nat.le_of_lt hab) hb h
  rw [ask, if_neg, if_pos (e2.2 hab), e1, h]
  rintro (h0 | h0)
  · have := congrArg List.length h0
    rw [drop_len] at this
    simp at this
    omega
  · omega
theorem ask_sign {m d z a : Nat} {s : ByteArray} (hz : z + 1 ≤ 900) (ha : a < s.size) (h : okByte s[a] = false) :
    ask m (s.data.toList.drop a) d z = if s[a] ≠ 40 ∨ d = 14 then none else readL m (s.data.toList.drop (a + 1)) (d + 1) (z + 1) [] := by
  rw [ask, drop_step s a ha, if_neg (by simp; omega), if_neg (by simp [h])]
  simp

/-- Blocks from B on, below C, but the row's own. -/
def Own (V : Value) (B C : Nat) (b : Nat) : Prop := New B C b ∧ V.ownBlock ≠ some b
/-- What a round lowers. -/
def stillAt (wr : World) (g : Nat) (s : ByteArray) : Nat := match wr.cell? ⟨g, 4, none⟩ with | some (.bool true) => 0 | _ => s.size + 1 - numAt wr g 1

end Go.Proofs.YtbcfeoobhemdcaaGreat
namespace Go.Proofs.YtbcfeoobhemdcaaGreat
open Go.RowKit Go.Lib

mutual
/-- The two cells v0, v1 are this expression; its rows lie in just the blocks bs. -/
def OwX (w : World) (B : Nat) : SX → Value → Value → List Nat → Prop
  | .mk a l, v0, v1, bs => v0 = .string a ∧ ∃ (xs : List Value) (bs' : List Nat), w.ownsRow B 33 2 v1 l.length xs ∧ OwE w B l xs bs' ∧ bs = v1.ownBlock.toList ++ bs'
def OwE (w : World) (B : Nat) : List SX → List Value → List Nat → Prop
  | [], xs, bs => xs = [] ∧ bs = []
  | x :: r, xs, bs => ∃ (v0 v1 : Value) (xs' : List Value) (b1 b2 : List Nat), xs = v0 :: v1 :: xs' ∧ bs = b1 ++ b2 ∧ OwX w B x v0 v1 b1 ∧ OwE w B r xs' b2
end
mutual
theorem OwX_frame {w w' : World} {B : Nat} : ∀ (x : SX) {v0 v1 : Value} {bs : List Nat}, (∀ b ∈ bs, w'.heap[b]? = w.heap[b]?) → OwX w B x v0 v1 bs → OwX w' B x v0 v1 bs
  | .mk a l, v0, v1, bs, hb, h => by
    rw [OwX] at h ⊢
    obtain ⟨h0, xs, bs', h1, h2, rfl⟩ := h
    exact ⟨h0, xs, bs', own_same h1 fun b hv => hb b (by rw [hv]; simp), OwE_frame l (fun b hm => hb b (List.mem_append_right _ hm)) h2, rfl⟩
theorem OwE_frame {w w' : World} {B : Nat} : ∀ (l : List SX) {xs : List Value} {bs : List Nat}, (∀ b ∈ bs, w'.heap[b]? = w.heap[b]?) → OwE w B l xs bs → OwE w' B l xs bs
  | [], xs, bs, _, h => by rw [OwE] at h ⊢; exact h
  | x :: r, xs, bs, hb, h => by
    rw [OwE] at h ⊢
    obtain ⟨v0, v1, xs', b1, b2, rfl, rfl, h1, h2⟩ := h
    exact ⟨v0, v1, xs', b1, b2, rfl, rfl, OwX_frame x (fun b hm => hb b (List.mem_append_left _ hm)) h1, OwE_frame r (fun b hm => hb b (List.mem_append_right _ hm)) h2⟩
end
theorem OwE_length {w : World} {B : Nat} : ∀ {l : List SX} {xs : List Value} {bs : List Nat}, OwE w B l xs bs → xs.length = l.length * 2
  | [], xs, bs, h => by rw [OwE] at h; rw [h.1]; rfl
  | x :: r, xs, bs, h => by
    rw [OwE] at h
    obtain ⟨v0, v1, xs', b1, b2, rfl, rfl, _, h2⟩ := h
    have := OwE_length h2
    rw [List.length_cons, List.length_cons, List.length_cons]; omega
theorem OwE_snoc {w : World} {B : Nat} : ∀ {l : List SX} {xs : List Value} {bs : List Nat}, OwE w B l xs bs → ∀ {x : SX} {v0 v1 : Value} {bx : List Nat}, OwX w B x v0 v1 bx → OwE w B (l ++ [x]) (xs ++ [v0, v1]) (bs ++ bx)
  | [], xs, bs, h, x, v0, v1, bx, hx => by
    rw [OwE] at h
    obtain ⟨rfl, rfl⟩ := h
    rw [List.nil_append, OwE]
    exact ⟨v0, v1, [], bx, [], rfl, by simp, hx, by rw [OwE]; exact ⟨rfl, rfl⟩⟩
  | y :: r, xs, bs, h, x, v0, v1, bx, hx => by
    rw [OwE] at h
    obtain ⟨u0, u1, xs', b1, b2, rfl, rfl, h1, h2⟩ := h
    rw [List.cons_append, OwE]
    exact ⟨u0, u1, _, b1, b2 ++ bx, by simp, by simp, h1, OwE_snoc h2 hx⟩
/-- A word. -/
theorem OwX_word (w : World) (B : Nat) (a : ByteArray) : OwX w B (.mk a []) (.string a) (.slice none 0 0) [] := by
  rw [OwX]
  exact ⟨rfl, [], [], World.ownsRow_nil _ _ _ _, by rw [OwE]; exact ⟨rfl, rfl⟩, rfl⟩
theorem OwX_form {w : World} {B : Nat} {x : SX} {v0 v1 : Value} {bs : List Nat} (h : OwX w B x v0 v1 bs) : ∃ A c, v0 = .string x.atom ∧ v1 = .slice A x.list.length c := by
  cases x with
  | mk a l =>
    rw [OwX] at h
    obtain ⟨h0, xs, bs', h1, _, _⟩ := h
    obtain ⟨A, c, rfl⟩ := own_nil h1
    exact ⟨A, c, h0, rfl⟩

mutual
/-- What is owned reads as what it is. -/
theorem OwX_list {w : World} {B : Nat} {P : Nat → Prop} : ∀ (x : SX) {v0 : Value} {A : Option Addr} {n c : Nat} {bs : List Nat}, (∀ b ∈ bs, P b) → OwX w B x v0 (.slice A n c) bs → ListAt w P A x.list
  | .mk a l, v0, A, n, c, bs, hP, h => by
    rw [OwX] at h
    obtain ⟨h0, xs, bs', h1, h2, rfl⟩ := h
    rcases h1.2 with ⟨hv, hn⟩ | ⟨g, cap, cur, hv, _⟩
    · exact .inl (List.eq_nil_of_length_eq_zero hn)
    · injection hv with hA hn hc
      subst hA hn hc
      refine .inr ⟨g, 0, rfl, hP g (by simp [Value.ownBlock]), ?_⟩
      refine OwE_read l g 0 (fun b hm => hP b (List.mem_append_right _ hm)) h2 fun j hj => ?_
      rw [Nat.zero_add, World.ownsRow.cellAt h1 j (by have := OwE_length h2; omega)]
theorem OwE_read {w : World} {B : Nat} {P : Nat → Prop} : ∀ (l : List SX) (g o : Nat) {xs : List Value} {bs : List Nat}, (∀ b ∈ bs, P b) → OwE w B l xs bs → (∀ j, j < xs.length → w.cell? ⟨g, o + j, none⟩ = xs[j]?) → RdE w P l g o
  | [], _, _, _, _, _, _, _ => by rw [RdE]; trivial
  | x :: r, g, o, xs, bs, hP, h, hc => by
    rw [OwE] at h
    obtain ⟨v0, v1, xs', b1, b2, rfl, rfl, h1, h2⟩ := h
    obtain ⟨A, c, rfl, rfl⟩ := OwX_form h1
    rw [RdE]
    refine ⟨RdX_iff.2 ⟨(hc 0 (by simp)), A, c, (hc 1 (by simp)), OwX_list x (fun b hm => hP b (List.mem_append_left _ hm)) h1⟩, ?_⟩
    refine OwE_read r g (o + 2) (fun b hm => hP b (List.mem_append_right _ hm)) h2 fun j hj => ?_
    have := hc (j + 2) (by simp; omega)
    rw [show o + 2 + j = o + (j + 2) by omega, this]
    simp
end

/-- Lists under way, each in a row of its own, outermost first. -/
def Levs (w : World) (B : Nat) : List (List SX) → List Value → List Nat → Prop
  | [], vs, bs => vs = [] ∧ bs = []
  | t :: r, vs, bs => ∃ (v : Value) (vs' : List Value) (b1 b2 : List Nat), vs = v :: vs' ∧ bs = b1 ++ b2 ∧ OwX w B (.mk ByteArray.empty t) (.string ByteArray.empty) v b1 ∧ Levs w B r vs' b2
theorem Levs.frame {w w' : World} {B : Nat} : ∀ {st : List (List SX)} {vs : List Value} {bs : List Nat}, (∀ b ∈ bs, w'.heap[b]? = w.heap[b]?) → Levs w B st vs bs → Levs w' B st vs bs
  | [], vs, bs, _, h => h
  | t :: r, vs, bs, hb, h => by
    obtain ⟨v, vs', b1, b2, rfl, rfl, h1, h2⟩ := h
    exact ⟨v, vs', b1, b2, rfl, rfl, OwX_frame _ (fun b hm => hb b (List.mem_append_left _ hm)) h1, Levs.frame (fun b hm => hb b (List.mem_append_right _ hm)) h2⟩
theorem Levs.snoc {w : World} {B : Nat} : ∀ {st : List (List SX)} {vs : List Value} {bs : List Nat}, Levs w B st vs bs → ∀ {t : List SX} {v : Value} {bt : List Nat}, OwX w B (.mk ByteArray.empty t) (.string ByteArray.empty) v bt → Levs w B (st ++ [t]) (vs ++ [v]) (bs ++ bt)
  | [], vs, bs, h, t, v, bt, ht => by
    obtain ⟨rfl, rfl⟩ := h
    exact ⟨v, [], bt, [], rfl, by simp, ht, rfl, rfl⟩
  | u :: r, vs, bs, h, t, v, bt, ht => by
    obtain ⟨v', vs', b1, b2, rfl, rfl, h1, h2⟩ := h
    exact ⟨v', _, b1, b2 ++ bt, rfl, by simp, h1, h2.snoc ht⟩
theorem Levs.last {w : World} {B : Nat} : ∀ {st : List (List SX)} {t : List SX} {vs : List Value} {bs : List Nat}, Levs w B (st ++ [t]) vs bs → ∃ vs0 v b0 bt, vs = vs0 ++ [v] ∧ bs = b0 ++ bt ∧ Levs w B st vs0 b0 ∧ OwX w B (.mk ByteArray.empty t) (.string ByteArray.empty) v bt
  | [], t, vs, bs, h => by
    obtain ⟨v', vs', b1, b2, rfl, rfl, h1, h2⟩ := h
    obtain ⟨rfl, rfl⟩ := h2
    exact ⟨[], v', [], b1, rfl, by simp, ⟨rfl, rfl⟩, h1⟩
  | u :: r, t, vs, bs, h => by
    obtain ⟨v', vs', b1, b2, rfl, rfl, h1, h2⟩ := h
    obtain ⟨vs0, v, b0, bt, rfl, rfl, h3, h4⟩ := Levs.last (st := r) h2
    exact ⟨v' :: vs0, v, b1 ++ b0, bt, rfl, by simp, ⟨v', vs0, b1, b0, rfl, rfl, h1, h3⟩, h4⟩
theorem Levs.length {w : World} {B : Nat} : ∀ {st : List (List SX)} {vs : List Value} {bs : List Nat}, Levs w B st vs bs → vs.length = st.length
  | [], vs, bs, h => by rw [h.1]; rfl
  | t :: r, vs, bs, h => by
    obtain ⟨v', vs', b1, b2, rfl, rfl, h1, h2⟩ := h
    rw [List.length_cons, List.length_cons, h2.length]
end Go.Proofs.YtbcfeoobhemdcaaGreat
namespace Go.Proofs.YtbcfeoobhemdcaaGreat
open Go.RowKit

/-- The keywords. -/
def keywords : List ByteArray := [⟨#[105, 110, 116]⟩, ⟨#[98, 111, 111, 108]⟩, ⟨#[97, 115, 115, 111, 99]⟩, ⟨#[100, 121, 110]⟩, ⟨#[105, 102]⟩, ⟨#[108, 101, 116]⟩, ⟨#[99, 97, 115, 101]⟩, ⟨#[110, 101, 119]⟩, ⟨#[109, 101, 116, 104, 111, 100]⟩, ⟨#[112, 97, 99, 107]⟩, ⟨#[116, 114, 117, 101]⟩, ⟨#[102, 97, 108, 115, 101]⟩]
/-- A keyword. -/
def isKey (s : ByteArray) : Bool := has keywords s

set_option maxRecDepth 100000 in
set_option maxHeartbeats 400000 in
theorem specReserved (s : ByteArray) (w : World) : Calls Tryz.prog 91 #[.string s] w fun e w' => e = .returned (.bool (isKey s)) ∧ Below w.heap.size w w' := by
  have hal : Below w.heap.size w (w.alloc (.cells (keywords.map Value.string).toArray 9)) := (Below.refl _ _).alloc (Nat.le_refl _) _
  have HAL := Lib.hid hal
  clear hal
  go_enter Tryz.func91, Tryz.ntmps91
  go_wp2_with fail
  refine (specHas (some ⟨w.heap.size, 0, none⟩) 12 keywords s _ (Whole.new w 9 (keywords.map Value.string).toArray).strs (by decide)).mono ?_
  rintro e w1 ⟨rfl, rfl⟩
  go_wp2
  go_ret
  exact ⟨rfl, HAL.out⟩

theorem zeroBool (w : World) : (zeroValue 4).run Tryz.prog w = .ok (.bool false) w := by kernel_rfl
set_option maxRecDepth 100000 in
set_option maxHeartbeats 1000000 in
theorem implReserved (s : ByteArray) (w : World) (hs : s.size ≤ 9223372036854775807) : Calls Tryz.prog 93 #[.string s] w fun e w' => e = .returned (.bool (isKey s)) ∧ Below w.heap.size w w' := by
  have hmm := @run_makeMap Tryz.prog
  have h0 := Seen.made (P := Tryz.prog) (k := 9) (e := 4) w
  have hb0 : Below w.heap.size w (w.alloc (.map #[] 0)) := (Below.refl _ _).alloc (Nat.le_refl _) _
  have H0 := Lib.hid h0
  have HB0 := Lib.hid hb0
  clear h0 hb0
  obtain ⟨w1, e1, h1, g1⟩ := H0.out.store Tryz.underlying112 Tryz.underlying9 Tryz.underlying4 (by decide) ⟨#[105, 110, 116]⟩ (by decide)
  have H1 := Lib.hid h1
  have HB1 := Lib.hid (HB0.out.grown g1 HB0.out.size (fun j hj => by cases hj; exact Nat.le_refl _))
  clear h1 g1
  obtain ⟨w2, e2, h2, g2⟩ := H1.out.store Tryz.underlying112 Tryz.underlying9 Tryz.underlying4 (by decide) ⟨#[98, 111, 111, 108]⟩ (by decide)
  have H2 := Lib.hid h2
  have HB2 := Lib.hid (HB1.out.grown g2 HB1.out.size (fun j hj => by cases hj; exact Nat.le_refl _))
  clear h2 g2
  obtain ⟨w3, e3, h3, g3⟩ := H2.out.store Tryz.underlying112 Tryz.underlying9 Tryz.underlying4 (by decide) ⟨#[97, 115, 115, 111, 99]⟩ (by decide)
  have H3 := Lib.hid h3
  have HB3 := Lib.hid (HB2.out.grown g3 HB2.out.size (fun j hj => by cases hj; exact Nat.le_refl _))
  clear h3 g3
  obtain ⟨w4, e4, h4, g4⟩ := H3.out.store Tryz.underlying112 Tryz.underlying9 Tryz.underlying4 (by decide) ⟨#[100, 121, 110]⟩ (by decide)
  have H4 := Lib.hid h4
  have HB4 := Lib.hid (HB3.out.grown g4 HB3.out.size (fun j hj => by cases hj; exact Nat.le_refl _))
  clear h4 g4
  obtain ⟨w5, e5, h5, g5⟩ := H4.out.store Tryz.underlying112 Tryz.underlying9 Tryz.underlying4 (by decide) ⟨#[105, 102]⟩ (by decide)
  have H5 := Lib.hid h5
  have HB5 := Lib.hid (HB4.out.grown g5 HB4.out.size (fun j hj => by cases hj; exact Nat.le_refl _))
  clear h5 g5
  obtain ⟨w6, e6, h6, g6⟩ := H5.out.store Tryz.underlying112 Tryz.underlying9 Tryz.underlying4 (by decide) ⟨#[108, 101, 116]⟩ (by decide)
  have H6 := Lib.hid h6
  have HB6 := Lib.hid (HB5.out.grown g6 HB5.out.size (fun j hj => by cases hj; exact Nat.le_refl _))
  clear h6 g6
  obtain ⟨w7, e7, h7, g7⟩ := H6.out.store Tryz.underlying112 Tryz.underlying9 Tryz.underlying4 (by decide) ⟨#[99, 97, 115, 101]⟩ (by decide)
  have H7 := Lib.hid h7
  have HB7 := Lib.hid (HB6.out.grown g7 HB6.out.size (fun j hj => by cases hj; exact Nat.le_refl _))
  clear h7 g7
  obtain ⟨w8, e8, h8, g8⟩ := H7.out.store Tryz.underlying112 Tryz.underlying9 Tryz.underlying4 (by decide) ⟨#[110, 101, 119]⟩ (by decide)
  have H8 := Lib.hid h8
  have HB8 := Lib.hid (HB7.out.grown g8 HB7.out.size (fun j hj => by cases hj; exact Nat.le_refl _))
  clear h8 g8
  obtain ⟨w9, e9, h9, g9⟩ := H8.out.store Tryz.underlying112 Tryz.underlying9 Tryz.underlying4 (by decide) ⟨#[109, 101, 116, 104, 111, 100]⟩ (by decide)
  have H9 := Lib.hid h9
  have HB9 := Lib.hid (HB8.out.grown g9 HB8.out.size (fun j hj => by cases hj; exact Nat.le_refl _))
  clear h9 g9
  obtain ⟨w10, e10, h10, g10⟩ := H9.out.store Tryz.underlying112 Tryz.underlying9 Tryz.underlying4 (by decide) ⟨#[112, 97, 99, 107]⟩ (by decide)
  have H10 := Lib.hid h10
  have HB10 := Lib.hid (HB9.out.grown g10 HB9.out.size (fun j hj => by cases hj; exact Nat.le_refl _))
  clear h10 g10
  obtain ⟨w11, e11, h11, g11⟩ := H10.out.store Tryz.underlying112 Tryz.underlying9 Tryz.underlying4 (by decide) ⟨#[116, 114, 117, 101]⟩ (by decide)
  have H11 := Lib.hid h11
  have HB11 := Lib.hid (HB10.out.grown g11 HB10.out.size (fun j hj => by cases hj; exact Nat.le_refl _))
  clear h11 g11
  obtain ⟨w12, e12, h12, g12⟩ := H11.out.store Tryz.underlying112 Tryz.underlying9 Tryz.underlying4 (by decide) ⟨#[102, 97, 108, 115, 101]⟩ (by decide)
  have H12 := Lib.hid h12
  have HB12 := Lib.hid (HB11.out.grown g12 HB11.out.size (fun j hj => by cases hj; exact Nat.le_refl _))
  clear h12 g12
  have hlk := H12.out.look Tryz.underlying112 Tryz.underlying9 Tryz.underlying4 (zeroBool _) s hs
  go_enter Tryz.func93, Tryz.ntmps93
  go_wp2
  go_ret
  exact ⟨rfl, HB12.out⟩
end Go.Proofs.YtbcfeoobhemdcaaGreat
namespace Go.Proofs.YtbcfeoobhemdcaaGreat
open Go.RowKit

def letterR (r : Int) : Bool := decide (97 ≤ r) && decide (r ≤ 122)
def digitR (r : Int) : Bool := decide (48 ≤ r) && decide (r ≤ 57)

set_option maxRecDepth 100000 in
theorem letterIs (r : Int) (w : World) : Calls Tryz.prog 80 #[.int .i32 r] w fun e w' => e = .returned (.bool (letterR r)) ∧ w = w' := by
  by_cases h1 : 97 ≤ r
  all_goals (
    go_enter Tryz.func80, Tryz.ntmps80
    go_wp2
    go_ret
    refine ⟨congrArg (fun b => Ending.returned (.bool b)) ?_, rfl⟩
    (simp [letterR, h1]; try omega))
set_option maxRecDepth 100000 in
theorem digitIs (r : Int) (w : World) : Calls Tryz.prog 81 #[.int .i32 r] w fun e w' => e = .returned (.bool (digitR r)) ∧ w = w' := by
  by_cases h1 : 48 ≤ r
  all_goals (
    go_enter Tryz.func81, Tryz.ntmps81
    go_wp2
    go_ret
    refine ⟨congrArg (fun b => Ending.returned (.bool b)) ?_, rfl⟩
    (simp [digitR, h1]; try omega))
end Go.Proofs.YtbcfeoobhemdcaaGreat
namespace Go.Proofs.YtbcfeoobhemdcaaGreat
open Go.RowKit

/-- A byte that may stand at place i of a name. -/
def goodAt (i : Nat) (c : UInt8) : Bool := letterR c.toNat || (i != 0 && digitR c.toNat)
def goods (s : ByteArray) (k : Nat) : Bool := (List.range k).all fun i => goodAt i (s.data.toList.getD i 0)
/-- A name. -/
def okName (s : ByteArray) : Bool := decide (1 ≤ s.size ∧ s.size ≤ 8) && (!isKey s && goods s s.size)
theorem goods_succ {s : ByteArray} {k : Nat} (h : k < s.size) : goods s (k + 1) = (goods s k && goodAt k s[k]) := by
  unfold goods
  rw [List.range_succ, List.all_append]
  simp
  congr 2
  have : s.data[k]? = some s[k] := by simp [h]; rfl
  rw [this]
  rfl
theorem goods_bad {s : ByteArray} {k : Nat} (h : k < s.size) (hb : goodAt k s[k] = false) : okName s = false := by
  have h1 := goods_succ h
  rw [hb, Bool.and_false] at h1
  have : goods s s.size = false := by
    unfold goods at h1 ⊢
    rw [List.all_eq_false] at h1 ⊢
    obtain ⟨x, hx, hf⟩ := h1
    exact ⟨x, by simp at hx ⊢; omega, hf⟩
  rw [okName, this, Bool.and_false, Bool.and_false]
theorem name_size {s : ByteArray} (h : ¬ (1 ≤ s.size ∧ s.size ≤ 8)) : okName s = false := by rw [okName, decide_eq_false h, Bool.false_and]
theorem name_key {s : ByteArray} (h : isKey s = true) : okName s = false := by rw [okName, h]; simp
theorem name_ok {s : ByteArray} (h : 1 ≤ s.size ∧ s.size ≤ 8) (hg : goods s s.size = true) : okName s = !isKey s := by rw [okName, decide_eq_true h, hg]; simp

theorem withinN (x lo hi : Int) (w : World) : Calls Tryz.prog 90 #[.int .i64 x, .int .i64 lo, .int .i64 hi] w fun e w' => e = .returned (.bool (decide (lo ≤ x ∧ x ≤ hi))) ∧ w = w' := by
  by_cases h1 : lo ≤ x
  · go_enter Tryz.func90, Tryz.ntmps90
    go_wp2
    go_ret
    refine ⟨congrArg (fun b => Ending.returned (.bool b)) ?_, rfl⟩
    rw [Bool.eq_iff_iff]
    simp [h1]
  · go_enter Tryz.func90, Tryz.ntmps90
    go_wp2
    go_ret
    refine ⟨congrArg (fun b => Ending.returned (.bool b)) ?_, rfl⟩
    rw [Bool.eq_iff_iff]
    simp
    omega

set_option maxRecDepth 100000 in
set_option maxHeartbeats 1000000 in
theorem specName (s : ByteArray) (w : World) (hs : s.size ≤ 9223372036854775807) : Calls Tryz.prog 72 #[.string s] w fun e w' => e = .returned (.bool (okName s)) ∧ Below w.heap.size w w' := by
  by_cases hsz : 1 ≤ s.size ∧ s.size ≤ 8
  · have hd : decide ((1 : Int) ≤ s.size ∧ (s.size : Int) ≤ 8) = true := by simp; omega
    go_enter Tryz.func72, Tryz.ntmps72
    go_wp2_with fail
    refine (withinN _ _ _ _).mono ?_
    rintro e w1 ⟨rfl, rfl⟩
    rw [hd]
    clear hd
    go_wp2_with fail
    refine (specReserved s _).mono ?_
    rintro e w1 ⟨rfl, hb1⟩
    cases hk : isKey s with
    | true =>
      have hno := name_key hk
      have HN := Lib.hid hno
      clear hk hno
      go_wp2
      go_ret
      exact ⟨congrArg (fun b => Ending.returned (.bool b)) HN.out.symm, hb1⟩
    | false =>
      have hyes := fun h => @name_ok s hsz h
      rw [hk] at hyes
      have HY := Lib.hid hyes
      have HB := Lib.hid hb1
      obtain ⟨hsz1, hsz2⟩ := hsz
      clear hyes hk hb1
      go_wp2
      go_loopw [3] (fun iv wr => ∃ k : Nat, k ≤ s.size ∧ iv = .int .i64 k ∧ goods s k = true ∧ wr = w1) (fun iv _ => s.size - (Go.RowKit.intOf iv).toNat)
      case atStart => exact ⟨0, Nat.zero_le _, rfl, rfl, rfl⟩
      case round =>
        obtain ⟨k, hk, rfl, hg, rfl⟩ := hrel
        by_cases hlt : k < s.size
        · have hst := goods_succ hlt
          rw [hg, Bool.true_and] at hst
          have hbad := @goods_bad s k hlt
          have HS := Lib.hid hst
          have HX := Lib.hid hbad
          clear hst hbad hg
          by_cases h97 : 97 ≤ s[k].toNat
          · by_cases h122 : s[k].toNat ≤ 122
            · have hg : goodAt k s[k] = true := by unfold goodAt letterR; simp; omega
              have HG := Lib.hid (HS.out.trans hg)
              clear hg
              go_wp2
              go_roundw
              case rel => exact ⟨k + 1, by omega, by go_num, HG.out, trivial⟩
              case measure => simp [Go.RowKit.intOf]; omega
            · have hg : goodAt k s[k] = false := by unfold goodAt letterR digitR; simp; omega
              have HG := Lib.hid (HX.out hg)
              clear hg
              have q1 : decide ((s[k].toNat : Int) ≤ 122) = false := by simp; omega
              by_cases h0 : k = 0
              · subst h0
                go_wp2
                go_ret
                exact ⟨congrArg (fun b => Ending.returned (.bool b)) HG.out.symm, HB.out⟩
              · have q0 : ((k : Int) == 0) = false := by simp; omega
                go_wp2
                go_ret
                exact ⟨congrArg (fun b => Ending.returned (.bool b)) HG.out.symm, HB.out⟩
          · by_cases h0 : k = 0
            · subst h0
              have hg : goodAt 0 s[0] = false := by unfold goodAt letterR digitR; simp; omega
              have HG := Lib.hid (HX.out hg)
              clear hg
              go_wp2
              go_ret
              exact ⟨congrArg (fun b => Ending.returned (.bool b)) HG.out.symm, HB.out⟩
            · have q0 : ((k : Int) == 0) = false := by simp; omega
              by_cases h48 : s[k].toNat < 48
              · have hg : goodAt k s[k] = false := by unfold goodAt letterR digitR; simp; omega
                have HG := Lib.hid (HX.out hg)
                clear hg
                go_wp2
                go_ret
                exact ⟨congrArg (fun b => Ending.returned (.bool b)) HG.out.symm, HB.out⟩
              · by_cases h57 : 57 < s[k].toNat
                · have hg : goodAt k s[k] = false := by unfold goodAt letterR digitR; simp; omega
                  have HG := Lib.hid (HX.out hg)
                  clear hg
                  go_wp2
                  go_ret
                  exact ⟨congrArg (fun b => Ending.returned (.bool b)) HG.out.symm, HB.out⟩
                · have hg : goodAt k s[k] = true := by unfold goodAt letterR digitR; simp; omega
                  have HG := Lib.hid (HS.out.trans hg)
                  clear hg
                  go_wp2
                  go_roundw
                  case rel => exact ⟨k + 1, by omega, by go_num, HG.out, trivial⟩
                  case measure => simp [Go.RowKit.intOf]; omega
        · have hkl : k = s.size := by omega
          subst hkl
          have hy := HY.out hg
          have HZ := Lib.hid hy
          clear hg hy
          go_wp2
          go_ret
          exact ⟨congrArg (fun b => Ending.returned (.bool b)) HZ.out.symm, HB.out⟩
  · have hno := name_size hsz
    have HN := Lib.hid hno
    have hd : decide ((1 : Int) ≤ s.size ∧ (s.size : Int) ≤ 8) = false := by simp; omega
    clear hno
    go_enter Tryz.func72, Tryz.ntmps72
    go_wp2_with fail
    refine (withinN _ _ _ _).mono ?_
    rintro e w1 ⟨rfl, rfl⟩
    rw [hd]
    go_wp2
    go_ret
    exact ⟨congrArg (fun b => Ending.returned (.bool b)) HN.out.symm, Below.refl _ _⟩
end Go.Proofs.YtbcfeoobhemdcaaGreat
namespace Go.Proofs.YtbcfeoobhemdcaaGreat
open Go.RowKit Go.Lib

set_option maxRecDepth 100000 in
set_option maxHeartbeats 2000000 in
theorem specLeft_step (N : Nat) (ih : ∀ (y : TypeX) (v : Value) (L : Nat) (w : World), DV.nodesL y.cells < N → L ≤ 4294967296 → TypeAt w (Und w.heap.size) y v → Calls Tryz.prog 35 #[v, .int .i64 L] w fun e w' => e = .returned (.int .i64 (leftV L y.size)) ∧ Below w.heap.size w w') :
    ∀ (x : TypeX) (v : Value) (L : Nat) (w : World), DV.nodesL x.cells ≤ N → L ≤ 4294967296 → TypeAt w (Und w.heap.size) x v → Calls Tryz.prog 35 #[v, .int .i64 L] w fun e w' => e = .returned (.int .i64 (leftV L x.size)) ∧ Below w.heap.size w w' := by
  intro x v L w hn hL hv
  obtain ⟨A2, c2, rfl, h2⟩ := hv
  have hcap := h2.cap
  rw [TypeX.nodes_eq] at hn
  have hb0 : Below w.heap.size w (w.alloc (.cells #[.int .i64 x.kind_, .string x.name_, .slice A2 x.args_.length c2] 26)) := (Below.refl _ _).alloc (Nat.le_refl _) _
  have hx0 := Whole.new w 26 #[.int .i64 x.kind_, .string x.name_, .slice A2 x.args_.length c2]
  have hr0 := h2.grow hb0
  have hse := TypeX.size_eq x
  have HSE := Lib.hid hse
  have HX0 := Lib.hid hx0
  have HR0 := Lib.hid hr0
  have HN := Lib.hid hn
  clear h2 hn hx0 hr0 hse
  go_enter Tryz.func35, Tryz.ntmps35
  go_wp2
  go_loopw [1, 5] (fun qv iv wr => ∃ (k : Nat) (q : Int), k ≤ x.args_.length ∧ iv = .int .i64 k ∧ qv = .int .i64 q ∧ ((q = -1 ∧ L < x.size) ∨ ∃ n : Nat, q = n ∧ n + 1 + TypeX.sizeL (x.args_.take k) = L) ∧ Whole wr w.heap.size 26 #[.int .i64 x.kind_, .string x.name_, .slice A2 x.args_.length c2] ∧ TypeRow wr (Und wr.heap.size) A2 c2 x.args_ ∧ Below w.heap.size w wr) (fun _ iv _ => x.args_.length - (Go.RowKit.intOf iv).toNat)
  case atStart =>
    refine ⟨0, (L : Int) - 1, Nat.zero_le _, rfl, rfl, ?_, HX0.out, HR0.out, hb0⟩
    by_cases h0 : L = 0
    · exact .inl ⟨by omega, by have := HSE.out; omega⟩
    · exact .inr ⟨L - 1, by omega, by simp [TypeX.sizeL]; omega⟩
  case round =>
    clear HX0 HR0 hb0
    obtain ⟨k, q, hk, rfl, rfl, hq, hx, hr, hb⟩ := hrel
    have c2f : wr.cell? ⟨w.heap.size, 2, none⟩ = some (.slice A2 x.args_.length c2) := by rw [hx.cell]; rfl
    have hxlt := hx.lt
    rcases hq with ⟨rfl, hno⟩ | ⟨n, rfl, hq⟩
    · have hz : leftV L x.size = -1 := leftV_no hno
      have HZ := Lib.hid hz
      clear hx hr hz
      by_cases hlt : k < x.args_.length
      · go_wp2
        go_ret
        exact ⟨ret_int HZ.out.symm, hb⟩
      · go_wp2
        go_ret
        exact ⟨ret_int HZ.out.symm, hb⟩
    · by_cases hlt : k < x.args_.length
      · obtain ⟨b, o, A2', c2', hA, hP, q0, q1, q2, k2⟩ := hr.at_ hlt
        subst hA
        have hnx : DV.nodesL x.args_[k].cells < N := by
          have h := nodesVE_at (TypeX.rows x.args_) k (by rw [TypeX.rows_length]; exact hlt)
          rw [TypeX.rows_at x.args_ k hlt] at h
          have := HN.out
          omega
        have hst := TypeX.sizeL_take x.args_ k hlt
        have hle := TypeX.sizeL_le x.args_ (k + 1)
        have hrel2 : (leftV n x.args_[k].size = -1 ∧ L < x.size) ∨ ∃ m : Nat, leftV n x.args_[k].size = m ∧ m + 1 + TypeX.sizeL (x.args_.take (k + 1)) = L := by
          by_cases h : x.args_[k].size ≤ n
          · exact .inr ⟨n - x.args_[k].size, by rw [leftV_yes h]; omega, by omega⟩
          · exact .inl ⟨leftV_no (by omega), by have := HSE.out; omega⟩
        have hnL : n ≤ 4294967296 := by omega
        have HR2 := Lib.hid hrel2
        have HX := Lib.hid hx
        have HR := Lib.hid hr
        have HK := Lib.hid k2
        clear hx hr k2 hst hle hrel2 hq
        go_wp2_with fail
        refine (ih x.args_[k] _ n _ hnx hnL ⟨_, _, rfl, HK.out⟩).mono ?_
        rintro e w1 ⟨rfl, hb1⟩
        have hb2 := hb.trans (hb1.mono hb.size)
        have hx1 := HX.out.below hb1 HX.out.lt
        have hr1 := HR.out.grow hb1
        have HX1 := Lib.hid hx1
        have HR1 := Lib.hid hr1
        clear hx1 hr1 hb1
        go_wp2
        go_roundw
        case rel => exact ⟨k + 1, _, by omega, by go_num, rfl, HR2.out, HX1.out, HR1.out, hb2⟩
        case measure => simp [Go.RowKit.intOf]; omega
      · have hkl : k = x.args_.length := by omega
        subst hkl
        rw [List.take_length] at hq
        have hz : leftV L x.size = n := by have := HSE.out; rw [leftV_yes (by omega)]; omega
        have HZ := Lib.hid hz
        clear hx hr hz hq
        go_wp2
        go_ret
        exact ⟨ret_int HZ.out.symm, hb⟩
theorem specLeftAll : ∀ (N : Nat) (x : TypeX) (v : Value) (L : Nat) (w : World), DV.nodesL x.cells ≤ N → L ≤ 4294967296 → TypeAt w (Und w.heap.size) x v → Calls Tryz.prog 35 #[v, .int .i64 L] w fun e w' => e = .returned (.int .i64 (leftV L x.size)) ∧ Below w.heap.size w w'
  | 0 => specLeft_step 0 (fun _ _ _ _ h => absurd h (Nat.not_lt_zero _))
  | N + 1 => specLeft_step (N + 1) (fun y v L w h => specLeftAll N y v L w (Nat.le_of_lt_succ h))
theorem specLeft (x : TypeX) (v : Value) (L : Nat) (w : World) (hL : L ≤ 4294967296) (hv : TypeAt w (Und w.heap.size) x v) : Calls Tryz.prog 35 #[v, .int .i64 L] w fun e w' => e = .returned (.int .i64 (leftV L x.size)) ∧ Below w.heap.size w w' := specLeftAll _ x v L w (Nat.le_refl _) hL hv
end Go.Proofs.YtbcfeoobhemdcaaGreat
namespace Go.Proofs.YtbcfeoobhemdcaaGreat
open Go.RowKit Go.Lib

mutual
def TypeX.depth : TypeX → Nat
  | .mk _ _ l => TypeX.depthL l
def TypeX.depthL : List TypeX → Nat
  | [] => 0
  | x :: r => max (1 + x.depth) (TypeX.depthL r)
end
theorem TypeX.depth_eq (x : TypeX) : x.depth = TypeX.depthL x.args_ := by cases x with | mk a b c => rw [TypeX.depth]; rfl
theorem TypeX.depthL_take : ∀ (l : List TypeX) (j : Nat) (h : j < l.length), TypeX.depthL (l.take (j + 1)) = max (TypeX.depthL (l.take j)) (1 + l[j].depth)
  | x :: r, 0, _ => by simp [TypeX.depthL]
  | x :: r, j + 1, h => by
    have := TypeX.depthL_take r j (by simpa using h)
    rw [List.take_succ_cons, List.take_succ_cons, TypeX.depthL, TypeX.depthL, this]
    simp [Nat.max_assoc]
theorem TypeX.depthL_le : ∀ (l : List TypeX) (j : Nat), TypeX.depthL (l.take j) ≤ TypeX.depthL l
  | [], j => by simp
  | x :: r, 0 => by simp [TypeX.depthL]
  | x :: r, j + 1 => by
    have := TypeX.depthL_le r j
    rw [List.take_succ_cons, TypeX.depthL, TypeX.depthL]; omega

set_option maxRecDepth 100000 in
set_option maxHeartbeats 2000000 in
theorem specTyDepth_step (N : Nat) (ih : ∀ (y : TypeX) (v : Value) (w : World), DV.nodesL y.cells < N → TypeX.depth y ≤ 4294967296 → TypeAt w (Und w.heap.size) y v → Calls Tryz.prog 36 #[v] w fun e w' => e = .returned (.int .i64 (TypeX.depth y : Nat)) ∧ Below w.heap.size w w') :
    ∀ (x : TypeX) (v : Value) (w : World), DV.nodesL x.cells ≤ N → TypeX.depth x ≤ 4294967296 → TypeAt w (Und w.heap.size) x v → Calls Tryz.prog 36 #[v] w fun e w' => e = .returned (.int .i64 (TypeX.depth x : Nat)) ∧ Below w.heap.size w w' := by
  intro x v w hn hs0 hv
  obtain ⟨A2, c2, rfl, h2⟩ := hv
  have hcap := h2.cap
  rw [TypeX.nodes_eq] at hn
  have hb0 : Below w.heap.size w (w.alloc (.cells #[.int .i64 x.kind_, .string x.name_, .slice A2 x.args_.length c2] 26)) := (Below.refl _ _).alloc (Nat.le_refl _) _
  have hx0 := Whole.new w 26 #[.int .i64 x.kind_, .string x.name_, .slice A2 x.args_.length c2]
  have hr0 := h2.grow hb0
  have HX0 := Lib.hid hx0
  have HR0 := Lib.hid hr0
  have HN := Lib.hid hn
  have HS0 := Lib.hid hs0
  clear hs0
  clear h2 hn hx0 hr0
  go_enter Tryz.func36, Tryz.ntmps36
  go_wp2
  go_loopw [3, 4] (fun mv iv wr => ∃ k m : Nat, k ≤ x.args_.length ∧ iv = .int .i64 k ∧ m = TypeX.depthL (x.args_.take k) ∧ mv = .int .i64 m ∧ Whole wr w.heap.size 26 #[.int .i64 x.kind_, .string x.name_, .slice A2 x.args_.length c2] ∧ TypeRow wr (Und wr.heap.size) A2 c2 x.args_ ∧ Below w.heap.size w wr) (fun _ iv _ => x.args_.length - (Go.RowKit.intOf iv).toNat)
  case atStart => exact ⟨0, 0, Nat.zero_le _, rfl, by simp [TypeX.depthL], rfl, HX0.out, HR0.out, hb0⟩
  case round =>
    clear HX0 HR0 hb0
    obtain ⟨k, m, hk, rfl, hm, rfl, hx, hr, hb⟩ := hrel
    have c2f : wr.cell? ⟨w.heap.size, 2, none⟩ = some (.slice A2 x.args_.length c2) := by rw [hx.cell]; rfl
    have hxlt := hx.lt
    by_cases hlt : k < x.args_.length
    · obtain ⟨b, o, A2', c2', hA, hP, q0, q1, q2, k2⟩ := hr.at_ hlt
      subst hA
      have hnx : DV.nodesL x.args_[k].cells < N := by
        have h := nodesVE_at (TypeX.rows x.args_) k (by rw [TypeX.rows_length]; exact hlt)
        rw [TypeX.rows_at x.args_ k hlt] at h
        have := HN.out
        omega
      have hst := TypeX.depthL_take x.args_ k hlt
      have hle := TypeX.depthL_le x.args_ (k + 1)
      have hse := TypeX.depth_eq x
      have hs1 : x.args_[k].depth < 4294967296 ∧ m ≤ 4294967296 := by have := HS0.out; omega
      have hm2 : max m (1 + x.args_[k].depth) = TypeX.depthL (x.args_.take (k + 1)) := by rw [hst, hm]
      have hcast : (1 : Int) + (x.args_[k].depth : Nat) = ((1 + x.args_[k].depth : Nat) : Int) := by omega
      have HM := Lib.hid hm2
      have HC := Lib.hid hcast
      clear hst hle hse hm2 hm hcast
      have HX := Lib.hid hx
      have HR := Lib.hid hr
      have HK := Lib.hid k2
      clear hx hr k2
      go_wp2_with fail
      refine (ih x.args_[k] _ _ hnx (by omega) ⟨_, _, rfl, HK.out⟩).mono ?_
      rintro e w1 ⟨rfl, hb1⟩
      have hb2 := hb.trans (hb1.mono hb.size)
      have hx1 := HX.out.below hb1 HX.out.lt
      have hr1 := HR.out.grow hb1
      have HX1 := Lib.hid hx1
      have HR1 := Lib.hid hr1
      clear hx1 hr1 hb1
      go_wp2_with fail
      rw [HC.out]
      refine (maxOf m (1 + x.args_[k].depth) _).mono ?_
      rintro e w2 ⟨rfl, rfl⟩
      go_wp2
      go_roundw
      case rel => exact ⟨k + 1, max m (1 + x.args_[k].depth), by omega, by go_num, HM.out, rfl, HX1.out, HR1.out, hb2⟩
      case measure => simp [Go.RowKit.intOf]; omega
    · have hkl : k = x.args_.length := by omega
      subst hkl
      rw [List.take_length] at hm
      have c0f : wr.cell? ⟨w.heap.size, 0, none⟩ = some (.int .i64 x.kind_) := by rw [hx.cell]; rfl
      rw [← TypeX.depth_eq] at hm
      have HM := Lib.hid hm
      clear hm hx hr
      go_wp2
      go_ret
      exact ⟨ret_int (by rw [HM.out]), hb⟩
theorem specTyDepthAll : ∀ (N : Nat) (x : TypeX) (v : Value) (w : World), DV.nodesL x.cells ≤ N → TypeX.depth x ≤ 4294967296 → TypeAt w (Und w.heap.size) x v → Calls Tryz.prog 36 #[v] w fun e w' => e = .returned (.int .i64 (TypeX.depth x : Nat)) ∧ Below w.heap.size w w'
  | 0 => specTyDepth_step 0 (fun _ _ _ h => absurd h (Nat.not_lt_zero _))
  | N + 1 => specTyDepth_step (N + 1) (fun y v w h => specTyDepthAll N y v w (Nat.le_of_lt_succ h))
theorem specTyDepth (x : TypeX) (v : Value) (w : World) : TypeX.depth x ≤ 4294967296 → TypeAt w (Und w.heap.size) x v → Calls Tryz.prog 36 #[v] w fun e w' => e = .returned (.int .i64 (TypeX.depth x : Nat)) ∧ Below w.heap.size w w' := specTyDepthAll _ x v w (Nat.le_refl _)
end Go.Proofs.YtbcfeoobhemdcaaGreat
namespace Go.Proofs.YtbcfeoobhemdcaaGreat
open Go.RowKit

/-- A rune of an atom. -/
def okRune (r : Int) : Bool := (decide (97 ≤ r) && decide (r ≤ 122)) || (decide (48 ≤ r) && decide (r ≤ 57)) || (r == 39) || (r == 45) || (r == 43) || (r == 42) || (r == 60) || (r == 61) || (r == 46)
theorem okRune_iff (r : Int) : okRune r = true ↔ (97 ≤ r ∧ r ≤ 122) ∨ (48 ≤ r ∧ r ≤ 57) ∨ r = 39 ∨ r = 45 ∨ r = 43 ∨ r = 42 ∨ r = 60 ∨ r = 61 ∨ r = 46 := by
  simp only [okRune, Bool.or_eq_true, Bool.and_eq_true, decide_eq_true_eq, beq_iff_eq, or_assoc]
theorem okByte_iff (c : UInt8) : okByte c = true ↔ (97 ≤ c.toNat ∧ c.toNat ≤ 122) ∨ (48 ≤ c.toNat ∧ c.toNat ≤ 57) ∨ c.toNat = 39 ∨ c.toNat = 45 ∨ c.toNat = 43 ∨ c.toNat = 42 ∨ c.toNat = 60 ∨ c.toNat = 61 ∨ c.toNat = 46 := by
  simp only [okByte, Bool.or_eq_true, Bool.and_eq_true, decide_eq_true_eq, beq_iff_eq, or_assoc]
theorem okRune_byte (c : UInt8) : okRune (c.toNat : Int) = okByte c := by
  rw [Bool.eq_iff_iff, okRune_iff, okByte_iff]; omega
theorem okRune_high {r : Int} (h : 128 ≤ r) : okRune r = false := by
  rw [← Bool.not_eq_true, okRune_iff]; omega
theorem decode_ok {s : ByteArray} {k : Nat} (h : k < s.size) (hc : okByte s[k] = true) : Utf8.decode s k = (s[k].toNat, 1) :=
  decode_ascii s k h (by rw [okByte_iff] at hc; omega)
theorem decode_bad {s : ByteArray} {k : Nat} (h : k < s.size) (hc : okByte s[k] = false) : okRune ((Utf8.decode s k).1 : Int) = false := by
  by_cases ha : s[k].toNat < 128
  · rw [decode_ascii s k h ha, okRune_byte]; exact hc
  · exact okRune_high (by have := (decode_high s k h (by omega)).1; omega)

set_option maxRecDepth 100000 in
set_option maxHeartbeats 1000000 in
theorem runeIs (r : Int) (w : World) : Calls Tryz.prog 53 #[.int .i32 r] w fun e w' => e = .returned (.bool (okRune r)) ∧ w = w' := by
  by_cases hs : r = 39 ∨ r = 45 ∨ r = 43 ∨ r = 42 ∨ r = 60 ∨ r = 61 ∨ r = 46
  · rcases hs with rfl | rfl | rfl | rfl | rfl | rfl | rfl
    all_goals (
      go_enter Tryz.func53, Tryz.ntmps53
      go_wp2
      go_ret
      exact ⟨rfl, rfl⟩)
  · have hok : okRune r = (letterR r || digitR r) := by
      rw [Bool.eq_iff_iff, okRune_iff]
      simp only [letterR, digitR, Bool.or_eq_true, Bool.and_eq_true, decide_eq_true_eq]
      omega
    have HOK := Lib.hid hok
    clear hok
    simp only [not_or] at hs
    obtain ⟨h1, h2, h3, h4, h5, h6, h7⟩ := hs
    have q1 : (r == 39) = false := by simpa using h1
    have q2 : (r == 45) = false := by simpa using h2
    have q3 : (r == 43) = false := by simpa using h3
    have q4 : (r == 42) = false := by simpa using h4
    have q5 : (r == 60) = false := by simpa using h5
    have q6 : (r == 61) = false := by simpa using h6
    have q7 : (r == 46) = false := by simpa using h7
    cases hl : letterR r with
    | true =>
      have HL := Lib.hid hl
      clear hl
      go_enter Tryz.func53, Tryz.ntmps53
      go_wp2_with fail
      refine (letterIs _ _).mono ?_
      rw [HL.out]
      rintro e w1 ⟨rfl, rfl⟩
      go_wp2
      go_ret
      exact ⟨congrArg (fun b => Ending.returned (.bool b)) (by rw [HOK.out, HL.out]; rfl), rfl⟩
    | false =>
      have HL := Lib.hid hl
      clear hl
      go_enter Tryz.func53, Tryz.ntmps53
      go_wp2_with fail
      refine (letterIs _ _).mono ?_
      rw [HL.out]
      rintro e w1 ⟨rfl, rfl⟩
      go_wp2_with fail
      refine (digitIs _ _).mono ?_
      rintro e w1 ⟨rfl, rfl⟩
      go_wp2
      go_ret
      exact ⟨congrArg (fun b => Ending.returned (.bool b)) (by rw [HOK.out, HL.out]; rfl), rfl⟩
end Go.Proofs.YtbcfeoobhemdcaaGreat

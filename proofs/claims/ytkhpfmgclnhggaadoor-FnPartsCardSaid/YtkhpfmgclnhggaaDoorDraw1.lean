/- The draws of chapter 1: an int; a text that may be a numeral; a text and a byte. -/
import Derived.Test.YtkhpfmgclnhggaaDoorDraw
import Derived.Test.YtkhpfmgclnhggaaDoorFmt
import Derived.Test.YtkhpfmgclnhggaaDoorRead
namespace Go.Proofs.YtkhpfmgclnhggaaDoor
open Go.RowKit Go.Lib

def IsI64 (v : Value) : Prop := ∃ x : Int, v = .int .i64 x ∧ -9223372036854775808 ≤ x ∧ x ≤ 9223372036854775807
def wholes : List Int := [0, 1, -1, 9, 10, 999999, 1000000, 999999999999, 1000000000000, -999999999999, 9223372036854775807, -9223372036854775808]
theorem wholes_i64 {x : Int} (h : x ∈ wholes) : -9223372036854775808 ≤ x ∧ x ≤ 9223372036854775807 := by
  simp [wholes] at h
  omega

set_option maxRecDepth 100000 in
set_option maxHeartbeats 1000000 in
theorem drawWhole (B g : Nat) (w : World) (hw : Cur w B g) :
    Calls Tryd.prog 26 #[.pointer (some ⟨g, 0, none⟩)] w (Drawn IsI64 B g w) := by
  go_enter Tryd.func26, Tryd.ntmps26
  go_wp2_with fail
  refine (drawBelow B g 3 _ hw (by omega) (by omega)).mono ?_
  rintro e w1 ⟨v, rfl, ⟨x, rfl, x0, x1⟩, hc1, hb1⟩
  have hx : x = 0 ∨ x = 1 ∨ x = 2 := by omega
  rcases hx with rfl | rfl | rfl
  · have hal : Below w1.heap.size w1 (w1.alloc (.cells (wholes.map (Value.int .i64)).toArray 3)) := (Below.refl _ _).alloc (Nat.le_refl _) _
    have hlt := hc1.lt
    go_wp2_with fail
    refine (drawPickInt B g w1.heap.size 12 wholes _ (hc1.kept hal) (Whole.new _ _ _) (by decide) (by decide) (by omega)).mono ?_
    rintro e w2 ⟨v, rfl, ⟨y, hy, rfl⟩, hc2, hb2⟩
    have hy2 := wholes_i64 hy
    have HB := Lib.hid ((hb1.trans (But.of_below hal)).trans hb2)
    clear hy hal hb2
    go_wp2
    go_ret
    exact ⟨_, rfl, ⟨_, rfl, hy2.1, hy2.2⟩, hc2, HB.out⟩
  · go_wp2_with fail
    refine (drawBelow B g 1000000 _ hc1 (by omega) (by omega)).mono ?_
    rintro e w2 ⟨v, rfl, ⟨y, rfl, y0, y1⟩, hc2, hb2⟩
    go_wp2
    go_ret
    exact ⟨_, rfl, ⟨_, rfl, by omega, by omega⟩, hc2, hb1.trans hb2⟩
  · go_wp2_with fail
    refine (drawBelow B g 20 _ hc1 (by omega) (by omega)).mono ?_
    rintro e w2 ⟨v, rfl, ⟨y, rfl, y0, y1⟩, hc2, hb2⟩
    go_wp2
    go_ret
    exact ⟨_, rfl, ⟨_, rfl, by omega, by omega⟩, hc2, hb1.trans hb2⟩

/-- What a draw of a whole input returns: a value of a kind; of what was there nothing has turned. -/
def Made (P : Value → Prop) (w : World) (e : Ending) (w' : World) : Prop := ∃ v, e = .returned v ∧ P v ∧ Below w.heap.size w w'

theorem drawFormatInt (A : Option Addr) (n c : Nat) (w : World) (hA : BytesAt w w.heap.size A n) (hn : n ≤ 140737488355328) :
    Calls Tryd.prog 10 #[.slice A n c] w (Made IsI64 w) := by
  go_enter Tryd.func10, Tryd.ntmps10
  go_wp2_with fail
  refine (drawNew A n c _ hA hn).mono ?_
  rintro e w1 ⟨g, rfl, hc1, hb1⟩
  go_wp2_with fail
  refine (drawWhole _ g _ hc1).mono ?_
  rintro e w2 ⟨v, rfl, ⟨x, rfl, x0, x1⟩, hc2, hb2⟩
  have hb := hb1.trans (hb2.to_below hc1.own hb1.size)
  go_wp2
  go_ret
  exact ⟨_, rfl, ⟨_, rfl, x0, x1⟩, hb⟩

def IsShort (v : Value) : Prop := ∃ s : ByteArray, v = .string s ∧ s.size ≤ 100
theorem itoa_short (n : Int) (h0 : -9223372036854775808 ≤ n) (h1 : n ≤ 9223372036854775807) : (itoa n).length ≤ 21 := by
  have hd := digs_length_le 20 n.natAbs (by omega)
  rcases itoa_cases n with ⟨_, e⟩ | ⟨_, e⟩ | ⟨_, e⟩
  · rw [e]; simp
  · rw [e]; omega
  · rw [e, List.length_cons]; omega

def numTexts : List ByteArray := [⟨#[]⟩, ⟨#[48, 48]⟩, ⟨#[48, 49]⟩, ⟨#[45, 49]⟩, ⟨#[43, 49]⟩, ⟨#[120]⟩, ⟨#[57, 57, 57, 57, 57, 57]⟩, ⟨#[49, 48, 48, 48, 48, 48, 48]⟩, ⟨#[45, 48]⟩, ⟨#[45]⟩, ⟨#[32, 49]⟩, ⟨#[49, 32]⟩]
theorem numTexts_short {x : ByteArray} (h : x ∈ numTexts) : x.size ≤ 100 := by
  simp only [numTexts, List.mem_cons, List.mem_nil_iff, or_false] at h
  rcases h with rfl | rfl | rfl | rfl | rfl | rfl | rfl | rfl | rfl | rfl | rfl | rfl <;> decide

set_option maxRecDepth 100000 in
set_option maxHeartbeats 1000000 in
theorem drawParseNumber (A : Option Addr) (n c : Nat) (w : World) (hA : BytesAt w w.heap.size A n) (hn : n ≤ 140737488355328) :
    Calls Tryd.prog 14 #[.slice A n c] w (Made IsShort w) := by
  go_enter Tryd.func14, Tryd.ntmps14
  go_wp2_with fail
  refine (drawNew A n c _ hA hn).mono ?_
  rintro e w1 ⟨g, rfl, hc1, hb1⟩
  go_wp2_with fail
  refine (drawOnce _ g 2 _ hc1 (by omega) (by omega)).mono ?_
  rintro e w2 ⟨v, rfl, ⟨x, rfl⟩, hc2, hb2⟩
  cases x
  · have hal : Below w2.heap.size w2 (w2.alloc (.cells (numTexts.map Value.string).toArray 9)) := (Below.refl _ _).alloc (Nat.le_refl _) _
    have hlt := hc2.lt
    go_wp2_with fail
    refine (drawPick w.heap.size g w2.heap.size 12 numTexts _ (hc2.kept hal) (Whole.new _ _ _) (by decide) (by decide) (by omega)).mono ?_
    rintro e w3 ⟨v, rfl, ⟨y, hy, rfl⟩, hc3, hb3⟩
    have hb := hb1.trans (((hb2.trans (But.of_below hal)).trans hb3).to_below hc1.own hb1.size)
    have hy2 := numTexts_short hy
    have HB := Lib.hid hb
    clear hy hal hb3 hb
    go_wp2
    go_ret
    exact ⟨_, rfl, ⟨_, rfl, hy2⟩, HB.out⟩
  · go_wp2_with fail
    refine (drawWhole _ g _ hc2).mono ?_
    rintro e w3 ⟨v, rfl, ⟨y, rfl, y0, y1⟩, hc3, hb3⟩
    have hb := hb1.trans ((hb2.trans hb3).to_below hc1.own hb1.size)
    go_wp2_with fail
    refine (fmt_any y _ y0 y1).mono ?_
    rintro e w4 ⟨rfl, hb4⟩
    have hbb := hb.trans (hb4.mono hb.size)
    have hsz := itoa_short y y0 y1
    go_wp2
    go_ret
    exact ⟨_, rfl, ⟨_, rfl, by show (itoa y).toArray.size ≤ 100; rw [List.size_toArray]; omega⟩, hbb⟩
end Go.Proofs.YtkhpfmgclnhggaaDoor

/- The draws: a text that is turned a little; the text that chapter 2's parser is tried at. -/
import Derived.Test.YtbnfdjhcakimhaaZDraw2
import Derived.Test.YtbnfdjhcakimhaaQ1
import Derived.Test.YtbnfdjhcakimhaaZSpecParse
namespace Go.Proofs.Ytbnfdjhcakimhaa
open Go.RowKit Go.Lib

def IsUpto (m : Nat) (v : Value) : Prop := ∃ s : ByteArray, v = .string s ∧ s.size ≤ m
set_option maxRecDepth 100000 in
set_option maxHeartbeats 1000000 in
theorem drawTurned (B g r c m k : Nat) (s : ByteArray) (ss : List ByteArray) (w : World) (hw : Cur w B g) (hr : Whole w r 9 (ss.map Value.string).toArray) (hne : 0 < ss.length) (hlen : ss.length ≤ 1000000) (hrg : r ≠ g) (hs : s.size ≤ m) (hm : m ≤ 1048576) (hss : ∀ x ∈ ss, x.size ≤ k) (hk : k ≤ 1048576) :
    Calls Try.prog 50 #[.pointer (some ⟨g, 0, none⟩), .string s, .slice (some ⟨r, 0, none⟩) ss.length c] w (Drawn (IsUpto (m + k)) B g w) := by
  have hg := hw.lt
  have hrl := hr.lt
  have HR := Lib.hid hr
  have HS := Lib.hid hss
  have HW := Lib.hid hw
  clear hr hss hw
  go_enter Try.func50, Try.ntmps50
  go_wp2_with fail
  refine (drawBelow B g _ _ HW.out (by omega) (by omega)).mono ?_
  rintro e w1 ⟨v, rfl, ⟨x, rfl, x0, x1⟩, hc1, hb1⟩
  obtain ⟨j, rfl⟩ := Int.eq_ofNat_of_zero_le x0
  have hj : j ≤ s.size := by omega
  have hr1 : Whole w1 r 9 (ss.map Value.string).toArray := (hb1.block r hrl hrg).trans HR.out
  have HC1 := Lib.hid hc1
  have HB1 := Lib.hid hb1
  have HR1 := Lib.hid hr1
  clear hc1 hb1 hr1 x0 x1
  go_wp2_with fail
  refine (drawBelow B g 6 _ HC1.out (by omega) (by omega)).mono ?_
  rintro e w2 ⟨v, rfl, ⟨q, rfl, q0, q1⟩, hc2, hb2⟩
  have hr2 : Whole w2 r 9 (ss.map Value.string).toArray := (hb2.block r HR1.out.lt hrg).trans HR1.out
  have hbb := HB1.out.trans hb2
  have HC2 := Lib.hid hc2
  have HB2 := Lib.hid hbb
  have HR2 := Lib.hid hr2
  clear hc2 hb2 hr2 hbb
  have hj0 : (0 : Int) ≤ j := by omega
  have hq : q = 0 ∨ q = 1 ∨ 2 ≤ q := by omega
  rcases hq with rfl | rfl | hq2
  · go_wp2
    go_region_with (
      go_at_call 73
      refine (drawPick B g r c ss _ (cur_drew HC2.out _) (HR2.out.drewN_ _) hne hlen hrg).mono ?_
      rintro e w3 ⟨v, rfl, ⟨t, ht, rfl⟩, hc3, hb3⟩
      have ht3 := HS.out t ht
      have hbb := HB2.out.trans (((But.refl g w2).drewN_ _).trans hb3))
    all_goals go_wp2
    all_goals (
      go_ret
      exact ⟨_, rfl, ⟨_, rfl, by rw [ByteArray.size_append, ByteArray.size_append, ByteArray.size_extract, ByteArray.size_extract]; omega⟩, hc3, hbb⟩)
  · go_wp2
    go_ret
    exact ⟨_, rfl, ⟨_, rfl, by rw [ByteArray.size_extract]; omega⟩, HC2.out, HB2.out⟩
  · have g0 : (q == 0) = false := by rw [beq_eq_false_iff_ne]; omega
    have g1 : (q == 1) = false := by rw [beq_eq_false_iff_ne]; omega
    go_wp2
    go_ret
    exact ⟨_, rfl, ⟨s, rfl, by omega⟩, HC2.out, HB2.out⟩

theorem said_small {x : SX} {n : Nat} (h : x.small) (hn : x.nodes ≤ n) : x.said.size ≤ 17 * n := by
  have h1 := SX.text_le x
  have h2 := SX.small_wt h
  rw [SX.said]
  split
  · omega
  · exact Nat.zero_le _
def turns : List ByteArray := [⟨#[32]⟩, ⟨#[10]⟩, ⟨#[40]⟩, ⟨#[41]⟩, ⟨#[40, 41]⟩, ⟨#[65]⟩, ⟨#[32, 97, 32]⟩, ⟨#[97, 98, 99, 100, 101, 102, 103, 104, 105, 106, 107, 108]⟩]
theorem turns_short : ∀ x ∈ turns, x.size ≤ 12 := by
  intro x h
  simp only [turns, List.mem_cons, List.mem_nil_iff, or_false] at h
  rcases h with rfl | rfl | rfl | rfl | rfl | rfl | rfl | rfl <;> decide
/-- What a draw of a text returns. -/
def MadeS (n : Nat) (w : World) (e : Ending) (w' : World) : Prop := ∃ s : ByteArray, e = .returned (.string s) ∧ s.size ≤ n ∧ Below w.heap.size w w'
set_option maxRecDepth 100000 in
set_option maxHeartbeats 1000000 in
theorem drawParse (A : Option Addr) (n c : Nat) (w : World) (hA : BytesAt w w.heap.size A n) (hn : n ≤ 140737488355328) :
    Calls Try.prog 22 #[.slice A n c] w (MadeS 10000 w) := by
  have HA := Lib.hid hA
  clear hA
  go_enter Try.func22, Try.ntmps22
  go_wp2_with fail
  refine (drawNew A n c _ HA.out hn).mono ?_
  rintro e w1 ⟨g, rfl, hc1, hb1⟩
  have hg := hc1.own
  have hgl := hc1.lt
  have HC1 := Lib.hid hc1
  have HB1 := Lib.hid hb1
  clear hc1 hb1
  go_wp2_with fail
  refine (drawSx 4 (by decide) _ g _ HC1.out).mono ?_
  rintro e w2 ⟨x, V, rfl, hrow, hnx, hs, hc2, hb2⟩
  obtain ⟨A2, c2, rfl⟩ := hrow.shape
  have hl2 : ListAt w2 (Lt w2.heap.size) A2 x.list := hrow.list.frame (fun b hP => hP.1.2) fun _ _ _ => rfl
  have hsd := said_small hs hnx
  have hwt := SX.small_wt hs
  have hnx2 : x.nodes ≤ 256 := hnx
  have hok := SX.ok_wt x (by omega)
  have hbw := HB1.out.trans (hb2.to_below (show w.heap.size ≤ g by omega) HB1.out.size)
  have HL2 := Lib.hid hl2
  have HC2 := Lib.hid hc2
  have HB2 := Lib.hid hbw
  have HOK := Lib.hid hok
  have hsz2 := hb2.size
  clear hrow hs hc2 hb2 hl2 hbw hok
  go_wp2_with fail
  refine (formatX x A2 c2 _ (by omega) HOK.out HL2.out).mono ?_
  rintro e w3 ⟨rfl, hb3⟩
  have hsz3 := hb3.size
  have hb4 : Below w3.heap.size w3 (w3.alloc (.cells (turns.map Value.string).toArray 9)) := (Below.refl _ _).alloc (Nat.le_refl _) _
  have hp4 := Whole.new w3 9 (turns.map Value.string).toArray
  have hc4 := (HC2.out.kept hb3).kept hb4
  have hbb := (HB2.out.trans (hb3.mono HB2.out.size)).trans (hb4.mono (by have := HB2.out.size; omega))
  have HP4 := Lib.hid hp4
  have HC4 := Lib.hid hc4
  have HB4 := Lib.hid hbb
  clear hb3 hb4 hp4 hc4 hbb
  go_wp2_with fail
  refine (drawTurned _ g w3.heap.size 8 4352 12 x.said turns _ HC4.out HP4.out (by decide) (by decide) (by omega) (by omega) (by decide) turns_short (by decide)).mono ?_
  rintro e w5 ⟨v, rfl, ⟨t, rfl, ht⟩, hc5, hb5⟩
  have hbf := HB4.out.trans (hb5.to_below (show w.heap.size ≤ g by omega) HB4.out.size)
  clear hc5 hb5
  go_wp2
  go_ret
  exact ⟨t, rfl, by omega, hbf⟩
end Go.Proofs.Ytbnfdjhcakimhaa

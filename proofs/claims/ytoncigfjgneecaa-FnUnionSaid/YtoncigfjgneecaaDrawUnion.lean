/- The draw of two lists of short strings. -/
import Derived.Test.YtoncigfjgneecaaDraw
import Derived.Test.YtoncigfjgneecaaGrow
import Derived.Laws.OwnMore
import Derived.Maps.AppendAt
namespace Go.Proofs.Ytoncigfjgneecaa
open Go.RowKit Go.Lib

theorem Cur.grown {w w' : World} {B g : Nat} {row : Option Nat} (h : Cur w B g) (hg : w.grownBy w' row) (hr : ∀ k, row = some k → g < k) : Cur w' B g := by
  have hlt := h.lt
  have ho := h.own
  obtain ⟨A, n, c, i, x, hc⟩ := h
  refine ⟨A, n, c, i, x, ⟨(hg.block g hlt (fun e => absurd (hr g e.symm) (Nat.lt_irrefl _))).trans hc.cells, ho, fun j hj => ?_, hc.size, hc.lo, hc.hi⟩⟩
  obtain ⟨b, o, z, hA, hl, h0, h1, hz⟩ := hc.bytes j hj
  exact ⟨b, o, z, hA, hl, h0, h1, (World.cell?_of_block (a := ⟨b, o + j, none⟩) (hg.block b (by omega) (fun e => by have := hr b e.symm; omega))).trans hz⟩
def letters : List ByteArray := [⟨#[97]⟩, ⟨#[98]⟩, ⟨#[99]⟩, ⟨#[100]⟩, ⟨#[101]⟩, ⟨#[102]⟩]
/-- A LIST DRAWN: few short strings, in a row that was not there. -/
def DrawnL (B g : Nat) (w : World) (e : Ending) (w' : World) : Prop :=
  ∃ (V : Value) (d : List ByteArray), e = .returned V ∧ d.length ≤ 4 ∧ (∀ x ∈ d, x.size ≤ 1) ∧ w'.ownsRow w.heap.size 9 1 V d.length (d.map Value.string) ∧ Cur w' B g ∧ But g w w'

set_option maxRecDepth 100000 in
set_option maxHeartbeats 2000000 in
theorem drawList (B g : Nat) (w : World) (hw : Cur w B g) :
    Calls Try.prog 29 #[.pointer (some ⟨g, 0, none⟩)] w (DrawnL B g w) := by
  obtain ⟨i0, hi, hz0, hz1, hz2⟩ := info_parts infoString
  have hglt := hw.lt
  have hown0 := World.ownsRow_made (base := w.heap.size) (e := 9) (size := 1) w #[] 0 (Nat.le_refl _) (by decide) rfl
  have hal : Below w.heap.size w (w.alloc (.cells #[] 9)) := (Below.refl _ _).alloc (Nat.le_refl _) _
  have hw1 := hw.kept hal
  have HAL := Lib.hid hal
  have HOW := Lib.hid hown0
  have HCU := Lib.hid hw1
  clear hw hal hown0 hw1
  go_enter Try.func29, Try.ntmps29
  go_wp2_with fail
  refine (drawBelow B g 5 _ HCU.out (by omega) (by omega)).mono ?_
  rintro e w1 ⟨v, rfl, ⟨x, rfl, x0, x1⟩, hc1, hb1⟩
  obtain ⟨m, rfl⟩ := Int.eq_ofNat_of_zero_le x0
  have hm : m ≤ 4 := by omega
  have hg1 := HOW.out.lt
  have hown1 : w1.ownsRow w.heap.size 9 1 (.slice (some ⟨w.heap.size, 0, none⟩) 0 0) 0 [] := own_same HOW.out fun b hb => hb1.block b (HOW.out.lt b hb).2 (by have := (HOW.out.lt b hb).1; omega)
  have hbb := (But.of_below (g := g) HAL.out).trans hb1
  clear HAL HOW HCU x0 x1 hg1 hb1
  go_wp2
  go_loopw [3, 5] (fun v i wr => ∃ (k : Nat) (d : List ByteArray), k ≤ m ∧ i = .int .i64 k ∧ d.length = k ∧ (∀ x ∈ d, x.size ≤ 1) ∧ wr.ownsRow w.heap.size 9 1 v d.length (d.map Value.string) ∧ Cur wr B g ∧ But g w wr) (fun _ i _ => m - (Go.RowKit.intOf i).toNat)
  case atStart => exact ⟨0, [], Nat.zero_le _, rfl, rfl, by simp, hown1, hc1, hbb⟩
  case round =>
    clear hown1 hc1 hbb
    obtain ⟨k, d, hk, rfl, hd, hsz, hown, hc, hb⟩ := hrel
    obtain ⟨V, c1, rfl, _⟩ := strs_own hown
    have hdk : d.length ≤ 4 := by omega
    have HDL := Lib.hid hd
    clear hd
    by_cases hlt : k < m
    · have hal : Below wr.heap.size wr (wr.alloc (.cells (letters.map Value.string).toArray 9)) := (Below.refl _ _).alloc (Nat.le_refl _) _
      have hc2 := hc.kept hal
      have hgr := hc.lt
      have hown2 := hown.alloc (.cells (letters.map Value.string).toArray 9)
      have HC := Lib.hid hc2
      have HAL := Lib.hid hal
      have HSZ := Lib.hid hsz
      clear hc hc2 hal hsz hown
      go_wp2_with fail
      refine (drawPick B g wr.heap.size 6 letters _ HC.out (Whole.new _ _ _) (by decide) (by decide) (by omega)).mono ?_
      rintro e w2 ⟨v, rfl, ⟨y, hy, rfl⟩, hc2, hb2⟩
      have hown3 : w2.ownsRow w.heap.size 9 1 (.slice V d.length c1) d.length (d.map Value.string) := own_same hown2 fun b hb => hb2.block b (hown2.lt b hb).2 (by have := (hown2.lt b hb).1; omega)
      have hbb := (hb.trans (But.of_below (g := g) HAL.out)).trans hb2
      have hszz := hbb.size
      have hy1 : y.size ≤ 1 := by
        simp [letters] at hy
        rcases hy with rfl | rfl | rfl | rfl | rfl | rfl <;> decide
      have hsn : ∀ x ∈ d ++ [y], x.size ≤ 1 := fun x hx => by
        rcases List.mem_append.1 hx with h | h
        · exact HSZ.out x h
        · rw [List.mem_singleton.1 h]; exact hy1
      have HSN := Lib.hid hsn
      clear HC HAL hown2 hy hy1 hsn hb2
      go_wp2_with (at_builtin; refine wpList_append_own _ rfl _ _ 24 rfl w.heap.size 9 i0 (.string ByteArray.empty) 1 16 Try.underlying24 hi hz0 hz1 hz2 rfl (by decide) _ _ _ rfl (hown3.alloc _) ⟨w2.heap.size, 0, none⟩ 1 1 [.string y] rfl rfl (news_one w2 _ _) (one_string _) (by unfold maxLen; omega) (by omega) (by simp; omega) ?_)
      intro v' w3 hown4 hgrow _
      have hall := (World.grownBy_alloc w2 _ _).trans hgrow
      have hb3 : But g w w3 := ⟨hall.os.trans hbb.os, hall.tape.trans hbb.tape, hall.output.trans hbb.output, Nat.le_trans hszz hall.size, fun j hj hne => (hall.block j (by omega) (fun e => by have := (hown3.lt j e.symm).1; omega)).trans (hbb.block j hj hne)⟩
      have hc3 : Cur w3 B g := hc2.grown hall fun q hq => by have := (hown3.lt q hq).1; omega
      rw [strs_map] at hown4
      go_wp2
      go_roundw
      case rel => exact ⟨k + 1, d ++ [y], by omega, by go_num, by simp [HDL.out], HSN.out, by simpa using hown4, hc3, hb3⟩
      case measure => simp [Go.RowKit.intOf]; omega
    · have hkl : k = m := by omega
      subst hkl
      go_wp2
      go_ret
      exact ⟨_, d, rfl, by omega, hsz, hown, hc, hb⟩
end Go.Proofs.Ytoncigfjgneecaa

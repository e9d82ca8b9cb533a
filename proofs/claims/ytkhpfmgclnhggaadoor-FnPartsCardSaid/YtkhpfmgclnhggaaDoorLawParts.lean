/- The law that Join undoes SplitByte. -/
import Derived.Test.YtkhpfmgclnhggaaDoorSplit
import Derived.Test.YtkhpfmgclnhggaaDoorEqual
import Derived.Test.YtkhpfmgclnhggaaDoorJoinImpl
import Derived.Test.YtkhpfmgclnhggaaDoorLawNum
namespace Go.Proofs.YtkhpfmgclnhggaaDoor
open Go.RowKit Go.Lib

theorem join_parts (b : UInt8) : ∀ l : List UInt8, join (parts b l) [b] = l
  | [] => by simp [parts, join_one]
  | c :: r => by
    have ih := join_parts b r
    unfold parts
    cases hp : parts b r with
    | nil => exact absurd hp (parts_ne b r)
    | cons p ps =>
      rw [hp] at ih
      rw [join_cons] at ih
      by_cases h : c = b
      · rw [if_pos h, join_cons, ← ih, h]
        simp [joinTail]
      · rw [if_neg h, consHead, join_cons, ← ih]
        simp

def splitTexts : List ByteArray := [⟨#[]⟩, ⟨#[97]⟩, ⟨#[97, 44, 98]⟩, ⟨#[44]⟩, ⟨#[97, 44, 44, 98, 44]⟩, ⟨#[97, 10, 98, 10]⟩]
theorem splitTexts_short {x : ByteArray} (h : x ∈ splitTexts) : x.size ≤ 100 := by
  simp only [splitTexts, List.mem_cons, List.mem_nil_iff, or_false] at h
  rcases h with rfl | rfl | rfl | rfl | rfl | rfl <;> decide
/-- A text and a byte. -/
def IsCut (v : Value) : Prop := ∃ (s : ByteArray) (b : UInt8), v = .tuple #[.string s, .int .u8 b.toNat] ∧ s.size ≤ 100

set_option maxRecDepth 100000 in
set_option maxHeartbeats 1000000 in
theorem drawSplitByte (A : Option Addr) (n c : Nat) (w : World) (hA : BytesAt w w.heap.size A n) (hn : n ≤ 140737488355328) :
    Calls Tryd.prog 16 #[.slice A n c] w (Made IsCut w) := by
  go_enter Tryd.func16, Tryd.ntmps16
  go_wp2_with fail
  refine (drawNew A n c _ hA hn).mono ?_
  rintro e w1 ⟨g, rfl, hc1, hb1⟩
  have hal : Below w1.heap.size w1 (w1.alloc (.cells (splitTexts.map Value.string).toArray 9)) := (Below.refl _ _).alloc (Nat.le_refl _) _
  have hlt := hc1.lt
  go_wp2_with fail
  refine (drawPick w.heap.size g w1.heap.size 6 splitTexts _ (hc1.kept hal) (Whole.new _ _ _) (by decide) (by decide) (by omega)).mono ?_
  rintro e w2 ⟨v, rfl, ⟨y, hy, rfl⟩, hc2, hb2⟩
  have hy2 := splitTexts_short hy
  have h2 := hb1.trans (((But.of_below hal).trans hb2).to_below hc1.own hb1.size)
  have hal2 : Below w2.heap.size w2 (w2.alloc (.cells (([44, 10] : List Int).map (Value.int .i64)).toArray 3)) := (Below.refl _ _).alloc (Nat.le_refl _) _
  have hlt2 := hc2.lt
  clear hy hal hb2
  go_wp2_with fail
  refine (drawPickInt w.heap.size g w2.heap.size 2 [44, 10] _ (hc2.kept hal2) (Whole.new _ _ _) (by decide) (by decide) (by omega)).mono ?_
  rintro e w3 ⟨v, rfl, ⟨x, hx, rfl⟩, hc3, hb3⟩
  have h3 := h2.trans (((But.of_below hal2).trans hb3).to_below hc2.own h2.size)
  have hxx : x = 44 ∨ x = 10 := by simpa using hx
  have H3 := Lib.hid h3
  clear hx hal2 hb3 h3
  rcases hxx with rfl | rfl
  · go_wp2
    go_ret2
    exact ⟨_, rfl, ⟨y, 44, rfl, hy2⟩, H3.out⟩
  · go_wp2
    go_ret2
    exact ⟨_, rfl, ⟨y, 10, rfl, hy2⟩, H3.out⟩

set_option maxRecDepth 100000 in
set_option maxHeartbeats 2000000 in
theorem lawParts (A : Option Addr) (n c : Nat) (w : World) (hA : BytesAt w w.heap.size A n) (hn0 : n ≤ 9223372036854775807) (hm : MaxL w) :
    Calls Tryd.prog 4 #[.slice A n c] w fun e w' => e = .returned (.bool true) ∧ Below w.heap.size w w' := by
  have kc := fun (w : World) (z : Int) => conv_one (P := Tryd.prog) Tryd.underlying22 Tryd.underlying5 Tryd.underlying9 w z
  have HA := Lib.hid hA
  clear hA
  by_cases hbig : 1048576 < n
  · go_enter Tryd.func4, Tryd.ntmps4
    go_wp2_with fail
    refine (bigYes A n c _ hbig).mono ?_
    rintro e w1 ⟨rfl, rfl⟩
    go_wp2
    go_ret
    exact ⟨rfl, Below.refl _ _⟩
  · have hn : n ≤ 140737488355328 := by omega
    go_enter Tryd.func4, Tryd.ntmps4
    go_wp2_with fail
    refine (bigNo A n c _ (by omega)).mono ?_
    rintro e w1 ⟨rfl, rfl⟩
    go_wp2_with fail
    refine (drawSplitByte A n c _ HA.out hn).mono ?_
    rintro e w1 ⟨v, rfl, ⟨s, b, rfl, hs⟩, hb1⟩
    go_wp2_with fail
    refine (implSplit s b _ (by omega) (hm.below hb1)).mono ?_
    rintro e w2 ⟨g2, ss, rfl, hp2, hg2, hl2, hw2, hb2⟩
    have h2 := hb1.trans (hb2.mono hb1.size)
    have hne : ss ≠ [] := by intro e; subst e; exact parts_ne _ _ hp2.symm
    have hlen : ss.length ≤ 1000 := by
      have h := parts_length_le b s.data.toList
      rw [← hp2, List.length_map] at h
      have e2 : s.data.toList.length = s.size := by simp
      omega
    have hpos : 0 < ss.length := List.length_pos_iff.2 hne
    have HP := Lib.hid hp2
    clear hp2 hb2 hne
    go_wp2_with fail
    refine (specSplit s b _ (by omega)).mono ?_
    rintro e w3 ⟨g3, c3, s3, rfl, hp3, hg3, hl3, hc3, hb3⟩
    obtain rfl : s3 = ss := same_strings (hp3.trans HP.out.symm)
    have h3 := h2.trans (hb3.mono h2.size)
    have hw3 := hw2.below hb3 hl2
    have a3 : Strs w3 (some ⟨g3, 0, none⟩) s3 := .inr ⟨g3, 0, rfl, hl3, fun j x hj => by rw [Nat.zero_add]; exact hc3 j x hj⟩
    clear hp3 hc3 hb3
    go_wp2_with fail
    refine (equalStrings _ _ _ _ s3 _ hw3.strs a3 (by omega)).mono ?_
    rintro e w4 ⟨rfl, hb4⟩
    have h4 := h3.trans (hb4.mono h3.size)
    have hw4 := hw3.below hb4 hw3.lt
    have hj : join (s3.map (·.data.toList)) [b] = s.data.toList := by rw [HP.out]; exact join_parts b _
    have hstr : (⟨(join (s3.map (·.data.toList)) [b]).toArray⟩ : ByteArray) = s := by rw [hj]
    have hjl : (join (s3.map (·.data.toList)) [b]).length ≤ 1099512676352 := by
      rw [hj]
      have e2 : s.data.toList.length = s.size := by simp
      omega
    have HS := Lib.hid hstr
    have hal : Below w4.heap.size w4 (w4.alloc (.cells #[.int .u8 b.toNat] 5)) := (Below.refl _ _).alloc (Nat.le_refl _) _
    have hw5 := hw4.below hal hw4.lt
    have h5 := h4.trans (hal.mono h4.size)
    clear hj hstr hal hb4
    go_wp2_with fail
    refine (implJoin g2 s3 ⟨#[b]⟩ _ hw5 (by omega) hjl).mono ?_
    rintro e w6 ⟨rfl, hb6⟩
    have h6 := h5.trans (hb6.mono h5.size)
    rw [HS.out]
    go_wp2
    go_ret
    exact ⟨rfl, h6⟩
end Go.Proofs.YtkhpfmgclnhggaaDoor

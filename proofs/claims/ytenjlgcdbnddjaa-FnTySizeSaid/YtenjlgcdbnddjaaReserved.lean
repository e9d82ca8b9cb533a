/- The keywords: the reference model's search in a list, the program's look-up in a map. -/
import Derived.Test.YtenjlgcdbnddjaaHas
namespace Go.Proofs.Ytenjlgcdbnddjaa
open Go.RowKit

/-- The keywords. -/
def keywords : List ByteArray := [⟨#[105, 110, 116]⟩, ⟨#[98, 111, 111, 108]⟩, ⟨#[97, 115, 115, 111, 99]⟩, ⟨#[100, 121, 110]⟩, ⟨#[105, 102]⟩, ⟨#[108, 101, 116]⟩, ⟨#[99, 97, 115, 101]⟩, ⟨#[110, 101, 119]⟩, ⟨#[109, 101, 116, 104, 111, 100]⟩, ⟨#[112, 97, 99, 107]⟩, ⟨#[116, 114, 117, 101]⟩, ⟨#[102, 97, 108, 115, 101]⟩]
/-- A keyword. -/
def isKey (s : ByteArray) : Bool := has keywords s

set_option maxRecDepth 100000 in
set_option maxHeartbeats 400000 in
theorem specReserved (s : ByteArray) (w : World) : Calls Try.prog 77 #[.string s] w fun e w' => e = .returned (.bool (isKey s)) ∧ Below w.heap.size w w' := by
  have hal : Below w.heap.size w (w.alloc (.cells (keywords.map Value.string).toArray 9)) := (Below.refl _ _).alloc (Nat.le_refl _) _
  have HAL := Lib.hid hal
  clear hal
  go_enter Try.func77, Try.ntmps77
  go_wp2_with fail
  refine (specHas (some ⟨w.heap.size, 0, none⟩) 12 keywords s _ (Whole.new w 9 (keywords.map Value.string).toArray).strs (by decide)).mono ?_
  rintro e w1 ⟨rfl, rfl⟩
  go_wp2
  go_ret
  exact ⟨rfl, HAL.out⟩

theorem zeroBool (w : World) : (zeroValue 4).run Try.prog w = .ok (.bool false) w := by kernel_rfl
set_option maxRecDepth 100000 in
set_option maxHeartbeats 1000000 in
theorem implReserved (s : ByteArray) (w : World) (hs : s.size ≤ 9223372036854775807) : Calls Try.prog 75 #[.string s] w fun e w' => e = .returned (.bool (isKey s)) ∧ Below w.heap.size w w' := by
  have hmm := @run_makeMap Try.prog
  have h0 := Seen.made (P := Try.prog) (k := 9) (e := 4) w
  have hb0 : Below w.heap.size w (w.alloc (.map #[] 0)) := (Below.refl _ _).alloc (Nat.le_refl _) _
  have H0 := Lib.hid h0
  have HB0 := Lib.hid hb0
  clear h0 hb0
  obtain ⟨w1, e1, h1, g1⟩ := H0.out.store Try.underlying81 Try.underlying9 Try.underlying4 (by decide) ⟨#[105, 110, 116]⟩ (by decide)
  have H1 := Lib.hid h1
  have HB1 := Lib.hid (HB0.out.grown g1 HB0.out.size (fun j hj => by cases hj; exact Nat.le_refl _))
  clear h1 g1
  obtain ⟨w2, e2, h2, g2⟩ := H1.out.store Try.underlying81 Try.underlying9 Try.underlying4 (by decide) ⟨#[98, 111, 111, 108]⟩ (by decide)
  have H2 := Lib.hid h2
  have HB2 := Lib.hid (HB1.out.grown g2 HB1.out.size (fun j hj => by cases hj; exact Nat.le_refl _))
  clear h2 g2
  obtain ⟨w3, e3, h3, g3⟩ := H2.out.store Try.underlying81 Try.underlying9 Try.underlying4 (by decide) ⟨#[97, 115, 115, 111, 99]⟩ (by decide)
  have H3 := Lib.hid h3
  have HB3 := Lib.hid (HB2.out.grown g3 HB2.out.size (fun j hj => by cases hj; exact Nat.le_refl _))
  clear h3 g3
  obtain ⟨w4, e4, h4, g4⟩ := H3.out.store Try.underlying81 Try.underlying9 Try.underlying4 (by decide) ⟨#[100, 121, 110]⟩ (by decide)
  have H4 := Lib.hid h4
  have HB4 := Lib.hid (HB3.out.grown g4 HB3.out.size (fun j hj => by cases hj; exact Nat.le_refl _))
  clear h4 g4
  obtain ⟨w5, e5, h5, g5⟩ := H4.out.store Try.underlying81 Try.underlying9 Try.underlying4 (by decide) ⟨#[105, 102]⟩ (by decide)
  have H5 := Lib.hid h5
  have HB5 := Lib.hid (HB4.out.grown g5 HB4.out.size (fun j hj => by cases hj; exact Nat.le_refl _))
  clear h5 g5
  obtain ⟨w6, e6, h6, g6⟩ := H5.out.store Try.underlying81 Try.underlying9 Try.underlying4 (by decide) ⟨#[108, 101, 116]⟩ (by decide)
  have H6 := Lib.hid h6
  have HB6 := Lib.hid (HB5.out.grown g6 HB5.out.size (fun j hj => by cases hj; exact Nat.le_refl _))
  clear h6 g6
  obtain ⟨w7, e7, h7, g7⟩ := H6.out.store Try.underlying81 Try.underlying9 Try.underlying4 (by decide) ⟨#[99, 97, 115, 101]⟩ (by decide)
  have H7 := Lib.hid h7
  have HB7 := Lib.hid (HB6.out.grown g7 HB6.out.size (fun j hj => by cases hj; exact Nat.le_refl _))
  clear h7 g7
  obtain ⟨w8, e8, h8, g8⟩ := H7.out.store Try.underlying81 Try.underlying9 Try.underlying4 (by decide) ⟨#[110, 101, 119]⟩ (by decide)
  have H8 := Lib.hid h8
  have HB8 := Lib.hid (HB7.out.grown g8 HB7.out.size (fun j hj => by cases hj; exact Nat.le_refl _))
  clear h8 g8
  obtain ⟨w9, e9, h9, g9⟩ := H8.out.store Try.underlying81 Try.underlying9 Try.underlying4 (by decide) ⟨#[109, 101, 116, 104, 111, 100]⟩ (by decide)
  have H9 := Lib.hid h9
  have HB9 := Lib.hid (HB8.out.grown g9 HB8.out.size (fun j hj => by cases hj; exact Nat.le_refl _))
  clear h9 g9
  obtain ⟨w10, e10, h10, g10⟩ := H9.out.store Try.underlying81 Try.underlying9 Try.underlying4 (by decide) ⟨#[112, 97, 99, 107]⟩ (by decide)
  have H10 := Lib.hid h10
  have HB10 := Lib.hid (HB9.out.grown g10 HB9.out.size (fun j hj => by cases hj; exact Nat.le_refl _))
  clear h10 g10
  obtain ⟨w11, e11, h11, g11⟩ := H10.out.store Try.underlying81 Try.underlying9 Try.underlying4 (by decide) ⟨#[116, 114, 117, 101]⟩ (by decide)
  have H11 := Lib.hid h11
  have HB11 := Lib.hid (HB10.out.grown g11 HB10.out.size (fun j hj => by cases hj; exact Nat.le_refl _))
  clear h11 g11
  obtain ⟨w12, e12, h12, g12⟩ := H11.out.store Try.underlying81 Try.underlying9 Try.underlying4 (by decide) ⟨#[102, 97, 108, 115, 101]⟩ (by decide)
  have H12 := Lib.hid h12
  have HB12 := Lib.hid (HB11.out.grown g12 HB11.out.size (fun j hj => by cases hj; exact Nat.le_refl _))
  clear h12 g12
  have hlk := H12.out.look Try.underlying81 Try.underlying9 Try.underlying4 (zeroBool _) s hs
  go_enter Try.func75, Try.ntmps75
  go_wp2
  go_ret
  exact ⟨rfl, HB12.out⟩
end Go.Proofs.Ytenjlgcdbnddjaa

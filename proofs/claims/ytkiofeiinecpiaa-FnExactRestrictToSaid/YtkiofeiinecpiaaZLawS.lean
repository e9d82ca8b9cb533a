/- The laws' helpers over a slice of strings, said as LawK says its facts. -/
import Derived.Test.YtkiofeiinecpiaaZLawK
import Derived.Test.YtkiofeiinecpiaaQ2
namespace Go.Proofs.Ytkiofeiinecpiaa
open Go.RowKit Go.Lib

/-- The slice at A reads as these strings; they lie in a block between two numbers. -/
def StrsB (a b : Nat) (w : World) (A : Option Addr) (ss : List ByteArray) : Prop :=
  ss = [] ∨ ∃ g o, A = some ⟨g, o, none⟩ ∧ Bet a b g ∧ ∀ j s, ss[j]? = some s → w.cell? ⟨g, o + j, none⟩ = some (.string s)
theorem sb_of {w : World} {A : Option Addr} {ss : List ByteArray} (h : Strs w A ss) : StrsB 0 w.heap.size w A ss := by
  rcases h with h | ⟨g, o, hA, hg, hc⟩
  · exact .inl h
  · exact .inr ⟨g, o, hA, ⟨Nat.zero_le _, hg⟩, hc⟩
theorem sb_strs {a b : Nat} {w : World} {A : Option Addr} {ss : List ByteArray} (h : StrsB a b w A ss) (hb : b ≤ w.heap.size) : Strs w A ss := by
  rcases h with h | ⟨g, o, hA, hg, hc⟩
  · exact .inl h
  · exact .inr ⟨g, o, hA, Nat.lt_of_lt_of_le hg.2 hb, hc⟩
theorem sb_carry {a b lo hi : Nat} {w w' : World} {A : Option Addr} {ss : List ByteArray} (h : StrsB a b w A ss) (hk : Keep lo hi w w') (hb : b ≤ w.heap.size) (hd : b ≤ lo ∨ hi ≤ a) : StrsB a b w' A ss := by
  rcases h with h | ⟨g, o, hA, hg, hc⟩
  · exact .inl h
  · exact .inr ⟨g, o, hA, hg, fun j s hj => (World.cell?_of_block (a := ⟨g, o + j, none⟩) (hk.block g (by have := hg.2; omega) (by have := hg.1; have := hg.2; omega))).trans (hc j s hj)⟩
theorem ra_carry {lo hi : Nat} {w w' : World} {A : Option Addr} {g n : Nat} (h : RowAt w A g n) (hk : Keep lo hi w w') (hd : g < lo ∨ hi ≤ g) : RowAt w' A g n := h.keep hk.size fun hg => hk.block g hg hd
theorem Keep.but {w w' : World} {g : Nat} (h : But g w w') : Keep g (g + 1) w w' := ⟨h.size, fun b hb hd => h.block b hb (by omega)⟩
theorem below_but {B g : Nat} {w wi wj : World} (h : Below B w wi) (hm : But g wi wj) (hB : B ≤ wi.heap.size) (hb : B ≤ g) : Below B w wj := h.trans (hm.to_below hb hB)
theorem szSS (ss : List ByteArray) (A : Option Addr) (c L : Nat) (w : World) (hA : Strs w A ss) (hn : ss.length ≤ 9223372036854775807) (hz : ∀ x ∈ ss, x.size ≤ 9223372036854775807) (hL : L ≤ 1048576) :
    Calls Try.prog 55 #[.slice A ss.length c, .int .i64 L] w fun e w' => e = .returned (.int .i64 (leftV L (ss.length + sizes ss))) ∧ Below w.heap.size w w' := by
  by_cases h : ss.length + sizes ss ≤ L
  · refine (szYes A c ss L w hA h (by omega)).mono fun e w' ⟨he, hw⟩ => ?_
    subst hw
    refine ⟨he.trans (congrArg (fun z => Ending.returned (.int .i64 z)) ?_), Below.refl _ _⟩
    rw [leftV_yes h]; omega
  · refine (szNo A c ss L w hA (by omega) (by omega) hn hz).mono fun e w' ⟨he, hw⟩ => ?_
    subst hw
    exact ⟨he.trans (congrArg (fun z => Ending.returned (.int .i64 z)) (leftV_no (by omega)).symm), Below.refl _ _⟩
/-- A copy, by its block. -/
theorem copy_get {ss : List ByteArray} {w w' : World} {e : Ending} (h : CopyOf ss w e w') :
    ∃ g : Nat, e = .returned (.slice (some ⟨g, 0, none⟩) ss.length ss.length) ∧ w.heap.size ≤ g ∧ g < w'.heap.size ∧ StrsB w.heap.size w'.heap.size w' (some ⟨g, 0, none⟩) ss ∧ RowAt w' (some ⟨g, 0, none⟩) g ss.length ∧ Below w.heap.size w w' := by
  obtain ⟨g, rfl, hg, hw, hb⟩ := h
  refine ⟨g, rfl, hg, hw.lt, .inr ⟨g, 0, rfl, ⟨hg, hw.lt⟩, fun j s hj => ?_⟩, hw.row, hb⟩
  rw [hw.cell, Nat.zero_add]
  simp [hj]
end Go.Proofs.Ytkiofeiinecpiaa

/- The reference model: IsValidSExpr, FormatSExpr. -/
import Derived.Test.YtbnfdjhcakimhaaSpecText
namespace Go.Proofs.Ytbnfdjhcakimhaa
open Go.RowKit Go.Lib

def SX.valid (x : SX) : Bool := decide (x.nodes ≤ 900) && x.form && decide (x.depth ≤ 14)
mutual
theorem SX.form_wt : ∀ (x : SX), x.form = true → x.wt + 1 ≤ 13 * x.nodes
  | .mk a l => fun h => by
    rw [SX.form] at h
    rw [SX.wt, SX.nodes]
    split at h
    · have := SX.formL_wt l h; omega
    · rw [Bool.and_eq_true, okAtom, Bool.and_eq_true, decide_eq_true_eq, decide_eq_true_eq] at h
      rw [List.eq_nil_of_length_eq_zero h.2, SX.wtL, SX.nodesL]
      omega
theorem SX.formL_wt : ∀ (l : List SX), SX.formL l = true → SX.wtL l ≤ 13 * SX.nodesL l
  | [] => fun _ => by rw [SX.wtL]; omega
  | x :: r => fun h => by
    rw [SX.formL, Bool.and_eq_true] at h
    have := SX.form_wt x h.1
    have := SX.formL_wt r h.2
    rw [SX.wtL, SX.nodesL]; omega
end
theorem SX.valid_iff {x : SX} : x.valid = true ↔ x.nodes ≤ 900 ∧ x.form = true ∧ x.depth ≤ 14 := by
  rw [SX.valid, Bool.and_eq_true, Bool.and_eq_true, decide_eq_true_eq, decide_eq_true_eq, and_assoc]
theorem SX.valid_wt {x : SX} (h : x.valid = true) : x.wt + 3 * x.nodes ≤ 1048576 := by
  obtain ⟨h1, h2, _⟩ := SX.valid_iff.1 h
  have := SX.form_wt x h2
  omega

/-- The boxed parameter, loaded whole. -/
theorem boxed_grow {w : World} {t : TypeId} {a : ByteArray} {A : Option Addr} {n c : Nat} {l : List SX} (hl : ListAt w (Lt w.heap.size) A l) :
    ListAt (w.alloc (.cells #[.string a, .slice A n c] t)) (Lt (w.alloc (.cells #[.string a, .slice A n c] t)).heap.size) A l := boxedList hl (Below.refl _ _)

set_option maxRecDepth 100000 in
set_option maxHeartbeats 1000000 in
theorem validX (x : SX) (A : Option Addr) (c : Nat) (w : World) (hm : x.nodes ≤ 4294967296) (hok : x.ok) (hl : ListAt w (Lt w.heap.size) A x.list) :
    Calls Try.prog 19 #[.agg #[.string x.atom, .slice A x.list.length c]] w fun e w' => e = .returned (.bool x.valid) ∧ Below w.heap.size w w' := by
  have hl0 := @boxed_grow w 26 x.atom A x.list.length c x.list hl
  have hb0 : Below w.heap.size w (w.alloc (.cells #[.string x.atom, .slice A x.list.length c] 26)) := (Below.refl _ _).alloc (Nat.le_refl _) _
  have HL := Lib.hid hl0
  clear hl hl0
  by_cases hn : x.nodes ≤ 900
  · have hlf : leftOf 900 x.nodes = ((900 - x.nodes : Nat) : Int) := left_some hn
    have HLF := Lib.hid hlf
    clear hlf
    go_enter Try.func19, Try.ntmps19
    go_wp2_with fail
    refine (leftX _ x A c 900 _ (Nat.le_refl _) hm (by decide) HL.out).mono ?_
    rintro e w1 ⟨rfl, hb1⟩
    rw [HLF.out]
    have hb2 := hb0.trans (hb1.mono hb0.size)
    have hl1 := HL.out.grow hb1
    have hc0 := (boxed hb1).1
    have hc1 := (boxed hb1).2.1
    have HL1 := Lib.hid hl1
    clear hl1
    go_wp2_with fail
    refine (formX _ x A c _ (Nat.le_refl _) hm hok HL1.out).mono ?_
    rintro e w2 ⟨rfl, hb3⟩
    have hb4 := hb2.trans (hb3.mono hb2.size)
    have hb13 := hb1.trans (hb3.mono hb1.size)
    have hl2 := HL1.out.grow hb3
    have hd0 := (boxed hb13).1
    have hd1 := (boxed hb13).2.1
    have HL2 := Lib.hid hl2
    clear hl2
    cases hf : x.form with
    | true =>
      have HF := Lib.hid hf
      clear hf
      go_wp2_with fail
      refine (depthX _ x A c _ (Nat.le_refl _) hm HL2.out).mono ?_
      rintro e w3 ⟨rfl, hb5⟩
      have hb6 := hb4.trans (hb5.mono hb4.size)
      go_wp2
      go_ret
      refine ⟨congrArg (fun b => Ending.returned (.bool b)) ?_, hb6⟩
      rw [SX.valid, HF.out, Bool.and_true, Bool.eq_iff_iff]
      simp only [Bool.and_eq_true, decide_eq_true_eq]
      omega
    | false =>
      have HF := Lib.hid hf
      clear hf
      go_wp2
      go_ret
      refine ⟨congrArg (fun b => Ending.returned (.bool b)) ?_, hb4⟩
      rw [SX.valid, HF.out]
      simp
  · have hlf : leftOf 900 x.nodes = -1 := left_none (by omega)
    have HLF := Lib.hid hlf
    clear hlf
    go_enter Try.func19, Try.ntmps19
    go_wp2_with fail
    refine (leftX _ x A c 900 _ (Nat.le_refl _) hm (by decide) HL.out).mono ?_
    rintro e w1 ⟨rfl, hb1⟩
    rw [HLF.out]
    have hb2 := hb0.trans (hb1.mono hb0.size)
    go_wp2
    go_ret
    refine ⟨congrArg (fun b => Ending.returned (.bool b)) ?_, hb2⟩
    rw [SX.valid]
    simp
    omega

/-- What a valid expression's text is; "" for another. -/
def SX.said (x : SX) : ByteArray := if x.valid then x.text else ByteArray.empty

set_option maxRecDepth 100000 in
set_option maxHeartbeats 1000000 in
theorem formatX (x : SX) (A : Option Addr) (c : Nat) (w : World) (hm : x.nodes ≤ 4294967296) (hok : x.ok) (hl : ListAt w (Lt w.heap.size) A x.list) :
    Calls Try.prog 17 #[.agg #[.string x.atom, .slice A x.list.length c]] w fun e w' => e = .returned (.string x.said) ∧ Below w.heap.size w w' := by
  have hl0 := @boxed_grow w 26 x.atom A x.list.length c x.list hl
  have hb0 : Below w.heap.size w (w.alloc (.cells #[.string x.atom, .slice A x.list.length c] 26)) := (Below.refl _ _).alloc (Nat.le_refl _) _
  have HL := Lib.hid hl0
  clear hl hl0
  go_enter Try.func17, Try.ntmps17
  go_wp2_with fail
  refine (validX x A c _ hm hok HL.out).mono ?_
  rintro e w1 ⟨rfl, hb1⟩
  have hb2 := hb0.trans (hb1.mono hb0.size)
  have hl1 := HL.out.grow hb1
  have hc0 := (boxed hb1).1
  have hc1 := (boxed hb1).2.1
  have HL1 := Lib.hid hl1
  clear hl1
  cases hv : x.valid with
  | true =>
    have hs : x.said = x.text := by rw [SX.said, if_pos hv]
    have hwt := SX.valid_wt hv
    have HS := Lib.hid hs
    clear hv hs
    go_wp2_with fail
    refine (textX _ x A c _ (Nat.le_refl _) hwt HL1.out).mono ?_
    rintro e w2 ⟨rfl, hb3⟩
    have hb4 := hb2.trans (hb3.mono hb2.size)
    go_wp2
    go_ret
    exact ⟨ret_str (by rw [HS.out]), hb4⟩
  | false =>
    have hs : x.said = ByteArray.empty := by rw [SX.said, if_neg (by rw [hv]; decide)]
    have HS := Lib.hid hs
    clear hv hs
    go_wp2
    go_ret
    exact ⟨ret_str (by rw [HS.out]; rfl), hb2⟩
end Go.Proofs.Ytbnfdjhcakimhaa

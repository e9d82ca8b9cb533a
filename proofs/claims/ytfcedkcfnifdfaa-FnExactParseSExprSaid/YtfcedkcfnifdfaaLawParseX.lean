/- The law of ParseSExpr. -/
import Derived.Test.YtfcedkcfnifdfaaParseW
import Derived.Test.YtfcedkcfnifdfaaSpecParse
import Derived.Test.YtfcedkcfnifdfaaHeldL
import Derived.Test.YtfcedkcfnifdfaaEqX
import Derived.Test.YtfcedkcfnifdfaaSpecText
namespace Go.Proofs.Ytfcedkcfnifdfaa
open Go.RowKit Go.Lib

/-- What both answer, an empty expression where there is none. -/
def ansX (s : ByteArray) : SX := (specP s.data.toList).getD (.mk ByteArray.empty [])
def ansB (s : ByteArray) : Bool := (specP s.data.toList).isSome
theorem ans_small (s : ByteArray) : (ansX s).wt ≤ 1048576 ∧ SX.nodesL (ansX s).list ≤ 900 := by
  rw [ansX]
  cases h : specP s.data.toList with
  | none => exact ⟨by decide, by decide⟩
  | some x =>
    obtain ⟨v1, v2, v3⟩ := SX.valid_iff.1 ((specP_iff _ _).1 h).2
    have h1 := SX.form_wt x v2
    have h2 := SX.nodes_eq x
    simp only [Option.getD_some]
    omega
theorem parse_fact {P : Prop} {s : ByteArray} {w : World} {e : Ending} {w' : World} (h : ParsedOwn (implP s.data.toList) w e w') (k : ∀ A c bs, e = .returned (.tuple #[.agg #[.string (ansX s).atom, .slice A (ansX s).list.length c], .bool (ansB s)]) → OwX w' w.heap.size (ansX s) (.string (ansX s).atom) (.slice A (ansX s).list.length c) bs → bs.Nodup → (∀ b ∈ bs, w.heap.size ≤ b ∧ b < w'.heap.size) → Below w.heap.size w w' → P) : P := by
  obtain ⟨x, A, c, bs, rfl, he, hO, hnd, hin, hb⟩ := h
  rw [impl_spec] at he hO
  exact k A c bs he hO hnd hin hb
theorem spec_fact {P : Prop} {s : ByteArray} {w : World} {e : Ending} {w' : World} (h : Parsed (specP s.data.toList) w e w') (k : ∀ A c, e = .returned (.tuple #[.agg #[.string (ansX s).atom, .slice A (ansX s).list.length c], .bool (ansB s)]) → ListAt w' (New w.heap.size w'.heap.size) A (ansX s).list → Below w.heap.size w w' → P) : P := by
  obtain ⟨x, A, c, rfl, he, hl, hb⟩ := h
  exact k A c he hl hb

set_option maxRecDepth 100000 in
set_option maxHeartbeats 4000000 in
theorem lawParseX (s : ByteArray) (w : World) (hs : s.size ≤ 9223372036854775807) : Calls Try.prog 11 #[.string s] w fun e w' => e = .returned (.bool true) ∧ Below w.heap.size w w' := by
  by_cases h1 : s.size ≤ 1048576
  · obtain ⟨hwt, hnn⟩ := ans_small s
    generalize hx : ansX s = x at hwt hnn
    generalize hb : ansB s = b
    have HX := Lib.hid hx
    have HB := Lib.hid hb
    clear hx hb
    go_enter Try.func11, Try.ntmps11
    go_wp2_with fail
    refine (specParse s _ (by omega)).mono ?_
    intro e w1 hsp
    refine spec_fact hsp fun A c he hl1 hb1 => ?_
    rw [HX.out, HB.out] at he
    rw [HX.out] at hl1
    subst he
    clear hsp
    go_wp2_with fail
    have hW0 := Whole.new w1 26 #[.string x.atom, .slice A x.list.length c]
    have ha : Below w.heap.size w (w1.alloc (.cells #[.string x.atom, .slice A x.list.length c] 26)) := hb1.alloc hb1.size _
    have hsz1 := hb1.size
    have hla : ListAt (w1.alloc (.cells #[.string x.atom, .slice A x.list.length c] 26)) (Lt w1.heap.size) A x.list := hl1.frame (fun b h => h.2) fun b o h => World.cell?_of_block (a := ⟨b, o, none⟩) (Below.heap_alloc _ _ _ h.2)
    have HW0 := Lib.hid hW0
    have HBa := Lib.hid ha
    have HLa := Lib.hid hla
    clear hW0 ha hla hl1 hb1
    refine (parseX s _ (by omega)).mono ?_
    intro e w2 hpp
    refine parse_fact hpp fun A2 c2 bs he hO hnd hin hb2 => ?_
    rw [HX.out, HB.out] at he
    rw [HX.out] at hO
    subst he
    clear hpp
    have hsz2 := hb2.size
    rw [World.size_alloc] at hsz2 hin hO
    have hlt2 : w1.heap.size < w2.heap.size := by omega
    have hW2 := HW0.out.below hb2 (by rw [World.size_alloc]; omega)
    have hd2 := HBa.out.trans (hb2.mono HBa.out.size)
    have hl2 : ListAt w2 (Lt w1.heap.size) A x.list := HLa.out.frame (fun b h => h) fun b o h => hb2.cell (p := ⟨b, o, none⟩) (by rw [World.size_alloc]; exact Nat.lt_succ_of_lt h)
    have hO2 := OwX_frame x (fun b hb => Below.heap_alloc w2 (.cells #[.string x.atom, .slice A2 x.list.length c2] 26) _ (hin b hb).2) hO
    have hW0b := hW2.of_alloc (.cells #[.string x.atom, .slice A2 x.list.length c2] 26)
    have hWG := Whole.new w2 26 #[.string x.atom, .slice A2 x.list.length c2]
    have hdb : Below w.heap.size w (w2.alloc (.cells #[.string x.atom, .slice A2 x.list.length c2] 26)) := hd2.alloc hd2.size _
    have hlb : ListAt (w2.alloc (.cells #[.string x.atom, .slice A2 x.list.length c2] 26)) (Lt w1.heap.size) A x.list := hl2.frame (fun b h => h) fun b o h => World.cell?_of_block (a := ⟨b, o, none⟩) (Below.heap_alloc _ _ _ (show b < w2.heap.size by have : b < w1.heap.size := h; omega))
    have hgb : ListAt (w2.alloc (.cells #[.string x.atom, .slice A2 x.list.length c2] 26)) (Lt (w2.alloc (.cells #[.string x.atom, .slice A2 x.list.length c2] 26)).heap.size) A2 x.list := OwX_list x (fun b hb => by have := (hin b hb).2; show _ < _; rw [World.size_alloc]; omega) hO2
    have hlb2 : ListAt (w2.alloc (.cells #[.string x.atom, .slice A2 x.list.length c2] 26)) (Lt (w2.alloc (.cells #[.string x.atom, .slice A2 x.list.length c2] 26)).heap.size) A x.list := hlb.frame (fun b (h : b < _) => by show _ < _; rw [World.size_alloc]; omega) fun _ _ _ => rfl
    have c0 : w2.cell? ⟨w1.heap.size, 0, none⟩ = some (.string x.atom) := by rw [hW2.cell]; rfl
    have c1 : w2.cell? ⟨w1.heap.size, 1, none⟩ = some (.slice A x.list.length c) := by rw [hW2.cell]; rfl
    have HO := Lib.hid hO2
    have HIN := Lib.hid hin
    have HND := Lib.hid hnd
    have HW := Lib.hid hW0b
    have HG := Lib.hid hWG
    have HD := Lib.hid hdb
    have HL := Lib.hid hlb
    have HL2 := Lib.hid hlb2
    have HGB := Lib.hid hgb
    clear hO hO2 hin hnd hW2 hW0b hWG hd2 hdb hl2 hlb hlb2 hgb hb2
    go_wp2_with fail
    refine (eqX x A2 A c2 c _ hwt HGB.out HL2.out).mono ?_
    rintro e w3 ⟨rfl, hb3⟩
    have hsz3 := hb3.size
    rw [World.size_alloc] at hsz3
    have hlt3 : w1.heap.size < w3.heap.size := by omega
    have hlt3' : w2.heap.size < w3.heap.size := by omega
    have hW3 := HW.out.below hb3 (by rw [World.size_alloc]; omega)
    have hG3 := HG.out.below hb3 (by rw [World.size_alloc]; omega)
    have hD3 := HD.out.trans (hb3.mono HD.out.size)
    have hO3 := OwX_frame x (fun b hb => hb3.block b (by rw [World.size_alloc]; have := (HIN.out b hb).2; omega)) HO.out
    have hL3 : ListAt w3 (Lt w1.heap.size) A x.list := HL.out.frame (fun b h => h) fun b o h => hb3.cell (p := ⟨b, o, none⟩) (by rw [World.size_alloc]; have : b < w1.heap.size := h; show b < _; omega)
    clear c0 c1
    have d0 : w3.cell? ⟨w2.heap.size, 0, none⟩ = some (.string x.atom) := by rw [hG3.cell]; rfl
    have d1 : w3.cell? ⟨w2.heap.size, 1, none⟩ = some (.slice A2 x.list.length c2) := by rw [hG3.cell]; rfl
    have HO3 := Lib.hid hO3
    have HW3 := Lib.hid hW3
    have HG3 := Lib.hid hG3
    have HD3 := Lib.hid hD3
    have HL3 := Lib.hid hL3
    clear hO3 hW3 hG3 hD3 hL3 hb3
    go_wp2_with fail
    refine (markWhole x A2 c2 1 _ bs _ HO3.out HND.out (fun b hb => by have := (HIN.out b hb).2; omega) (by decide) (by omega)).mono ?_
    rintro e w4 ⟨rfl, hm4, hb4⟩
    have hsz4 := hb4.size
    have hlt4 : w1.heap.size < w4.heap.size := by omega
    have hlt4' : w2.heap.size < w4.heap.size := by omega
    have far : ∀ b, b < w1.heap.size + 1 ∨ b = w2.heap.size → w4.heap[b]? = w3.heap[b]? := fun b hb => hb4.block b (by omega) fun hm => by have := HIN.out b hm; omega
    have hW4 : Whole w4 w1.heap.size _ _ := (far _ (.inl (by omega))).trans HW3.out
    have hG4 : Whole w4 w2.heap.size _ _ := (far _ (.inr rfl)).trans HG3.out
    have hD4 : Below w.heap.size w w4 := HD3.out.trans ⟨hb4.os, hb4.tape, hb4.output, hb4.size, fun b hb => far b (.inl (by omega))⟩
    have hL4 : ListAt w4 (Lt w4.heap.size) A x.list := HL3.out.frame (fun b (h : b < _) => by show b < _; omega) fun b o h => World.cell?_of_block (a := ⟨b, o, none⟩) (far b (.inl (by have : b < w1.heap.size := h; omega)))
    have hm4' : ListAt w4 (Lt w4.heap.size) A2 (mrkL 1 x.list) := hm4.frame (fun b hb => by have := (HIN.out b hb).2; show b < _; omega) fun _ _ _ => rfl
    clear d0 d1
    have d0 : w4.cell? ⟨w2.heap.size, 0, none⟩ = some (.string x.atom) := by rw [hG4.cell]; rfl
    have d1 : w4.cell? ⟨w2.heap.size, 1, none⟩ = some (.slice A2 x.list.length c2) := by rw [hG4.cell]; rfl
    have HM4 := Lib.hid hm4'
    have HW4 := Lib.hid hW4
    have HG4 := Lib.hid hG4
    have HD4 := Lib.hid hD4
    have HL4 := Lib.hid hL4
    clear hm4 hm4' hW4 hG4 hD4 hL4 hb4 far
    go_wp2_with fail
    refine (heldWhole x A2 c2 1 _ HM4.out (by decide) (by omega)).mono ?_
    rintro e w5 ⟨rfl, hb5⟩
    have hsz5 := hb5.size
    have hlt5 : w1.heap.size < w5.heap.size := by omega
    have hlt5' : w2.heap.size < w5.heap.size := by omega
    have hW5 := HW4.out.below hb5 hlt4
    have hG5 := HG4.out.below hb5 hlt4'
    have hD5 := HD4.out.trans (hb5.mono HD4.out.size)
    have hL5 := HL4.out.grow hb5
    have hM5 := HM4.out.grow hb5
    have hnneg : ¬ (((1 + SX.nodesL x.list : Nat) : Int) < 0) := by omega
    clear d0 d1
    have HW5 := Lib.hid hW5
    have HG5 := Lib.hid hG5
    have HD5 := Lib.hid hD5
    have HL5 := Lib.hid hL5
    have HM5 := Lib.hid hM5
    clear hW5 hG5 hD5 hL5 hM5 hb5
    go_wp2_with fail
    refine (parseX s _ (by omega)).mono ?_
    intro e w6 hpp
    refine parse_fact hpp fun A3 c3 bs3 he hO hnd hin hb6 => ?_
    rw [HX.out, HB.out] at he
    rw [HX.out] at hO
    subst he
    clear hpp hnd
    have hsz6 := hb6.size
    have hlt6 : w1.heap.size < w6.heap.size := by omega
    have hlt6' : w2.heap.size < w6.heap.size := by omega
    have hW6 := HW5.out.below hb6 hlt5
    have hG6 := HG5.out.below hb6 hlt5'
    have hD6 := HD5.out.trans (hb6.mono HD5.out.size)
    have hL6 := HL5.out.grow hb6
    have hM6 := HM5.out.grow hb6
    have hb7 : Below w6.heap.size w6 (w6.alloc (.cells #[.string x.atom, .slice A3 x.list.length c3] 26)) := (Below.refl _ _).alloc (Nat.le_refl _) _
    have hN7 := (OwX_list (P := Lt w6.heap.size) x (fun b hb => (hin b hb).2) hO).grow hb7
    have hL7 := hL6.grow hb7
    have hM7 := hM6.grow hb7
    have hW7 := hW6.below hb7 hlt6
    have hG7 := hG6.below hb7 hlt6'
    have hD7 := hD6.trans (hb7.mono hD6.size)
    have c0 : w6.cell? ⟨w1.heap.size, 0, none⟩ = some (.string x.atom) := by rw [hW6.cell]; rfl
    have c1 : w6.cell? ⟨w1.heap.size, 1, none⟩ = some (.slice A x.list.length c) := by rw [hW6.cell]; rfl
    have HN7 := Lib.hid hN7
    have HL7 := Lib.hid hL7
    have HM7 := Lib.hid hM7
    have HW7 := Lib.hid hW7
    have HG7 := Lib.hid hG7
    have HD7 := Lib.hid hD7
    clear hO hin hb6 hW6 hG6 hD6 hL6 hM6 hb7 hN7 hL7 hM7 hW7 hG7 hD7
    go_wp2_with fail
    refine (eqX x A3 A c3 c _ hwt HN7.out HL7.out).mono ?_
    rintro e w8 ⟨rfl, hb8⟩
    have hsz8 := hb8.size
    rw [World.size_alloc] at hsz8
    have hlt8 : w2.heap.size < w8.heap.size := by omega
    have hG8 := HG7.out.below hb8 (by rw [World.size_alloc]; omega)
    have hD8 := HD7.out.trans (hb8.mono HD7.out.size)
    have hM8 := HM7.out.grow hb8
    clear c0 c1
    have d0 : w8.cell? ⟨w2.heap.size, 0, none⟩ = some (.string x.atom) := by rw [hG8.cell]; rfl
    have d1 : w8.cell? ⟨w2.heap.size, 1, none⟩ = some (.slice A2 x.list.length c2) := by rw [hG8.cell]; rfl
    have HG8 := Lib.hid hG8
    have HD8 := Lib.hid hD8
    have HM8 := Lib.hid hM8
    clear hG8 hD8 hM8 hb8
    go_wp2_with fail
    refine (heldWhole x A2 c2 1 _ HM8.out (by decide) (by omega)).mono ?_
    rintro e w9 ⟨rfl, hb9⟩
    have hD9 := HD8.out.trans (hb9.mono HD8.out.size)
    clear d0 d1 hb9
    go_wp2
    go_ret
    exact ⟨rfl, hD9⟩
  · go_enter Try.func11, Try.ntmps11
    go_wp2
    go_ret
    exact ⟨rfl, Below.refl _ _⟩
end Go.Proofs.Ytfcedkcfnifdfaa

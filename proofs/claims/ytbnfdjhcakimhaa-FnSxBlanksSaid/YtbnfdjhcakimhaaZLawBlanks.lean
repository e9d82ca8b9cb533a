/- The law that parsing ignores surrounding white space and that what is parsed respects the limits. -/
import Derived.Test.YtbnfdjhcakimhaaZDrawTurned
import Derived.Test.YtbnfdjhcakimhaaZBig
import Derived.Test.YtbnfdjhcakimhaaZParseW
import Derived.Test.YtbnfdjhcakimhaaZSpecParse
import Derived.Test.YtbnfdjhcakimhaaQ1
import Derived.Test.YtbnfdjhcakimhaaZTokText
import Derived.Test.YtbnfdjhcakimhaaZSizeImpl
import Derived.Test.YtbnfdjhcakimhaaZDepthI
import Derived.Test.YtbnfdjhcakimhaaZSxOwV
import Derived.Lib.QuietBelow
import Derived.BigQuiet
namespace Go.Proofs.Ytbnfdjhcakimhaa
open Go.RowKit Go.Lib

/-- What both answer at a text. -/
def ansY (s : ByteArray) : SX := (specP s.data.toList).getD (.mk ByteArray.empty [])
def ansC (s : ByteArray) : Bool := (specP s.data.toList).isSome
theorem ansY_small (s : ByteArray) : (ansY s).nodes ≤ 900 ∧ (ansY s).depth ≤ 14 ∧ (ansY s).ok := by
  rw [ansY]
  cases h : specP s.data.toList with
  | none =>
    refine ⟨by decide, by decide, SX.ok_wt _ (by decide)⟩
  | some x =>
    obtain ⟨v1, v2, v3⟩ := SX.valid_iff.1 ((specP_iff _ _).1 h).2
    have h1 := SX.form_wt x v2
    exact ⟨v1, v3, SX.ok_wt x (by omega)⟩
theorem parseY {s : ByteArray} {w : World} {e : Ending} {w' : World} (h : ParsedOwn (implP s.data.toList) w e w') :
    ∃ A c, e = .returned (.tuple #[.agg #[.string (ansY s).atom, .slice A (ansY s).list.length c], .bool (ansC s)]) ∧ SxRow w' (Und w'.heap.size) A c (ansY s).list ∧ Below w.heap.size w w' := by
  obtain ⟨x, A, c, bs, hx, he, hO, hnd, hin, hb⟩ := h
  rw [impl_spec] at hx he
  have hx' : x = ansY s := hx
  subst hx'
  exact ⟨A, c, he, OwX_row (fun b hb => (hin b hb).2) hO, hb⟩
theorem specY {s : ByteArray} {w : World} {e : Ending} {w' : World} (h : Parsed (specP s.data.toList) w e w') :
    ∃ A c, e = .returned (.tuple #[.agg #[.string (ansY s).atom, .slice A (ansY s).list.length c], .bool (ansC s)]) ∧ ListAt w' (Lt w'.heap.size) A (ansY s).list ∧ Below w.heap.size w w' := by
  obtain ⟨x, A, c, hx, he, hl, hb⟩ := h
  have hx' : x = ansY s := hx
  subst hx'
  exact ⟨A, c, he, hl.frame (fun b hb => hb.2) fun _ _ _ => rfl, hb⟩
theorem blanked (s : ByteArray) : ansY ((⟨#[10, 32]⟩ : ByteArray) ++ s ++ ⟨#[32, 10]⟩) = ansY s ∧ ansC ((⟨#[10, 32]⟩ : ByteArray) ++ s ++ ⟨#[32, 10]⟩) = ansC s := by
  have e : ((⟨#[10, 32]⟩ : ByteArray) ++ s ++ ⟨#[32, 10]⟩).data.toList = 10 :: 32 :: (s.data.toList ++ [32, 10]) := by simp
  rw [ansY, ansC, ansY, ansC, e, specP_tok (tok_blanks s.data.toList)]
  exact ⟨rfl, rfl⟩

set_option maxRecDepth 100000 in
set_option maxHeartbeats 4000000 in
theorem lawBlanks (A : Option Addr) (n c : Nat) (w : World) (hA : BytesAt w w.heap.size A n) (hn0 : n ≤ 9223372036854775807) :
    Calls Try.prog 4 #[.slice A n c] w fun e w' => e = .returned (.bool true) ∧ Below w.heap.size w w' := by
  have HA := Lib.hid hA
  clear hA
  by_cases hbig : 1048576 < n
  · go_enter Try.func4, Try.ntmps4
    go_wp2_with fail
    refine (bigYes A n c _ hbig).mono ?_
    rintro e w1 ⟨rfl, rfl⟩
    go_wp2
    go_ret
    exact ⟨rfl, Below.refl _ _⟩
  · have hn : n ≤ 140737488355328 := by omega
    go_enter Try.func4, Try.ntmps4
    go_wp2_with fail
    refine (bigNo A n c _ (by omega)).mono ?_
    rintro e w1 ⟨rfl, rfl⟩
    go_wp2_with fail
    refine (drawParse A n c _ HA.out hn).mono ?_
    rintro e w1 ⟨s, rfl, hs, hb1⟩
    obtain ⟨hnx, hdx, hok⟩ := ansY_small s
    obtain ⟨S2, hS2⟩ : ∃ S2, S2 = (⟨#[10, 32]⟩ : ByteArray) ++ s ++ ⟨#[32, 10]⟩ := ⟨_, rfl⟩
    have hbl := blanked s
    have hz2 : S2.size ≤ 1073741824 := by
      have e1 : (⟨#[10, 32]⟩ : ByteArray).size = 2 := rfl
      have e2 : (⟨#[32, 10]⟩ : ByteArray).size = 2 := rfl
      rw [hS2, ByteArray.size_append, ByteArray.size_append]; omega
    rw [← hS2] at hbl
    have HS2 := Lib.hid hS2
    clear hS2
    generalize hx : ansY s = x at hnx hdx hok hbl
    generalize hcv : ansC s = b at hbl
    have HX := Lib.hid hx
    have HC := Lib.hid hcv
    have HBL := Lib.hid hbl
    have HB1 := Lib.hid hb1
    clear hx hcv hbl hb1
    go_wp2_with fail
    refine (parseX s _ (by omega)).mono ?_
    intro e w2 hp
    obtain ⟨A1, c1, he, hl, hb2⟩ := parseY hp
    rw [HX.out, HC.out] at he
    rw [HX.out] at hl
    subst he
    have hb3 : Below w2.heap.size w2 (w2.alloc (.cells #[.string x.atom, .slice A1 x.list.length c1] 26)) := (Below.refl _ _).alloc (Nat.le_refl _) _
    have hx3 := Whole.new w2 26 #[.string x.atom, .slice A1 x.list.length c1]
    have HX3 := Lib.hid hx3
    have HL3 := Lib.hid (hl.grow hb3)
    have HB3 := Lib.hid ((HB1.out.trans (hb2.mono HB1.out.size)).trans (hb3.mono (by have := HB1.out.size; have := hb2.size; omega)))
    clear hp hl hb2 hb3 hx3
    go_wp2_with fail
    refine (specParse s _ (by omega)).mono ?_
    intro e w4 hp
    obtain ⟨A2, c2, he, hl, hb4⟩ := specY hp
    rw [HX.out, HC.out] at he
    rw [HX.out] at hl
    subst he
    have hb5 : Below w4.heap.size w4 (w4.alloc (.cells #[.string x.atom, .slice A2 x.list.length c2] 26)) := (Below.refl _ _).alloc (Nat.le_refl _) _
    have hy5 := Whole.new w4 26 #[.string x.atom, .slice A2 x.list.length c2]
    have hx4 := HX3.out.below hb4 (by simp)
    have hsz4 := hb4.size
    rw [World.size_alloc] at hsz4
    have hlt4 : w2.heap.size < w4.heap.size := by omega
    have HX5 := Lib.hid (hx4.below hb5 hlt4)
    have HY5 := Lib.hid hy5
    have HL5 := Lib.hid ((HL3.out.grow hb4).grow hb5)
    have HM5 := Lib.hid (hl.grow hb5)
    have HB5 := Lib.hid ((HB3.out.trans (hb4.mono HB3.out.size)).trans (hb5.mono (by have := HB3.out.size; have := hb4.size; omega)))
    have c0 : w4.cell? ⟨w2.heap.size, 0, none⟩ = some (.string x.atom) := by rw [hx4.cell]; rfl
    have c1' : w4.cell? ⟨w2.heap.size, 1, none⟩ = some (.slice A1 x.list.length c1) := by rw [hx4.cell]; rfl
    clear hp hl hb4 hb5 hx4 hy5
    go_wp2_with fail
    refine (sameX _ x x A1 A2 c1 c2 _ (Nat.le_refl _) (by omega) (by omega) (SxRow_list HL5.out) HM5.out).mono ?_
    rintro e w6 ⟨rfl, hb6⟩
    rw [(SX.same_iff x x).2 rfl]
    have hx6 := HX5.out.below hb6 (by rw [World.size_alloc]; omega)
    have hsz6 := hb6.size
    rw [World.size_alloc] at hsz6
    have HX6 := Lib.hid hx6
    have HL6 := Lib.hid (HL5.out.grow hb6)
    have HB6 := Lib.hid (HB5.out.trans (hb6.mono HB5.out.size))
    clear c0 c1' hx6 hb6
    go_wp2_with fail
    rw [← HS2.out]
    refine (parseX S2 _ hz2).mono ?_
    intro e w7 hp
    obtain ⟨A3, c3, he, hl, hb7⟩ := parseY hp
    rw [HBL.out.1, HBL.out.2] at he
    rw [HBL.out.1] at hl
    subst he
    have hb8 : Below w7.heap.size w7 (w7.alloc (.cells #[.string x.atom, .slice A3 x.list.length c3] 26)) := (Below.refl _ _).alloc (Nat.le_refl _) _
    have hsz7 := hb7.size
    have hx7 := HX6.out.below hb7 (by omega)
    have hlt7 : w2.heap.size < w7.heap.size := by omega
    have hx8 := hx7.below hb8 hlt7
    have HX8 := Lib.hid hx8
    have HL8 := Lib.hid ((HL6.out.grow hb7).grow hb8)
    have HM8 := Lib.hid (hl.grow hb8)
    have HB8 := Lib.hid ((HB6.out.trans (hb7.mono HB6.out.size)).trans (hb8.mono (by have := HB6.out.size; have := hb7.size; omega)))
    have c0 : w7.cell? ⟨w2.heap.size, 0, none⟩ = some (.string x.atom) := by rw [hx7.cell]; rfl
    have c1' : w7.cell? ⟨w2.heap.size, 1, none⟩ = some (.slice A1 x.list.length c1) := by rw [hx7.cell]; rfl
    clear hp hl hb7 hb8 hx7 hx8
    cases b with
    | false =>
      go_wp2
      go_ret
      exact ⟨rfl, HB8.out⟩
    | true =>
      go_wp2_with fail
      refine (sameX _ x x A3 A1 c3 c1 _ (Nat.le_refl _) (by omega) (by omega) (SxRow_list HM8.out) (SxRow_list HL8.out)).mono ?_
      rintro e w9 ⟨rfl, hb9⟩
      rw [(SX.same_iff x x).2 rfl]
      have hx9 := HX8.out.below hb9 (by rw [World.size_alloc]; omega)
      have hl9 := HL8.out.grow hb9
      have hbb := HB8.out.trans (hb9.mono HB8.out.size)
      have hlt9 := hx9.lt
      clear c0 c1'
      have c0 : w9.cell? ⟨w2.heap.size, 0, none⟩ = some (.string x.atom) := by rw [hx9.cell]; rfl
      have c1' : w9.cell? ⟨w2.heap.size, 1, none⟩ = some (.slice A1 x.list.length c1) := by rw [hx9.cell]; rfl
      have HX9 := Lib.hid hx9
      have HL9 := Lib.hid hl9
      have HB9 := Lib.hid hbb
      clear hx9 hl9 hbb hb9
      go_wp2_with fail
      refine (implDepthI x _ _ (by omega) ⟨A1, c1, rfl, HL9.out⟩).mono ?_
      rintro e w10 ⟨rfl, hb10⟩
      have hx10 := HX9.out.below hb10 hlt9
      have hl10 := HL9.out.grow hb10
      have hbb := HB9.out.trans (hb10.mono HB9.out.size)
      have hlt10 := hx10.lt
      have hd14 : decide ((x.depth : Int) ≤ 14) = true := by rw [decide_eq_true_eq]; omega
      have hn900 : decide ((x.nodes : Int) ≤ 900) = true := by rw [decide_eq_true_eq]; omega
      clear c0 c1'
      have c0 : w10.cell? ⟨w2.heap.size, 0, none⟩ = some (.string x.atom) := by rw [hx10.cell]; rfl
      have c1' : w10.cell? ⟨w2.heap.size, 1, none⟩ = some (.slice A1 x.list.length c1) := by rw [hx10.cell]; rfl
      have HL10 := Lib.hid hl10
      have HB10 := Lib.hid hbb
      clear hx10 hl10 hbb hb10
      go_wp2_with fail
      refine (implSizeI x _ _ (by omega) ⟨A1, c1, rfl, HL10.out⟩).mono ?_
      rintro e w11 ⟨rfl, hb11⟩
      have hbb := HB10.out.trans (hb11.mono HB10.out.size)
      clear hb11 c0 c1'
      go_wp2
      go_ret
      exact ⟨rfl, hbb⟩
end Go.Proofs.Ytbnfdjhcakimhaa

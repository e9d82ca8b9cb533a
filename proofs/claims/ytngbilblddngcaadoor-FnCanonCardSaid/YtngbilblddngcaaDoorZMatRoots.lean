/- (*matcher).matchRoots: one pair of a pattern and a type. -/
import Derived.Test.YtngbilblddngcaaDoorQ2
import Derived.Test.YtngbilblddngcaaDoorZCopyI
import Derived.Test.YtngbilblddngcaaDoorQ1
import Derived.Test.YtngbilblddngcaaDoorZTyEqJ
import Derived.Test.YtngbilblddngcaaDoorZAgreeI
import Derived.Deep.AppendLies
import Derived.Deep.RegionLaw
namespace Go.Proofs.YtngbilblddngcaaDoor
open Go.RowKit Go.Lib

/-- A matcher under way: block Bm; its map lies in block mb, its list V, with these cells, in a row of the call's own from base on; what the bindings lead to lies below n₀. -/
structure MatSt (base n₀ Bm mb : Nat) (acc : List BindingX) (V : Value) (vs : List Value) (w : World) : Prop where
  whole : Whole w Bm 64 #[.map (some mb), V]
  subst : SubstAt w (Und n₀) mb acc
  own : w.ownsRow base 58 4 V acc.length vs
  rd : RdVE w (Und n₀) 4 (BindingX.rows acc) vs
theorem MatSt.lt {base n₀ Bm mb : Nat} {acc : List BindingX} {V : Value} {vs : List Value} {w : World} (h : MatSt base n₀ Bm mb acc V vs w) : mb < w.heap.size := by
  obtain ⟨vl, hm, _⟩ := h.subst
  exact hm.lt
theorem MatSt.keep {base n₀ Bm mb : Nat} {acc : List BindingX} {V : Value} {vs : List Value} {w w' : World} (h : MatSt base n₀ Bm mb acc V vs w) (h0 : ∀ b, b < n₀ ∨ b = Bm ∨ b = mb ∨ V.ownBlock = some b → w'.heap[b]? = w.heap[b]?) : MatSt base n₀ Bm mb acc V vs w' :=
  have hc : ∀ b o, Und n₀ b → w'.cell? ⟨b, o, none⟩ = w.cell? ⟨b, o, none⟩ := fun b o hb => World.cell?_of_block (a := ⟨b, o, none⟩) (h0 b (.inl hb))
  ⟨(h0 Bm (.inr (.inl rfl))).trans h.whole, h.subst.same (h0 mb (.inr (.inr (.inl rfl)))) (fun _ h => h) hc, own_same h.own fun b hb => h0 b (.inr (.inr (.inr hb))), RdVE_frame (fun _ h => h) hc _ h.rd⟩
theorem MatSt.grow {base n₀ Bm mb : Nat} {acc : List BindingX} {V : Value} {vs : List Value} {w w' : World} (h : MatSt base n₀ Bm mb acc V vs w) (hn : n₀ ≤ w.heap.size) (hb : Below w.heap.size w w') : MatSt base n₀ Bm mb acc V vs w' :=
  h.keep fun b h' => hb.block b (by
    rcases h' with h' | rfl | rfl | h'
    · omega
    · exact h.whole.lt
    · exact h.lt
    · exact (h.own.lt b h').2)
theorem RdVE_snocP {w : World} {P : Nat → Prop} {k : Nat} : ∀ {xs : List (List DV)} {vs : List Value}, RdVE w P k xs vs → ∀ {x : List DV} {v : List Value}, x.length = k → RdVs w P x v → RdVE w P k (xs ++ [x]) (vs ++ v)
  | [], vs, h, x, v, hk, hx => by
    rw [RdVE] at h
    subst h
    rw [List.nil_append, List.nil_append, RdVE]
    exact ⟨v, [], (List.append_nil v).symm, hk, hx, by rw [RdVE]⟩
  | y :: r, vs, h, x, v, hk, hx => by
    rw [RdVE] at h
    obtain ⟨v1, v2, rfl, hk1, h1, h2⟩ := h
    rw [List.cons_append, RdVE]
    exact ⟨v1, v2 ++ v, List.append_assoc _ _ _, hk1, h1, RdVE_snocP h2 hk hx⟩
/-- The bindings' new element reads as it is. -/
theorem new_binding {w : World} {P : Nat → Prop} {t : TypeX} {C : Option Addr} {c : Nat} (s : ByteArray) (h : TypeRow w P C c t.args_) : RdVs w P (BindingX.mk s t).cells [.string s, .int .i64 t.kind_, .string t.name_, .slice C t.args_.length c] := by
  rw [BindingX.cells_eq]
  simp only [RdVs]
  exact ⟨_, _, rfl, RdV_pl.2 rfl, _, _, rfl, RdV_pl.2 rfl, _, _, rfl, RdV_pl.2 rfl, _, _, rfl, h, rfl⟩

/-- What matchRoots leaves. -/
def RootsOut (base n₀ Bm mb : Nat) (o : Option (List BindingX)) (acc : List BindingX) (V : Value) (w : World) (e : Ending) (w' : World) : Prop :=
  e = .returned (.bool o.isSome) ∧ (∃ (V' : Value) (vs' : List Value), MatSt base n₀ Bm mb (o.getD acc) V' vs' w' ∧ (V'.ownBlock = V.ownBlock ∨ ∃ g, V'.ownBlock = some g ∧ w.heap.size ≤ g)) ∧ ButV (Bm :: mb :: V.ownBlock.toList) w w'

section
variable (p t : TypeX) (A C : Option Addr) (a c base n₀ Bm mb : Nat) (acc : List BindingX) (V : Value) (vs : List Value) (w : World)

set_option maxRecDepth 100000 in
set_option maxHeartbeats 4000000 in
theorem rootsElse (hn : n₀ ≤ w.heap.size) (hk : p.kind_ ≠ 1) (hm : MatSt base n₀ Bm mb acc V vs w) :
    Calls Tryd.prog 64 #[.pointer (some ⟨Bm, 0, none⟩), .agg #[.int .i64 p.kind_, .string p.name_, .slice A p.args_.length a, .int .i64 t.kind_, .string t.name_, .slice C t.args_.length c]] w (RootsOut base n₀ Bm mb (stepP (p, t) acc) acc V w) := by
  have hb0 : Below w.heap.size w (w.alloc (.cells #[.int .i64 p.kind_, .string p.name_, .slice A p.args_.length a, .int .i64 t.kind_, .string t.name_, .slice C t.args_.length c] 87)) := (Below.refl _ _).alloc (Nat.le_refl _) _
  have hx0 := Whole.new w 87 #[.int .i64 p.kind_, .string p.name_, .slice A p.args_.length a, .int .i64 t.kind_, .string t.name_, .slice C t.args_.length c]
  have hs0 : (w.alloc (.cells #[.int .i64 p.kind_, .string p.name_, .slice A p.args_.length a, .int .i64 t.kind_, .string t.name_, .slice C t.args_.length c] 87)).heap.size = w.heap.size + 1 := by simp
  have hkb : (p.kind_ == 1) = false := by simpa using hk
  have HB0 := Lib.hid hb0
  have HX0 := Lib.hid hx0
  have HS0 := Lib.hid hs0
  have HM := Lib.hid hm
  have HK := Lib.hid hk
  clear hb0 hx0 hs0 hm hk
  obtain ⟨r, hr⟩ : ∃ r, r = agreeX p t := ⟨_, rfl⟩
  have HR := Lib.hid hr
  clear hr
  go_enter Tryd.func64, Tryd.ntmps64
  go_wp2_with fail
  refine (implIsVar _ _ _ _ _ _).mono ?_
  rintro e w1 ⟨rfl, hb1⟩
  rw [hkb]
  have hx1 := HX0.out.below hb1 (by have := HS0.out; omega)
  have hbb := HB0.out.trans (hb1.mono HB0.out.size)
  obtain ⟨x0, x1, x2, x3, x4, x5⟩ := cells6 hx1
  have hlt1 := hx1.lt
  clear hb1 hx1 HB0 HX0 HS0
  go_wp2_with fail
  refine (implAgree p t A C a c _).mono ?_
  rw [← HR.out]
  rintro e w2 ⟨rfl, hb2⟩
  have hbb := hbb.trans (hb2.mono hbb.size)
  have HB := Lib.hid hbb
  clear hb2 hbb x0 x1 x2 x3 x4 x5
  have hend : r = (stepP (p, t) acc).isSome := by
    rw [HR.out]
    by_cases h : p.kind_ = t.kind_ ∧ p.name_ = t.name_ ∧ p.args_.length = t.args_.length
    · rw [stepP_yes HK.out h, agreeX_iff.2 h]; rfl
    · rw [stepP_no HK.out h, agreeX, decide_eq_false h]; rfl
  have HEND := Lib.hid hend
  clear hend
  go_wp2
  go_ret
  have hg : (stepP (p, t) acc).getD acc = acc := by
    rw [stepP_root HK.out]
    split <;> rfl
  exact ⟨congrArg (fun b => Ending.returned (.bool b)) HEND.out, ⟨V, vs, by rw [hg]; exact HM.out.grow hn HB.out, .inl rfl⟩, ButV.of_below HB.out⟩

set_option maxRecDepth 100000 in
set_option maxHeartbeats 4000000 in
theorem rootsMet (hn : n₀ ≤ w.heap.size) (hk : p.kind_ = 1) (y : TypeX) (hl : lookX p.name_ acc = some y) (hy : y.size ≤ 4294967296) (ht : TypeRow w (Und n₀) C c t.args_) (hm : MatSt base n₀ Bm mb acc V vs w) :
    Calls Tryd.prog 64 #[.pointer (some ⟨Bm, 0, none⟩), .agg #[.int .i64 p.kind_, .string p.name_, .slice A p.args_.length a, .int .i64 t.kind_, .string t.name_, .slice C t.args_.length c]] w (RootsOut base n₀ Bm mb (stepP (p, t) acc) acc V w) := by
  have hb0 : Below w.heap.size w (w.alloc (.cells #[.int .i64 p.kind_, .string p.name_, .slice A p.args_.length a, .int .i64 t.kind_, .string t.name_, .slice C t.args_.length c] 87)) := (Below.refl _ _).alloc (Nat.le_refl _) _
  have hx0 := Whole.new w 87 #[.int .i64 p.kind_, .string p.name_, .slice A p.args_.length a, .int .i64 t.kind_, .string t.name_, .slice C t.args_.length c]
  have hs0 : (w.alloc (.cells #[.int .i64 p.kind_, .string p.name_, .slice A p.args_.length a, .int .i64 t.kind_, .string t.name_, .slice C t.args_.length c] 87)).heap.size = w.heap.size + 1 := by simp
  have hkb : (p.kind_ == 1) = true := by rw [hk]; rfl
  have hstep := stepP_met (q := (p, t)) hk hl
  obtain ⟨sm, hsm⟩ : ∃ sm, sm = y.same t := ⟨_, rfl⟩
  simp only [← hsm] at hstep
  have HB0 := Lib.hid hb0
  have HX0 := Lib.hid hx0
  have HS0 := Lib.hid hs0
  have HM := Lib.hid hm
  have HT := Lib.hid ht
  have HL := Lib.hid hl
  have HST := Lib.hid hstep
  have HSM := Lib.hid hsm
  clear hb0 hx0 hs0 hm hk ht hl hstep hsm
  go_enter Tryd.func64, Tryd.ntmps64
  go_wp2_with fail
  refine (implIsVar _ _ _ _ _ _).mono ?_
  rintro e w1 ⟨rfl, hb1⟩
  rw [hkb]
  have hx1 := HX0.out.below hb1 (by have := HS0.out; omega)
  have hbb := HB0.out.trans (hb1.mono HB0.out.size)
  have hm1 := HM.out.grow hn hbb
  obtain ⟨x0, x1, x2, x3, x4, x5⟩ := cells6 hx1
  obtain ⟨vl, hmap, hbinds⟩ := hm1.subst
  have m0 : w1.cell? ⟨Bm, 0, none⟩ = some (.map (some mb)) := by rw [hm1.whole.cell]; rfl
  have hlk := hmap.look (P := Tryd.prog) Tryd.underlying62 Tryd.underlying9 (zeroTyRun _) p.name_
  rcases hbinds.find p.name_ with ⟨h1, _⟩ | ⟨y', v, h1, hf, D, d, rfl, hty⟩
  · rw [HL.out] at h1; cases h1
  rw [HL.out] at h1
  injection h1 with h1
  subst h1
  rw [hf] at hlk
  simp only [Option.getD_some, Option.isSome_some] at hlk
  obtain ⟨wa, hwa⟩ : ∃ wa, wa = w1.alloc (.cells #[.int .i64 y.kind_, .string y.name_, .slice D y.args_.length d] 26) := ⟨_, rfl⟩
  have hba : Below w1.heap.size w1 wa := by rw [hwa]; exact (Below.refl _ _).alloc (Nat.le_refl _) _
  have hza : Whole wa w1.heap.size 26 #[.int .i64 y.kind_, .string y.name_, .slice D y.args_.length d] := by rw [hwa]; exact Whole.new _ _ _
  have hw1 : w.heap.size + 1 ≤ w1.heap.size := by have := HX0.out.lt; have := hb1.size; have := HS0.out; omega
  have hsa := hba.size
  have hxa := hx1.below hba (by omega)
  have hba2 := hbb.trans (hba.mono hbb.size)
  have htya : TypeRow wa (Und wa.heap.size) D d y.args_ := hty.frame (fun b h => by have : b < n₀ := h; show b < wa.heap.size; omega) (fun b o h => hba.cell (p := ⟨b, o, none⟩) (Nat.lt_of_lt_of_le (show b < n₀ from h) (by omega)))
  have hta : TypeRow wa (Und wa.heap.size) C c t.args_ := HT.out.frame (fun b h => by have : b < n₀ := h; show b < wa.heap.size; omega) (fun b o h => hba2.cell (p := ⟨b, o, none⟩) (Nat.lt_of_lt_of_le (show b < n₀ from h) (by omega)))
  have hcall := implEqTy y t _ _ wa hy ⟨D, d, rfl, htya⟩ ⟨C, c, rfl, hta⟩
  rw [← HSM.out] at hcall
  have HCALL := Lib.hid hcall
  have HXA := Lib.hid hxa
  have HZA := Lib.hid hza
  have HWA := Lib.hid hwa.symm
  have HBA := Lib.hid hba2
  clear hb1 hx1 HB0 HX0 HS0 hm1 hmap hbinds hf hty hwa hba hza hxa hba2 htya hta hcall hbb
  go_upto_region 5 with (fail)
  rw [HWA.out]
  obtain ⟨x0, x1, x2, x3, x4, x5⟩ := cells6 HXA.out
  obtain ⟨z0, z1, z2⟩ := cells3 HZA.out
  have xl := HXA.out.lt
  have zl := HZA.out.lt
  go_wp2_with fail
  refine HCALL.out.mono ?_
  rintro e w3 ⟨rfl, hb3⟩
  have hbb := HBA.out.trans (hb3.mono HBA.out.size)
  have HB := Lib.hid hbb
  clear hb3 hbb
  go_wp2
  go_ret
  have hg : (stepP (p, t) acc).getD acc = acc := by rw [HST.out]; split <;> rfl
  exact ⟨by rw [HST.out]; cases sm <;> rfl, ⟨V, vs, by rw [hg]; exact HM.out.grow hn HB.out, .inl rfl⟩, ButV.of_below HB.out⟩

set_option maxRecDepth 100000 in
set_option maxHeartbeats 4000000 in
theorem rootsNew (hnB : n₀ ≤ Bm) (hBm : Bm < mb) (hmb : mb < base) (hbw : base ≤ w.heap.size) (hk : p.kind_ = 1) (hl : lookX p.name_ acc = none) (hal : acc.length ≤ 4294967296) (ht : TypeRow w (Und n₀) C c t.args_) (hm : MatSt base n₀ Bm mb acc V vs w) :
    Calls Tryd.prog 64 #[.pointer (some ⟨Bm, 0, none⟩), .agg #[.int .i64 p.kind_, .string p.name_, .slice A p.args_.length a, .int .i64 t.kind_, .string t.name_, .slice C t.args_.length c]] w (RootsOut base n₀ Bm mb (stepP (p, t) acc) acc V w) := by
  have hn : n₀ ≤ w.heap.size := by omega
  have hb0 : Below w.heap.size w (w.alloc (.cells #[.int .i64 p.kind_, .string p.name_, .slice A p.args_.length a, .int .i64 t.kind_, .string t.name_, .slice C t.args_.length c] 87)) := (Below.refl _ _).alloc (Nat.le_refl _) _
  have hx0 := Whole.new w 87 #[.int .i64 p.kind_, .string p.name_, .slice A p.args_.length a, .int .i64 t.kind_, .string t.name_, .slice C t.args_.length c]
  have hs0 : (w.alloc (.cells #[.int .i64 p.kind_, .string p.name_, .slice A p.args_.length a, .int .i64 t.kind_, .string t.name_, .slice C t.args_.length c] 87)).heap.size = w.heap.size + 1 := by simp
  have hkb : (p.kind_ == 1) = true := by rw [hk]; rfl
  have hstep := stepP_new (q := (p, t)) hk hl
  have hput : putX acc (.mk p.name_ t) = acc ++ [.mk p.name_ t] := by
    rw [putX]
    rw [if_neg]
    rw [show (BindingX.mk p.name_ t).var_ = p.name_ from rfl, hl]; simp
  obtain ⟨i0, hi, hz0, hz1, hz2⟩ := info_parts infoBd
  obtain ⟨Av, cv, rfl⟩ := own_nil hm.own
  have HB0 := Lib.hid hb0
  have HX0 := Lib.hid hx0
  have HS0 := Lib.hid hs0
  have HM := Lib.hid hm
  have HT := Lib.hid ht
  have HL := Lib.hid hl
  have HST := Lib.hid hstep
  have HPUT := Lib.hid hput
  clear hb0 hx0 hs0 hm hk ht hl hstep hput
  go_enter Tryd.func64, Tryd.ntmps64
  go_wp2_with fail
  refine (implIsVar _ _ _ _ _ _).mono ?_
  rintro e w1 ⟨rfl, hb1⟩
  rw [hkb]
  have hx1 := HX0.out.below hb1 (by have := HS0.out; omega)
  have hbb := HB0.out.trans (hb1.mono HB0.out.size)
  have hm1 := HM.out.grow hn hbb
  obtain ⟨x0, x1, x2, x3, x4, x5⟩ := cells6 hx1
  obtain ⟨vl, hmap, hbinds⟩ := hm1.subst
  have m0 : w1.cell? ⟨Bm, 0, none⟩ = some (.map (some mb)) := by rw [hm1.whole.cell]; rfl
  have hlk := hmap.look (P := Tryd.prog) Tryd.underlying62 Tryd.underlying9 (zeroTyRun _) p.name_
  rcases hbinds.find p.name_ with ⟨_, hf⟩ | ⟨y', v, h1, hf, _⟩
  case inr => rw [HL.out] at h1; cases h1
  rw [hf] at hlk
  simp only [Option.getD_none, Option.isSome_none] at hlk
  obtain ⟨wa, hwa⟩ : ∃ wa, wa = w1.alloc (.cells #[.int .i64 0, .string ByteArray.empty, .slice none 0 0] 26) := ⟨_, rfl⟩
  have hba : Below w1.heap.size w1 wa := by rw [hwa]; exact (Below.refl _ _).alloc (Nat.le_refl _) _
  have hw1 : w.heap.size + 1 ≤ w1.heap.size := by have := HX0.out.lt; have := hb1.size; have := HS0.out; omega
  have hsa := hba.size
  have hxa := hx1.below hba (by omega)
  have hba2 := hbb.trans (hba.mono hbb.size)
  have hma := HM.out.grow hn hba2
  have hta : TypeRow wa (Und n₀) C c t.args_ := HT.out.frame (fun b h => h) (fun b o h => hba2.cell (p := ⟨b, o, none⟩) (Nat.lt_of_lt_of_le (show b < n₀ from h) (by omega)))
  have hcall := implBind mb acc (.mk p.name_ t) C c wa.drew (Und n₀) (fun b h => ⟨by have : b < n₀ := h; show b < wa.heap.size; omega, by have : b < n₀ := h; omega⟩) (hma.subst.same rfl (fun _ h => h) fun _ _ _ => rfl) (hta.frame (fun _ h => h) fun _ _ _ => rfl)
  rw [HPUT.out] at hcall
  have HCALL := Lib.hid hcall
  have HXA := Lib.hid hxa
  have HWA := Lib.hid hwa.symm
  have HBA := Lib.hid hba2
  have HMA := Lib.hid hma
  clear hb1 hx1 HB0 HX0 HS0 hm1 hmap hbinds hf hwa hba hxa hba2 hta hcall hbb
  go_upto_region 7 with (fail)
  rw [HWA.out]
  obtain ⟨x0, x1, x2, x3, x4, x5⟩ := cells6 HXA.out
  have xl := HXA.out.lt
  have m0 : wa.cell? ⟨Bm, 0, none⟩ = some (.map (some mb)) := by rw [HMA.out.whole.cell]; rfl
  have ml := HMA.out.whole.lt
  go_region_law (first
    | (go_simp
       go_at_call 77
       refine HCALL.out.mono ?_
       rintro e w2 ⟨rfl, hsub2, hbut2⟩))
  all_goals (
    have hws : wa.heap.size ≤ w2.heap.size := hbut2.size
    have hf2 : ∀ b, b < wa.heap.size → b ≠ mb → w2.heap[b]? = wa.heap[b]? := hbut2.block
    have hx2 : Whole w2 w.heap.size 87 #[.int .i64 p.kind_, .string p.name_, .slice A p.args_.length a, .int .i64 t.kind_, .string t.name_, .slice C t.args_.length c] := (hf2 _ xl (by omega)).trans HXA.out
    have hm2 : Whole w2 Bm 64 #[.map (some mb), .slice Av acc.length cv] := (hf2 _ ml (by omega)).trans HMA.out.whole
    have ho2 : w2.ownsRow base 58 4 (.slice Av acc.length cv) acc.length vs := own_same HMA.out.own fun b hb => hf2 b (HMA.out.own.lt b hb).2 (by have := (HMA.out.own.lt b hb).1; omega)
    have hc2 : ∀ b o, Und n₀ b → w2.cell? ⟨b, o, none⟩ = w.cell? ⟨b, o, none⟩ := fun b o hb => (World.cell?_of_block (w := wa) (w' := w2) (a := ⟨b, o, none⟩) (hf2 b (Nat.lt_of_lt_of_le (show b < n₀ from hb) (by omega)) (by have : b < n₀ := hb; omega))).trans (HBA.out.cell (p := ⟨b, o, none⟩) (Nat.lt_of_lt_of_le (show b < n₀ from hb) hn))
    have hbv2 : ButV (Bm :: mb :: (Value.slice Av acc.length cv).ownBlock.toList) w w2 := (ButV.of_below HBA.out).trans ⟨hbut2.os, hbut2.tape, hbut2.output, hbut2.size, fun b hb hnm => hf2 b hb (fun e => hnm (by rw [e]; simp))⟩
    have HX2 := Lib.hid hx2
    have HM2 := Lib.hid hm2
    have HO2 := Lib.hid ho2
    have HC2 := Lib.hid hc2
    have HBV := Lib.hid hbv2
    have HS2 := Lib.hid hsub2
    have hwl2 : w.heap.size < w2.heap.size := by omega
    clear x0 x1 x2 x3 x4 x5 xl m0 ml hbut2 hf2 hx2 hm2 ho2 hc2 hbv2 hsub2
    obtain ⟨x0, x1, x2, x3, x4, x5⟩ := cells6 HX2.out
    have m1 : w2.cell? ⟨Bm, 1, none⟩ = some (.slice Av acc.length cv) := by rw [HM2.out.cell]; rfl
    have ml := HM2.out.lt
    go_upto_region 8 with (fail)
    go_region_law (first
      | (refine step_append_lies _ (by rfl) _ _ _ (by rfl) base 58 i0 _ 4 64 Tryd.underlying33 hi hz0 hz1 hz2 rfl (by omega) (.slice Av acc.length cv) acc.length vs (by rfl) ((show w2.drew.ownsRow base 58 4 (.slice Av acc.length cv) acc.length vs from HO2.out).alloc _)
           ⟨w2.heap.size, 0, none⟩ 1 1 [.string p.name_, .int .i64 t.kind_, .string t.name_, .slice C t.args_.length c] (by rfl) (by rfl) (news4 w2 _ _ _ _ _) (one4 _ _ _ _ _ _) (by omega) (by unfold maxLen; omega) (by omega) (by simp; omega) (w2.heap.size + 1) (by simp) ?_
         intro g' cap' w7 hown7 hgrow7 hat7 hlt7
         have hm7 : Whole w7 Bm 64 #[.map (some mb), .slice Av acc.length cv] := (hgrow7.block Bm (by simp; omega) (fun e => by have := (HO2.out.lt Bm e.symm).1; omega)).trans ((Below.heap_alloc _ _ _ ml).trans HM2.out)
         have n1 : w7.cell? ⟨Bm, 1, none⟩ = some (.slice Av acc.length cv) := by rw [hm7.cell]; rfl
         have f1 := hm7.frozen 1))
    all_goals (
      have hbm : ∀ b, (Value.slice Av acc.length cv).ownBlock = some b → base ≤ b := fun b hb => (HO2.out.lt b hb).1
      have hb7 : ∀ b, b < w2.heap.size → (Value.slice Av acc.length cv).ownBlock ≠ some b → b ≠ Bm → (w7.setCell ⟨Bm, 1, none⟩ (.slice (some ⟨g', 0, none⟩) (acc.length + 1) cap')).heap[b]? = w2.heap[b]? := fun b hb hne hbb => (Below.heap_setCell _ _ _ b (by exact hbb)).trans ((hgrow7.block b (by simp; omega) (fun e => hne e.symm)).trans (Below.heap_alloc _ _ _ hb))
      have hc7 : ∀ b o, Und n₀ b → (w7.setCell ⟨Bm, 1, none⟩ (.slice (some ⟨g', 0, none⟩) (acc.length + 1) cap')).cell? ⟨b, o, none⟩ = w2.cell? ⟨b, o, none⟩ := fun b o hb => World.cell?_of_block (a := ⟨b, o, none⟩) (hb7 b (Nat.lt_of_lt_of_le (show b < n₀ from hb) (by omega)) (fun e => by have h1 := hbm b e; have : b < n₀ := hb; omega) (by have : b < n₀ := hb; omega))
      have hc8 : ∀ b o, Und n₀ b → (w7.setCell ⟨Bm, 1, none⟩ (.slice (some ⟨g', 0, none⟩) (acc.length + 1) cap')).cell? ⟨b, o, none⟩ = w.cell? ⟨b, o, none⟩ := fun b o hb => (hc7 b o hb).trans (HC2.out b o hb)
      have hown8 : (w7.setCell ⟨Bm, 1, none⟩ (.slice (some ⟨g', 0, none⟩) (acc.length + 1) cap')).ownsRow base 58 4 (.slice (some ⟨g', 0, none⟩) (acc.length + 1) cap') (acc.length + 1) (vs ++ [.string p.name_, .int .i64 t.kind_, .string t.name_, .slice C t.args_.length c]) := own_same hown7 fun b hb => Below.heap_setCell _ _ _ b (by have := (hown7.lt b hb).1; show b ≠ Bm; omega)
      have hst8 : MatSt base n₀ Bm mb (acc ++ [.mk p.name_ t]) (.slice (some ⟨g', 0, none⟩) (acc.length + 1) cap') (vs ++ [.string p.name_, .int .i64 t.kind_, .string t.name_, .slice C t.args_.length c]) (w7.setCell ⟨Bm, 1, none⟩ (.slice (some ⟨g', 0, none⟩) (acc.length + 1) cap')) :=
        ⟨hm7.set_ 1 _, HS2.out.same (hb7 mb (Nat.lt_of_lt_of_le hmb (by omega)) (fun e => by have := hbm mb e; omega) (by omega)) (fun _ h => h) hc7, by rw [List.length_append]; exact hown8,
          by rw [BindingX.rows_snoc]; exact RdVE_snocP (RdVE_frame (fun _ h => h) hc8 _ HM.out.rd) (BindingX.cells_length _) (new_binding _ (HT.out.frame (fun _ h => h) hc8))⟩
      have hbv8 : ButV (Bm :: mb :: (Value.slice Av acc.length cv).ownBlock.toList) w (w7.setCell ⟨Bm, 1, none⟩ (.slice (some ⟨g', 0, none⟩) (acc.length + 1) cap')) :=
        HBV.out.trans ⟨hgrow7.os, hgrow7.tape, hgrow7.output, by have := hgrow7.size; simp at this ⊢; omega, fun b hb hnm => hb7 b hb (fun e => hnm (by rw [e]; simp)) (fun e => hnm (by rw [e]; simp))⟩
      have HST8 := Lib.hid hst8
      have HBV8 := Lib.hid hbv8
      have HAT := Lib.hid hat7
      clear hown7 hgrow7 hat7 hm7 n1 f1 hb7 hc7 hc8 hown8 hst8 hbv8
      go_wp2
      go_ret
      rw [RootsOut, HST.out]
      exact ⟨rfl, ⟨_, _, HST8.out, HAT.out.imp (fun h => h.symm) (fun h => ⟨g', rfl, by omega⟩)⟩, HBV8.out⟩))
end
end Go.Proofs.YtngbilblddngcaaDoor

/- The draws of chapter 4: l4Free. -/
import Derived.Test.YtngbilblddngcaaDoorZDrawTy2
import Derived.Test.YtngbilblddngcaaDoorQ1
namespace Go.Proofs.YtngbilblddngcaaDoor
open Go.RowKit Go.Lib

def varWords : List ByteArray := [⟨#[97]⟩, ⟨#[98]⟩]
theorem varWords_short {s : ByteArray} (h : s ∈ varWords) : s.size ≤ 100 := by
  simp only [varWords, List.mem_cons, List.mem_nil_iff, or_false] at h
  rcases h with rfl | rfl <;> decide
def traitWords : List ByteArray := [⟨#[97, 100, 100]⟩, ⟨#[115, 104, 111, 119]⟩]
theorem traitWords_short {s : ByteArray} (h : s ∈ traitWords) : s.size ≤ 100 := by
  simp only [traitWords, List.mem_cons, List.mem_nil_iff, or_false] at h
  rcases h with rfl | rfl <;> decide

theorem traitWords_long {x : ByteArray} (h : x ∈ traitWords) : 1 < x.size := by
  simp only [traitWords, List.mem_cons, List.not_mem_nil, or_false] at h
  rcases h with rfl | rfl <;> decide
theorem tame1 {k : Int} {s : ByteArray} {x : TypeX} (hk : (-9 ≤ k ∧ k ≤ 9) ∧ k ≠ 1) (h : s.size ≤ 100) (hx : x.tame) : (TypeX.mk k s [x]).tame := by rw [TypeX.tame]; exact ⟨hk.1, h, by rw [TypeX.tameL, TypeX.tameL]; exact ⟨hx, trivial⟩, fun h => absurd h hk.2⟩
theorem tame0 {k : Int} {s : ByteArray} (hk : -9 ≤ k ∧ k ≤ 9) (h : s.size ≤ 100) : (TypeX.mk k s []).tame := by rw [TypeX.tame]; exact ⟨hk, h, by rw [TypeX.tameL]; trivial, fun _ _ => by rw [TypeX.namesL]⟩

set_option maxRecDepth 100000 in
set_option maxHeartbeats 1000000 in
theorem freeC (G : Nat → Prop) (B g k : Nat) (hk : k ≤ 9) (w : World) (hG : ∀ b, G b → b < w.heap.size) (hg : G g) (hc : Cur w B g) :
    Calls Tryd.prog 37 #[.pointer (some ⟨g, 0, none⟩), .int .i64 k] w (DrawnF G varWords (2 ^ (k + 1) + 1) B g w) := by
  have hpp : 0 < 2 ^ (k + 1) := Nat.pos_of_ne_zero (by simp)
  have HPP := Lib.hid hpp
  have hpn : 2 ^ (k + 1) ≤ 1024 := by have := Nat.pow_le_pow_right (n := 2) (by decide) (show k + 1 ≤ 10 by omega); simpa using this
  have HPN := Lib.hid hpn
  clear hpp hpn
  have hgl := hc.lt
  have hbX : Below w.heap.size w (w.alloc (.cells zeroT 26)) := (Below.refl _ _).alloc (Nat.le_refl _) _
  have hbN : Below (w.alloc (.cells zeroT 26)).heap.size (w.alloc (.cells zeroT 26)) ((w.alloc (.cells zeroT 26)).alloc (.cells (varWords.map Value.string).toArray 9)) := (Below.refl _ _).alloc (Nat.le_refl _) _
  have HXX := Lib.hid (whole_keep (Whole.new w 26 zeroT) hbN)
  have HCC := Lib.hid ((hc.kept hbX).kept hbN)
  have hvs := (Whole.new (w.alloc (.cells zeroT 26)) 9 (varWords.map Value.string).toArray).strs
  simp only [World.size_alloc] at hvs
  have HVV := Lib.hid hvs
  have HBB := Lib.hid ((But.of_below (g := g) hbX).trans (But.of_below hbN))
  have HGX : Hid (∀ b, (G b ∨ b = w.heap.size) → b < ((w.alloc (.cells zeroT 26)).alloc (.cells (varWords.map Value.string).toArray 9)).heap.size) := Lib.hid fun b h => by simp; exact h.elim (fun h => by have := hG b h; omega) (fun e => by omega)
  clear hc hbX hbN hvs hG
  go_enter Tryd.func37, Tryd.ntmps37
  go_wp2_with fail
  refine (drawTy k (by omega) (fun b => G b ∨ b = w.heap.size) B g _ _ varWords _ HGX.out (.inl hg) HCC.out HVV.out (by rintro ad h; injection h with h; subst h; simp; omega) (by decide) (by decide) (fun s h => varWords_short h)).mono ?_
  rintro e w2 ⟨x, ⟨V2, rfl, ht2⟩, hxs, hxt, hxf, hc2, hb2⟩
  obtain ⟨A2, c2, rfl⟩ := ht2.shape
  obtain ⟨A2', c2', e2, hr2⟩ := ht2.row HGX.out
  injection e2 with e2 _ e3
  subst e2 e3
  have hbY : Below w2.heap.size w2 (w2.alloc (.cells #[.int .i64 x.kind_, .string x.name_, .slice A2 x.args_.length c2] 26)) := (Below.refl _ _).alloc (Nat.le_refl _) _
  have hs2 := hb2.size
  simp only [World.size_alloc] at hs2
  have HR2 := Lib.hid (hr2.nog hbY)
  have HX2 := Lib.hid (whole_keep (whole_but HXX.out hb2 (by omega)) hbY)
  have HY2 := Lib.hid (Whole.new w2 26 #[.int .i64 x.kind_, .string x.name_, .slice A2 x.args_.length c2])
  have HB2 := Lib.hid ((HBB.out.trans hb2).trans (But.of_below hbY))
  have HC2 := Lib.hid (hc2.kept hbY)
  have HT2 := Lib.hid (ht2.below hbY)
  clear hc2 hr2 ht2 hbY
  go_wp2_with fail
  refine (drawBelow B g 8 _ HC2.out (by decide) (by decide)).mono ?_
  rintro e w3 ⟨v, rfl, ⟨z, rfl, hz0, hz8⟩, hc3, hb3⟩
  have hs3 := hb3.size
  simp only [World.size_alloc] at hs3
  have hy3 := whole_but HY2.out hb3 (by omega)
  obtain ⟨y0, y1, y2⟩ := cells3 hy3
  have hylt := hy3.lt
  have HY3 := Lib.hid hy3
  have HX3 := Lib.hid (whole_but HX2.out hb3 (by omega))
  have HR3 := Lib.hid (HR2.out.nogBut (.inl hg) hb3)
  have HT3 := Lib.hid (HT2.out.but HGX.out (.inl hg) hb3)
  have HB3 := Lib.hid (HB2.out.trans hb3)
  have HC3 := Lib.hid hc3
  have HG3 : Hid (∀ b, (G b ∨ b = w.heap.size) → b < w3.heap.size) := Lib.hid fun b h => by have := HGX.out b h; simp at this; omega
  clear hc3 hb3 hb2 HT2 HC2 HB2 HR2 HX2 HY2 HGX HBB HVV HCC HXX hy3
  by_cases h0 : z = 0
  · subst h0
    have hp1 := Whole.new w3.drew 9 (traitWords.map Value.string).toArray
    have hbd : Below w3.heap.size w3 w3.drew := (Below.refl _ w3).drew
    have hbp : Below w3.heap.size w3 (w3.drew.alloc (.cells (traitWords.map Value.string).toArray 9)) := hbd.alloc (Nat.le_refl _) _
    have HP := Lib.hid hp1
    have HCP := Lib.hid (HC3.out.kept hbp)
    have HXP := Lib.hid (whole_keep HX3.out hbp)
    have HYP := Lib.hid (whole_keep HY3.out hbp)
    have HRP := Lib.hid (HR3.out.nog hbp)
    have HBP := Lib.hid (HB3.out.trans (But.of_below hbp))
    clear hp1 hbd hbp
    go_wp2
    go_region_with (first
      | (go_at_call 41
         refine (drawPick B g w3.heap.size 2 traitWords _ HCP.out HP.out (by decide) (by decide) (by omega)).mono ?_
         rintro e w4 ⟨v, rfl, ⟨s, hsm, rfl⟩, hc4, hb4⟩
         have hs4 := hb4.size
         simp only [World.size_alloc, World.size_drew] at hs4
         have HR4 := Lib.hid (HRP.out.nogBut (.inl hg) hb4)
         have HX4 := Lib.hid (whole_but HXP.out hb4 (by omega))
         have HB4 := Lib.hid (HBP.out.trans hb4)
         have HC4 := Lib.hid hc4
         have hy4 := whole_but HYP.out hb4 (by omega)
         obtain ⟨q0, q1, q2⟩ := cells3 hy4
         have hss := traitWords_short hsm
         have hsl := traitWords_long hsm
         clear hc4 hb4 hsm hy4)
      | (go_at_call 55
         refine (projC (fun b => G b ∨ b = w.heap.size) _ x _ _ (fun b h => by have := HG3.out b h; omega) (by have := HPN.out; omega) ⟨_, _, rfl, HR4.out⟩).mono ?_
         rintro e w5 ⟨⟨V, rfl, ht⟩, hb5⟩
         obtain ⟨A5, c5, rfl⟩ := ht.shape
         have hX5 := whole_keep HX4.out hb5
         have hend := drawEnd (G := G) (P := varWords) (N := 2 ^ (k + 1) + 1) (x := .mk 3 s [x]) hgl hX5 ht (.inr rfl) (by omega) (fun b h => .inl h) (HC4.out.kept hb5) (HB4.out.trans (But.of_below hb5)) (by rw [size1]; (have := HPP.out; omega)) (tame1 (by decide) hss hxt) (flatI1 (by decide) hsl hxf)
         have HE := Lib.hid hend
         have HXE := Lib.hid hX5
         obtain ⟨r0, r1, r2⟩ := cells3 hX5
         have rf0 := hX5.frozen 0
         have rf1 := hX5.frozen 1
         have rf2 := hX5.frozen 2
         clear hend ht hb5 hX5))
    all_goals (
      have hlt := HXE.out.lt
      go_wp2
      obtain ⟨e0, e1, e2, e3⟩ := HE.out _ rfl
      exact bodyPost_ret (v := .agg #[.int .i64 3, .string s, .slice A5 1 c5]) (by simp [results, Tryd.results37, go_sem, e0, e1, e2] <;> first | rfl | exact ⟨rfl, rfl⟩ | exact ⟨rfl, rfl, rfl⟩) rfl e3)
  · have h0' : (z == 0) = false := by simpa using h0
    by_cases h1 : z = 1
    · subst h1
      go_wp2_with fail
      refine (projC (fun b => G b ∨ b = w.heap.size) ⟨#[97, 100, 100]⟩ x _ _ HG3.out (by have := HPN.out; omega) ⟨_, _, rfl, HR3.out⟩).mono ?_
      rintro e w4 ⟨⟨V, rfl, ht⟩, hb4⟩
      obtain ⟨A4, c4, rfl⟩ := ht.shape
      obtain ⟨A4', c4', e4, hr4⟩ := ht.row HG3.out
      injection e4 with e4 _ e5
      subst e4 e5
      have hs4 := hb4.size
      have HROW := Lib.hid (row_one (x := .mk 3 ⟨#[97, 100, 100]⟩ [x]) hr4 (fun b h => by have := HG3.out b h; omega))
      have hbr : Below w4.heap.size w4 (w4.alloc (.cells #[.int .i64 3, .string ⟨#[97, 100, 100]⟩, .slice A4 1 c4] 26)) := (Below.refl _ _).alloc (Nat.le_refl _) _
      have HX4 := Lib.hid (whole_keep (whole_keep HX3.out hb4) hbr)
      have HB4 := Lib.hid ((HB3.out.trans (But.of_below hb4)).trans (But.of_below hbr))
      have HC4 := Lib.hid ((HC3.out.kept hb4).kept hbr)
      clear hr4 ht hbr hb4
      go_wp2_with fail
      refine (conC (fun b => G b ∨ b = w.heap.size) ⟨#[108, 105, 115, 116]⟩ (some ⟨w4.heap.size, 0, none⟩) 1 [.mk 3 ⟨#[97, 100, 100]⟩ [x]] _ (by simp) HROW.out).mono ?_
      rintro e w5 ⟨⟨V, rfl, ht⟩, hb5⟩
      obtain ⟨A5, c5, rfl⟩ := ht.shape
      have hX5 := whole_keep HX4.out hb5
      have hend := drawEnd (G := G) (P := varWords) (N := 2 ^ (k + 1) + 1) (x := .mk 2 ⟨#[108, 105, 115, 116]⟩ [.mk 3 ⟨#[97, 100, 100]⟩ [x]]) hgl hX5 ht (.inr rfl) (by simp; omega) (fun b h => .inl h) (HC4.out.kept hb5) (HB4.out.trans (But.of_below hb5)) (by rw [size1, size1]; (have := HPP.out; omega)) (tame1 (by decide) (by decide) (tame1 (by decide) (by decide) hxt)) (flatI1 (by decide) (by decide) (flatI1 (by decide) (by decide) hxf))
      have HE := Lib.hid hend
      have HXE := Lib.hid hX5
      clear hend ht hX5
      have hX := HXE.out
      obtain ⟨r0, r1, r2⟩ := cells3 hX
      have rf0 := hX.frozen 0
      have rf1 := hX.frozen 1
      have rf2 := hX.frozen 2
      have hlt := hX.lt
      clear hX
      go_wp2
      obtain ⟨e0, e1, e2, e3⟩ := HE.out _ rfl
      exact bodyPost_ret (v := .agg #[.int .i64 2, .string ⟨#[108, 105, 115, 116]⟩, .slice A5 1 c5]) (by simp [results, Tryd.results37, go_sem, e0, e1, e2] <;> first | rfl | exact ⟨rfl, rfl⟩ | exact ⟨rfl, rfl, rfl⟩) rfl e3
    · have h1' : (z == 1) = false := by simpa using h1
      by_cases h2 : z = 2
      · subst h2
        have hend := drawEnd (G := G) (P := varWords) (N := 2 ^ (k + 1) + 1) (x := .mk 4 ⟨#[115, 104, 111, 119]⟩ []) (A := none) (cc := 0) hgl HX3.out (TopT.nil (fun b => G b ∨ b = w.heap.size) w3 _) (.inr rfl) (HG3.out _ (.inr rfl)) (fun b h => .inl h) HC3.out HB3.out (by rw [size0]; (have := HPP.out; omega)) (tame0 (by decide) (by decide)) (flatC (by decide))
        simp only [TypeX.kind_, TypeX.name_, TypeX.args_, List.length_nil] at hend
        have HE := Lib.hid hend
        have HXE := HX3
        clear hend
        have hX := HXE.out
        obtain ⟨r0, r1, r2⟩ := cells3 hX
        have rf0 := hX.frozen 0
        have rf1 := hX.frozen 1
        have rf2 := hX.frozen 2
        have hlt := hX.lt
        clear hX
        go_wp2
        obtain ⟨e0, e1, e2, e3⟩ := HE.out _ rfl
        exact bodyPost_ret (v := .agg #[.int .i64 4, .string ⟨#[115, 104, 111, 119]⟩, .slice none 0 0]) (by simp [results, Tryd.results37, go_sem, e0, e1, e2]) rfl e3
      · have h2' : (z == 2) = false := by simpa using h2
        have hend := drawEnd (G := G) (P := varWords) (N := 2 ^ (k + 1) + 1) (x := x) hgl HX3.out HT3.out (.inr rfl) (by simp only [World.size_alloc]; omega) (fun b h => .inl h) HC3.out HB3.out (by have := HPP.out; omega) hxt hxf
        have HE := Lib.hid hend
        have HXE := HX3
        clear hend
        have hX := HXE.out
        obtain ⟨r0, r1, r2⟩ := cells3 hX
        have rf0 := hX.frozen 0
        have rf1 := hX.frozen 1
        have rf2 := hX.frozen 2
        have hlt := hX.lt
        clear hX
        go_wp2
        obtain ⟨e0, e1, e2, e3⟩ := HE.out _ rfl
        exact bodyPost_ret (v := .agg #[.int .i64 x.kind_, .string x.name_, .slice A2 x.args_.length c2]) (by simp [results, Tryd.results37, go_sem, e0, e1, e2]) rfl e3
end Go.Proofs.YtngbilblddngcaaDoor

/- The draws of chapter 4: l4Ty. -/
import Derived.Test.YtngbilblddngcaaDoorQ1
namespace Go.Proofs.YtngbilblddngcaaDoor
open Go.RowKit Go.Lib

def baseWords : List ByteArray := [⟨#[105, 110, 116]⟩, ⟨#[98, 111, 111, 108]⟩, ⟨#[117, 110, 105, 116]⟩]
theorem baseWords_short {x : ByteArray} (h : x ∈ baseWords) : x.size ≤ 9 := by
  simp only [baseWords, List.mem_cons, List.mem_nil_iff, or_false] at h
  rcases h with rfl | rfl | rfl <;> decide
def conWords : List ByteArray := [⟨#[108, 105, 115, 116]⟩, ⟨#[108, 105, 115, 116]⟩, ⟨#[98, 111, 120]⟩]
theorem conWords_short {x : ByteArray} (h : x ∈ conWords) : x.size ≤ 9 := by
  simp only [conWords, List.mem_cons, List.mem_nil_iff, or_false] at h
  rcases h with rfl | rfl | rfl <;> decide

theorem conWords_long {x : ByteArray} (h : x ∈ conWords) : 1 < x.size := by
  simp only [conWords, List.mem_cons, List.not_mem_nil, or_false] at h
  rcases h with rfl | rfl | rfl <;> decide
theorem base_tame {s : ByteArray} (h : s.size ≤ 100) : (TypeX.mk 2 s []).tame := by rw [TypeX.tame]; exact ⟨by omega, h, by rw [TypeX.tameL]; trivial, fun _ _ => by rw [TypeX.namesL]⟩
theorem var_tame {s : ByteArray} (h : s.size ≤ 100) : (TypeX.mk 1 s []).tame := by rw [TypeX.tame]; exact ⟨by omega, h, by rw [TypeX.tameL]; trivial, fun _ _ => by rw [TypeX.namesL]⟩
theorem con1_tame {s : ByteArray} {x : TypeX} (h : s.size ≤ 100) (hx : x.tame) : (TypeX.mk 2 s [x]).tame := by rw [TypeX.tame]; exact ⟨by omega, h, by rw [TypeX.tameL, TypeX.tameL]; exact ⟨hx, trivial⟩, fun h => absurd h (by decide)⟩
theorem con2_tame {s : ByteArray} {x y : TypeX} (h : s.size ≤ 100) (hx : x.tame) (hy : y.tame) : (TypeX.mk 2 s [x, y]).tame := by rw [TypeX.tame]; exact ⟨by omega, h, by rw [TypeX.tameL, TypeX.tameL, TypeX.tameL]; exact ⟨hx, hy, trivial⟩, fun h => absurd h (by decide)⟩
theorem size0 (k : Int) (s : ByteArray) : (TypeX.mk k s []).size = 1 := by rw [TypeX.size, TypeX.sizeL]
theorem size1 (k : Int) (s : ByteArray) (x : TypeX) : (TypeX.mk k s [x]).size = 1 + x.size := by rw [TypeX.size, TypeX.sizeL, TypeX.sizeL]; rfl
theorem size2 (k : Int) (s : ByteArray) (x y : TypeX) : (TypeX.mk k s [x, y]).size = 1 + (x.size + y.size) := by rw [TypeX.size, TypeX.sizeL, TypeX.sizeL, TypeX.sizeL]; rfl

/-- Two types in a new row. -/
theorem row_two {G : Nat → Prop} {w : World} {x y : TypeX} {A B : Option Addr} {c d : Nat} (hx : TypeRow w (Nog G w) A c x.args_) (hy : TypeRow w (Nog G w) B d y.args_) (hG : ∀ b, G b → b < w.heap.size) :
    TypeRow (w.alloc (.cells #[.int .i64 x.kind_, .string x.name_, .slice A x.args_.length c, .int .i64 y.kind_, .string y.name_, .slice B y.args_.length d] 26)) (Nog G (w.alloc (.cells #[.int .i64 x.kind_, .string x.name_, .slice A x.args_.length c, .int .i64 y.kind_, .string y.name_, .slice B y.args_.length d] 26))) (some ⟨w.heap.size, 0, none⟩) 2 [x, y] := by
  have hb := (Below.refl w.heap.size w).alloc (Nat.le_refl _) (.cells #[.int .i64 x.kind_, .string x.name_, .slice A x.args_.length c, .int .i64 y.kind_, .string y.name_, .slice B y.args_.length d] 26)
  have ho := World.ownsRow_lit (base := w.heap.size) (size := 3) (e := 26) w #[.int .i64 x.kind_, .string x.name_, .slice A x.args_.length c, .int .i64 y.kind_, .string y.name_, .slice B y.args_.length d] 2 (Nat.le_refl _) (by decide) rfl
  obtain ⟨A2, c2, e, hr⟩ := own_typeRow (l := [x, y]) (P := Nog G (w.alloc (.cells #[.int .i64 x.kind_, .string x.name_, .slice A x.args_.length c, .int .i64 y.kind_, .string y.name_, .slice B y.args_.length d] 26))) ho ⟨A, c, _, rfl, hx.nog hb, B, d, [], rfl, hy.nog hb, rfl⟩ (fun b h => h) (fun b h => by simp [Value.ownBlock] at h; subst h; exact ⟨by simp, fun h => by have := hG _ h; omega⟩)
  injection e with e1 _ e2
  subst e1 e2
  exact hr
theorem row_one {G : Nat → Prop} {w : World} {x : TypeX} {A : Option Addr} {c : Nat} (hx : TypeRow w (Nog G w) A c x.args_) (hG : ∀ b, G b → b < w.heap.size) :
    TypeRow (w.alloc (.cells #[.int .i64 x.kind_, .string x.name_, .slice A x.args_.length c] 26)) (Nog G (w.alloc (.cells #[.int .i64 x.kind_, .string x.name_, .slice A x.args_.length c] 26))) (some ⟨w.heap.size, 0, none⟩) 1 [x] := by
  have hb := (Below.refl w.heap.size w).alloc (Nat.le_refl _) (.cells #[.int .i64 x.kind_, .string x.name_, .slice A x.args_.length c] 26)
  have ho := World.ownsRow_lit (base := w.heap.size) (size := 3) (e := 26) w #[.int .i64 x.kind_, .string x.name_, .slice A x.args_.length c] 1 (Nat.le_refl _) (by decide) rfl
  obtain ⟨A2, c2, e, hr⟩ := own_typeRow (l := [x]) (P := Nog G (w.alloc (.cells #[.int .i64 x.kind_, .string x.name_, .slice A x.args_.length c] 26))) ho ⟨A, c, [], rfl, hx.nog hb, rfl⟩ (fun b h => h) (fun b h => by simp [Value.ownBlock] at h; subst h; exact ⟨by simp, fun h => by have := hG _ h; omega⟩)
  injection e with e1 _ e2
  subst e1 e2
  exact hr
theorem TypeRow.nogBut {G : Nat → Prop} {g : Nat} {w w' : World} {A : Option Addr} {c : Nat} {l : List TypeX} (h : TypeRow w (Nog G w) A c l) (hg : G g) (hb : But g w w') : TypeRow w' (Nog G w') A c l :=
  h.frame (fun _ h => ⟨Nat.lt_of_lt_of_le h.1 hb.size, h.2⟩) fun b o h => World.cell?_of_block (a := ⟨b, o, none⟩) (hb.block b h.1 (fun e => h.2 (e ▸ hg)))
theorem Strs.butN {w w' : World} {A : Option Addr} {ss : List ByteArray} {g : Nat} (h : Strs w A ss) (hb : But g w w') (hne : ∀ ad, A = some ad → ad.block ≠ g) : Strs w' A ss := by
  rcases h with h | ⟨b, o, hA, hg, hc⟩
  · exact .inl h
  · exact hb.strs hc hg (hne _ hA) |> fun h' => by subst hA; exact h'

def DrawTyK (k : Nat) : Prop := ∀ (G : Nat → Prop) (B g : Nat) (A : Option Addr) (c : Nat) (vs : List ByteArray) (w : World), (∀ b, G b → b < w.heap.size) → G g → Cur w B g → Strs w A vs → (∀ ad, A = some ad → ad.block ≠ g) → 0 < vs.length → vs.length ≤ 1000 → (∀ s ∈ vs, s.size ≤ 100) →
  Calls Tryd.prog 53 #[.pointer (some ⟨g, 0, none⟩), .slice A vs.length c, .int .i64 k] w (DrawnF G vs (2 ^ (k + 1) - 1) B g w)
set_option maxRecDepth 100000 in
set_option maxHeartbeats 1000000 in
theorem drawTy0 : DrawTyK 0 := by
  intro G B g A c vs w hG hg hc hv hne hv0 hv1 hvs
  have hgl := hc.lt
  have hbX : Below w.heap.size w (w.alloc (.cells zeroT 26)) := (Below.refl _ _).alloc (Nat.le_refl _) _
  have HXX := Lib.hid (Whole.new w 26 zeroT)
  have HCC := Lib.hid (hc.kept hbX)
  have HVV := Lib.hid (hv.below hbX)
  have HBB := Lib.hid (But.of_below (g := g) hbX)
  have HNE := Lib.hid hne
  have HVS := Lib.hid hvs
  have HG := Lib.hid hG
  have hGX : ∀ b, (G b ∨ b = w.heap.size) → b < (w.alloc (.cells zeroT 26)).heap.size := fun b h => by simp; exact h.elim (fun h => by have := hG b h; omega) (fun e => by omega)
  have HGX := Lib.hid hGX
  clear hc hv hbX hne hvs hG hGX
  go_enter Tryd.func53, Tryd.ntmps53
  go_wp2_with fail
  refine (drawBelow B g 8 _ HCC.out (by decide) (by decide)).mono ?_
  rintro e w1 ⟨v, rfl, ⟨z, rfl, hz0, hz8⟩, hc1, hb1⟩
  have HX1 := Lib.hid (whole_but HXX.out hb1 (by omega))
  have HV1 := Lib.hid (HVV.out.butN hb1 HNE.out)
  have HB1 := Lib.hid (HBB.out.trans hb1)
  have HC1 := Lib.hid hc1
  have hs1 := hb1.size
  simp only [World.size_alloc] at hs1
  clear hc1
  by_cases h3 : z < 3
  · skip
    obtain ⟨rv, hrv⟩ : ∃ n : Int, n = (vs.length : Int) := ⟨_, rfl⟩
    go_wp2_with fail
    refine (drawBelow B g (vs.length : Int) _ HC1.out (by omega) (by omega)).mono ?_
    rintro e w2 ⟨v, rfl, ⟨i, rfl, hi0, hi1⟩, hc2, hb2⟩
    obtain ⟨k2, rfl⟩ := Int.eq_ofNat_of_zero_le hi0
    have hk2 : k2 < vs.length := by omega
    obtain ⟨gv, ov, hAv, hcv⟩ := (HV1.out.butN hb2 HNE.out).at_ hk2
    subst hAv
    have HX2 := Lib.hid (whole_but HX1.out hb2 (by omega))
    have HB2 := Lib.hid (HB1.out.trans hb2)
    have HC2 := Lib.hid hc2
    have hsv := HVS.out _ (List.getElem_mem hk2)
    have hs2 := hb2.size
    clear hc2 hrv
    go_wp2_with fail
    refine (varC (fun b => G b ∨ b = w.heap.size) vs[k2] _).mono ?_
    rintro e w3 ⟨⟨V, rfl, ht⟩, hb3⟩
    obtain ⟨A3, c3, rfl⟩ := ht.shape
    have hX3 := whole_keep HX2.out hb3
    have hend := drawEnd (G := G) (P := vs) (N := 2 ^ (0 + 1) - 1) (x := .mk 1 vs[k2] []) hgl hX3 ht (.inr rfl) (by omega) (fun b h => .inl h) (HC2.out.kept hb3) (HB2.out.trans (But.of_below hb3)) (by rw [size0]; decide) (var_tame hsv) (flatV (List.getElem_mem _))
    have HE := Lib.hid hend
    have HXE := Lib.hid hX3
    clear hend ht hX3
    have hX := HXE.out
    obtain ⟨r0, r1, r2⟩ := cells3 hX
    have rf0 := hX.frozen 0
    have rf1 := hX.frozen 1
    have rf2 := hX.frozen 2
    have hlt := hX.lt
    clear hX
    go_wp2
    obtain ⟨e0, e1, e2, e3⟩ := HE.out _ rfl
    exact bodyPost_ret (v := .agg #[.int .i64 1, .string vs[k2], .slice A3 0 c3]) (by simp [results, Tryd.results53, go_sem, e0, e1, e2]; first | rfl | exact ⟨rfl, rfl⟩ | exact ⟨rfl, rfl, rfl⟩) rfl e3
  · by_cases h5 : z < 5
    · skip
      have hp1 := Whole.new w1 9 (baseWords.map Value.string).toArray
      have hbp : Below w1.heap.size w1 (w1.alloc (.cells (baseWords.map Value.string).toArray 9)) := (Below.refl _ _).alloc (Nat.le_refl _) _
      have HP := Lib.hid hp1
      have HCP := Lib.hid (HC1.out.kept hbp)
      have HXP := Lib.hid (whole_keep HX1.out hbp)
      have HBP := Lib.hid (HB1.out.trans (But.of_below hbp))
      clear hp1 hbp
      go_wp2_with fail
      refine (drawPick B g w1.heap.size 3 baseWords _ HCP.out HP.out (by decide) (by decide) (by omega)).mono ?_
      rintro e w2 ⟨v, rfl, ⟨s, hsm, rfl⟩, hc2, hb2⟩
      have hss := baseWords_short hsm
      have HX2 := Lib.hid (whole_but HXP.out hb2 (by omega))
      have HB2 := Lib.hid (HBP.out.trans hb2)
      have HC2 := Lib.hid hc2
      have hs2 := hb2.size
      simp only [World.size_alloc] at hs2
      clear hc2 hsm
      go_wp2_with fail
      refine (conC (fun b => G b ∨ b = w.heap.size) s none 0 [] _ (by decide) (TypeRow.nil _ _ _ _ (by decide))).mono ?_
      rintro e w3 ⟨⟨V, rfl, ht⟩, hb3⟩
      obtain ⟨A3, c3, rfl⟩ := ht.shape
      have hX3 := whole_keep HX2.out hb3
      have hend := drawEnd (G := G) (P := vs) (N := 2 ^ (0 + 1) - 1) (x := .mk 2 s []) hgl hX3 ht (.inr rfl) (by omega) (fun b h => .inl h) (HC2.out.kept hb3) (HB2.out.trans (But.of_below hb3)) (by rw [size0]; decide) (base_tame (by omega)) (flatC (by decide))
      have HE := Lib.hid hend
      have HXE := Lib.hid hX3
      clear hend ht hX3
      have hX := HXE.out
      obtain ⟨r0, r1, r2⟩ := cells3 hX
      have rf0 := hX.frozen 0
      have rf1 := hX.frozen 1
      have rf2 := hX.frozen 2
      have hlt := hX.lt
      clear hX
      go_wp2
      obtain ⟨e0, e1, e2, e3⟩ := HE.out _ rfl
      exact bodyPost_ret (v := .agg #[.int .i64 2, .string s, .slice A3 0 c3]) (by simp [results, Tryd.results53, go_sem, e0, e1, e2]; first | rfl | exact ⟨rfl, rfl⟩ | exact ⟨rfl, rfl, rfl⟩) rfl e3
    · skip
      have hp1 := Whole.new w1 9 (baseWords.map Value.string).toArray
      have hbp : Below w1.heap.size w1 (w1.alloc (.cells (baseWords.map Value.string).toArray 9)) := (Below.refl _ _).alloc (Nat.le_refl _) _
      have HP := Lib.hid hp1
      have HCP := Lib.hid (HC1.out.kept hbp)
      have HXP := Lib.hid (whole_keep HX1.out hbp)
      have HBP := Lib.hid (HB1.out.trans (But.of_below hbp))
      clear hp1 hbp
      go_wp2_with fail
      refine (drawPick B g w1.heap.size 3 baseWords _ HCP.out HP.out (by decide) (by decide) (by omega)).mono ?_
      rintro e w2 ⟨v, rfl, ⟨s, hsm, rfl⟩, hc2, hb2⟩
      have hss := baseWords_short hsm
      have HX2 := Lib.hid (whole_but HXP.out hb2 (by omega))
      have HB2 := Lib.hid (HBP.out.trans hb2)
      have HC2 := Lib.hid hc2
      have hs2 := hb2.size
      simp only [World.size_alloc] at hs2
      clear hc2 hsm
      go_wp2_with fail
      refine (conC (fun b => G b ∨ b = w.heap.size) s none 0 [] _ (by decide) (TypeRow.nil _ _ _ _ (by decide))).mono ?_
      rintro e w3 ⟨⟨V, rfl, ht⟩, hb3⟩
      obtain ⟨A3, c3, rfl⟩ := ht.shape
      have hX3 := whole_keep HX2.out hb3
      have hend := drawEnd (G := G) (P := vs) (N := 2 ^ (0 + 1) - 1) (x := .mk 2 s []) hgl hX3 ht (.inr rfl) (by omega) (fun b h => .inl h) (HC2.out.kept hb3) (HB2.out.trans (But.of_below hb3)) (by rw [size0]; decide) (base_tame (by omega)) (flatC (by decide))
      have HE := Lib.hid hend
      have HXE := Lib.hid hX3
      clear hend ht hX3
      have hX := HXE.out
      obtain ⟨r0, r1, r2⟩ := cells3 hX
      have rf0 := hX.frozen 0
      have rf1 := hX.frozen 1
      have rf2 := hX.frozen 2
      have hlt := hX.lt
      clear hX
      go_wp2
      obtain ⟨e0, e1, e2, e3⟩ := HE.out _ rfl
      exact bodyPost_ret (v := .agg #[.int .i64 2, .string s, .slice A3 0 c3]) (by simp [results, Tryd.results53, go_sem, e0, e1, e2]; first | rfl | exact ⟨rfl, rfl⟩ | exact ⟨rfl, rfl, rfl⟩) rfl e3
set_option maxRecDepth 100000 in
set_option maxHeartbeats 1000000 in
theorem drawTyS (k : Nat) (hkk : k ≤ 9) (ih : DrawTyK k) : DrawTyK (k + 1) := by
  intro G B g A c vs w hG hg hc hv hne hv0 hv1 hvs
  have hpw : 2 ^ (k + 1 + 1) = 2 * 2 ^ (k + 1) := by rw [Nat.pow_succ]; omega
  have hpp : 0 < 2 ^ (k + 1) := Nat.pos_of_ne_zero (by simp)
  have HPW := Lib.hid hpw
  have HPP := Lib.hid hpp
  clear hpw hpp
  have hgl := hc.lt
  have hbX : Below w.heap.size w (w.alloc (.cells zeroT 26)) := (Below.refl _ _).alloc (Nat.le_refl _) _
  have HXX := Lib.hid (Whole.new w 26 zeroT)
  have HCC := Lib.hid (hc.kept hbX)
  have HVV := Lib.hid (hv.below hbX)
  have HBB := Lib.hid (But.of_below (g := g) hbX)
  have HNE := Lib.hid hne
  have HVS := Lib.hid hvs
  have HG := Lib.hid hG
  have hGX : ∀ b, (G b ∨ b = w.heap.size) → b < (w.alloc (.cells zeroT 26)).heap.size := fun b h => by simp; exact h.elim (fun h => by have := hG b h; omega) (fun e => by omega)
  have HGX := Lib.hid hGX
  clear hc hv hbX hne hvs hG hGX
  go_enter Tryd.func53, Tryd.ntmps53
  go_wp2_with fail
  refine (drawBelow B g 8 _ HCC.out (by decide) (by decide)).mono ?_
  rintro e w1 ⟨v, rfl, ⟨z, rfl, hz0, hz8⟩, hc1, hb1⟩
  have HX1 := Lib.hid (whole_but HXX.out hb1 (by omega))
  have HV1 := Lib.hid (HVV.out.butN hb1 HNE.out)
  have HB1 := Lib.hid (HBB.out.trans hb1)
  have HC1 := Lib.hid hc1
  have hs1 := hb1.size
  simp only [World.size_alloc] at hs1
  clear hc1
  by_cases h3 : z < 3
  · skip
    obtain ⟨rv, hrv⟩ : ∃ n : Int, n = (vs.length : Int) := ⟨_, rfl⟩
    go_wp2_with fail
    refine (drawBelow B g (vs.length : Int) _ HC1.out (by omega) (by omega)).mono ?_
    rintro e w2 ⟨v, rfl, ⟨i, rfl, hi0, hi1⟩, hc2, hb2⟩
    obtain ⟨k2, rfl⟩ := Int.eq_ofNat_of_zero_le hi0
    have hk2 : k2 < vs.length := by omega
    obtain ⟨gv, ov, hAv, hcv⟩ := (HV1.out.butN hb2 HNE.out).at_ hk2
    subst hAv
    have HX2 := Lib.hid (whole_but HX1.out hb2 (by omega))
    have HB2 := Lib.hid (HB1.out.trans hb2)
    have HC2 := Lib.hid hc2
    have hsv := HVS.out _ (List.getElem_mem hk2)
    have hs2 := hb2.size
    clear hc2 hrv
    go_wp2_with fail
    refine (varC (fun b => G b ∨ b = w.heap.size) vs[k2] _).mono ?_
    rintro e w3 ⟨⟨V, rfl, ht⟩, hb3⟩
    obtain ⟨A3, c3, rfl⟩ := ht.shape
    have hX3 := whole_keep HX2.out hb3
    have hend := drawEnd (G := G) (P := vs) (N := 2 ^ (k + 1 + 1) - 1) (x := .mk 1 vs[k2] []) hgl hX3 ht (.inr rfl) (by omega) (fun b h => .inl h) (HC2.out.kept hb3) (HB2.out.trans (But.of_below hb3)) (by rw [size0]; (have := HPW.out; have := HPP.out; omega)) (var_tame hsv) (flatV (List.getElem_mem _))
    have HE := Lib.hid hend
    have HXE := Lib.hid hX3
    clear hend ht hX3
    have hX := HXE.out
    obtain ⟨r0, r1, r2⟩ := cells3 hX
    have rf0 := hX.frozen 0
    have rf1 := hX.frozen 1
    have rf2 := hX.frozen 2
    have hlt := hX.lt
    clear hX
    go_wp2
    obtain ⟨e0, e1, e2, e3⟩ := HE.out _ rfl
    exact bodyPost_ret (v := .agg #[.int .i64 1, .string vs[k2], .slice A3 0 c3]) (by simp [results, Tryd.results53, go_sem, e0, e1, e2]; first | rfl | exact ⟨rfl, rfl⟩ | exact ⟨rfl, rfl, rfl⟩) rfl e3
  · by_cases h5 : z < 5
    · skip
      have hp1 := Whole.new w1 9 (baseWords.map Value.string).toArray
      have hbp : Below w1.heap.size w1 (w1.alloc (.cells (baseWords.map Value.string).toArray 9)) := (Below.refl _ _).alloc (Nat.le_refl _) _
      have HP := Lib.hid hp1
      have HCP := Lib.hid (HC1.out.kept hbp)
      have HXP := Lib.hid (whole_keep HX1.out hbp)
      have HBP := Lib.hid (HB1.out.trans (But.of_below hbp))
      clear hp1 hbp
      go_wp2_with fail
      refine (drawPick B g w1.heap.size 3 baseWords _ HCP.out HP.out (by decide) (by decide) (by omega)).mono ?_
      rintro e w2 ⟨v, rfl, ⟨s, hsm, rfl⟩, hc2, hb2⟩
      have hss := baseWords_short hsm
      have HX2 := Lib.hid (whole_but HXP.out hb2 (by omega))
      have HB2 := Lib.hid (HBP.out.trans hb2)
      have HC2 := Lib.hid hc2
      have hs2 := hb2.size
      simp only [World.size_alloc] at hs2
      clear hc2 hsm
      go_wp2_with fail
      refine (conC (fun b => G b ∨ b = w.heap.size) s none 0 [] _ (by decide) (TypeRow.nil _ _ _ _ (by decide))).mono ?_
      rintro e w3 ⟨⟨V, rfl, ht⟩, hb3⟩
      obtain ⟨A3, c3, rfl⟩ := ht.shape
      have hX3 := whole_keep HX2.out hb3
      have hend := drawEnd (G := G) (P := vs) (N := 2 ^ (k + 1 + 1) - 1) (x := .mk 2 s []) hgl hX3 ht (.inr rfl) (by omega) (fun b h => .inl h) (HC2.out.kept hb3) (HB2.out.trans (But.of_below hb3)) (by rw [size0]; (have := HPW.out; have := HPP.out; omega)) (base_tame (by omega)) (flatC (by decide))
      have HE := Lib.hid hend
      have HXE := Lib.hid hX3
      clear hend ht hX3
      have hX := HXE.out
      obtain ⟨r0, r1, r2⟩ := cells3 hX
      have rf0 := hX.frozen 0
      have rf1 := hX.frozen 1
      have rf2 := hX.frozen 2
      have hlt := hX.lt
      clear hX
      go_wp2
      obtain ⟨e0, e1, e2, e3⟩ := HE.out _ rfl
      exact bodyPost_ret (v := .agg #[.int .i64 2, .string s, .slice A3 0 c3]) (by simp [results, Tryd.results53, go_sem, e0, e1, e2]; first | rfl | exact ⟨rfl, rfl⟩ | exact ⟨rfl, rfl, rfl⟩) rfl e3
    · by_cases h6 : z = 5
      · subst h6
        go_wp2_with fail
        refine (ih (fun b => G b ∨ b = w.heap.size) B g A c vs _ (fun b h => by have := HGX.out b h; simp at this; omega) (.inl hg) HC1.out HV1.out HNE.out hv0 hv1 HVS.out).mono ?_
        rintro e w2 ⟨x, ⟨V2, rfl, ht2⟩, hxs, hxt, hxf, hc2, hb2⟩
        obtain ⟨A2, c2, rfl⟩ := ht2.shape
        obtain ⟨A2', c2', e2, hr2⟩ := ht2.row (fun b h => by have := HGX.out b h; simp at this; omega)
        injection e2 with e2 _ e3
        subst e2 e3
        have HR2 := Lib.hid hr2
        have HX2 := Lib.hid (whole_but HX1.out hb2 (by omega))
        have HV2 := Lib.hid (HV1.out.butN hb2 HNE.out)
        have HB2 := Lib.hid (HB1.out.trans hb2)
        have HC2 := Lib.hid hc2
        have hs2 := hb2.size
        clear hc2 hr2 ht2
        go_wp2_with fail
        refine (ih (fun b => G b ∨ b = w.heap.size) B g A c vs _ (fun b h => by have := HGX.out b h; simp at this; omega) (.inl hg) HC2.out HV2.out HNE.out hv0 hv1 HVS.out).mono ?_
        rintro e w3 ⟨y, ⟨V3, rfl, ht3⟩, hys, hyt, hyf, hc3, hb3⟩
        obtain ⟨A3, c3, rfl⟩ := ht3.shape
        obtain ⟨A3', c3', e3, hr3⟩ := ht3.row (fun b h => by have := HGX.out b h; simp at this; omega)
        injection e3 with e3 _ e4
        subst e3 e4
        have hGw3 : ∀ b, (G b ∨ b = w.heap.size) → b < w3.heap.size := fun b h => by have := HGX.out b h; have := hb3.size; simp at *; omega
        have HROW := Lib.hid (row_two (HR2.out.nogBut (.inl hg) hb3) hr3 hGw3)
        have hbr : Below w3.heap.size w3 (w3.alloc (.cells #[.int .i64 x.kind_, .string x.name_, .slice A2 x.args_.length c2, .int .i64 y.kind_, .string y.name_, .slice A3 y.args_.length c3] 26)) := (Below.refl _ _).alloc (Nat.le_refl _) _
        have HX3 := Lib.hid (whole_keep (whole_but HX2.out hb3 (by omega)) hbr)
        have HB3 := Lib.hid ((HB2.out.trans hb3).trans (But.of_below hbr))
        have HC3 := Lib.hid (hc3.kept hbr)
        have hs3 := hb3.size
        clear hc3 hr3 ht3 hbr hGw3
        go_wp2_with fail
        refine (conC (fun b => G b ∨ b = w.heap.size) ⟨#[112, 97, 105, 114]⟩ (some ⟨w3.heap.size, 0, none⟩) 2 [x, y] _ (by simp) HROW.out).mono ?_
        rintro e w4 ⟨⟨V, rfl, ht⟩, hb4⟩
        obtain ⟨A4, c4, rfl⟩ := ht.shape
        have hX4 := whole_keep HX3.out hb4
        have hend := drawEnd (G := G) (P := vs) (N := 2 ^ (k + 1 + 1) - 1) (x := .mk 2 ⟨#[112, 97, 105, 114]⟩ [x, y]) hgl hX4 ht (.inr rfl) (by simp; omega) (fun b h => .inl h) (HC3.out.kept hb4) (HB3.out.trans (But.of_below hb4)) (by rw [size2]; (have := HPW.out; have := HPP.out; omega)) (con2_tame (by decide) hxt hyt) (flatI2 (by decide) (by decide) hxf hyf)
        have HE := Lib.hid hend
        have HXE := Lib.hid hX4
        clear hend ht hX4
        have hX := HXE.out
        obtain ⟨r0, r1, r2⟩ := cells3 hX
        have rf0 := hX.frozen 0
        have rf1 := hX.frozen 1
        have rf2 := hX.frozen 2
        have hlt := hX.lt
        clear hX
        go_wp2
        obtain ⟨e0, e1, e2, e3⟩ := HE.out _ rfl
        exact bodyPost_ret (v := .agg #[.int .i64 2, .string ⟨#[112, 97, 105, 114]⟩, .slice A4 2 c4]) (by simp [results, Tryd.results53, go_sem, e0, e1, e2]; first | rfl | exact ⟨rfl, rfl⟩ | exact ⟨rfl, rfl, rfl⟩) rfl e3
      · have h6' : (z == 5) = false := by simpa using h6
        have hp1 := Whole.new w1 9 (conWords.map Value.string).toArray
        have hbp : Below w1.heap.size w1 (w1.alloc (.cells (conWords.map Value.string).toArray 9)) := (Below.refl _ _).alloc (Nat.le_refl _) _
        have HP := Lib.hid hp1
        have HCP := Lib.hid (HC1.out.kept hbp)
        have HXP := Lib.hid (whole_keep HX1.out hbp)
        have HVP := Lib.hid (HV1.out.below hbp)
        have HBP := Lib.hid (HB1.out.trans (But.of_below hbp))
        clear hp1 hbp
        go_wp2_with fail
        refine (drawPick B g w1.heap.size 3 conWords _ HCP.out HP.out (by decide) (by decide) (by omega)).mono ?_
        rintro e w2 ⟨v, rfl, ⟨s, hsm, rfl⟩, hc2, hb2⟩
        have hss := conWords_short hsm
        have hsl := conWords_long hsm
        have HX2 := Lib.hid (whole_but HXP.out hb2 (by omega))
        have HV2 := Lib.hid (HVP.out.butN hb2 HNE.out)
        have HB2 := Lib.hid (HBP.out.trans hb2)
        have HC2 := Lib.hid hc2
        have hs2 := hb2.size
        simp only [World.size_alloc] at hs2
        clear hc2 hsm
        go_wp2_with fail
        refine (ih (fun b => G b ∨ b = w.heap.size) B g A c vs _ (fun b h => by have := HGX.out b h; simp at this; omega) (.inl hg) HC2.out HV2.out HNE.out hv0 hv1 HVS.out).mono ?_
        rintro e w3 ⟨y, ⟨V3, rfl, ht3⟩, hys, hyt, hyf, hc3, hb3⟩
        obtain ⟨A3, c3, rfl⟩ := ht3.shape
        obtain ⟨A3', c3', e3, hr3⟩ := ht3.row (fun b h => by have := HGX.out b h; simp at this; omega)
        injection e3 with e3 _ e4
        subst e3 e4
        have hGw3 : ∀ b, (G b ∨ b = w.heap.size) → b < w3.heap.size := fun b h => by have := HGX.out b h; have := hb3.size; simp at *; omega
        have HROW := Lib.hid (row_one hr3 hGw3)
        have hbr : Below w3.heap.size w3 (w3.alloc (.cells #[.int .i64 y.kind_, .string y.name_, .slice A3 y.args_.length c3] 26)) := (Below.refl _ _).alloc (Nat.le_refl _) _
        have HX3 := Lib.hid (whole_keep (whole_but HX2.out hb3 (by omega)) hbr)
        have HB3 := Lib.hid ((HB2.out.trans hb3).trans (But.of_below hbr))
        have HC3 := Lib.hid (hc3.kept hbr)
        have hs3 := hb3.size
        clear hc3 hr3 ht3 hbr hGw3
        go_wp2_with fail
        refine (conC (fun b => G b ∨ b = w.heap.size) s (some ⟨w3.heap.size, 0, none⟩) 1 [y] _ (by simp) HROW.out).mono ?_
        rintro e w4 ⟨⟨V, rfl, ht⟩, hb4⟩
        obtain ⟨A4, c4, rfl⟩ := ht.shape
        have hX4 := whole_keep HX3.out hb4
        have hend := drawEnd (G := G) (P := vs) (N := 2 ^ (k + 1 + 1) - 1) (x := .mk 2 s [y]) hgl hX4 ht (.inr rfl) (by simp; omega) (fun b h => .inl h) (HC3.out.kept hb4) (HB3.out.trans (But.of_below hb4)) (by rw [size1]; (have := HPW.out; have := HPP.out; omega)) (con1_tame (by omega) hyt) (flatI1 (by decide) hsl hyf)
        have HE := Lib.hid hend
        have HXE := Lib.hid hX4
        clear hend ht hX4
        have hX := HXE.out
        obtain ⟨r0, r1, r2⟩ := cells3 hX
        have rf0 := hX.frozen 0
        have rf1 := hX.frozen 1
        have rf2 := hX.frozen 2
        have hlt := hX.lt
        clear hX
        go_wp2
        obtain ⟨e0, e1, e2, e3⟩ := HE.out _ rfl
        exact bodyPost_ret (v := .agg #[.int .i64 2, .string s, .slice A4 1 c4]) (by simp [results, Tryd.results53, go_sem, e0, e1, e2]; first | rfl | exact ⟨rfl, rfl⟩ | exact ⟨rfl, rfl, rfl⟩) rfl e3
theorem drawTy : ∀ k, k ≤ 10 → DrawTyK k
  | 0, _ => drawTy0
  | k + 1, h => drawTyS k (by omega) (drawTy k (by omega))
end Go.Proofs.YtngbilblddngcaaDoor

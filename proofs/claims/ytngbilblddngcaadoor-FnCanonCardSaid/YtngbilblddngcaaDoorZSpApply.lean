/- The reference model's Apply and ApplyAll. -/
import Derived.Test.YtngbilblddngcaaDoorZSpLook
import Derived.Test.YtngbilblddngcaaDoorZApplyI
namespace Go.Proofs.YtngbilblddngcaaDoor
open Go.RowKit Go.Lib

def ApplyV (N : Nat) : Prop := ∀ (l : List BindingX) (A : Option Addr) (c : Nat) (x : TypeX) (D : Option Addr) (d : Nat) (w : World), x.size ≤ N → N ≤ 4294967296 → (∀ b ∈ l, b.type_.size ≤ 4294967296) → BindingRow w (Und w.heap.size) A c l → TypeRow w (Und w.heap.size) D d x.args_ →
  Calls Tryd.prog 39 #[.slice A l.length c, .agg #[.int .i64 x.kind_, .string x.name_, .slice D x.args_.length d]] w (MadeV (x.sub (subX l)).cells w)
def ApplyAllV (N : Nat) : Prop := ∀ (l : List BindingX) (A : Option Addr) (c : Nat) (xs : List TypeX) (D : Option Addr) (d : Nat) (w : World), TypeX.sizeL xs ≤ N → N ≤ 4294967296 → (∀ b ∈ l, b.type_.size ≤ 4294967296) → BindingRow w (Und w.heap.size) A c l → TypeRow w (Und w.heap.size) D d xs →
  Calls Tryd.prog 50 #[.slice A l.length c, .slice D xs.length d] w (MadeR (.row 26 3 (TypeX.rows (TypeX.subL (subX l) xs))) w)

set_option maxRecDepth 100000 in
set_option maxHeartbeats 4000000 in
theorem applyV_step (N : Nat) (ih : ApplyAllV N) : ApplyV (N + 1) := by
  intro l A c x D d w hn hN hl hA hx
  obtain ⟨W, hW⟩ : ∃ W, W = (w.alloc (.cells #[.int .i64 x.kind_, .string x.name_, .slice D x.args_.length d] 26)).alloc (.cells #[.int .i64 0, .string ⟨#[]⟩, .slice none 0 0] 26) := ⟨_, rfl⟩
  have hb0 : Below w.heap.size w W := by rw [hW]; exact ((Below.refl _ _).alloc (Nat.le_refl _) _).alloc (by simp) _
  have hs : W.heap.size = w.heap.size + 2 := by rw [hW]; simp
  have hx1 : Whole W w.heap.size 26 #[.int .i64 x.kind_, .string x.name_, .slice D x.args_.length d] := by rw [hW]; exact (Whole.new w _ _).below ((Below.refl (w.heap.size + 1) _).alloc (by simp) _) (by omega)
  have hx2 : Whole W (w.heap.size + 1) 26 #[.int .i64 0, .string ⟨#[]⟩, .slice none 0 0] := by
    have h := Whole.new (w.alloc (.cells #[.int .i64 x.kind_, .string x.name_, .slice D x.args_.length d] 26)) 26 #[.int .i64 0, .string ⟨#[]⟩, .slice none 0 0]
    rw [World.size_alloc] at h; rw [hW]; exact h
  have hsn : TypeX.sizeL x.args_ ≤ N := by rw [TypeX.size_eq] at hn; omega
  have hih := fun (W5 : World) (h5 : Below W.heap.size W W5) => ih l A c x.args_ D d W5.drew hsn (by omega) hl (((hA.grow hb0).grow h5).frame (fun _ h => h) fun _ _ _ => rfl) (((hx.grow hb0).grow h5).frame (fun _ h => h) fun _ _ _ => rfl)
  have hlk := specLookup l A c x.name_ W hl (hA.grow hb0)
  have HW := Lib.hid hW.symm
  have HB := Lib.hid hb0
  have HS := Lib.hid hs
  have HX1 := Lib.hid hx1
  have HX2 := Lib.hid hx2
  have HIH := Lib.hid hih
  have HLK := Lib.hid hlk
  clear hA hx hW hb0 hs hx1 hx2 hih hlk hl
  by_cases hk : x.kind_ = 1
  · have hkb : (x.kind_ == 1) = true := by rw [hk]; rfl
    cases hf : lookX x.name_ l with
    | some y =>
      have HSUB := Lib.hid (TypeX.sub_some (f := subX l) hk hf)
      have hlk := HLK.out
      rw [hf] at hlk
      have HLK2 := Lib.hid hlk
      clear hk hf hlk
      go_enter Tryd.func39, Tryd.ntmps39
      go_upto_region 1 with (fail)
      rw [HW.out]
      obtain ⟨p0, p1, p2⟩ := cells3 HX1.out
      have hlt := HX1.out.lt
      go_wp2_with fail
      refine HLK2.out.mono ?_
      rintro e w2 ⟨vs, bs, rfl, hO, hnd, hb2⟩
      obtain ⟨A2, c2, hvs⟩ : ∃ (A2 : Option Addr) (c2 : Nat), vs = [.int .i64 y.kind_, .string y.name_, .slice A2 y.args_.length c2] := by
        obtain ⟨vs', bs', A2, c2, h1, h2, _⟩ := madeT_get (x := y) (w := W) (w' := w2) (e := .returned (.agg vs.toArray)) ⟨vs, bs, rfl, hO, hnd, hb2⟩
        injection h2 with h2
        injection h2 with h2
        exact ⟨A2, c2, by rw [← h1]; exact List.toArray_inj h2⟩
      subst hvs
      have hx2 := HX2.out.below hb2 HX2.out.lt
      obtain ⟨z0, z1, z2⟩ := cells3 hx2
      have zf0 := hx2.frozen 0
      have zf1 := hx2.frozen 1
      have zf2 := hx2.frozen 2
      have zlt := hx2.lt
      have hend := tyEndY (k := y.kind_) (s := y.name_) (A := A2) (n := y.args_.length) (cc := c2) hx2 (Nat.le_succ _) (HB.out.trans (hb2.mono HB.out.size))
      have HE := Lib.hid hend
      have HO := Lib.hid hO
      have HN := Lib.hid hnd
      have HB2 := Lib.hid hb2
      clear hO hnd hb2 hx2 hend p0 p1 p2 hlt
      go_wp2
      obtain ⟨e0, e1, e2, hbut, hb4⟩ := HE.out _ rfl
      have hsz := hbut.size
      have hO4 := made_in HO.out (by have := HS.out; omega) hbut
      have hbx := (Below.refl _ (((w2.setCell ⟨w.heap.size + 1, 0, none⟩ (.int .i64 y.kind_)).setCell ⟨w.heap.size + 1, 1, none⟩ (.string y.name_)).setCell ⟨w.heap.size + 1, 2, none⟩ (.slice A2 y.args_.length c2))).alloc (Nat.le_refl _) (.cells #[.int .i64 y.kind_, .string y.name_, .slice A2 y.args_.length c2] 26)
      have e0' := (hbx.cell (p := ⟨w.heap.size + 1, 0, none⟩) (Nat.lt_of_lt_of_le zlt hsz)).trans e0
      have e1' := (hbx.cell (p := ⟨w.heap.size + 1, 1, none⟩) (Nat.lt_of_lt_of_le zlt hsz)).trans e1
      have e2' := (hbx.cell (p := ⟨w.heap.size + 1, 2, none⟩) (Nat.lt_of_lt_of_le zlt hsz)).trans e2
      exact bodyPost_ret (v := .agg #[.int .i64 y.kind_, .string y.name_, .slice A2 y.args_.length c2]) (by simp only [results, Tryd.results39]; simp [go_sem, e0', e1', e2']) rfl (by rw [HSUB.out]; exact ⟨_, _, rfl, OwVs_wide (by have := HS.out; omega) _ (OwVs_below hO4 hbx), HN.out, hb4.alloc (by have := HB.out.size; have := HB2.out.size; omega) _⟩)
    | none =>
      have HSUB := Lib.hid (TypeX.sub_else (f := subX l) (x := x) (by rintro ⟨_, h⟩; rw [subX, hf] at h; cases h))
      have hlk := HLK.out
      rw [hf] at hlk
      have HLK2 := Lib.hid hlk
      clear hk hf hlk
      go_enter Tryd.func39, Tryd.ntmps39
      go_upto_region 1 with (fail)
      rw [HW.out]
      obtain ⟨p0, p1, p2⟩ := cells3 HX1.out
      have hlt := HX1.out.lt
      go_wp2_with fail
      refine HLK2.out.mono ?_
      rintro e w2 ⟨vs, bs, rfl, hO, hnd, hb2⟩
      obtain ⟨A2, c2, hvs⟩ : ∃ (A2 : Option Addr) (c2 : Nat), vs = [.int .i64 0, .string ByteArray.empty, .slice A2 0 c2] := by
        obtain ⟨vs', bs', A2, c2, h1, h2, _⟩ := madeT_get (x := zeroX) (w := W) (w' := w2) (e := .returned (.agg vs.toArray)) ⟨vs, bs, rfl, hO, hnd, hb2⟩
        injection h2 with h2
        injection h2 with h2
        exact ⟨A2, c2, by have h3 := List.toArray_inj h2; rw [h1] at h3; exact h3⟩
      subst hvs
      have hbx : Below w2.heap.size w2 (w2.alloc (.cells #[.int .i64 0, .string ByteArray.empty, .slice A2 0 c2] 26)) := (Below.refl _ _).alloc (Nat.le_refl _) _
      obtain ⟨W5, hW5⟩ : ∃ W5, W5 = w2.alloc (.cells #[.int .i64 0, .string ByteArray.empty, .slice A2 0 c2] 26) := ⟨_, rfl⟩
      rw [← hW5] at hbx
      have hb5 : Below W.heap.size W W5 := hb2.trans (hbx.mono hb2.size)
      have hx1 := HX1.out.below hb2 HX1.out.lt
      obtain ⟨y0, y1, y2⟩ := cells3 hx1
      have ylt := hx1.lt
      have HW5 := Lib.hid hW5.symm
      have HC := Lib.hid (HIH.out W5 hb5)
      have HB5 := Lib.hid (HB.out.trans (hb5.mono HB.out.size))
      have HS5 := Lib.hid (show w.heap.size + 2 ≤ W5.heap.size by have := HS.out; have := hb5.size; omega)
      have HX1 := Lib.hid (HX1.out.below hb5 HX1.out.lt)
      have HX2 := Lib.hid (HX2.out.below hb5 HX2.out.lt)
      clear hO hnd hb2 hbx hb5 hW5 p0 p1 p2 hlt hx1
      go_upto_region 5 with (fail)
      rw [HW5.out]
      clear y0 y1 y2 ylt
      obtain ⟨p0, p1, p2⟩ := cells3 HX1.out
      obtain ⟨r0, r1, r2⟩ := cells3 HX2.out
      have rf0 := HX2.out.frozen 0
      have rf1 := HX2.out.frozen 1
      have rf2 := HX2.out.frozen 2
      have hlt := HX2.out.lt
      have H2E := Lib.hid (fun (w2 : World) (h : Below W5.heap.size W5 w2) => HX2.out.below h HX2.out.lt)
      have H1E := Lib.hid (fun (w2 : World) (h : Below W5.heap.size W5 w2) => HX1.out.below h HX1.out.lt)
      go_region_held3 (fun w' => w'.cell? ⟨w.heap.size, 0, none⟩ = some (.int .i64 x.kind_) ∧ w'.cell? ⟨w.heap.size, 1, none⟩ = some (.string x.name_) ∧ w'.cell? ⟨w.heap.size, 2, none⟩ = some (.slice D x.args_.length d))
        (first
          | go_keep
          | exact cells3 (H1E.out _ hb2))
        (first
          | (go_at_call 50
             refine HC.out.mono ?_
             rintro e w2 ⟨v, bs, rfl, hO, hnd, hb2⟩
             have hb2 : Below W5.heap.size W5 w2 := (Below.refl _ W5).drew.trans hb2
             obtain ⟨A2, c2, rfl⟩ := OwV_shape hO (TypeX.rows_length _)
             have hx2 := H2E.out w2 hb2
             obtain ⟨z0, z1, z2⟩ := cells3 hx2
             have zf0 := hx2.frozen 0
             have zf1 := hx2.frozen 1
             have zf2 := hx2.frozen 2
             have zlt := hx2.lt
             have hend := tyEndY (k := x.kind_) (s := x.name_) (A := A2) (n := (TypeX.subL (subX l) x.args_).length) (cc := c2) hx2 (Nat.le_succ _) (HB5.out.trans (hb2.mono HB5.out.size))
             have HE := Lib.hid hend
             have HO := Lib.hid hO
             have HN := Lib.hid hnd
             clear hend hO hnd hx2))
      all_goals
        obtain ⟨e0, e1, e2, hbut, hb4⟩ := HE.out _ rfl
        have hO4 := made_in (X := w.heap.size + 1) (y := .mk x.kind_ x.name_ (TypeX.subL (subX l) x.args_)) (cells_own (k := x.kind_) (s := x.name_) HO.out) (by have := HS5.out; show _ < W5.heap.size; omega) hbut
        have HO4 := Lib.hid hO4
        have HB4 := Lib.hid hb4
        clear hbut hb4 hO4
        go_wp2
        exact bodyPost_ret (v := .agg #[.int .i64 x.kind_, .string x.name_, .slice A2 (TypeX.subL (subX l) x.args_).length c2]) (by simp [results, Tryd.results39, go_sem, e0, e1, e2]) rfl (by rw [HSUB.out]; exact ⟨_, _, rfl, OwVs_wide (by have := HS5.out; show w.heap.size ≤ W5.heap.size; omega) _ HO4.out, HN.out, HB4.out⟩)
  · have hkb : (x.kind_ == 1) = false := by rw [beq_eq_false_iff_ne]; exact hk
    · have HSUB := Lib.hid (TypeX.sub_else (f := subX l) (x := x) (by rintro ⟨h, _⟩; exact hk h))
      clear hk
      go_enter Tryd.func39, Tryd.ntmps39
      go_upto_region 1 with (fail)
      rw [HW.out]
      obtain ⟨p0, p1, p2⟩ := cells3 HX1.out
      go_upto_region 5 with (fail)
      clear p0 p1 p2
      obtain ⟨W5, hW5⟩ : ∃ W5, W5 = W := ⟨_, rfl⟩
      have HC := Lib.hid (HIH.out W (Below.refl _ _))
      have HB5 := HB
      have HS5 := Lib.hid (show w.heap.size + 2 ≤ W.heap.size by have := HS.out; omega)
      rw [← hW5] at HC HB5 HS5 HX1 HX2 ⊢
      clear hW5
      obtain ⟨p0, p1, p2⟩ := cells3 HX1.out
      obtain ⟨r0, r1, r2⟩ := cells3 HX2.out
      have rf0 := HX2.out.frozen 0
      have rf1 := HX2.out.frozen 1
      have rf2 := HX2.out.frozen 2
      have hlt := HX2.out.lt
      have H2E := Lib.hid (fun (w2 : World) (h : Below W5.heap.size W5 w2) => HX2.out.below h HX2.out.lt)
      have H1E := Lib.hid (fun (w2 : World) (h : Below W5.heap.size W5 w2) => HX1.out.below h HX1.out.lt)
      go_region_held3 (fun w' => w'.cell? ⟨w.heap.size, 0, none⟩ = some (.int .i64 x.kind_) ∧ w'.cell? ⟨w.heap.size, 1, none⟩ = some (.string x.name_) ∧ w'.cell? ⟨w.heap.size, 2, none⟩ = some (.slice D x.args_.length d))
        (first
          | go_keep
          | exact cells3 (H1E.out _ hb2))
        (first
          | (go_at_call 50
             refine HC.out.mono ?_
             rintro e w2 ⟨v, bs, rfl, hO, hnd, hb2⟩
             have hb2 : Below W5.heap.size W5 w2 := (Below.refl _ W5).drew.trans hb2
             obtain ⟨A2, c2, rfl⟩ := OwV_shape hO (TypeX.rows_length _)
             have hx2 := H2E.out w2 hb2
             obtain ⟨z0, z1, z2⟩ := cells3 hx2
             have zf0 := hx2.frozen 0
             have zf1 := hx2.frozen 1
             have zf2 := hx2.frozen 2
             have zlt := hx2.lt
             have hend := tyEndY (k := x.kind_) (s := x.name_) (A := A2) (n := (TypeX.subL (subX l) x.args_).length) (cc := c2) hx2 (Nat.le_succ _) (HB5.out.trans (hb2.mono HB5.out.size))
             have HE := Lib.hid hend
             have HO := Lib.hid hO
             have HN := Lib.hid hnd
             clear hend hO hnd hx2))
      all_goals
        obtain ⟨e0, e1, e2, hbut, hb4⟩ := HE.out _ rfl
        have hO4 := made_in (X := w.heap.size + 1) (y := .mk x.kind_ x.name_ (TypeX.subL (subX l) x.args_)) (cells_own (k := x.kind_) (s := x.name_) HO.out) (by have := HS5.out; show _ < W5.heap.size; omega) hbut
        have HO4 := Lib.hid hO4
        have HB4 := Lib.hid hb4
        clear hbut hb4 hO4
        go_wp2
        exact bodyPost_ret (v := .agg #[.int .i64 x.kind_, .string x.name_, .slice A2 (TypeX.subL (subX l) x.args_).length c2]) (by simp [results, Tryd.results39, go_sem, e0, e1, e2]) rfl (by rw [HSUB.out]; exact ⟨_, _, rfl, OwVs_wide (by have := HS5.out; show w.heap.size ≤ W5.heap.size; omega) _ HO4.out, HN.out, HB4.out⟩)

set_option maxRecDepth 100000 in
set_option maxHeartbeats 4000000 in
theorem applyAllV_step (N : Nat) (ih : ApplyV N) : ApplyAllV N := by
  intro l A c xs D d w hn hN hl hA hD
  obtain ⟨i0, hi, hz0, hz1, hz2⟩ := info_parts infoTy
  have hcap := hD.cap
  have hll := sizeL_length xs
  have hb0 : Below w.heap.size w (w.alloc (.cells #[] 26)) := (Below.refl _ _).alloc (Nat.le_refl _) _
  have hown := World.ownsRow_made (base := w.heap.size) (e := 26) (size := 3) w #[] 0 (Nat.le_refl _) (by decide) rfl
  have HA := Lib.hid hA
  have HD := Lib.hid hD
  have HN := Lib.hid hn
  have HB := Lib.hid hb0
  have HO := Lib.hid hown
  have HL := Lib.hid hl
  clear hA hD hn hb0 hown hl
  go_enter Tryd.func50, Tryd.ntmps50
  go_wp2
  go_loopw [5, 6] (fun ov iv wr => ∃ (k : Nat), k ≤ xs.length ∧ iv = .int .i64 k ∧ MoreT w.heap.size ((TypeX.subL (subX l) xs).take k) ov wr ∧ Below w.heap.size w wr) (fun _ iv _ => xs.length - (Go.RowKit.intOf iv).toNat)
  case atStart => exact ⟨0, Nat.zero_le _, rfl, ⟨[], [], HO.out, by rw [List.take_zero, TypeX.rows, OwVE]; exact ⟨rfl, rfl⟩, by simp [Value.ownBlock]⟩, HB.out⟩
  case round =>
    obtain ⟨k, hk, rfl, ⟨vs, bs, hown, hE, hnd⟩, hb⟩ := hrel
    obtain ⟨A1, c1, rfl⟩ := own_nil hown
    by_cases hlt : k < xs.length
    · have hlt' : k < (TypeX.subL (subX l) xs).length := by rw [TypeX.subL_length]; exact hlt
      obtain ⟨b, o, A2, c2, rfl, hP, p0, p1, p2, h2⟩ := (HD.out.grow hb).at_ hlt
      have hsx : xs[k].size ≤ N := by have := TypeX.sizeL_at xs k hlt; have := HN.out; omega
      have hlen : ((TypeX.subL (subX l) xs).take k).length = k := by rw [List.length_take]; omega
      have HC := Lib.hid (ih l A c xs[k] A2 c2 wr hsx hN HL.out (HA.out.grow hb) h2)
      obtain ⟨y, hy⟩ : ∃ y, y = xs[k].sub (subX l) := ⟨_, rfl⟩
      have hat : (TypeX.subL (subX l) xs)[k] = y := by rw [hy]; simp [TypeX.subL_map]
      rw [← hy] at HC
      have HOW := Lib.hid hown
      have HE := Lib.hid hE
      have HND := Lib.hid hnd
      have HLN := Lib.hid hlen
      have HAT := Lib.hid hat
      clear h2 hown hE hnd hlen hat hy
      go_wp2_with fail
      refine HC.out.mono ?_
      intro e w6 hm
      obtain ⟨vs6, b6, A3, c3, rfl, rfl, hO6, hn6, hb6⟩ := madeT_get hm
      have hown6 := owns_below HOW.out hb6
      rw [HLN.out] at hown6
      have hbw := hb.trans (hb6.mono hb.size)
      have HO2 := Lib.hid (hown6.alloc (.cells #[.int .i64 y.kind_, .string y.name_, .slice A3 y.args_.length c3] 26))
      have HNW := Lib.hid (news3 w6 26 (.int .i64 y.kind_) (.string y.name_) (.slice A3 y.args_.length c3))
      have HO6 := Lib.hid hO6
      have HB6 := Lib.hid hb6
      have HN6 := Lib.hid hn6
      have hk3 : k ≤ 4294967296 := by have := HN.out; omega
      have hbase : w.heap.size ≤ w6.heap.size + 1 := by have := hbw.size; omega
      rw [HLN.out]
      clear hm hown6 hO6 hb6 hn6 p0 p1 p2
      go_wp2_with (at_builtin; refine wpList_append_any rfl (.tmp 14) (.tmp 21) 24 rfl w.heap.size 26 i0 (.agg #[.int .i64 0, .string ByteArray.empty, .slice none 0 0]) 3 48 Tryd.underlying24 hi hz0 hz1 hz2 rfl (by decide) (.slice A1 k c1) k vs rfl HO2.out (some ⟨w6.heap.size, 0, none⟩) 1 1 [.int .i64 y.kind_, .string y.name_, .slice A3 y.args_.length c3] rfl rfl (.inr ⟨_, rfl, HNW.out⟩) (one3 _ _ _ _ _) (by unfold maxLen; omega) (by omega) (by simpa using hbase) (w6.heap.size + 1) (by simp) ?_)
      intro V' w7 hown7 hgrow7 hat7
      have hpush : MoreT w.heap.size ((TypeX.subL (subX l) xs).take k ++ [y]) V' w7 := MoreT.push (x := y) HOW.out HE.out HND.out HB6.out rfl HO6.out HN6.out hb.size (by rw [HLN.out]; exact hown7) (by rw [HLN.out]; exact hgrow7) (by rw [HLN.out]; exact hat7)
      rw [← HAT.out, ← List.take_succ_eq_append_getElem hlt'] at hpush
      have hbk := (hbw.alloc hbw.size (.cells #[.int .i64 y.kind_, .string y.name_, .slice A3 y.args_.length c3] 26)).grown hgrow7 (by simpa using hbase) (fun j e => (HO2.out.lt j e).1)
      have HP := Lib.hid hpush
      have HBK := Lib.hid hbk
      clear hpush hown7 hgrow7 hat7 hbk
      go_wp2
      go_roundw
      case rel => exact ⟨k + 1, by omega, by go_num, HP.out, HBK.out⟩
      case measure => simp [Go.RowKit.intOf]; omega
    · obtain rfl : k = xs.length := by omega
      have htk : (TypeX.subL (subX l) xs).take xs.length = TypeX.subL (subX l) xs := List.take_of_length_le (by rw [TypeX.subL_length]; exact Nat.le_refl _)
      rw [htk] at hown hE
      obtain ⟨bs2, hrow, hnd2⟩ := MoreT.row ⟨vs, bs, hown, hE, by rw [htk] at hnd; exact hnd⟩
      have HR := Lib.hid hrow
      have HDD := Lib.hid hnd2
      rw [htk]
      clear hown hE hnd hrow hnd2 htk
      go_wp2
      go_ret
      exact ⟨_, _, rfl, HR.out, HDD.out, hb⟩
theorem applyV_zero : ApplyV 0 := by
  intro l A c x D d w hn
  rw [TypeX.size_eq] at hn
  omega
theorem applyV_all : ∀ N, ApplyV N
  | 0 => applyV_zero
  | N + 1 => applyV_step N (applyAllV_step N (applyV_all N))
theorem specApply (l : List BindingX) (A : Option Addr) (c : Nat) (x : TypeX) (D : Option Addr) (d : Nat) (w : World) (hx : x.size ≤ 4294967296) (hl : ∀ b ∈ l, b.type_.size ≤ 4294967296) (hA : BindingRow w (Und w.heap.size) A c l) (hv : TypeRow w (Und w.heap.size) D d x.args_) :
    Calls Tryd.prog 39 #[.slice A l.length c, .agg #[.int .i64 x.kind_, .string x.name_, .slice D x.args_.length d]] w (MadeV (x.sub (subX l)).cells w) := applyV_all x.size l A c x D d w (Nat.le_refl _) hx hl hA hv
theorem specApplyAll (l : List BindingX) (A : Option Addr) (c : Nat) (xs : List TypeX) (D : Option Addr) (d : Nat) (w : World) (hx : TypeX.sizeL xs ≤ 4294967296) (hl : ∀ b ∈ l, b.type_.size ≤ 4294967296) (hA : BindingRow w (Und w.heap.size) A c l) (hv : TypeRow w (Und w.heap.size) D d xs) :
    Calls Tryd.prog 50 #[.slice A l.length c, .slice D xs.length d] w (MadeR (.row 26 3 (TypeX.rows (TypeX.subL (subX l) xs))) w) := applyAllV_step (TypeX.sizeL xs) (applyV_all _) l A c xs D d w (Nat.le_refl _) hx hl hA hv
end Go.Proofs.YtngbilblddngcaaDoor

/- The program's renumberVariables: each variable under its new name. -/
import Derived.Test.YtngbilblddngcaaDoorZCanNum
import Derived.Test.YtngbilblddngcaaDoorZCopyI
namespace Go.Proofs.YtngbilblddngcaaDoor
open Go.RowKit Go.Lib Go.Proofs

theorem varX_own (n : ByteArray) (w : World) (B : Nat) : OwVs w B (TypeX.mk 1 n []).cells [.int .i64 1, .string n, .slice none 0 0] [] := by
  rw [TypeX.cells_eq]
  simp only [OwVs, OwV]
  refine ⟨_, _, [], [], rfl, rfl, ⟨rfl, rfl⟩, _, _, [], [], rfl, rfl, ⟨rfl, rfl⟩, _, _, [], [], rfl, rfl, ⟨[], [], ?_, ?_, rfl⟩, rfl, rfl⟩
  · rw [TypeX.rows_length]; exact World.ownsRow_nil _ _ _ _
  · rw [TypeX.rows_map]; exact ⟨rfl, rfl⟩
theorem hold_sets12 {B : Nat} {T : List Nat} {w w3 : World} {qb qo : Nat} {u1 u2 : Value} (hr : Room B T w) (hb : Below w.heap.size w w3) :
    Hold T [(qb, qo)] w ((w3.setCell ⟨qb, qo + 1, none⟩ u1).setCell ⟨qb, qo + 2, none⟩ u2) := by
  have h1 := hold_set (T := T) (p := (qb, qo)) w3 (i := 1) (by decide) u1
  have h2 := hold_set (T := T) (p := (qb, qo)) (w3.setCell ⟨qb, qo + 1, none⟩ u1) (i := 2) (by decide) u2
  have nil : ∀ b o, inPl [] b o → inPl [(qb, qo)] b o := fun _ _ ⟨_, hp, _⟩ => by simp at hp
  exact ((hold_below hr hb).trans h1 (fun _ h => h) nil (fun _ _ _ h => h)).trans h2 (fun _ h => h) (fun _ _ h => h) (fun _ _ _ h => h)

set_option maxRecDepth 100000 in
set_option maxHeartbeats 4000000 in
theorem chgRenum (vs : List ByteArray) (mb bx : Nat) (w : World) (hnd : vs.Nodup) (hvl : vs.length ≤ 4294967296) (hbx : bx < w.heap.size) (hs : w.cell? ⟨bx, 0, none⟩ = some (.map (some mb))) (hm : MapS w mb (canL vs [])) (hp0 : Pow w) :
    Changes 70 #[.pointer (some ⟨bx, 0, none⟩)] (fun _ => False) (Und w.heap.size) (fun _ => True) (TypeX.ren (newN vs)) TypeX.size w := by
  intro W qb qo x cs t _ hk hq hblk hp _
  have hb : Below w.heap.size w W := hk.below (fun _ _ h => h)
  have hqb : qb < W.heap.size := (Array.getElem?_eq_some_iff.1 hblk).1
  have hws := hb.size
  have hmlt := hm.lt
  have hroom : Room 0 [qb] W := fun b h => by rw [List.mem_singleton] at h; subst h; exact ⟨Nat.zero_le _, cs, t, hblk⟩
  have stay : ∀ W', Below W.heap.size W W' → ¬ x.kind_ = 1 → ChgPost (fun _ => False) (Und w.heap.size) (fun _ => True) (TypeX.ren (newN vs)) TypeX.size qb qo x W (.returned (.bool true)) W' := fun W' h hn =>
    ⟨KeptM.of_below h, hold_one hqb h, trivial, .inl ⟨rfl, x, TypeX.ren_else hn, size_parts x, pend_below hp hqb (fun b h => Nat.lt_of_lt_of_le h hws) h⟩⟩
  obtain ⟨Aq, cq, p0, p1, p2, hrow⟩ := hp
  simp only at p0 p1 p2
  -- what is written at a variable
  have done : ∀ (W3 W' : World) (nm : ByteArray), Below W.heap.size W W3 → x.kind_ = 1 → newN vs x.name_ = nm → (W' = (W3.setCell ⟨qb, qo + 1, none⟩ (.string nm)).setCell ⟨qb, qo + 2, none⟩ (.slice none 0 0) ∨ (nm = x.name_ ∧ W' = W3.setCell ⟨qb, qo + 2, none⟩ (.slice none 0 0))) →
      ChgPost (fun _ => False) (Und w.heap.size) (fun _ => True) (TypeX.ren (newN vs)) TypeX.size qb qo x W (.returned (.bool false)) W' := by
    intro W3 W' nm hb3 hk1 hnm hW'
    have hblk3 : W3.heap[qb]? = some (.cells cs t (0, 0)) := (hb3.block qb hqb).trans hblk
    have t0 : W3.cell? ⟨qb, qo, none⟩ = some (.int .i64 x.kind_) := (hb3.cell (p := ⟨qb, qo, none⟩) hqb).trans p0
    have t1 : W3.cell? ⟨qb, qo + 1, none⟩ = some (.string x.name_) := (hb3.cell (p := ⟨qb, qo + 1, none⟩) hqb).trans p1
    have t2 : W3.cell? ⟨qb, qo + 2, none⟩ = some (.slice Aq x.args_.length cq) := (hb3.cell (p := ⟨qb, qo + 2, none⟩) hqb).trans p2
    have hr3 : Room 0 [qb] W3 := fun b h => by rw [List.mem_singleton] at h; subst h; exact ⟨Nat.zero_le _, cs, t, hblk3⟩
    have hcells : W'.cell? ⟨qb, qo, none⟩ = some (.int .i64 1) ∧ W'.cell? ⟨qb, qo + 1, none⟩ = some (.string nm) ∧ W'.cell? ⟨qb, qo + 2, none⟩ = some (.slice none 0 0) := by
      rw [hk1] at t0
      rcases hW' with rfl | ⟨rfl, rfl⟩
      · have hw : Whole W3 qb t cs := hblk3
        have h3 := (hw.set_ (qo + 1) (.string nm)).set_ (qo + 2) (.slice none 0 0)
        rw [cells_row hblk3] at t0 t1 t2
        have l1 := (Array.getElem?_eq_some_iff.1 t1).1
        have l2 := (Array.getElem?_eq_some_iff.1 t2).1
        refine ⟨?_, ?_, ?_⟩
        · rw [h3.cell]; simp [t0]
        · rw [h3.cell]; simp [l1]
        · rw [h3.cell]; simp [l2]
      · have hw : Whole W3 qb t cs := hblk3
        have h3 := hw.set_ (qo + 2) (.slice none 0 0)
        rw [cells_row hblk3] at t0 t1 t2
        have l2 := (Array.getElem?_eq_some_iff.1 t2).1
        refine ⟨?_, ?_, ?_⟩
        · rw [h3.cell]; simp [t0]
        · rw [h3.cell]; simp [t1]
        · rw [h3.cell]; simp [l2]
    refine ⟨?_, ?_, trivial, .inr ⟨rfl, [], ⟨[.int .i64 1, .string nm, .slice none 0 0], ?_, ?_⟩, List.nodup_nil⟩⟩
    · rcases hW' with rfl | ⟨_, rfl⟩
      · exact ((KeptM.of_below hb3).trans (KeptM.setCell (.inr (.inr rfl)) _)).trans (KeptM.setCell (.inr (.inr rfl)) _)
      · exact (KeptM.of_below hb3).trans (KeptM.setCell (.inr (.inr rfl)) _)
    · rcases hW' with rfl | ⟨_, rfl⟩
      · exact hold_sets12 hroom hb3
      · exact hold_set2 hroom hb3
    · rw [TypeX.ren_var hk1, hnm]
      exact varX_own nm W' W.heap.size
    · intro i v hi
      match i, hi with
      | 0, hi => simp at hi; subst hi; exact hcells.1
      | 1, hi => simp at hi; subst hi; exact hcells.2.1
      | 2, hi => simp at hi; subst hi; exact hcells.2.2
  have HST := Lib.hid stay
  have HDN := Lib.hid done
  clear stay done hrow hroom
  show Calls Tryd.prog 70 #[.pointer (some ⟨qb, qo, none⟩), .pointer (some ⟨bx, 0, none⟩)] W _
  have hisv := implIsVar x.kind_ x.name_ Aq x.args_.length cq W
  have HIS := Lib.hid hisv
  have HP0 := Lib.hid p0
  have HP1 := Lib.hid p1
  have HP2 := Lib.hid p2
  have HS := Lib.hid hs
  have HM := Lib.hid hm
  have HB := Lib.hid hb
  have HND := Lib.hid hnd
  have HPW := Lib.hid hp0
  have HBLK := Lib.hid hblk
  clear hisv hs hm hb hnd hp0 hblk hk hq
  by_cases hk1 : x.kind_ = 1
  · have hkb : (x.kind_ == 1) = true := by rw [hk1]; rfl
    have HK1 := Lib.hid hk1
    clear hk1
    go_enter Tryd.func70, Tryd.ntmps70
    go_wp2_with fail
    refine HIS.out.mono ?_
    rintro e w2 ⟨rfl, hb2⟩
    rw [hkb]
    have hwd : Below W.heap.size W w2.drew := hb2.drew
    have hww : Below w.heap.size w w2.drew := HB.out.trans (hwd.mono hws)
    have b0 : w2.cell? ⟨bx, 0, none⟩ = some (.map (some mb)) := (hww.cell (p := ⟨bx, 0, none⟩) hbx).trans HS.out
    have q0 : w2.cell? ⟨qb, qo, none⟩ = some (.int .i64 x.kind_) := (hb2.cell (p := ⟨qb, qo, none⟩) hqb).trans HP0.out
    have q1 : w2.cell? ⟨qb, qo + 1, none⟩ = some (.string x.name_) := (hb2.cell (p := ⟨qb, qo + 1, none⟩) hqb).trans HP1.out
    have q2 : w2.cell? ⟨qb, qo + 2, none⟩ = some (.slice Aq x.args_.length cq) := (hb2.cell (p := ⟨qb, qo + 2, none⟩) hqb).trans HP2.out
    have hm2 : MapS w2.drew mb (canL vs []) := mapS_below HM.out hww hmlt
    have hlk := hm2.at_.look (P := Tryd.prog) Tryd.underlying67 Tryd.underlying9 (zeroIntRun _) x.name_
    have hs2 := hb2.size
    have hqb2 : qb < w2.heap.size := Nat.lt_of_lt_of_le hqb hs2
    have hbx2 : bx < w2.heap.size := by omega
    have HWD := Lib.hid hwd
    clear hm2 hb2 p0 p1 p2 hwd
    rcases find_left HND.out x.name_ with ⟨hf, hN⟩ | ⟨i, hf, hN, hil⟩
    · rw [hf] at hlk
      simp only [Option.getD_none, Option.isSome_none] at hlk
      have fr2 := cells_free ((HWD.out.block qb hqb).trans HBLK.out) (qo + 2)
      have HNN := Lib.hid hN
      clear hf hN hww
      go_wp2_with fail
      go_region
      all_goals
        clear hlk b0 q0 q1
        go_wp2
        go_ret
        exact HDN.out _ _ x.name_ HWD.out HK1.out HNN.out (.inr ⟨rfl, rfl⟩)
    · rw [hf] at hlk
      simp only [Option.getD_some, Option.isSome_some] at hlk
      have hcall := implCanName i w2.drew (by omega) (HPW.out.below hww)
      have HC := Lib.hid hcall
      have HNN := Lib.hid hN
      clear hf hN hww hcall
      go_wp2_with fail
      go_region
      all_goals
        clear hlk b0
        go_wp2_with fail
        refine HC.out.mono ?_
        rintro e w3 ⟨rfl, hb3'⟩
        have hb3 : Below w2.heap.size w2 w3 := (Below.refl _ w2).drew.trans hb3'
        have r1 : w3.cell? ⟨qb, qo + 1, none⟩ = some (.string x.name_) := (hb3.cell (p := ⟨qb, qo + 1, none⟩) hqb2).trans q1
        have r2 : w3.cell? ⟨qb, qo + 2, none⟩ = some (.slice Aq x.args_.length cq) := (hb3.cell (p := ⟨qb, qo + 2, none⟩) hqb2).trans q2
        have hbw3 : Below W.heap.size W w3 := HWD.out.trans (hb3'.mono hs2)
        have hblk3 := (hbw3.block qb hqb).trans HBLK.out
        have fr1 := cells_free hblk3 (qo + 1)
        have fr2 := cells_free hblk3 (qo + 2)
        have hqb3 : qb < w3.heap.size := Nat.lt_of_lt_of_le hqb2 hb3.size
        have HB3 := Lib.hid hbw3
        clear hb3 hb3' hbw3 hblk3 q0 q1 q2
        go_wp2
        go_ret
        exact HDN.out w3 _ (canName i) HB3.out HK1.out HNN.out (.inl rfl)
  · have hkb : (x.kind_ == 1) = false := by simpa using hk1
    have HK1 := Lib.hid hk1
    clear hk1
    go_enter Tryd.func70, Tryd.ntmps70
    go_wp2_with fail
    refine HIS.out.mono ?_
    rintro e w2 ⟨rfl, hb2⟩
    rw [hkb]
    have HB2 := Lib.hid hb2
    clear hb2
    go_wp2
    go_ret
    exact HST.out _ HB2.out HK1.out

set_option maxRecDepth 100000 in
set_option maxHeartbeats 4000000 in
theorem implRenum (vs : List ByteArray) (mb : Nat) (x : TypeX) (A : Option Addr) (c : Nat) (w : World) (hnd : vs.Nodup) (hvl : vs.length ≤ 4294967296) (hx : x.size ≤ 4294967296) (hv : TypeRow w (Und w.heap.size) A c x.args_) (hm : MapS w mb (canL vs [])) (hp : Pow w) :
    Calls Tryd.prog 51 #[.agg #[.int .i64 x.kind_, .string x.name_, .slice A x.args_.length c], .map (some mb)] w (MadeV (x.ren (newN vs)).cells w) := by
  obtain ⟨W, hW⟩ : ∃ W, W = ((w.alloc (.cells #[.int .i64 x.kind_, .string x.name_, .slice A x.args_.length c] 26)).alloc (.cells #[.map (some mb)] 67)).alloc (.cells #[.int .i64 0, .string ⟨#[]⟩, .slice none 0 0] 26) := ⟨_, rfl⟩
  have hb0 : Below w.heap.size w W := by rw [hW]; exact (((Below.refl _ _).alloc (Nat.le_refl _) _).alloc (by simp) _).alloc (by simp; omega) _
  have hs : W.heap.size = w.heap.size + 3 := by rw [hW]; simp
  have hx1 : Whole W w.heap.size 26 #[.int .i64 x.kind_, .string x.name_, .slice A x.args_.length c] := by rw [hW]; exact (Whole.new w _ _).below (((Below.refl (w.heap.size + 1) _).alloc (by simp) _).alloc (by simp) _) (by omega)
  have hsv : Whole W (w.heap.size + 1) 67 #[.map (some mb)] := by
    have h := Whole.new (w.alloc (.cells #[.int .i64 x.kind_, .string x.name_, .slice A x.args_.length c] 26)) 67 #[.map (some mb)]
    rw [World.size_alloc] at h
    rw [hW]; exact h.below ((Below.refl (w.heap.size + 2) _).alloc (by simp) _) (by omega)
  have hz : Whole W (w.heap.size + 2) 26 #[.int .i64 0, .string ⟨#[]⟩, .slice none 0 0] := by
    have h := Whole.new ((w.alloc (.cells #[.int .i64 x.kind_, .string x.name_, .slice A x.args_.length c] 26)).alloc (.cells #[.map (some mb)] 67)) 26 #[.int .i64 0, .string ⟨#[]⟩, .slice none 0 0]
    rw [World.size_alloc, World.size_alloc] at h; rw [hW]; exact h
  have hcall := implRewrite 70 #[.pointer (some ⟨w.heap.size + 1, 0, none⟩)] (fun _ => False) (Und W.heap.size) (fun _ => True) (TypeX.ren (newN vs)) TypeX.size x A c W (enters_of Tryd.func70 (by kernel_rfl) rfl) hx (fun x => by have := TypeX.size_eq x; omega) (hv.grow hb0) (fun b h => ⟨h, fun h => h⟩) (fun _ h => h.elim) trivial (fun _ _ _ _ => trivial)
    (chgRenum vs mb (w.heap.size + 1) W hnd hvl (by omega) (hsv.cell 0) (mapS_below hm hb0 hm.lt) (hp.below hb0))
  have HC := Lib.hid hcall
  have HB := Lib.hid hb0
  have HZ := Lib.hid hz
  have HS := Lib.hid hs
  have HW := Lib.hid hW.symm
  have HX1 := Lib.hid hx1
  have hmf := run_func
  clear hcall hb0 hz hv hs hW hx1 hsv hm hp hnd
  go_enter Tryd.func51, Tryd.ntmps51
  go_upto_region 1 with (fail)
  rw [HW.out]
  obtain ⟨p0, p1, p2⟩ := cells3 HX1.out
  have plt := HX1.out.lt
  go_wp2_with fail
  refine HC.out.mono ?_
  intro e w3 hm
  obtain ⟨vs', bs, A3, c3, rfl, rfl, hO3, hn3, hb3⟩ := madeT_get (x := x.ren (newN vs)) (madeM_made hm)
  rw [HS.out] at hO3 hb3
  have hz3 := HZ.out.below hb3 (by omega)
  obtain ⟨z0, z1, z2⟩ := cells3 hz3
  have zf0 := hz3.frozen 0
  have zf1 := hz3.frozen 1
  have zf2 := hz3.frozen 2
  have zlt := hz3.lt
  have hend := tyEndY (k := (x.ren (newN vs)).kind_) (s := (x.ren (newN vs)).name_) (A := A3) (n := (x.ren (newN vs)).args_.length) (cc := c3) hz3 (by omega) (HB.out.trans (hb3.mono (by omega)))
  have HE := Lib.hid hend
  have HO := Lib.hid hO3
  have HN := Lib.hid hn3
  clear hend hO3 hn3 hm hb3 hz3
  go_wp2
  obtain ⟨e0, e1, e2, hbut, hb4⟩ := HE.out _ rfl
  exact bodyPost_ret (v := .agg #[.int .i64 (x.ren (newN vs)).kind_, .string (x.ren (newN vs)).name_, .slice A3 (x.ren (newN vs)).args_.length c3]) (by simp [results, Tryd.results51, go_sem, e0, e1, e2]) rfl ⟨_, _, rfl, OwVs_wide (by omega) _ (made_in HO.out (by omega) hbut), HN.out, hb4⟩
end Go.Proofs.YtngbilblddngcaaDoor

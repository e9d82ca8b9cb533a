/- TypeToSExpr: the reference model's and the program's. -/
import Derived.Test.YtbcfeoobhemdcaaGreatZTyRound
import Derived.Test.YtbcfeoobhemdcaaGreatZEncT
import Derived.Test.YtbcfeoobhemdcaaGreatZTyValidI
namespace Go.Proofs.YtbcfeoobhemdcaaGreat
open Go.RowKit Go.Lib

def TypeX.enc (x : TypeX) : SX := if x.valid then x.sx else .mk ⟨#[]⟩ []
theorem enc_yes {x : TypeX} (h : x.valid = true) : x.enc = x.sx := by rw [TypeX.enc, if_pos h]
theorem enc_no {x : TypeX} (h : x.valid = false) : x.enc = .mk ⟨#[]⟩ [] := by rw [TypeX.enc, if_neg (by rw [h]; decide)]
theorem enc_small (x : TypeX) : x.enc.wt ≤ 1048576 ∧ SX.nodesL x.enc.list ≤ 900 := by
  cases h : x.valid with
  | false => rw [enc_no h]; exact ⟨by decide, by decide⟩
  | true =>
    rw [enc_yes h]
    have h1 := SX.valid_wt (sx_valid h)
    have h2 := (SX.valid_iff.1 (sx_valid h)).1
    have h3 := SX.nodes_eq x.sx
    omega
/-- What is stored of what a maker made. -/
theorem SxMade.store {w w1 w3 : World} {y : SX} {e : Ending} {a b : Value} (hm : SxMade y w1 e w3) (h1 : Below w.heap.size w w1) (hx : Whole w1 (w.heap.size + 1) 33 #[a, b]) :
    ∃ A c, e = .returned (.agg #[.string y.atom, .slice A y.list.length c]) ∧ Whole w3 (w.heap.size + 1) 33 #[a, b] ∧ Below w1.heap.size w1 w3 ∧ ∀ w4, w4 = (w3.setCell ⟨w.heap.size + 1, 0, none⟩ (.string y.atom)).setCell ⟨w.heap.size + 1, 1, none⟩ (.slice A y.list.length c) → w4.cell? ⟨w.heap.size + 1, 0, none⟩ = some (.string y.atom) ∧ w4.cell? ⟨w.heap.size + 1, 1, none⟩ = some (.slice A y.list.length c) ∧ SxMade y w (.returned (.agg #[.string y.atom, .slice A y.list.length c])) w4 := by
  obtain ⟨V, rfl, hr, hb⟩ := hm
  obtain ⟨A, c, rfl⟩ := hr.shape
  have hx3 := hx.below hb hx.lt
  have hl := hx.lt
  refine ⟨A, c, rfl, hx3, hb, ?_⟩
  obtain ⟨ya, yl⟩ := y
  exact sxEnd hx3 (h1.trans (hb.mono h1.size)) hr (by omega)
theorem SxMade.none {w w' : World} (hb : Below w.heap.size w w') : SxMade (.mk ⟨#[]⟩ []) w (.returned (.agg #[.string ⟨#[]⟩, .slice none 0 0])) w' := ⟨_, rfl, RowX.nil _ _ _, hb⟩

set_option maxRecDepth 100000 in
set_option maxHeartbeats 1000000 in
theorem specToSx (x : TypeX) (A : Option Addr) (c : Nat) (w : World) (hok : DV.okL x.cells) (hsz : x.size ≤ 4294967296) (hx : TypeRow w (Und w.heap.size) A c x.args_) :
    Calls Tryz.prog 25 #[.agg #[.int .i64 x.kind_, .string x.name_, .slice A x.args_.length c]] w (SxMade x.enc w) := by
  obtain ⟨hb0, hbx, hrx⟩ := encBoxes w x.kind_ x.name_ (.slice A x.args_.length c)
  have HB := Lib.hid hb0
  have HX := Lib.hid hrx
  have HW := Lib.hid hbx
  have HR := Lib.hid (hx.grow hb0)
  have HOK := Lib.hid hok
  clear hb0 hbx hrx hx hok
  go_enter Tryz.func25, Tryz.ntmps25
  go_wp2_with fail
  refine (specValidTy x _ _ HOK.out ⟨_, _, rfl, HR.out⟩).mono ?_
  cases hv : x.valid with
  | false =>
    have HN := Lib.hid (enc_no hv)
    clear hv
    rintro e w1 ⟨rfl, hb1⟩
    have h1 : Below w.heap.size w w1 := HB.out.trans (hb1.mono HB.out.size)
    have hx1 := HX.out.below hb1 HX.out.lt
    have r0 : w1.cell? ⟨w.heap.size + 1, 0, none⟩ = some (.string ⟨#[]⟩) := by rw [hx1.cell]; rfl
    have r1 : w1.cell? ⟨w.heap.size + 1, 1, none⟩ = some (.slice none 0 0) := by rw [hx1.cell]; rfl
    have rf0 := hx1.frozen 0
    have rf1 := hx1.frozen 1
    have rl := hx1.lt
    have hbut : ∀ u v, Below w.heap.size w ((w1.setCell ⟨w.heap.size + 1, 0, none⟩ u).setCell ⟨w.heap.size + 1, 1, none⟩ v) := fun u v => (h1.setCell (by simp) _).setCell (by simp) _
    have hE : ∀ w4, w4 = (w1.setCell ⟨w.heap.size + 1, 0, none⟩ (.string ⟨#[]⟩)).setCell ⟨w.heap.size + 1, 1, none⟩ (.slice none 0 0) → w4.cell? ⟨w.heap.size + 1, 0, none⟩ = some (.string ⟨#[]⟩) ∧ w4.cell? ⟨w.heap.size + 1, 1, none⟩ = some (.slice none 0 0) := fun w4 h4 => by
      have hw : Whole w4 (w.heap.size + 1) 33 #[.string ⟨#[]⟩, .slice none 0 0] := by
        have h := (hx1.set_ 0 (.string ⟨#[]⟩)).set_ 1 (.slice none 0 0)
        rw [← h4] at h
        simpa using h
      exact ⟨by rw [hw.cell]; rfl, by rw [hw.cell]; rfl⟩
    have HE := Lib.hid hE
    have HU := Lib.hid hbut
    clear hE hbut hx1 h1 hb1
    go_wp2
    obtain ⟨e0, e1⟩ := HE.out _ rfl
    exact bodyPost_ret (v := .agg #[.string ⟨#[]⟩, .slice none 0 0]) (by simp [results, Tryz.results25, go_sem, e0, e1]) rfl (by rw [HN.out]; exact SxMade.none (HU.out _ _))
  | true =>
    have HN := Lib.hid (enc_yes hv)
    have hbr := (form_brief x (valid_parts hv).2.2).1
    rintro e w1 ⟨rfl, hb1⟩
    have h1 : Below w.heap.size w w1 := HB.out.trans (hb1.mono HB.out.size)
    have hx1 := HX.out.below hb1 HX.out.lt
    have hw1 := HW.out.below hb1 HW.out.lt
    obtain ⟨p0, p1, p2⟩ := cells3 hw1
    have pl := hw1.lt
    have HC := Lib.hid (specSxAll _ x A c w1 (Nat.le_refl _) hsz hbr (HR.out.grow hb1))
    have HX1 := Lib.hid hx1
    have HB1 := Lib.hid h1
    obtain ⟨y, hy⟩ : ∃ y : SX, y = x.sx := ⟨_, rfl⟩
    rw [← hy] at HC
    have HY := Lib.hid hy
    clear hbr hv hx1 hw1 h1 hb1 hy
    go_wp2_with fail
    refine HC.out.mono ?_
    intro e w3 hm
    obtain ⟨A', c', rfl, h6, hb6, hk6⟩ := hm.store HB1.out HX1.out
    have HE := Lib.hid hk6
    have r0 : w3.cell? ⟨w.heap.size + 1, 0, none⟩ = some (.string ⟨#[]⟩) := by rw [h6.cell]; rfl
    have r1 : w3.cell? ⟨w.heap.size + 1, 1, none⟩ = some (.slice none 0 0) := by rw [h6.cell]; rfl
    have rf0 := h6.frozen 0
    have rf1 := h6.frozen 1
    have rl := h6.lt
    clear hk6 hm h6 p0 p1 p2 pl
    go_wp2
    obtain ⟨e0, e1, e2⟩ := HE.out _ rfl
    exact bodyPost_ret (v := .agg #[.string y.atom, .slice A' y.list.length c']) (by simp [results, Tryz.results25, go_sem, e0, e1]) rfl (by rw [HN.out, ← HY.out]; exact e2)

set_option maxRecDepth 100000 in
set_option maxHeartbeats 1000000 in
theorem implToSx (x : TypeX) (A : Option Addr) (c : Nat) (w : World) (hok : DV.okL x.cells) (hsz : x.size ≤ 4294967296) (hx : TypeRow w (Und w.heap.size) A c x.args_) :
    Calls Tryz.prog 16 #[.agg #[.int .i64 x.kind_, .string x.name_, .slice A x.args_.length c]] w (SxOwn x.enc w) := by
  obtain ⟨hb0, hbx, hrx⟩ := encBoxes w x.kind_ x.name_ (.slice A x.args_.length c)
  have HB := Lib.hid hb0
  have HX := Lib.hid hrx
  have HW := Lib.hid hbx
  have HR := Lib.hid (hx.grow hb0)
  have HOK := Lib.hid hok
  clear hb0 hbx hrx hx hok
  go_enter Tryz.func16, Tryz.ntmps16
  go_wp2_with fail
  refine (implTyValidI x _ _ HOK.out hsz ⟨_, _, rfl, HR.out⟩).mono ?_
  cases hv : x.valid with
  | false =>
    have HN := Lib.hid (enc_no hv)
    clear hv
    rintro e w1 ⟨rfl, hb1⟩
    have h1 : Below w.heap.size w w1 := HB.out.trans (hb1.mono HB.out.size)
    have hx1 := HX.out.below hb1 HX.out.lt
    have r0 : w1.cell? ⟨w.heap.size + 1, 0, none⟩ = some (.string ⟨#[]⟩) := by rw [hx1.cell]; rfl
    have r1 : w1.cell? ⟨w.heap.size + 1, 1, none⟩ = some (.slice none 0 0) := by rw [hx1.cell]; rfl
    have rf0 := hx1.frozen 0
    have rf1 := hx1.frozen 1
    have rl := hx1.lt
    have hbut : ∀ u v, Below w.heap.size w ((w1.setCell ⟨w.heap.size + 1, 0, none⟩ u).setCell ⟨w.heap.size + 1, 1, none⟩ v) := fun u v => (h1.setCell (by simp) _).setCell (by simp) _
    have hE : ∀ w4, w4 = (w1.setCell ⟨w.heap.size + 1, 0, none⟩ (.string ⟨#[]⟩)).setCell ⟨w.heap.size + 1, 1, none⟩ (.slice none 0 0) → w4.cell? ⟨w.heap.size + 1, 0, none⟩ = some (.string ⟨#[]⟩) ∧ w4.cell? ⟨w.heap.size + 1, 1, none⟩ = some (.slice none 0 0) := fun w4 h4 => by
      have hw : Whole w4 (w.heap.size + 1) 33 #[.string ⟨#[]⟩, .slice none 0 0] := by
        have h := (hx1.set_ 0 (.string ⟨#[]⟩)).set_ 1 (.slice none 0 0)
        rw [← h4] at h
        simpa using h
      exact ⟨by rw [hw.cell]; rfl, by rw [hw.cell]; rfl⟩
    have HE := Lib.hid hE
    have HU := Lib.hid hbut
    clear hE hbut hx1 h1 hb1
    go_wp2
    obtain ⟨e0, e1⟩ := HE.out _ rfl
    exact bodyPost_ret (v := .agg #[.string ⟨#[]⟩, .slice none 0 0]) (by simp [results, Tryz.results16, go_sem, e0, e1]) rfl (by rw [HN.out]; exact SxOwn.word ⟨#[]⟩ (HU.out _ _))
  | true =>
    have HN := Lib.hid (enc_yes hv)
    have hbr := (form_brief x (valid_parts hv).2.2).1
    rintro e w1 ⟨rfl, hb1⟩
    have h1 : Below w.heap.size w w1 := HB.out.trans (hb1.mono HB.out.size)
    have hx1 := HX.out.below hb1 HX.out.lt
    have hw1 := HW.out.below hb1 HW.out.lt
    obtain ⟨p0, p1, p2⟩ := cells3 hw1
    have pl := hw1.lt
    have HC := Lib.hid (encode x A c w1 hsz hbr (form_brief x (valid_parts hv).2.2).2 (HR.out.grow hb1))
    have HX1 := Lib.hid hx1
    have HB1 := Lib.hid h1
    obtain ⟨y, hy⟩ : ∃ y : SX, y = x.sx := ⟨_, rfl⟩
    rw [← hy] at HC
    have HY := Lib.hid hy
    clear hbr hv hx1 hw1 h1 hb1 hy
    go_wp2_with fail
    refine HC.out.mono ?_
    intro e w3 hm
    obtain ⟨A', c', rfl, h6, hb6, hk6⟩ := hm.store HB1.out HX1.out
    have HE := Lib.hid hk6
    have r0 : w3.cell? ⟨w.heap.size + 1, 0, none⟩ = some (.string ⟨#[]⟩) := by rw [h6.cell]; rfl
    have r1 : w3.cell? ⟨w.heap.size + 1, 1, none⟩ = some (.slice none 0 0) := by rw [h6.cell]; rfl
    have rf0 := h6.frozen 0
    have rf1 := h6.frozen 1
    have rl := h6.lt
    clear hk6 hm h6 p0 p1 p2 pl
    go_wp2
    obtain ⟨e0, e1, e2⟩ := HE.out _ rfl
    exact bodyPost_ret (v := .agg #[.string y.atom, .slice A' y.list.length c']) (by simp [results, Tryz.results16, go_sem, e0, e1]) rfl (by rw [HN.out, ← HY.out]; exact e2)
end Go.Proofs.YtbcfeoobhemdcaaGreat

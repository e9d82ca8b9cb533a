/- The draw of SExprToType's argument: an expression, with capacities. -/
import Derived.Test.YtbcfeoobhemdcaaGreatZDrawBent
import Derived.Test.YtbcfeoobhemdcaaGreatQ1
import Derived.Test.YtbcfeoobhemdcaaGreatZDrawTy4
import Derived.Test.YtbcfeoobhemdcaaGreatZToSx
import Derived.Laws.OwnMore
import Derived.Deep.CutRange
namespace Go.Proofs.YtbcfeoobhemdcaaGreat
open Go.RowKit Go.Lib

mutual
theorem wt_okD : ∀ x : SX, x.wt ≤ 9223372036854775807 → x.ok
  | .mk a l, h => by
    rw [SX.wt] at h
    have h2 := SX.wtL_length l
    rw [SX.ok]
    exact ⟨by omega, by omega, wtL_okD l (by omega)⟩
theorem wtL_okD : ∀ l : List SX, SX.wtL l ≤ 9223372036854775807 → SX.okL l
  | [], _ => by rw [SX.okL]; trivial
  | x :: r, h => by
    rw [SX.wtL] at h
    rw [SX.okL]
    exact ⟨wt_okD x (by omega), wtL_okD r (by omega)⟩
end
theorem RdVE_put {w : World} {P : Nat → Prop} {y : SX} {a b : Value} (hy : RdVs w P y.cells [a, b]) : ∀ (l : List SX) (k : Nat) (vs : List Value), k < l.length → RdVE w P 2 (SX.rows l) vs → RdVE w P 2 (SX.rows (l.set k y)) ((vs.set (k * 2) a).set (k * 2 + 1) b)
  | x :: r, 0, vs, _, h => by
    rw [SX.rows, RdVE] at h
    obtain ⟨v1, v2, rfl, hk, h1, h2⟩ := h
    have hl := RdVs_length h1
    rw [hk] at hl
    rw [List.set_cons_zero, SX.rows, RdVE]
    match v1, hl with
    | [u0, u1], _ => exact ⟨[a, b], v2, rfl, SX.cells_length y, hy, h2⟩
  | x :: r, k + 1, vs, hlt, h => by
    rw [SX.rows, RdVE] at h
    obtain ⟨v1, v2, rfl, hk, h1, h2⟩ := h
    have hl := RdVs_length h1
    rw [hk] at hl
    rw [List.set_cons_succ, SX.rows, RdVE]
    refine ⟨v1, (v2.set (k * 2) a).set (k * 2 + 1) b, ?_, hk, h1, RdVE_put hy r k v2 (by simpa using hlt) h2⟩
    rw [List.set_append_right _ _ (by omega), List.set_append_right _ _ (by omega), hl, show (k + 1) * 2 - 2 = k * 2 by omega, show (k + 1) * 2 + 1 - 2 = k * 2 + 1 by omega]
/-- One element of a row of the call's own is stored anew. -/
theorem RowX.put {B X g cap k c : Nat} {acc : List SX} {w : World} {y : SX} {A : Option Addr} (h : RowX B X (.slice (some ⟨g, 0, none⟩) acc.length cap) acc w) (hy : SxRow w (Off (.slice (some ⟨g, 0, none⟩) acc.length cap) B X w.heap.size) A c y.list) (hk : k < acc.length) :
    ∀ w2, w2 = (w.setCell ⟨g, k * 2, none⟩ (.string y.atom)).setCell ⟨g, k * 2 + 1, none⟩ (.slice A y.list.length c) → RowX B X (.slice (some ⟨g, 0, none⟩) acc.length cap) (acc.set k y) w2 ∧ But g w w2 ∧ w2.heap.size = w.heap.size := by
  intro w2 h2
  obtain ⟨vs, h1, he, hX⟩ := h
  obtain ⟨o1, -⟩ := World.ownsRow.stored h1 (k * 2) (.string y.atom)
  obtain ⟨o2, -⟩ := World.ownsRow.stored o1 (k * 2 + 1) (.slice A y.list.length c)
  have hbut : But g w w2 := by rw [h2]; exact (But.set_ _ _ _ _).trans (But.set_ _ _ _ _)
  have hsz : w2.heap.size = w.heap.size := by rw [h2]; simp
  have hke : ∀ b o, Off (.slice (some ⟨g, 0, none⟩) acc.length cap) B X w.heap.size b → w2.cell? ⟨b, o, none⟩ = w.cell? ⟨b, o, none⟩ := fun b o hP => World.cell?_of_block (a := ⟨b, o, none⟩) (hbut.block b hP.1.2 fun e => hP.2.1 (by rw [e]; rfl))
  have hst : ∀ b, Off (.slice (some ⟨g, 0, none⟩) acc.length cap) B X w.heap.size b → Off (.slice (some ⟨g, 0, none⟩) acc.length cap) B X w2.heap.size b := fun b hP => by rw [hsz]; exact hP
  refine ⟨⟨_, by rw [List.length_set, h2]; exact o2, ?_, hX⟩, hbut, hsz⟩
  exact RdVE_put (hy.frame hst hke).reads acc k vs hk (RdVE_frame hst hke _ he)
theorem nodesL_set : ∀ (l : List SX) (k : Nat) (y : SX), SX.nodesL (l.set k y) ≤ SX.nodesL l + y.nodes
  | [], _, _ => by simp [SX.nodesL]
  | x :: r, 0, y => by rw [List.set_cons_zero, SX.nodesL, SX.nodesL]; omega
  | x :: r, k + 1, y => by have := nodesL_set r k y; rw [List.set_cons_succ, SX.nodesL, SX.nodesL]; omega
theorem wtL_set : ∀ (l : List SX) (k : Nat) (y : SX), SX.wtL (l.set k y) ≤ SX.wtL l + y.wt
  | [], _, _ => by simp [SX.wtL]
  | x :: r, 0, y => by rw [List.set_cons_zero, SX.wtL, SX.wtL]; omega
  | x :: r, k + 1, y => by have := wtL_set r k y; rw [List.set_cons_succ, SX.wtL, SX.wtL]; omega

theorem cells2d {w : World} {g : Nat} {t : TypeId} {a b : Value} (h : Whole w g t #[a, b]) : w.cell? ⟨g, 0, none⟩ = some a ∧ w.cell? ⟨g, 1, none⟩ = some b := ⟨by rw [h.cell]; rfl, by rw [h.cell]; rfl⟩
theorem rowAt {w : World} {B g cap n : Nat} {e : TypeId} {xs : List Value} (h : w.ownsRow B e 2 (.slice (some ⟨g, 0, none⟩) n cap) n xs) (j : Nat) (hj : j < n * 2) : ∃ v, w.cell? ⟨g, j, none⟩ = some v := by
  rw [World.ownsRow.cellAt h j hj]
  have hl : xs.length = n * 2 := h.1
  exact ⟨xs[j]'(by omega), List.getElem?_eq_getElem _⟩
/-- WHAT THE DRAW LEAVES. -/
def DrawnXt (w : World) (e : Ending) (w' : World) : Prop := ∃ (x : SX) (A : Option Addr) (c : Nat), e = .returned (.agg #[.string x.atom, .slice A x.list.length c]) ∧ SxRow w' (New w.heap.size w'.heap.size) A c x.list ∧ x.nodes ≤ 2000 ∧ x.wt ≤ 4000000 ∧ Below w.heap.size w w'
/-- The ending: what is returned written into the result's cells. -/
theorem xtEnd {w w3 : World} {x : SX} {A : Option Addr} {c : Nat} {u v : Value} {P : Nat → Prop} (hr : Whole w3 w.heap.size 33 #[u, v]) (hb : Below w.heap.size w w3) (hrow : SxRow w3 P A c x.list) (hP : ∀ b, P b → w.heap.size < b ∧ b < w3.heap.size) (hn : x.nodes ≤ 2000) (hs : x.wt ≤ 4000000) :
    ∀ w4, w4 = (w3.setCell ⟨w.heap.size, 0, none⟩ (.string x.atom)).setCell ⟨w.heap.size, 1, none⟩ (.slice A x.list.length c) → w4.cell? ⟨w.heap.size, 0, none⟩ = some (.string x.atom) ∧ w4.cell? ⟨w.heap.size, 1, none⟩ = some (.slice A x.list.length c) ∧ DrawnXt w (.returned (.agg #[.string x.atom, .slice A x.list.length c])) w4 := by
  intro w4 h4
  have hw : Whole w4 w.heap.size 33 #[.string x.atom, .slice A x.list.length c] := by
    have h := (hr.set_ 0 (.string x.atom)).set_ 1 (.slice A x.list.length c)
    rw [← h4] at h
    simpa using h
  have hbut : But w.heap.size w3 w4 := by rw [h4]; exact (But.set_ _ _ 0 _).trans (But.set_ _ _ 1 _)
  exact ⟨by rw [hw.cell]; rfl, by rw [hw.cell]; rfl, x, A, c, rfl, hrow.frame (fun b h => ⟨Nat.le_of_lt (hP b h).1, Nat.lt_of_lt_of_le (hP b h).2 hbut.size⟩) (fun b o h => World.cell?_of_block (a := ⟨b, o, none⟩) (hbut.block b (hP b h).2 (by have := (hP b h).1; omega))), hn, hs, hb.trans (hbut.to_below (Nat.le_refl _) hb.size)⟩

set_option maxRecDepth 100000 in
set_option maxHeartbeats 4000000 in
theorem drawXt (A : Option Addr) (n c : Nat) (w : World) (hA : BytesAt w w.heap.size A n) (hn : n ≤ 140737488355328) :
    Calls Tryz.prog 8 #[.slice A n c] w (DrawnXt w) := by
  have hb0 : Below w.heap.size w (w.alloc (.cells #[.string ByteArray.empty, .slice none 0 0] 33)) := (Below.refl _ _).alloc (Nat.le_refl _) _
  have HA := Lib.hid ((hA.below hb0).mono_ hb0.size)
  have HB := Lib.hid hb0
  have HR := Lib.hid (Whole.new w 33 #[.string ByteArray.empty, .slice none 0 0])
  clear hA hb0
  go_enter Tryz.func8, Tryz.ntmps8
  go_wp2_with fail
  refine (drawNew A n c _ HA.out hn).mono ?_
  rintro e w1 ⟨g, rfl, hc1, hb1⟩
  have hr1 := HR.out.below hb1 HR.out.lt
  have hbw := HB.out.trans (hb1.mono HB.out.size)
  have hg := hc1.own
  rw [World.size_alloc] at hg
  have HC := Lib.hid hc1
  have HR1 := Lib.hid hr1
  have HB1 := Lib.hid hbw
  clear hc1 hb1 hr1 hbw
  go_wp2_with fail
  refine (drawOnce _ g 3 _ HC.out (by omega) (by omega)).mono ?_
  rintro e w2 ⟨v, rfl, ⟨b, rfl⟩, hc2, hb2⟩
  have hr2 := HR1.out.but hb2 (by omega)
  have hb3 := HB1.out.trans (hb2.to_below (show w.heap.size ≤ g by omega) HB1.out.size)
  have HC2 := Lib.hid hc2
  have HR2 := Lib.hid hr2
  have HB2 := Lib.hid hb3
  clear hc2 hr2 hb3 hb2
  cases b with
  | true =>
    go_wp2_with fail
    refine (drawBent _ g _ HC2.out).mono ?_
    rintro e w3 ⟨x, V, rfl, hrow, hnx, hs, _, hb4⟩
    have hr3 := HR2.out.but hb4 (by omega)
    have hb5 := HB2.out.trans (hb4.to_below (show w.heap.size ≤ g by omega) HB2.out.size)
    obtain ⟨A2, c2, rfl⟩ := hrow.shape
    have hwt := SX.small_wt hs
    have hz2 := HR2.out.lt
    have hend := xtEnd hr3 hb5 hrow.row (fun b h => ⟨by have := h.1.1; omega, h.1.2⟩) (by omega) (by omega)
    have hlt := hr3.lt
    have r0 : w3.cell? ⟨w.heap.size, 0, none⟩ = some (.string ByteArray.empty) := by rw [hr3.cell]; rfl
    have r1 : w3.cell? ⟨w.heap.size, 1, none⟩ = some (.slice none 0 0) := by rw [hr3.cell]; rfl
    have rf0 : w3.frozen? ⟨w.heap.size, 0, none⟩ = false := hr3.frozen 0
    have rf1 : w3.frozen? ⟨w.heap.size, 1, none⟩ = false := hr3.frozen 1
    have HE := Lib.hid hend
    clear hend hr3 hb5 hrow hs hb4 hwt
    go_wp2
    obtain ⟨e0, e1, e2⟩ := HE.out _ rfl
    exact bodyPost_ret (v := .agg #[.string x.atom, .slice A2 x.list.length c2]) (by simp [results, Tryz.results8, go_sem, e0, e1]) rfl e2
  | false =>
    have hgl : g < w2.heap.size := HC2.out.lt
    have hw2 := HR2.out.lt
    have hGl : ∀ b, (b = g ∨ b = w.heap.size) → b < w2.heap.size := fun b h => by rcases h with h | h <;> omega
    go_wp2_with fail
    refine (freeC (fun b => b = g ∨ b = w.heap.size) _ g 3 (by omega) w2 hGl (.inl rfl) HC2.out).mono ?_
    rintro e w3 ⟨t, ⟨V, rfl, ht⟩, hts, htm, hc3, hb3⟩
    obtain ⟨A2', c2', e2, hr2⟩ := ht.row hGl
    subst e2
    have hok : DV.okL t.cells := t.tame_ok htm (by omega)
    have KT := Lib.hid (show TypeRow w3 (Und w3.heap.size) A2' c2' t.args_ from hr2.frame (fun b h => h.1) fun _ _ _ => rfl)
    have hr3 := HR2.out.but hb3 (by omega)
    have hb5 := HB2.out.trans (hb3.to_below (show w.heap.size ≤ g by omega) HB2.out.size)
    have KR := Lib.hid hr3
    have HW3 := Lib.hid hr3.lt
    have KB := Lib.hid hb5
    have KC := Lib.hid hc3
    have KO := Lib.hid hok
    clear ht hr2 hok hr3 hb5 hc3 hb3 htm HC2 HR2 HB2
    go_wp2_with fail
    refine (specToSx t A2' c2' _ KO.out (by omega) KT.out).mono ?_
    obtain ⟨hew, hen⟩ := enc_small t
    obtain ⟨y, hy⟩ : ∃ y, y = t.enc := ⟨_, rfl⟩
    rw [← hy] at hew hen ⊢
    clear hy
    rintro e w4 ⟨V4, rfl, hrow4, hb4⟩
    obtain ⟨A4, c4, rfl⟩ := hrow4.shape
    have hy0 := SX.nodes_eq y
    have hy1 := SX.wt_eq y
    have hg3 : g < w3.heap.size := KC.out.lt
    have hg4 : g < w4.heap.size := by have := hb4.size; omega
    have hk4 : Below w4.heap.size w4 (w4.alloc (.cells #[.string y.atom, .slice A4 y.list.length c4] 33)) := (Below.refl _ _).alloc (Nat.le_refl _) _
    have z4 : (w4.alloc (.cells #[.string y.atom, .slice A4 y.list.length c4] 33)).heap.size = w4.heap.size + 1 := by simp
    have hbb := hb4.trans (hk4.mono hb4.size)
    have s34 := hb4.size
    have KX := Lib.hid (Whole.new w4 33 #[.string y.atom, .slice A4 y.list.length c4])
    have KROW := Lib.hid (hrow4.below hk4)
    have KR := Lib.hid (KR.out.below hbb KR.out.lt)
    have KB := Lib.hid (KB.out.trans (hbb.mono KB.out.size))
    have KC := Lib.hid (KC.out.kept hbb)
    have hwl : w.heap.size < w3.heap.size := by have := HW3.out; omega
    clear hrow4 hk4 hb4 hbb KT KO
    obtain ⟨W, hW⟩ : ∃ W, W = w4.alloc (.cells #[.string y.atom, .slice A4 y.list.length c4] 33) := ⟨_, rfl⟩
    go_upto_region 5 with (fail)
    rw [← hW] at KX KROW KR KB KC z4 ⊢
    clear hW
    obtain ⟨x0, x1⟩ := cells2d KX.out
    have xl := KX.out.lt
    by_cases hlen : y.list.length = 0
    · have hz : decide ((0 : Int) < (y.list.length : Int)) = false := by rw [hlen]; rfl
      have hend := xtEnd (x := y) KR.out KB.out KROW.out.row (fun b h => ⟨by have := h.1.1; omega, h.1.2⟩) (by omega) (by omega)
      rw [hlen] at hend
      have hlt := KR.out.lt
      have r0 : W.cell? ⟨w.heap.size, 0, none⟩ = some (.string ByteArray.empty) := by rw [KR.out.cell]; rfl
      have r1 : W.cell? ⟨w.heap.size, 1, none⟩ = some (.slice none 0 0) := by rw [KR.out.cell]; rfl
      have rf0 : W.frozen? ⟨w.heap.size, 0, none⟩ = false := KR.out.frozen 0
      have rf1 : W.frozen? ⟨w.heap.size, 1, none⟩ = false := KR.out.frozen 1
      obtain ⟨x0, x1⟩ := cells2d KX.out
      rw [hlen] at x1
      have xl := KX.out.lt
      have HE := Lib.hid hend
      clear hend
      clear hz
      go_wp2
      obtain ⟨e0, e1, e2⟩ := HE.out _ rfl
      exact bodyPost_ret (v := .agg #[.string y.atom, .slice A4 0 c4]) (by simp [results, Tryz.results8, go_sem, e0, e1]) rfl e2
    · have hz : decide ((0 : Int) < (y.list.length : Int)) = true := by simp; omega
      go_wp2_with fail
      refine (drawOnce _ g 4 _ KC.out (by omega) (by omega)).mono ?_
      rintro e w5 ⟨v, rfl, ⟨b, rfl⟩, hc5, hb5⟩
      have s5 := hb5.size
      have KX := Lib.hid (KX.out.but hb5 (by omega))
      have KROW := Lib.hid (KROW.out.but hb5 (.inl hg3))
      have KR := Lib.hid (KR.out.but hb5 (by omega))
      have KB := Lib.hid (KB.out.trans (hb5.to_below (show w.heap.size ≤ g by omega) KB.out.size))
      have KC := Lib.hid hc5
      clear hc5 hb5 x0 x1 xl
      cases b with
      | false =>
        have hend := xtEnd (x := y) KR.out KB.out KROW.out.row (fun b h => ⟨by have := h.1.1; omega, h.1.2⟩) (by omega) (by omega)
        have hlt := KR.out.lt
        have r0 : w5.cell? ⟨w.heap.size, 0, none⟩ = some (.string ByteArray.empty) := by rw [KR.out.cell]; rfl
        have r1 : w5.cell? ⟨w.heap.size, 1, none⟩ = some (.slice none 0 0) := by rw [KR.out.cell]; rfl
        have rf0 : w5.frozen? ⟨w.heap.size, 0, none⟩ = false := KR.out.frozen 0
        have rf1 : w5.frozen? ⟨w.heap.size, 1, none⟩ = false := KR.out.frozen 1
        obtain ⟨x0, x1⟩ := cells2d KX.out
        have xl := KX.out.lt
        have HE := Lib.hid hend
        clear hend
        go_wp2
        obtain ⟨e0, e1, e2⟩ := HE.out _ rfl
        exact bodyPost_ret (v := .agg #[.string y.atom, .slice A4 y.list.length c4]) (by simp [results, Tryz.results8, go_sem, e0, e1]) rfl e2
      | true =>
        obtain ⟨gr, rfl⟩ : ∃ gr, A4 = some ⟨gr, 0, none⟩ := by
          obtain ⟨vs, hown, -, -⟩ := KROW.out
          rcases hown.2 with ⟨hv, h0⟩ | ⟨gr, cap, cur, hv, -⟩
          · exact absurd h0 hlen
          · injection hv with hA _ _
            exact ⟨gr, hA⟩
        obtain ⟨x0, x1⟩ := cells2d KX.out
        have xl := KX.out.lt
        have hl32 : (y.list.length : Int) ≤ 900 := by have := nodesLen y.list; omega
        have hl0 : (0 : Int) < (y.list.length : Int) := by omega
        go_upto_region 6 with (fail)
        go_cut [] from 22 to 31 (fun wd => ∃ l2 : List SX, l2.length = y.list.length ∧ RowX w3.heap.size w4.heap.size (.slice (some ⟨gr, 0, none⟩) y.list.length c4) l2 wd ∧ SX.nodesL l2 ≤ 1000 ∧ SX.wtL l2 ≤ 2000000 ∧ Whole wd w4.heap.size 33 #[.string y.atom, .slice (some ⟨gr, 0, none⟩) y.list.length c4] ∧ Whole wd w.heap.size 33 #[.string ByteArray.empty, .slice none 0 0] ∧ Below w.heap.size w wd)
        case first =>
          go_region_with (first
            | (go_at_call 28
               refine (drawBelow _ g _ _ (cur_low KC.out ((Below.refl _ _).drew)) hl0 (by omega)).mono ?_
               rintro e w6 ⟨v6, rfl, ⟨kz, rfl, k0, k1⟩, hc6, hb6⟩
               obtain ⟨k, rfl⟩ := Int.eq_ofNat_of_zero_le k0
               have hb6' : But g w5 w6 := (But.of_below ((Below.refl _ w5).drew)).trans hb6
               have KX6 := Lib.hid (KX.out.but hb6' (by omega))
               have KROW6 := Lib.hid (KROW.out.but hb6' (.inl hg3))
               have KC6 := Lib.hid hc6
               obtain ⟨x0, x1⟩ := cells2d KX6.out
               have xl6 := KX6.out.lt
               clear hc6 hb6)
            | (go_at_call 27
               refine (drawSx 1 (by omega) _ g _ KC6.out).mono ?_
               rintro e w7 ⟨y2, V7, rfl, hrow7, hn7, hs7, hc7, hb7⟩
               obtain ⟨A7, c7, rfl⟩ := hrow7.shape
               have hb7' := hb6'.trans hb7
               have KX7 := Lib.hid (KX6.out.but hb7 (by omega))
               have KROW7 := Lib.hid (KROW6.out.but hb7 (.inl hg3))
               obtain ⟨x0, x1⟩ := cells2d KX7.out
               have xl7 := KX7.out.lt
               have hkl : k < y.list.length := by omega
               obtain ⟨vs7, hown7, -, -⟩ := KROW7.out
               obtain ⟨u0, q0⟩ := rowAt hown7 (k * 2) (by omega)
               obtain ⟨u1, q1⟩ := rowAt hown7 (k * 2 + 1) (by omega)
               have hki : (k : Int) < (y.list.length : Int) := by omega
               have qf0 := hown7.frozenAt (k * 2)
               have qf1 := hown7.frozenAt (k * 2 + 1)))
          all_goals (
            have hgr := hown7.lt gr rfl
            have s6 : w5.heap.size ≤ w6.heap.size := hb6'.size
            have s7 := hb7.size
            have hgX : gr ≠ w4.heap.size := by obtain ⟨vsz, hoz, -, hXz⟩ := KROW.out; exact fun e => hXz (by rw [e]; rfl)
            have hgr6 : gr < w6.heap.size := by obtain ⟨vsz, hoz, -, -⟩ := KROW6.out; exact (hoz.lt gr rfl).2
            have hy2 : SxRow w7 (Off (.slice (some ⟨gr, 0, none⟩) y.list.length c4) w3.heap.size w4.heap.size w7.heap.size) A7 c7 y2.list := hrow7.row.frame (fun b h => ⟨⟨by have := h.1.1; omega, h.1.2⟩, fun e => by have := h.1.1; simp [Value.ownBlock] at e; omega, by have := h.1.1; omega⟩) fun _ _ _ => rfl
            have hput := KROW7.out.put hy2 hkl _ rfl
            have hwt2 := SX.small_wt hs7
            have hns := nodesL_set y.list k y2
            have hws := wtL_set y.list k y2
            have KPUT := Lib.hid hput
            have KR7 := Lib.hid (KR.out.but hb7' (by omega))
            have KB7 := Lib.hid (KB.out.trans (hb7'.to_below (show w.heap.size ≤ g by omega) KB.out.size))
            clear hput hy2 hrow7 hown7 hb7 hb7' hb6' hs7 hc7
            go_wp2
            go_meet
            case rel =>
              obtain ⟨hr8, hbut8, hz8⟩ := KPUT.out
              exact ⟨y.list.set k y2, List.length_set, hr8, by omega, by omega, KX7.out.but hbut8 (by omega), KR7.out.but hbut8 (by omega), KB7.out.trans (hbut8.to_below (by omega) KB7.out.size)⟩)
        case rest =>
          obtain ⟨l2, hl2, hrow, hn2, hw2, hX, hR, hB⟩ := hcut
          rw [← hl2] at hrow hX
          have KX := Lib.hid hX
          have KR := Lib.hid hR
          have KB := Lib.hid hB
          have hym : (SX.mk y.atom l2).nodes = 1 + SX.nodesL l2 := by rw [SX.nodes]
          have hyw2 : (SX.mk y.atom l2).wt = y.atom.size + SX.wtL l2 := by rw [SX.wt]
          have hend := xtEnd (x := .mk y.atom l2) KR.out KB.out (hrow.row : SxRow _ _ _ _ (SX.mk y.atom l2).list) (fun b h => ⟨by have := h.1.1; omega, h.1.2⟩) (by omega) (by omega)
          simp only [SX.mk_atom, SX.mk_list] at hend
          have hlt := KR.out.lt
          have r0 : wc.cell? ⟨w.heap.size, 0, none⟩ = some (.string ByteArray.empty) := by rw [KR.out.cell]; rfl
          have r1 : wc.cell? ⟨w.heap.size, 1, none⟩ = some (.slice none 0 0) := by rw [KR.out.cell]; rfl
          have rf0 : wc.frozen? ⟨w.heap.size, 0, none⟩ = false := KR.out.frozen 0
          have rf1 : wc.frozen? ⟨w.heap.size, 1, none⟩ = false := KR.out.frozen 1
          clear x0 x1 xl
          obtain ⟨x0, x1⟩ := cells2d KX.out
          have xl := KX.out.lt
          have HE := Lib.hid hend
          clear hend hrow hX hR hB hl2 hym hyw2
          go_wp2
          obtain ⟨e0, e1, e2⟩ := HE.out _ rfl
          exact bodyPost_ret (v := .agg #[.string y.atom, .slice (some ⟨gr, 0, none⟩) l2.length c4]) (by simp [results, Tryz.results8, go_sem, e0, e1]) rfl e2
end Go.Proofs.YtbcfeoobhemdcaaGreat

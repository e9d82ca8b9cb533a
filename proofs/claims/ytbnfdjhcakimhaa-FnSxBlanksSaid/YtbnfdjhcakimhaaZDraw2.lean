/- The draws of chapter 2: whole inputs. -/
import Derived.Test.YtbnfdjhcakimhaaZDrawOnce
import Derived.Test.YtbnfdjhcakimhaaZDrawBent
namespace Go.Proofs.Ytbnfdjhcakimhaa
open Go.RowKit Go.Lib

/-- What a draw of an expression returns: one in memory of its own; of what was there nothing has turned. -/
def MadeX (n : Nat) (w : World) (e : Ending) (w' : World) : Prop :=
  ∃ (x : SX) (V : Value), e = .returned (.agg #[.string x.atom, V]) ∧ RowX w.heap.size w'.heap.size V x.list w' ∧ x.nodes ≤ n ∧ x.small ∧ Below w.heap.size w w'
/-- The ending: what is returned written into the result's cells. -/
theorem madeEnd {n C : Nat} {w w3 : World} {x : SX} {V u v : Value} (hr : Whole w3 w.heap.size 26 #[u, v]) (hb : Below w.heap.size w w3) (hC : w.heap.size < C) (hrow : RowX C w3.heap.size V x.list w3) (hn : x.nodes ≤ n) (hs : x.small) :
    ∀ w4, w4 = (w3.setCell ⟨w.heap.size, 0, none⟩ (.string x.atom)).setCell ⟨w.heap.size, 1, none⟩ V → w4.cell? ⟨w.heap.size, 0, none⟩ = some (.string x.atom) ∧ w4.cell? ⟨w.heap.size, 1, none⟩ = some V ∧ MadeX n w (.returned (.agg #[.string x.atom, V])) w4 := by
  intro w4 h4
  obtain ⟨e0, e1, e2, e3, e4⟩ := res_set hr hb (.string x.atom) V w4 h4
  refine ⟨e0, e1, x, V, rfl, ?_, hn, hs, e2⟩
  exact (hrow.keep (by rw [e4]; exact Nat.le_refl _) fun b hb _ _ => e3 b (by omega)).wide (by omega) (.inr (.inl (Nat.le_refl _)))

set_option maxRecDepth 100000 in
set_option maxHeartbeats 4000000 in
theorem drawValid (A : Option Addr) (n c : Nat) (w : World) (hA : BytesAt w w.heap.size A n) (hn : n ≤ 140737488355328) :
    Calls Try.prog 36 #[.slice A n c] w (MadeX 1000 w) := by
  obtain ⟨i0, hi0', hz0, hz1, hz2⟩ := info_parts infoSx
  have hb0 : Below w.heap.size w (w.alloc (.cells #[.string ByteArray.empty, .slice none 0 0] 26)) := (Below.refl _ _).alloc (Nat.le_refl _) _
  have hr0 := Whole.new w 26 #[.string ByteArray.empty, .slice none 0 0]
  have hA1 := (hA.below hb0).mono_ hb0.size
  have HA := Lib.hid hA1
  have HB := Lib.hid hb0
  have HR := Lib.hid hr0
  clear hA hA1 hb0 hr0
  go_enter Try.func36, Try.ntmps36
  go_wp2_with fail
  refine (drawNew A n c _ HA.out hn).mono ?_
  rintro e w1 ⟨g, rfl, hc1, hb1⟩
  have hsz1 := hb1.size
  rw [World.size_alloc] at hsz1
  have hr1 := HR.out.below hb1 HR.out.lt
  have hbw := HB.out.trans (hb1.mono HB.out.size)
  have hg := hc1.own
  rw [World.size_alloc] at hg
  have HC := Lib.hid hc1
  have HR1 := Lib.hid hr1
  have HB1 := Lib.hid hbw
  clear hc1 hb1 hr1 hbw
  go_wp2_with fail
  refine (drawOnce _ g 20 _ HC.out (by omega) (by omega)).mono ?_
  rintro e w2 ⟨v, rfl, ⟨b, rfl⟩, hc2, hb2⟩
  have hsz2 := hb2.size
  have hr2 := HR1.out.but hb2 (by omega)
  have hb3 := HB1.out.trans (hb2.to_below (show w.heap.size ≤ g by omega) HB1.out.size)
  have HC2 := Lib.hid hc2
  have HR2 := Lib.hid hr2
  have HB2 := Lib.hid hb3
  clear hc2 hr2 hb3 hb2
  cases b with
  | false =>
    go_wp2_with fail
    refine (drawBent _ g _ HC2.out).mono ?_
    rintro e w3 ⟨x, V, rfl, hrow, hnx, hs, _, hb4⟩
    have hr3 := HR2.out.but hb4 (by omega)
    have hb5 := HB2.out.trans (hb4.to_below (show w.heap.size ≤ g by omega) HB2.out.size)
    have hend := madeEnd (n := 1000) hr3 hb5 (by omega) hrow (by omega) hs
    have hlt := hr3.lt
    have r0 : w3.cell? ⟨w.heap.size, 0, none⟩ = some (.string ByteArray.empty) := by rw [hr3.cell]; rfl
    have r1 : w3.cell? ⟨w.heap.size, 1, none⟩ = some (.slice none 0 0) := by rw [hr3.cell]; rfl
    have rf0 : w3.frozen? ⟨w.heap.size, 0, none⟩ = false := hr3.frozen 0
    have rf1 : w3.frozen? ⟨w.heap.size, 1, none⟩ = false := hr3.frozen 1
    obtain ⟨A2, c2, rfl⟩ := hrow.shape
    have HE := Lib.hid hend
    clear hend hr3 hb5 hrow hs hb4
    go_wp2
    obtain ⟨e0, e1, e2⟩ := HE.out _ rfl
    exact bodyPost_ret (v := .agg #[.string x.atom, .slice A2 x.list.length c2]) (by simp [results, Try.results36, go_sem, e0, e1]) rfl e2
  | true =>
    have hb4 : Below w2.heap.size w2 (w2.alloc (.cells #[.string ⟨#[]⟩, .slice none 0 0] 26)) := (Below.refl _ _).alloc (Nat.le_refl _) _
    have hx2 := Whole.new w2 26 #[.string ⟨#[]⟩, .slice none 0 0]
    have HC3 := Lib.hid (HC2.out.kept hb4)
    have HX3 := Lib.hid hx2
    have HR3 := Lib.hid (HR2.out.below hb4 HR2.out.lt)
    have HB3 := Lib.hid (HB2.out.trans (hb4.mono HB2.out.size))
    clear hb4 hx2
    go_wp2_with fail
    refine (drawBelow _ g 3 _ HC3.out (by omega) (by omega)).mono ?_
    rintro e w3 ⟨v, rfl, ⟨m, rfl, m0, m1⟩, hc4, hb4⟩
    obtain ⟨k, rfl⟩ := Int.eq_ofNat_of_zero_le m0
    have hsz3 := hb4.size
    rw [World.size_alloc] at hsz3
    have hgl := HC2.out.lt
    have hx4 := HX3.out.but hb4 (by omega)
    have hr4 := HR3.out.but hb4 (by omega)
    have hb5 := HB3.out.trans (hb4.to_below (show w.heap.size ≤ g by omega) HB3.out.size)
    obtain ⟨X, hXe⟩ : ∃ X, X = w2.heap.size := ⟨_, rfl⟩
    rw [← hXe] at hx4 hsz3 hsz2 hgl
    rw [← hXe]
    have HX4 := Lib.hid hx4
    have HR4 := Lib.hid hr4
    have HB4 := Lib.hid hb5
    have HC4 := Lib.hid hc4
    clear hx4 hr4 hb5 hc4 hb4 hXe m0
    go_wp2
    go_loopw [6] (fun iv wr => ∃ (V : Value) (acc : List SX), acc.length ≤ 898 + k ∧ iv = .int .i64 acc.length ∧ Whole wr X 26 #[.string ⟨#[]⟩, V] ∧ RowX (X + 1) X V acc wr ∧ Whole wr w.heap.size 26 #[.string ByteArray.empty, .slice none 0 0] ∧ Cur wr (w.heap.size + 1) g ∧ Below w.heap.size w wr ∧ SX.nodesL acc = acc.length ∧ SX.wtL acc ≤ 14 * SX.nodesL acc) (fun iv _ => 898 + k - (Go.RowKit.intOf iv).toNat)
    case atStart => exact ⟨.slice none 0 0, [], Nat.zero_le _, rfl, HX4.out, RowX.nil _ _ _, HR4.out, by have h := HC4.out; rw [World.size_alloc] at h; exact h, HB4.out, by simp [SX.nodesL], by simp [SX.wtL]⟩
    case round =>
      obtain ⟨V, acc, hi, rfl, hx, hrow, hr, hc, hb, hnd, hwt⟩ := hrel
      have hXl := hx.lt
      have hRl := hr.lt
      obtain ⟨A0, cap0, rfl⟩ := hrow.shape
      have hwsz := hb.size
      by_cases hlt : acc.length < 898 + k
      · have hlt' : (acc.length : Int) < 898 + k := by omega
        have hi0 : (0 : Int) ≤ acc.length := by omega
        have x1 : wr.cell? ⟨X, 1, none⟩ = some (.slice A0 acc.length cap0) := by rw [hx.cell]; rfl
        obtain ⟨vs, hown, hel, hVX⟩ := hrow
        have hal4 : acc.length ≤ 901 := by omega
        have HX := Lib.hid hx
        have HOW := Lib.hid hown
        have HEL := Lib.hid hel
        have HCW := Lib.hid hc
        have HBW := Lib.hid hb
        have HND := Lib.hid hnd
        have HWT := Lib.hid hwt
        have HVX := Lib.hid hVX
        have HRW := Lib.hid hr
        clear hx hown hel hc hb hnd hwt hVX hr
        go_wp2
        go_region_law
          (first
            | (refine step_append_lies _ (by rfl) _ _ _ (by rfl) (X + 1) 26 i0 _ 2 40 Try.underlying24 hi0' hz0 hz1 hz2 rfl (by omega) (.slice A0 acc.length cap0) acc.length vs (by rfl) (hown6.alloc _)
                 ⟨w6.heap.size, 0, none⟩ 1 1 [.string ⟨#[97]⟩, .slice none 0 0] (by rfl) (by rfl) (news_sx w6 _ _ _) (one_sx _ _ _ _) (by omega) (by unfold maxLen; omega) (by omega) (by simp; omega) (w6.heap.size + 1) (by simp) ?_
               intro g' cap' w7 hown7 hgrow7 hat7 hlt7
               obtain ⟨x7, xf7⟩ := behind3 x6 xf6 HVX.out hX6 hgrow7)
            | (go_simp
               go_at_call 67
               refine (atomC ⟨#[97]⟩ _).mono ?_
               rintro e w6 ⟨rfl, hb6'⟩
               have hb6 : Below wr.heap.size wr w6 := Below.trans ((Below.refl wr.heap.size wr).drew) hb6'
               obtain ⟨x6, xf6, hX6, hx6, hown6, hel6, hr6, hc6, -⟩ := bent6 HX.out HOW.out HEL.out HRW.out HCW.out (But.refl g wr) hb6))
        all_goals (
          have hbg : But g w w6 := (But.of_below HBW.out).trans (But.of_below hb6)
          have hr8 := bent8 (g' := g') (cap' := cap') hr6 hX6 hown6 (by omega) (by omega) hgrow7
          obtain ⟨f1, f2, f3, f4⟩ := accMore (Bs := X + 1) (w0 := w) (w6 := w6) (y := .mk ⟨#[97]⟩ []) (A := none) (c := 0) (show g < X by omega) (show g < X + 1 by omega) (show w.heap.size ≤ X by omega) (show w.heap.size ≤ X + 1 by omega) hx6 hown6 hel6 HVX.out (SxRow.nil _ _ _ _ (by decide)) hc6 hbg hgrow7 hown7 hat7 (Nat.lt_succ_self _) _ rfl
          have f5 := f4.to_below (show w.heap.size ≤ g by omega) (Nat.le_refl _)
          have F1 := Lib.hid f1
          have F2 := Lib.hid f2
          have F3 := Lib.hid f3
          have F5 := Lib.hid f5
          have F6 := Lib.hid hr8
          clear f1 f2 f3 f4 f5 hr8 hbg hgrow7 hown7 hat7 hx6 hown6 hel6 hr6 hc6 hb6 hb6'
          go_wp2
          go_roundw
          case rel => exact ⟨.slice (some ⟨g', 0, none⟩) (acc.length + 1) cap', acc ++ [.mk ⟨#[97]⟩ []], by simp; omega, by rw [List.length_append]; go_num, F1.out, F2.out, F6.out, F3.out, F5.out, by rw [SX.nodesL_snoc, atom_nodes, List.length_append, List.length_singleton, HND.out], by rw [SX.wtL_snoc, SX.nodesL_snoc, atom_nodes, atom_wt]; have := HWT.out; have : (⟨#[97]⟩ : ByteArray).size = 1 := rfl; omega⟩
          case measure => simp [Go.RowKit.intOf]; omega)
      · have hlt' : ¬ ((acc.length : Int) < 898 + k) := by omega
        have x0 : wr.cell? ⟨X, 0, none⟩ = some (.string ⟨#[]⟩) := by rw [hx.cell]; rfl
        have x1 : wr.cell? ⟨X, 1, none⟩ = some (.slice A0 acc.length cap0) := by rw [hx.cell]; rfl
        have r0 : wr.cell? ⟨w.heap.size, 0, none⟩ = some (.string ByteArray.empty) := by rw [hr.cell]; rfl
        have r1 : wr.cell? ⟨w.heap.size, 1, none⟩ = some (.slice none 0 0) := by rw [hr.cell]; rfl
        have rf0 : wr.frozen? ⟨w.heap.size, 0, none⟩ = false := hr.frozen 0
        have rf1 : wr.frozen? ⟨w.heap.size, 1, none⟩ = false := hr.frozen 1
        have hend := madeEnd (n := 1000) (x := .mk ⟨#[]⟩ acc) hr hb (show w.heap.size < X + 1 by omega) (hrow.wide (Nat.le_refl _) (.inr (.inl (Nat.le_refl _)))) (by rw [SX.nodes, hnd]; omega) ⟨Nat.zero_le _, hwt⟩
        simp only [SX.mk_atom] at hend
        have HE := Lib.hid hend
        clear hend hx hrow hr hc hb hnd hwt
        go_wp2
        obtain ⟨e0, e1, e2⟩ := HE.out _ rfl
        exact bodyPost_ret (v := .agg #[.string ⟨#[]⟩, .slice A0 acc.length cap0]) (by simp [results, Try.results36, go_sem, e0, e1]) rfl e2

set_option maxRecDepth 100000 in
set_option maxHeartbeats 1000000 in
theorem drawFormat (A : Option Addr) (n c : Nat) (w : World) (hA : BytesAt w w.heap.size A n) (hn : n ≤ 140737488355328) :
    Calls Try.prog 14 #[.slice A n c] w (MadeX 1000 w) := by
  have hb0 : Below w.heap.size w (w.alloc (.cells #[.string ByteArray.empty, .slice none 0 0] 26)) := (Below.refl _ _).alloc (Nat.le_refl _) _
  have hr0 := Whole.new w 26 #[.string ByteArray.empty, .slice none 0 0]
  have hA1 := (hA.below hb0).mono_ hb0.size
  have HA := Lib.hid hA1
  have HB := Lib.hid hb0
  have HR := Lib.hid hr0
  clear hA hA1 hb0 hr0
  go_enter Try.func14, Try.ntmps14
  go_wp2_with fail
  refine (drawValid A n c _ HA.out hn).mono ?_
  rintro e w2 ⟨x, V, rfl, hrow, hnx, hs, hb2⟩
  have hr2 := HR.out.below hb2 HR.out.lt
  have hb3 := HB.out.trans (hb2.mono HB.out.size)
  have hend := madeEnd (n := 1000) hr2 hb3 (by rw [World.size_alloc]; omega) hrow hnx hs
  have hlt := hr2.lt
  have r0 : w2.cell? ⟨w.heap.size, 0, none⟩ = some (.string ByteArray.empty) := by rw [hr2.cell]; rfl
  have r1 : w2.cell? ⟨w.heap.size, 1, none⟩ = some (.slice none 0 0) := by rw [hr2.cell]; rfl
  have rf0 : w2.frozen? ⟨w.heap.size, 0, none⟩ = false := hr2.frozen 0
  have rf1 : w2.frozen? ⟨w.heap.size, 1, none⟩ = false := hr2.frozen 1
  obtain ⟨A2, c2, rfl⟩ := hrow.shape
  have HE := Lib.hid hend
  clear hend hr2 hb3 hrow hs hb2
  go_wp2
  obtain ⟨e0, e1, e2⟩ := HE.out _ rfl
  exact bodyPost_ret (v := .agg #[.string x.atom, .slice A2 x.list.length c2]) (by simp [results, Try.results14, go_sem, e0, e1]) rfl e2
end Go.Proofs.Ytbnfdjhcakimhaa

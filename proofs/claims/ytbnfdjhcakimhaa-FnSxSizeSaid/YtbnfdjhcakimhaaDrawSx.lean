/- The draws of chapter 2: an expression. -/
import Derived.Test.YtbnfdjhcakimhaaDrawOnce
import Derived.Test.YtbnfdjhcakimhaaRowX
import Derived.Test.YtbnfdjhcakimhaaMem
import Derived.IntWalk
import Derived.Deep.RegionLaw
import Derived.Deep.AppendLies
namespace Go.Proofs.Ytbnfdjhcakimhaa
open Go.RowKit Go.Lib

/-- No word is longer than 13 bytes. -/
def SX.small (x : SX) : Prop := x.atom.size ≤ 13 ∧ SX.wtL x.list ≤ 14 * SX.nodesL x.list
theorem SX.small_wt {x : SX} (h : x.small) : x.wt + 1 ≤ 14 * x.nodes := by
  have h1 := SX.wt_eq x
  have h2 := SX.nodes_eq x
  obtain ⟨h3, h4⟩ := h
  omega
/-- What a draw of an expression leaves: a small one, in memory of its own; the cursor moved. -/
def DrawnX (n B g : Nat) (w : World) (e : Ending) (w' : World) : Prop :=
  ∃ (x : SX) (V : Value), e = .returned (.agg #[.string x.atom, V]) ∧ RowX w.heap.size w'.heap.size V x.list w' ∧ x.nodes ≤ n ∧ x.small ∧ Cur w' B g ∧ But g w w'

set_option maxRecDepth 100000 in
theorem atomC (a : ByteArray) (w : World) : Calls Try.prog 67 #[.string a] w fun e w' => e = .returned (.agg #[.string a, .slice none 0 0]) ∧ Below w.heap.size w w' := by
  have hb0 : ∀ u, Below w.heap.size w (w.alloc (.cells #[.string a, u] 26)) := fun u => (Below.refl _ _).alloc (Nat.le_refl _) _
  go_enter Try.func67, Try.ntmps67
  go_wp2
  exact bodyPost_ret (v := .agg #[.string a, .slice none 0 0]) (by simp [results, Try.results67, go_sem]) rfl ⟨rfl, hb0 _⟩

def sxWords : List ByteArray := [⟨#[97]⟩, ⟨#[105, 110, 116]⟩, ⟨#[39, 98]⟩, ⟨#[48]⟩, ⟨#[45, 53]⟩, ⟨#[120, 46, 121]⟩]
theorem sxWords_short {x : ByteArray} (h : x ∈ sxWords) : x.size ≤ 3 := by
  simp only [sxWords, List.mem_cons, List.mem_nil_iff, or_false] at h
  rcases h with rfl | rfl | rfl | rfl | rfl | rfl <;> decide
theorem atom_small {a : ByteArray} {n : Nat} (h : a.size ≤ 13) (hn : 1 ≤ n) : (SX.mk a []).nodes ≤ n ∧ (SX.mk a []).small :=
  ⟨by simp only [SX.nodes, SX.nodesL]; omega, h, by simp [SX.list, SX.wtL]⟩
/-- The ending with an atom: the result's cells written. -/
theorem atomEnd {n B g : Nat} {w w3 : World} {a : ByteArray} {u v : Value} (hg : g < w.heap.size) (hr : Whole w3 w.heap.size 26 #[u, v]) (hc : Cur w3 B g) (hb : But g w w3) (ha : a.size ≤ 13) (hn : 1 ≤ n) :
    ∀ w4, w4 = (w3.setCell ⟨w.heap.size, 0, none⟩ (.string a)).setCell ⟨w.heap.size, 1, none⟩ (.slice none 0 0) → w4.cell? ⟨w.heap.size, 0, none⟩ = some (.string a) ∧ w4.cell? ⟨w.heap.size, 1, none⟩ = some (.slice none 0 0) ∧ DrawnX n B g w (.returned (.agg #[.string a, .slice none 0 0])) w4 := by
  intro w4 h4
  have hw : Whole w4 w.heap.size 26 #[.string a, .slice none 0 0] := by
    have h := (hr.set_ 0 (.string a)).set_ 1 (.slice none 0 0)
    rw [← h4] at h
    simpa using h
  have hb4 : But w.heap.size w3 w4 := by rw [h4]; exact (But.set_ _ _ 0 _).trans (But.set_ _ _ 1 _)
  have hbw : But g w w4 := by rw [h4]; exact (hb.far (p := ⟨w.heap.size, 0, none⟩) (Nat.le_refl _) _).far (p := ⟨w.heap.size, 1, none⟩) (Nat.le_refl _) _
  refine ⟨by rw [hw.cell]; rfl, by rw [hw.cell]; rfl, .mk a [], _, rfl, RowX.nil _ _ _, (atom_small ha hn).1, (atom_small ha hn).2, cur_but hc hb4 hg, hbw⟩

/-- The ending with a list. -/
theorem listEnd {n B g c : Nat} {w w3 : World} {A : Option Addr} {acc : List SX} {u v : Value} (hg : g < w.heap.size) (hr : Whole w3 w.heap.size 26 #[u, v]) (hc : Cur w3 B g) (hb : But g w w3)
    (hrow : RowX (w.heap.size + 1) w.heap.size (.slice A acc.length c) acc w3) (hn : 1 + SX.nodesL acc ≤ n) (hwt : SX.wtL acc ≤ 14 * SX.nodesL acc) :
    ∀ w4, w4 = (w3.setCell ⟨w.heap.size, 0, none⟩ (.string ⟨#[]⟩)).setCell ⟨w.heap.size, 1, none⟩ (.slice A acc.length c) → w4.cell? ⟨w.heap.size, 0, none⟩ = some (.string ⟨#[]⟩) ∧ w4.cell? ⟨w.heap.size, 1, none⟩ = some (.slice A acc.length c) ∧ DrawnX n B g w (.returned (.agg #[.string ⟨#[]⟩, .slice A acc.length c])) w4 := by
  intro w4 h4
  have hw : Whole w4 w.heap.size 26 #[.string ⟨#[]⟩, .slice A acc.length c] := by
    have h := (hr.set_ 0 (.string ⟨#[]⟩)).set_ 1 (.slice A acc.length c)
    rw [← h4] at h
    simpa using h
  have hb4 : But w.heap.size w3 w4 := by rw [h4]; exact (But.set_ _ _ 0 _).trans (But.set_ _ _ 1 _)
  have hbw : But g w w4 := by rw [h4]; exact (hb.far (p := ⟨w.heap.size, 0, none⟩) (Nat.le_refl _) _).far (p := ⟨w.heap.size, 1, none⟩) (Nat.le_refl _) _
  refine ⟨by rw [hw.cell]; rfl, by rw [hw.cell]; rfl, .mk ByteArray.empty acc, _, rfl, (hrow.but hb4 (.inr rfl)).wide (Nat.le_succ _) (.inr (.inl (Nat.le_refl _))), by rw [SX.nodes]; exact hn, ⟨Nat.zero_le _, hwt⟩, cur_but hc hb4 hg, hbw⟩
theorem SX.nodesL_snoc : ∀ (l : List SX) (y : SX), SX.nodesL (l ++ [y]) = SX.nodesL l + y.nodes
  | [], y => by simp [SX.nodesL]
  | z :: r, y => by rw [List.cons_append, SX.nodesL, SX.nodesL, SX.nodesL_snoc r y]; omega
theorem SX.wtL_snoc : ∀ (l : List SX) (y : SX), SX.wtL (l ++ [y]) = SX.wtL l + 1 + y.wt
  | [], y => by simp [SX.wtL]
  | z :: r, y => by rw [List.cons_append, SX.wtL, SX.wtL, SX.wtL_snoc r y]; omega

def DrawSx (k : Nat) : Prop := ∀ (B g : Nat) (w : World), Cur w B g → Calls Try.prog 51 #[.pointer (some ⟨g, 0, none⟩), .int .i64 k] w (DrawnX (4 ^ k) B g w)

set_option maxRecDepth 100000 in
set_option maxHeartbeats 2000000 in
theorem drawSx0 : DrawSx 0 := by
  intro B g w hw
  have hg := hw.lt
  have hb0 : Below w.heap.size w (w.alloc (.cells #[.string ByteArray.empty, .slice none 0 0] 26)) := (Below.refl _ _).alloc (Nat.le_refl _) _
  have hr0 := Whole.new w 26 #[.string ByteArray.empty, .slice none 0 0]
  have hb1 : Below (w.alloc (.cells #[.string ByteArray.empty, .slice none 0 0] 26)).heap.size (w.alloc (.cells #[.string ByteArray.empty, .slice none 0 0] 26)) ((w.alloc (.cells #[.string ByteArray.empty, .slice none 0 0] 26)).alloc (.cells (sxWords.map Value.string).toArray 9)) := (Below.refl _ _).alloc (Nat.le_refl _) _
  have hc1 := (hw.kept hb0).kept hb1
  have hr1 := hr0.below hb1 hr0.lt
  have hp1 := Whole.new (w.alloc (.cells #[.string ByteArray.empty, .slice none 0 0] 26)) 9 (sxWords.map Value.string).toArray
  rw [World.size_alloc] at hp1
  have hbb := (But.of_below (g := g) hb0).trans (But.of_below hb1)
  have HC := Lib.hid hc1
  have HR := Lib.hid hr1
  have HP := Lib.hid hp1
  have HB := Lib.hid hbb
  clear hw hb0 hr0 hb1 hc1 hr1 hp1 hbb
  go_enter Try.func51, Try.ntmps51
  go_wp2_with fail
  refine (drawPick B g (w.heap.size + 1) 6 sxWords _ HC.out HP.out (by decide) (by decide) (by omega)).mono ?_
  rintro e w1 ⟨v, rfl, ⟨a, ha, rfl⟩, hc2, hb2⟩
  have hr2 := HR.out.but hb2 (by omega)
  have ha3 := sxWords_short ha
  have hbw := HB.out.trans hb2
  have HC2 := Lib.hid hc2
  have HR2 := Lib.hid hr2
  have HB2 := Lib.hid hbw
  clear ha hc2 hr2 hbw hb2
  go_wp2_with fail
  refine (atomC a _).mono ?_
  rintro e w2 ⟨rfl, hb3⟩
  have hr3 := HR2.out.below hb3 HR2.out.lt
  have hend := atomEnd (n := 4 ^ 0) hg hr3 (HC2.out.kept hb3) (HB2.out.trans (But.of_below hb3)) (show a.size ≤ 13 by omega) (by decide)
  have hlt3 := hr3.lt
  have r0 : w2.cell? ⟨w.heap.size, 0, none⟩ = some (.string ByteArray.empty) := by rw [hr3.cell]; rfl
  have r1 : w2.cell? ⟨w.heap.size, 1, none⟩ = some (.slice none 0 0) := by rw [hr3.cell]; rfl
  have rf0 : w2.frozen? ⟨w.heap.size, 0, none⟩ = false := hr3.frozen 0
  have rf1 : w2.frozen? ⟨w.heap.size, 1, none⟩ = false := hr3.frozen 1
  have HE := Lib.hid hend
  clear hend hr3 hb3
  go_wp2
  obtain ⟨e0, e1, e2⟩ := HE.out _ rfl
  exact bodyPost_ret (v := .agg #[.string a, .slice none 0 0]) (by simp [results, Try.results51, go_sem, e0, e1]) rfl e2

theorem cur_low {w w' : World} {B g : Nat} (h : Cur w B g) (hb : Below (g + 1) w w') : Cur w' B g := by
  have ho := h.own
  obtain ⟨A, n, c, i, x, hc⟩ := h
  exact ⟨A, n, c, i, x, ⟨hc.cells.below hb (Nat.lt_succ_self g), ho, hc.bytes.below (hb.mono (by omega)), hc.size, hc.lo, hc.hi⟩⟩
theorem cur_drew {w : World} {B g : Nat} (h : Cur w B g) (n : Nat) : Cur (w.drewN n) B g := by
  obtain ⟨A, k, c, i, x, hc⟩ := h
  exact ⟨A, k, c, i, x, hc.drewN n⟩
/-- Behind the inner draw: the list's own row and variable. -/
theorem behindD {B g X N k : Nat} {wr w6 : World} {V : Value} {acc : List SX} {vs : List Value} {e : Ending} (hg : g < X) (hx : Whole wr X 26 #[.string ⟨#[]⟩, V]) (hown : wr.ownsRow (X + 1) 26 2 V acc.length vs)
    (hel : ElemsC wr (Off V (X + 1) X wr.heap.size) acc vs) (h : DrawnX N B g (wr.drewN k) e w6) :
    ∃ (y : SX) (A : Option Addr) (c : Nat), e = .returned (.agg #[.string y.atom, .slice A y.list.length c]) ∧ w6.cell? ⟨X, 1, none⟩ = some V ∧ w6.frozen? ⟨X, 1, none⟩ = false ∧ w6.ownsRow (X + 1) 26 2 V acc.length vs ∧ X < w6.heap.size ∧
      Whole w6 X 26 #[.string ⟨#[]⟩, V] ∧ ElemsC w6 (Off V (X + 1) X w6.heap.size) acc vs ∧ SxRow w6 (Off V (X + 1) X w6.heap.size) A c y.list ∧ Cur w6 B g ∧ But g wr w6 ∧ y.nodes ≤ N ∧ y.small := by
  obtain ⟨y, V2, rfl, hr, hn, hw, hc, hb⟩ := h
  have hb' : But g wr w6 := ((But.refl g wr).drewN_ k).trans hb
  obtain ⟨A, c, rfl⟩ := hr.shape
  have hx6 := hx.but hb' (by omega)
  have hXw := hx.lt
  have hl := hr.row
  refine ⟨y, A, c, rfl, by rw [hx6.cell]; rfl, hx6.frozen 1, own_but hown hb' (by omega), hx6.lt, hx6, ?_, ?_, hc, hb', hn, hw⟩
  · exact hel.frame (fun b hP => ⟨⟨hP.1.1, by have := hP.1.2; have := hb'.size; omega⟩, hP.2⟩) fun b o hP => World.cell?_of_block (a := ⟨b, o, none⟩) (hb'.block b hP.1.2 (by have := hP.1.1; omega))
  · refine hl.frame (fun b hP => ⟨⟨?_, hP.1.2⟩, ?_, ?_⟩) fun _ _ _ => rfl
    · have := hP.1.1; simp at this; omega
    · intro e; have := (hown.lt b e).2; have := hP.1.1; simp at this; omega
    · have := hP.1.1; simp at this; omega
/-- One expression more in the variable at X. -/
theorem accMore {B Bs g X g' cap' H : Nat} {w0 w6 w7 : World} {V : Value} {acc : List SX} {vs : List Value} {y : SX} {A : Option Addr} {c : Nat} {u : Value} (hg : g < X) (hgB : g < Bs) (hX0 : w0.heap.size ≤ X) (hB0 : w0.heap.size ≤ Bs) (hx : Whole w6 X 26 #[u, V])
    (hown : w6.ownsRow Bs 26 2 V acc.length vs) (hel : ElemsC w6 (Off V Bs X w6.heap.size) acc vs) (hVX : V.ownBlock ≠ some X) (hl : SxRow w6 (Off V Bs X w6.heap.size) A c y.list) (hc : Cur w6 B g) (hb : But g w0 w6)
    (hgrow : (w6.alloc (.cells #[.string y.atom, .slice A y.list.length c] 26)).grownBy w7 V.ownBlock)
    (hown7 : w7.ownsRow Bs 26 2 (.slice (some ⟨g', 0, none⟩) (acc.length + 1) cap') (acc.length + 1) (vs ++ [.string y.atom, .slice A y.list.length c])) (hat : V.ownBlock = some g' ∨ g' = H) (hH : w6.heap.size < H) :
    ∀ w8, w8 = w7.setCell ⟨X, 1, none⟩ (.slice (some ⟨g', 0, none⟩) (acc.length + 1) cap') → Whole w8 X 26 #[u, .slice (some ⟨g', 0, none⟩) (acc.length + 1) cap'] ∧ RowX Bs X (.slice (some ⟨g', 0, none⟩) (acc.length + 1) cap') (acc ++ [y]) w8 ∧ Cur w8 B g ∧ But g w0 w8 := by
  intro w8 h8
  have hVlt := hown.lt
  have hXw := hx.lt
  have hsz7 : w6.heap.size + 1 ≤ w7.heap.size := by have := hgrow.size; simpa using this
  have hlow : Below (g + 1) w6 w7 := ⟨hgrow.os, hgrow.tape, hgrow.output, by omega, fun b hb => (hgrow.block b (by simp; omega) (fun e => by have := (hVlt b e.symm).1; omega)).trans (Below.heap_alloc _ _ _ (by omega))⟩
  have hset : But X w7 w8 := by rw [h8]; exact But.set_ X w7 1 _
  have hx7 : Whole w7 X 26 #[u, V] := ((hgrow.block X (by simp; omega) (fun e => hVX e.symm)).trans (Below.heap_alloc _ _ _ hXw)).trans hx
  have hrow := RowX.more hel hVX hXw hl hgrow hown7 hat hH
  refine ⟨?_, hrow.but hset (.inr rfl), cur_but (cur_low hc hlow) hset hg, ?_⟩
  · have h := hx7.set_ 1 (.slice (some ⟨g', 0, none⟩) (acc.length + 1) cap')
    rw [← h8] at h
    simpa using h
  · rw [h8]
    exact ((hb.alloc_ _).grown hgrow (fun k hk => by have := (hVlt k hk).1; omega)).far (p := ⟨X, 1, none⟩) hX0 _

set_option maxRecDepth 100000 in
set_option maxHeartbeats 4000000 in
theorem drawSxS (k : Nat) (hk : k ≤ 100) (ih : DrawSx k) : DrawSx (k + 1) := by
  intro B g w hw
  obtain ⟨i0, hi0', hz0, hz1, hz2⟩ := info_parts infoSx
  have hg := hw.lt
  have hb0 : Below w.heap.size w (w.alloc (.cells #[.string ByteArray.empty, .slice none 0 0] 26)) := (Below.refl _ _).alloc (Nat.le_refl _) _
  have hr0 := Whole.new w 26 #[.string ByteArray.empty, .slice none 0 0]
  have hc0 := hw.kept hb0
  have hk0 : ¬ ((k : Int) + 1 ≤ 0) := by omega
  have hki : (k : Int) ≤ 100 := by omega
  have hpow : 4 ^ (k + 1) = 4 * 4 ^ k := by rw [Nat.pow_succ]; omega
  have hpos : 1 ≤ 4 ^ k := Nat.pow_pos (show 0 < 4 by decide)
  have HC := Lib.hid hc0
  have HR := Lib.hid hr0
  have HB := Lib.hid hb0
  have HPW := Lib.hid hpow
  clear hw hb0 hr0 hc0 hpow
  go_enter Try.func51, Try.ntmps51
  go_wp2_with fail
  refine (drawOnce B g 2 _ HC.out (by omega) (by omega)).mono ?_
  rintro e w1 ⟨v, rfl, ⟨b, rfl⟩, hc1, hb1⟩
  have hr1 := HR.out.but hb1 (by omega)
  have hsz1 := hb1.size
  rw [World.size_alloc] at hsz1
  have hbw := (But.of_below (g := g) HB.out).trans hb1
  have HC1 := Lib.hid hc1
  have HR1 := Lib.hid hr1
  have HB1 := Lib.hid hbw
  clear hc1 hr1 hbw hb1
  cases b with
  | true =>
    have hb2 : Below w1.heap.size w1 (w1.alloc (.cells (sxWords.map Value.string).toArray 9)) := (Below.refl _ _).alloc (Nat.le_refl _) _
    have hc2 := HC1.out.kept hb2
    have hr2 := HR1.out.below hb2 HR1.out.lt
    have hp2 := Whole.new w1 9 (sxWords.map Value.string).toArray
    have hbb := HB1.out.trans (But.of_below hb2)
    have HC2 := Lib.hid hc2
    have HR2 := Lib.hid hr2
    have HP2 := Lib.hid hp2
    have HB2 := Lib.hid hbb
    clear hb2 hc2 hr2 hp2 hbb
    go_wp2_with fail
    refine (drawPick B g w1.heap.size 6 sxWords _ HC2.out HP2.out (by decide) (by decide) (by omega)).mono ?_
    rintro e w2 ⟨v, rfl, ⟨a, ha, rfl⟩, hc2, hb2⟩
    have hr2 := HR2.out.but hb2 (by omega)
    have ha3 := sxWords_short ha
    have hbw := HB2.out.trans hb2
    have HC3 := Lib.hid hc2
    have HR3 := Lib.hid hr2
    have HB3 := Lib.hid hbw
    clear ha hc2 hr2 hbw hb2
    go_wp2_with fail
    refine (atomC a _).mono ?_
    rintro e w3 ⟨rfl, hb3⟩
    have hr3 := HR3.out.below hb3 HR3.out.lt
    have hend := atomEnd (n := 4 ^ (k + 1)) hg hr3 (HC3.out.kept hb3) (HB3.out.trans (But.of_below hb3)) (show a.size ≤ 13 by omega) (by rw [HPW.out]; omega)
    have hlt3 := hr3.lt
    have r0 : w3.cell? ⟨w.heap.size, 0, none⟩ = some (.string ByteArray.empty) := by rw [hr3.cell]; rfl
    have r1 : w3.cell? ⟨w.heap.size, 1, none⟩ = some (.slice none 0 0) := by rw [hr3.cell]; rfl
    have rf0 : w3.frozen? ⟨w.heap.size, 0, none⟩ = false := hr3.frozen 0
    have rf1 : w3.frozen? ⟨w.heap.size, 1, none⟩ = false := hr3.frozen 1
    have HE := Lib.hid hend
    clear hend hr3 hb3
    go_wp2
    obtain ⟨e0, e1, e2⟩ := HE.out _ rfl
    exact bodyPost_ret (v := .agg #[.string a, .slice none 0 0]) (by simp [results, Try.results51, go_sem, e0, e1]) rfl e2
  | false =>
    have hb2 : Below w1.heap.size w1 (w1.alloc (.cells #[.string ⟨#[]⟩, .slice none 0 0] 26)) := (Below.refl _ _).alloc (Nat.le_refl _) _
    have hc2 := HC1.out.kept hb2
    have hx2 := Whole.new w1 26 #[.string ⟨#[]⟩, .slice none 0 0]
    have HC2 := Lib.hid hc2
    have HX2 := Lib.hid hx2
    have HBL := Lib.hid hb2
    clear hc2 hx2 hb2
    go_wp2_with fail
    refine (drawBelow B g 4 _ HC2.out (by omega) (by omega)).mono ?_
    rintro e w2 ⟨v, rfl, ⟨m, rfl, m0, m1⟩, hc3, hb3⟩
    obtain ⟨n, rfl⟩ := Int.eq_ofNat_of_zero_le m0
    have hsz2 := hb3.size
    rw [World.size_alloc] at hsz2
    have hx3 := HX2.out.but hb3 (by omega)
    have hb4 : But g w1 w2 := (But.of_below HBL.out).trans hb3
    have HC3 := Lib.hid hc3
    have HX3 := Lib.hid hx3
    have HB3 := Lib.hid hb4
    clear hc3 hx3 hb4 hb3 m0
    go_wp2
    obtain ⟨X, hXe⟩ : ∃ X, X = w1.heap.size := ⟨_, rfl⟩
    rw [← hXe]
    have HXE := Lib.hid hXe
    clear hXe
    go_loopw [7] (fun iv wr => ∃ (V : Value) (acc : List SX), acc.length ≤ n ∧ iv = .int .i64 acc.length ∧ Whole wr X 26 #[.string ⟨#[]⟩, V] ∧ RowX (X + 1) X V acc wr ∧ Cur wr B g ∧ But g w1 wr ∧ SX.nodesL acc ≤ acc.length * 4 ^ k ∧ SX.wtL acc ≤ 14 * SX.nodesL acc) (fun iv _ => n - (Go.RowKit.intOf iv).toNat)
    case atStart => exact ⟨.slice none 0 0, [], Nat.zero_le _, rfl, by rw [HXE.out]; exact HX3.out, RowX.nil _ _ _, HC3.out, HB3.out, by simp [SX.nodesL], by simp [SX.wtL]⟩
    case round =>
      obtain ⟨V, acc, hi, rfl, hx, hrow, hc, hb, hnd, hwt⟩ := hrel
      have hgX : g < X := by rw [HXE.out]; omega
      have hXl := hx.lt
      have hwX : w1.heap.size ≤ X := by rw [HXE.out]; exact Nat.le_refl _
      obtain ⟨A0, cap0, rfl⟩ := hrow.shape
      by_cases hlt : acc.length < n
      · have hi0 : (0 : Int) ≤ acc.length := by omega
        have x1 : wr.cell? ⟨X, 1, none⟩ = some (.slice A0 acc.length cap0) := by rw [hx.cell]; rfl
        obtain ⟨vs, hown, hel, hVX⟩ := hrow
        have hsub : IntKind.i64.wrap (k : Int) = k := IntWalk.i64_in _ (by omega)
        have HX := Lib.hid hx
        have HOW := Lib.hid hown
        have HEL := Lib.hid hel
        have HCW := Lib.hid hc
        have HBW := Lib.hid hb
        have HND := Lib.hid hnd
        have HWT := Lib.hid hwt
        have HVX := Lib.hid hVX
        have hal4 : acc.length ≤ 3 := by omega
        clear hx hown hel hc hb hnd hwt hVX
        go_wp2
        go_region_law
          (first
            | (refine step_append_lies _ (by rfl) _ _ _ (by rfl) (X + 1) 26 i0 _ 2 40 Try.underlying24 hi0' hz0 hz1 hz2 rfl (by omega) (.slice A0 acc.length cap0) acc.length vs (by rfl) (hown6.alloc _)
                 ⟨w6.heap.size, 0, none⟩ 1 1 [.string y.atom, .slice A y.list.length c] (by rfl) (by rfl) (news_sx w6 _ _ _) (one_sx _ _ _ _) (by omega) (by unfold maxLen; omega) (by omega) (by simp; omega) (w6.heap.size + 1) (by simp) ?_
               intro g' cap' w7 hown7 hgrow7 hat7 hlt7
               obtain ⟨x7, xf7⟩ := behind2 x6 xf6 hown6 hX6 hgrow7)
            | (go_simp
               go_at_call 51
               refine (ih B g _ (cur_drew HCW.out _)).mono ?_
               intro e w6 hgv
               obtain ⟨y, A, c, rfl, x6, xf6, hown6, hX6, hx6, hel6, hly6, hc6, hb6, hny, hwy⟩ := behindD hgX HX.out HOW.out HEL.out hgv))
        all_goals go_wp2
        all_goals (
          obtain ⟨f1, f2, f3, f4⟩ := accMore hgX (Nat.lt_succ_of_lt hgX) hwX (Nat.le_succ_of_le hwX) hx6 hown6 hel6 HVX.out hly6 hc6 (HBW.out.trans hb6) hgrow7 hown7 hat7 (Nat.lt_succ_self _) _ rfl
          have F1 := Lib.hid f1
          have F2 := Lib.hid f2
          have F3 := Lib.hid f3
          have F4 := Lib.hid f4
          have HNY := Lib.hid hny
          have HWY := Lib.hid hwy
          clear f1 f2 f3 f4 hgrow7 hown7 hat7 hx6 hown6 hel6 hly6 hc6 hb6 hny hwy
          go_roundw
          case rel => exact ⟨.slice (some ⟨g', 0, none⟩) (acc.length + 1) cap', acc ++ [y], by simp; omega, by rw [List.length_append]; go_num, F1.out, F2.out, F3.out, F4.out, by rw [SX.nodesL_snoc, List.length_append, List.length_singleton, Nat.add_mul, Nat.one_mul]; have := HND.out; have := HNY.out; omega, by rw [SX.wtL_snoc, SX.nodesL_snoc]; have := HWT.out; have := SX.small_wt HWY.out; omega⟩
          case measure => simp [Go.RowKit.intOf]; omega)
      · have hil : acc.length = n := by omega
        subst hil
        have hbig : SX.nodesL acc ≤ 3 * 4 ^ k := Nat.le_trans hnd (Nat.mul_le_mul_right _ (by omega))
        have x0 : wr.cell? ⟨X, 0, none⟩ = some (.string ⟨#[]⟩) := by rw [hx.cell]; rfl
        have x1 : wr.cell? ⟨X, 1, none⟩ = some (.slice A0 acc.length cap0) := by rw [hx.cell]; rfl
        have hrr := HR1.out.but hb (by omega)
        have r0 : wr.cell? ⟨w.heap.size, 0, none⟩ = some (.string ByteArray.empty) := by rw [hrr.cell]; rfl
        have r1 : wr.cell? ⟨w.heap.size, 1, none⟩ = some (.slice none 0 0) := by rw [hrr.cell]; rfl
        have rf0 : wr.frozen? ⟨w.heap.size, 0, none⟩ = false := hrr.frozen 0
        have rf1 : wr.frozen? ⟨w.heap.size, 1, none⟩ = false := hrr.frozen 1
        have hrl := hrr.lt
        have hend := listEnd (n := 4 ^ (k + 1)) hg hrr hc (HB1.out.trans hb) (hrow.wide (B' := w.heap.size + 1) (X' := w.heap.size) (by omega) (.inl (by omega))) (by rw [HPW.out]; omega) hwt
        have HE := Lib.hid hend
        clear hend hrr hc hb hrow hx hnd hwt hbig
        go_wp2
        obtain ⟨e0, e1, e2⟩ := HE.out _ rfl
        exact bodyPost_ret (v := .agg #[.string ⟨#[]⟩, .slice A0 acc.length cap0]) (by simp [results, Try.results51, go_sem, e0, e1]) rfl e2
theorem drawSx : ∀ k, k ≤ 100 → DrawSx k
  | 0, _ => drawSx0
  | k + 1, h => drawSxS k (by omega) (drawSx k (by omega))
end Go.Proofs.Ytbnfdjhcakimhaa

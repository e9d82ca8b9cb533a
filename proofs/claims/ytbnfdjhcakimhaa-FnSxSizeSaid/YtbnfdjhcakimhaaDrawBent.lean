/- The draws of chapter 2: a list of one; an expression that is bent a little. -/
import Derived.Test.YtbnfdjhcakimhaaDrawSx
namespace Go.Proofs.Ytbnfdjhcakimhaa
open Go.RowKit Go.Lib

theorem own_low {w : World} {B B' size n : Nat} {e : TypeId} {v : Value} {xs : List Value} (hB : B' ≤ B) (h : w.ownsRow B e size v n xs) : w.ownsRow B' e size v n xs := by
  refine ⟨h.1, ?_⟩
  rcases h.2 with hn | ⟨g, cap, cur, rfl, hbg, rest⟩
  · exact .inl hn
  · exact .inr ⟨g, cap, cur, rfl, Nat.le_trans hB hbg, rest⟩
theorem SX.mk_atom (a : ByteArray) (l : List SX) : (SX.mk a l).atom = a := rfl
theorem SX.mk_list (a : ByteArray) (l : List SX) : (SX.mk a l).list = l := rfl

/-- A list of one expression. -/
def OneOf (y : SX) (V : Value) (w : World) (e : Ending) (w' : World) : Prop :=
  ∃ g' cap', e = .returned (.agg #[.string ⟨#[]⟩, .slice (some ⟨g', 0, none⟩) 1 cap']) ∧ w'.ownsRow w.heap.size 26 2 (.slice (some ⟨g', 0, none⟩) 1 cap') 1 [.string y.atom, V] ∧ Below w.heap.size w w'
set_option maxRecDepth 100000 in
set_option maxHeartbeats 1000000 in
theorem listOne (b : Nat) (y : SX) (A : Option Addr) (c : Nat) (w : World) (hb : b < w.heap.size) (h0 : w.cell? ⟨b, 0, none⟩ = some (.string y.atom)) (h1 : w.cell? ⟨b, 1, none⟩ = some (.slice A y.list.length c)) :
    Calls Try.prog 75 #[.slice (some ⟨b, 0, none⟩) 1 1] w (OneOf y (.slice A y.list.length c) w) := by
  obtain ⟨i0, hi0, hz0, hz1, hz2⟩ := info_parts infoSx
  have hbR : Below w.heap.size w (w.alloc (.cells #[.string ByteArray.empty, .slice none 0 0] 26)) := (Below.refl _ _).alloc (Nat.le_refl _) _
  have hR := Whole.new w 26 #[.string ByteArray.empty, .slice none 0 0]
  have hown := World.ownsRow_made (base := w.heap.size + 1) (e := 26) (size := 2) (w.alloc (.cells #[.string ByteArray.empty, .slice none 0 0] 26)) #[] 0 (by rw [World.size_alloc]; exact Nat.le_refl _) (by decide) rfl
  rw [World.size_alloc] at hown
  have hb2 : Below w.heap.size w ((w.alloc (.cells #[.string ByteArray.empty, .slice none 0 0] 26)).alloc (.cells #[] 26)) := hbR.alloc (by simp) _
  have hR2 := hR.of_alloc (.cells #[] 26)
  have hnews : ∀ (j : Nat) (u : Value), [Value.string y.atom, Value.slice A y.list.length c][j]? = some u → ((w.alloc (.cells #[.string ByteArray.empty, .slice none 0 0] 26)).alloc (.cells #[] 26)).cell? ((⟨b, 0, none⟩ : Addr).add j) = some u := by
    intro j u hj
    match j, hj with
    | 0, hj => simp at hj; subst hj; exact (hb2.cell (p := ⟨b, 0, none⟩) hb).trans h0
    | 1, hj => simp at hj; subst hj; exact (hb2.cell (p := ⟨b, 1, none⟩) hb).trans h1
  have HB2 := Lib.hid hb2
  have HR2 := Lib.hid hR2
  clear hbR hR hb2 hR2 h0 h1
  go_enter Try.func75, Try.ntmps75
  go_wp2_with (at_builtin; refine wpList_append_lies _ (by rfl) _ _ _ (by rfl) (w.heap.size + 1) 26 i0 _ 2 40 Try.underlying24 hi0 hz0 hz1 hz2 rfl (by omega) _ _ _ (by rfl) hown ⟨b, 0, none⟩ 1 1 [.string y.atom, .slice A y.list.length c] (by rfl) (by rfl) hnews (one_sx _ _ _ _) (by omega) (by unfold maxLen; omega) (by omega) (by simp) (w.heap.size + 1 + 1) (by simp) ?_)
  intro g' cap' w7 hown7 hgrow7 hat7 hlt7
  have hlt3 : w.heap.size + 1 + 1 ≤ w7.heap.size := by have := hgrow7.size; simpa using this
  have hR7 : Whole w7 w.heap.size 26 #[.string ByteArray.empty, .slice none 0 0] := (hgrow7.block w.heap.size (by simp; omega) (by simp [Value.ownBlock])).trans HR2.out
  have hb7 : Below w.heap.size w w7 := HB2.out.trans ⟨hgrow7.os, hgrow7.tape, hgrow7.output, hgrow7.size, fun k hk => hgrow7.block k (by simp; omega) (by simp [Value.ownBlock]; omega)⟩
  have hlt7' : w.heap.size < w7.heap.size := by omega
  have r0 : w7.cell? ⟨w.heap.size, 0, none⟩ = some (.string ByteArray.empty) := by rw [hR7.cell]; rfl
  have r1 : w7.cell? ⟨w.heap.size, 1, none⟩ = some (.slice none 0 0) := by rw [hR7.cell]; rfl
  have rf0 : w7.frozen? ⟨w.heap.size, 0, none⟩ = false := hR7.frozen 0
  have rf1 : w7.frozen? ⟨w.heap.size, 1, none⟩ = false := hR7.frozen 1
  have HR7 := Lib.hid hR7
  have HB7 := Lib.hid hb7
  have HO7 := Lib.hid hown7
  clear hR7 hb7 hgrow7 hown7 hat7 hown hnews
  go_wp2
  obtain ⟨e0, e1, e2, e3, e4⟩ := res_set HR7.out HB7.out (.string ⟨#[]⟩) (.slice (some ⟨g', 0, none⟩) 1 cap') _ rfl
  refine bodyPost_ret (v := .agg #[.string ⟨#[]⟩, .slice (some ⟨g', 0, none⟩) 1 cap']) (by simp [results, Try.results75, go_sem, e0, e1]) rfl ?_
  refine ⟨g', cap', rfl, ?_, e2⟩
  have h1 := own_same HO7.out fun k hk => e3 k (by have := (HO7.out.lt k hk).1; omega)
  exact own_low (Nat.le_succ _) (by simpa using h1)
/-- The list of one, as a row apart from X. -/
theorem rowOne {B X g' cap' c : Nat} {y : SX} {A : Option Addr} {w w' : World} (hr : RowX B X (.slice A y.list.length c) y.list w) (hB : B ≤ w.heap.size) (hX : X < w.heap.size) (hb : Below w.heap.size w w')
    (ho : w'.ownsRow w.heap.size 26 2 (.slice (some ⟨g', 0, none⟩) 1 cap') 1 [.string y.atom, .slice A y.list.length c]) : RowX B X (.slice (some ⟨g', 0, none⟩) 1 cap') [y] w' := by
  have hg := (ho.lt g' rfl).1
  refine ⟨_, own_low hB ho, (ElemsC.nil w' _).snoc (x := y) (A := A) (c := c) ?_, by simp [Value.ownBlock]; omega⟩
  exact hr.row.frame (fun b hP => ⟨⟨hP.1.1, by have := hP.1.2; have := hb.size; omega⟩, by have := hP.1.2; simp [Value.ownBlock]; omega, hP.2⟩) fun b o hP => hb.cell (p := ⟨b, o, none⟩) hP.1.2

/-- The ending: the variable at X is what is returned. -/
theorem bentEnd {n B g X c : Nat} {w w3 : World} {A : Option Addr} {a : ByteArray} {acc : List SX} {u v : Value} (hg : g < w.heap.size) (hr : Whole w3 w.heap.size 26 #[u, v]) (hc : Cur w3 B g) (hb : But g w w3)
    (hrow : RowX (w.heap.size + 1) X (.slice A acc.length c) acc w3) (hn : 1 + SX.nodesL acc ≤ n) (ha : a.size ≤ 13) (hwt : SX.wtL acc ≤ 14 * SX.nodesL acc) :
    ∀ w4, w4 = (w3.setCell ⟨w.heap.size, 0, none⟩ (.string a)).setCell ⟨w.heap.size, 1, none⟩ (.slice A acc.length c) → w4.cell? ⟨w.heap.size, 0, none⟩ = some (.string a) ∧ w4.cell? ⟨w.heap.size, 1, none⟩ = some (.slice A acc.length c) ∧ DrawnX n B g w (.returned (.agg #[.string a, .slice A acc.length c])) w4 := by
  intro w4 h4
  have hw : Whole w4 w.heap.size 26 #[.string a, .slice A acc.length c] := by
    have h := (hr.set_ 0 (.string a)).set_ 1 (.slice A acc.length c)
    rw [← h4] at h
    simpa using h
  have hb4 : But w.heap.size w3 w4 := by rw [h4]; exact (But.set_ _ _ 0 _).trans (But.set_ _ _ 1 _)
  have hbw : But g w w4 := by rw [h4]; exact (hb.far (p := ⟨w.heap.size, 0, none⟩) (Nat.le_refl _) _).far (p := ⟨w.heap.size, 1, none⟩) (Nat.le_refl _) _
  refine ⟨by rw [hw.cell]; rfl, by rw [hw.cell]; rfl, .mk a acc, _, rfl, (hrow.but hb4 (.inl (Nat.lt_succ_self _))).wide (Nat.le_succ _) (.inr (.inl (Nat.le_refl _))), by rw [SX.nodes]; exact hn, ⟨ha, hwt⟩, cur_but hc hb4 hg, hbw⟩

theorem behind3 {X : Nat} {w6 w7 : World} {V v : Value} {o : Obj} (hc : w6.cell? ⟨X, 1, none⟩ = some v) (hf : w6.frozen? ⟨X, 1, none⟩ = false) (hVX : V.ownBlock ≠ some X) (hX : X < w6.heap.size) (hg : (w6.alloc o).grownBy w7 V.ownBlock) :
    w7.cell? ⟨X, 1, none⟩ = some v ∧ w7.frozen? ⟨X, 1, none⟩ = false := by
  have hb : w7.heap[X]? = w6.heap[X]? := (hg.block X (by simp; omega) (fun e => hVX e.symm)).trans (Below.heap_alloc _ _ _ hX)
  exact ⟨(World.cell?_of_block (a := ⟨X, 1, none⟩) hb).trans hc, (World.frozen?_of_block (a := ⟨X, 1, none⟩) hb).trans hf⟩
/-- A call that moved the cursor alone. -/
theorem bent3 {g X Bs R k : Nat} {w3 wr : World} {u u' v' V : Value} {acc : List SX} {vs : List Value} (hg : g < X) (hgB : g < Bs) (hgR : g ≠ R) (hx : Whole wr X 26 #[u, V]) (ho : wr.ownsRow Bs 26 2 V acc.length vs) (he : ElemsC wr (Off V Bs X wr.heap.size) acc vs)
    (hr : Whole wr R 26 #[u', v']) (hb : But g (wr.drewN k) w3) : w3.cell? ⟨X, 1, none⟩ = some V ∧ Whole w3 X 26 #[u, V] ∧ w3.ownsRow Bs 26 2 V acc.length vs ∧ ElemsC w3 (Off V Bs X w3.heap.size) acc vs ∧ Whole w3 R 26 #[u', v'] := by
  have hb' : But g wr w3 := ((But.refl g wr).drewN_ k).trans hb
  have hx3 := hx.but hb' (by omega)
  exact ⟨by rw [hx3.cell]; rfl, hx3, own_but ho hb' hgB, he.frame (fun b hP => ⟨⟨hP.1.1, by have := hP.1.2; have := hb'.size; omega⟩, hP.2⟩) fun b o hP => World.cell?_of_block (a := ⟨b, o, none⟩) (hb'.block b hP.1.2 (by have := hP.1.1; omega)), hr.but hb' (by omega)⟩
theorem bent6 {B g X Bs R : Nat} {w0 w3 w6 : World} {u v' u' V : Value} {acc : List SX} {vs : List Value} (hx : Whole w3 X 26 #[u, V]) (ho : w3.ownsRow Bs 26 2 V acc.length vs) (he : ElemsC w3 (Off V Bs X w3.heap.size) acc vs) (hr : Whole w3 R 26 #[u', v'])
    (hc : Cur w3 B g) (hw : But g w0 w3) (hb : Below w3.heap.size w3 w6) : w6.cell? ⟨X, 1, none⟩ = some V ∧ w6.frozen? ⟨X, 1, none⟩ = false ∧ X < w6.heap.size ∧ Whole w6 X 26 #[u, V] ∧ w6.ownsRow Bs 26 2 V acc.length vs ∧ ElemsC w6 (Off V Bs X w6.heap.size) acc vs ∧ Whole w6 R 26 #[u', v'] ∧ Cur w6 B g ∧ But g w0 w6 := by
  have hx6 := hx.below hb hx.lt
  exact ⟨by rw [hx6.cell]; rfl, hx6.frozen 1, hx6.lt, hx6, own_same ho fun b hv => hb.block b (ho.lt b hv).2, he.frame (fun b hP => ⟨⟨hP.1.1, by have := hP.1.2; have := hb.size; omega⟩, hP.2⟩) fun b o hP => hb.cell (p := ⟨b, o, none⟩) hP.1.2, hr.below hb hr.lt, hc.kept hb, hw.trans (But.of_below hb)⟩

theorem atom_nodes (t : ByteArray) : (SX.mk t []).nodes = 1 := by rw [SX.nodes, SX.nodesL]
theorem atom_wt (t : ByteArray) : (SX.mk t []).wt = t.size := by rw [SX.wt, SX.wtL]; rfl
theorem bent8 {X Bs R g' cap' n : Nat} {w6 w7 : World} {u' v' V : Value} {o : Obj} {e : TypeId} {size : Nat} {vs : List Value} (hr : Whole w6 R 26 #[u', v']) (_hX : X < w6.heap.size) (ho : w6.ownsRow Bs e size V n vs) (hR : R < Bs) (hRX : R ≠ X) (hg : (w6.alloc o).grownBy w7 V.ownBlock) :
    Whole (w7.setCell ⟨X, 1, none⟩ (.slice (some ⟨g', 0, none⟩) (n + 1) cap')) R 26 #[u', v'] :=
  (Below.heap_setCell _ _ _ _ (by exact hRX)).trans (((hg.block R (by have := hr.lt; simp; omega) (fun e => by have := (ho.lt R e.symm).1; omega)).trans (Below.heap_alloc _ _ _ hr.lt)).trans hr)

def bentA : List ByteArray := [⟨#[]⟩, ⟨#[65]⟩, ⟨#[97, 32, 98]⟩, ⟨#[97, 98, 99, 100, 101, 102, 103, 104, 105, 106, 107, 108]⟩, ⟨#[97, 98, 99, 100, 101, 102, 103, 104, 105, 106, 107, 108, 109]⟩]
theorem bentA_short {x : ByteArray} (h : x ∈ bentA) : x.size ≤ 13 := by
  simp only [bentA, List.mem_cons, List.mem_nil_iff, or_false] at h
  rcases h with rfl | rfl | rfl | rfl | rfl <;> decide
def bentB : List ByteArray := [⟨#[]⟩, ⟨#[65]⟩, ⟨#[122]⟩]
theorem bentB_short {x : ByteArray} (h : x ∈ bentB) : x.size ≤ 13 := by
  simp only [bentB, List.mem_cons, List.mem_nil_iff, or_false] at h
  rcases h with rfl | rfl | rfl <;> decide

set_option maxRecDepth 100000 in
set_option maxHeartbeats 4000000 in
theorem drawBent (B g : Nat) (w : World) (hw : Cur w B g) : Calls Try.prog 56 #[.pointer (some ⟨g, 0, none⟩)] w (DrawnX 100 B g w) := by
  obtain ⟨i0, hi0', hz0, hz1, hz2⟩ := info_parts infoSx
  have hg := hw.lt
  have hb0 : Below w.heap.size w (w.alloc (.cells #[.string ByteArray.empty, .slice none 0 0] 26)) := (Below.refl _ _).alloc (Nat.le_refl _) _
  have hr0 := Whole.new w 26 #[.string ByteArray.empty, .slice none 0 0]
  have hc0 := hw.kept hb0
  have HC := Lib.hid hc0
  have HR := Lib.hid hr0
  have HB := Lib.hid hb0
  clear hw hb0 hr0 hc0
  go_enter Try.func56, Try.ntmps56
  go_wp2_with fail
  refine (drawSx 3 (by decide) B g _ HC.out).mono ?_
  rintro e w1 ⟨⟨a, l⟩, V, rfl, hrow1, hn1, ⟨ha1, hs1⟩, hc1, hb1⟩
  obtain ⟨A1, c1, rfl⟩ := hrow1.shape
  rw [SX.nodes] at hn1
  simp only [SX.mk_atom, SX.mk_list] at ha1 hs1 hrow1 ⊢
  rw [World.size_alloc] at hrow1
  have hsz1 := hb1.size
  rw [World.size_alloc] at hsz1
  have hr1 := HR.out.but hb1 (by omega)
  have hbw := (But.of_below (g := g) HB.out).trans hb1
  have hb2 : Below w1.heap.size w1 (w1.alloc (.cells #[.string a, .slice A1 l.length c1] 26)) := (Below.refl _ _).alloc (Nat.le_refl _) _
  have hc2 := hc1.kept hb2
  have hr2 := hr1.below hb2 hr1.lt
  have hx2 := Whole.new w1 26 #[.string a, .slice A1 l.length c1]
  have hrow2 := hrow1.below hb2
  have hbb2 := hbw.trans (But.of_below hb2)
  have HC2 := Lib.hid hc2
  have HR2 := Lib.hid hr2
  have HX2 := Lib.hid hx2
  have HRW2 := Lib.hid hrow2
  have HB2 := Lib.hid hbb2
  clear hrow1 hc1 hb1 hr1 hbw hb2 hc2 hr2 hx2 hrow2 hbb2
  go_wp2_with fail
  refine (drawBelow B g 10 _ HC2.out (by omega) (by omega)).mono ?_
  rintro e w2 ⟨v, rfl, ⟨m, rfl, m0, m1⟩, hc3, hb3⟩
  have hsz2 := hb3.size
  rw [World.size_alloc] at hsz2
  have hX2 : w1.heap.size < w2.heap.size := by omega
  have hr3 := HR2.out.but hb3 (by omega)
  have hx3 := HX2.out.but hb3 (by omega)
  have hrow3 := HRW2.out.but hb3 (.inl (by omega))
  have hbb3 := HB2.out.trans hb3
  obtain ⟨X, hXe⟩ : ∃ X, X = w1.heap.size := ⟨_, rfl⟩
  rw [← hXe] at hx3 hrow3 hX2 hsz1 hsz2
  rw [← hXe]
  have HC3 := Lib.hid hc3
  have HR3 := Lib.hid hr3
  have HX3 := Lib.hid hx3
  have HRW3 := Lib.hid hrow3
  have HB3 := Lib.hid hbb3
  have HXE := Lib.hid hXe
  have hR2 : w.heap.size < w2.heap.size := by omega
  clear hc3 hb3 hr3 hx3 hrow3 hbb3 hXe
  have hm : m = 0 ∨ m = 1 ∨ m = 2 ∨ 3 ≤ m := by omega
  rcases hm with rfl | rfl | rfl | hm3
  · have hb4 : Below w2.heap.size w2 (w2.alloc (.cells (bentA.map Value.string).toArray 9)) := (Below.refl _ _).alloc (Nat.le_refl _) _
    have hp4 := Whole.new w2 9 (bentA.map Value.string).toArray
    have hlt := HC3.out.lt
    have HC4 := Lib.hid (HC3.out.kept hb4)
    have HR4 := Lib.hid (HR3.out.below hb4 hR2)
    have HX4 := Lib.hid (HX3.out.below hb4 hX2)
    have HRW4 := Lib.hid (HRW3.out.below hb4)
    have HB4 := Lib.hid (HB3.out.trans (But.of_below hb4))
    have HP4 := Lib.hid hp4
    clear hb4 hp4
    go_wp2_with fail
    refine (drawPick B g w2.heap.size 5 bentA _ HC4.out HP4.out (by decide) (by decide) (by omega)).mono ?_
    rintro e w3 ⟨v, rfl, ⟨t, ht, rfl⟩, hc5, hb5⟩
    have hsz5 := hb5.size
    rw [World.size_alloc] at hsz5
    have ht3 := bentA_short ht
    have hr5 := HR4.out.but hb5 (by omega)
    have hx5 := HX4.out.but hb5 (by omega)
    have hrow5 := HRW4.out.but hb5 (.inl (by omega))
    have hbb5 := HB4.out.trans hb5
    have hset : But X w3 (w3.setCell ⟨X, 0, none⟩ (.string t)) := But.set_ X w3 0 _
    have hx6 : Whole (w3.setCell ⟨X, 0, none⟩ (.string t)) X 26 #[.string t, .slice A1 l.length c1] := by
      have h := hx5.set_ 0 (.string t)
      simpa using h
    have hr6 := hr5.but hset (by omega)
    have hrow6 := hrow5.but hset (.inr rfl)
    have hc6 := cur_but hc5 hset (by omega)
    have hb6 := hbb5.far (p := ⟨X, 0, none⟩) (show w.heap.size ≤ X by omega) (.string t)
    have p0 : w3.cell? ⟨X, 0, none⟩ = some (.string a) := by rw [hx5.cell]; rfl
    have pf0 : w3.frozen? ⟨X, 0, none⟩ = false := hx5.frozen 0
    have x0 : (w3.setCell ⟨X, 0, none⟩ (.string t)).cell? ⟨X, 0, none⟩ = some (.string t) := by rw [hx6.cell]; rfl
    have x1 : (w3.setCell ⟨X, 0, none⟩ (.string t)).cell? ⟨X, 1, none⟩ = some (.slice A1 l.length c1) := by rw [hx6.cell]; rfl
    have r0 : (w3.setCell ⟨X, 0, none⟩ (.string t)).cell? ⟨w.heap.size, 0, none⟩ = some (.string ByteArray.empty) := by rw [hr6.cell]; rfl
    have r1 : (w3.setCell ⟨X, 0, none⟩ (.string t)).cell? ⟨w.heap.size, 1, none⟩ = some (.slice none 0 0) := by rw [hr6.cell]; rfl
    have rf0 : (w3.setCell ⟨X, 0, none⟩ (.string t)).frozen? ⟨w.heap.size, 0, none⟩ = false := hr6.frozen 0
    have rf1 : (w3.setCell ⟨X, 0, none⟩ (.string t)).frozen? ⟨w.heap.size, 1, none⟩ = false := hr6.frozen 1
    have hlX : X < w3.heap.size := hx5.lt
    have hlR : w.heap.size < w3.heap.size := hr5.lt
    have hend := bentEnd (n := 100) (a := t) hg hr6 hc6 hb6 hrow6 (by omega) ht3 hs1
    have HE := Lib.hid hend
    clear hend ht hc5 hb5 hr5 hx5 hrow5 hbb5 hset hx6 hr6 hrow6 hc6 hb6
    go_wp2
    obtain ⟨e0, e1, e2⟩ := HE.out _ rfl
    exact bodyPost_ret (v := .agg #[.string t, .slice A1 l.length c1]) (by simp [results, Try.results56, go_sem, e0, e1]) rfl e2
  · have hb4 : Below w2.heap.size w2 (w2.alloc (.cells (bentB.map Value.string).toArray 9)) := (Below.refl _ _).alloc (Nat.le_refl _) _
    have hp4 := Whole.new w2 9 (bentB.map Value.string).toArray
    have hlt := HC3.out.lt
    have hl64 : l.length ≤ 63 := by have := nodesLen l; omega
    obtain ⟨vs, hown, hel, hVX⟩ := HRW3.out.below hb4
    have HC4 := Lib.hid (HC3.out.kept hb4)
    have HR4 := Lib.hid (HR3.out.below hb4 hR2)
    have HX4 := Lib.hid (HX3.out.below hb4 hX2)
    have HO4 := Lib.hid hown
    have HE4 := Lib.hid hel
    have HVX := Lib.hid hVX
    have HB4 := Lib.hid (HB3.out.trans (But.of_below hb4))
    have HP4 := Lib.hid hp4
    have x1 : w2.cell? ⟨X, 1, none⟩ = some (.slice A1 l.length c1) := by rw [HX3.out.cell]; rfl
    clear hb4 hp4 hown hel hVX
    go_wp2
    go_region_law
      (first
        | (refine step_append_lies _ (by rfl) _ _ _ (by rfl) (w.heap.size + 1) 26 i0 _ 2 40 Try.underlying24 hi0' hz0 hz1 hz2 rfl (by omega) (.slice A1 l.length c1) l.length vs (by rfl) (hown6.alloc _)
             ⟨w6.heap.size, 0, none⟩ 1 1 [.string t, .slice none 0 0] (by rfl) (by rfl) (news_sx w6 _ _ _) (one_sx _ _ _ _) (by omega) (by unfold maxLen; omega) (by omega) (by simp; omega) (w6.heap.size + 1) (by simp) ?_
           intro g' cap' w7 hown7 hgrow7 hat7 hlt7
           obtain ⟨x7, xf7⟩ := behind3 x6 xf6 HVX.out hX6 hgrow7)
        | (go_simp
           go_at_call 73
           refine (drawPick B g w2.heap.size 3 bentB _ (cur_drew HC4.out _) (HP4.out.drewN_ _) (by decide) (by decide) (by omega)).mono ?_
           rintro e w3 ⟨v, rfl, ⟨t, ht, rfl⟩, hc5, hb5⟩
           have ht3 := bentB_short ht
           obtain ⟨x5, hx5, hown5, hel5, hr5⟩ := bent3 (show g < X by omega) (show g < w.heap.size + 1 by omega) (show g ≠ w.heap.size by omega) HX4.out HO4.out HE4.out HR4.out hb5)
        | (go_simp
           go_at_call 67
           refine (atomC t _).mono ?_
           rintro e w6 ⟨rfl, hb6⟩
           obtain ⟨x6, xf6, hX6, hx6, hown6, hel6, hr6, hc6, hbb6⟩ := bent6 hx5 hown5 hel5 hr5 hc5 (HB4.out.trans (((But.refl g _).drewN_ _).trans hb5)) hb6))
    all_goals (
      obtain ⟨f1, f2, f3, f4⟩ := accMore (Bs := w.heap.size + 1) (y := .mk t []) (A := none) (c := 0) (show g < X by omega) (show g < w.heap.size + 1 by omega) (show w.heap.size ≤ X by omega) (Nat.le_succ _) hx6 hown6 hel6 HVX.out (SxRow.nil _ _ _ _ (by decide)) hc6 hbb6 hgrow7 hown7 hat7 (Nat.lt_succ_self _) _ rfl
      have hr8 : Whole (w7.setCell ⟨X, 1, none⟩ (.slice (some ⟨g', 0, none⟩) (l.length + 1) cap')) w.heap.size 26 #[.string ByteArray.empty, .slice none 0 0] := bent8 hr6 hX6 hown6 (by omega) (by omega) hgrow7
      have x0 : (w7.setCell ⟨X, 1, none⟩ (.slice (some ⟨g', 0, none⟩) (l.length + 1) cap')).cell? ⟨X, 0, none⟩ = some (.string a) := by rw [f1.cell]; rfl
      have x1' : (w7.setCell ⟨X, 1, none⟩ (.slice (some ⟨g', 0, none⟩) (l.length + 1) cap')).cell? ⟨X, 1, none⟩ = some (.slice (some ⟨g', 0, none⟩) (l.length + 1) cap') := by rw [f1.cell]; rfl
      have r0 : (w7.setCell ⟨X, 1, none⟩ (.slice (some ⟨g', 0, none⟩) (l.length + 1) cap')).cell? ⟨w.heap.size, 0, none⟩ = some (.string ByteArray.empty) := by rw [hr8.cell]; rfl
      have r1 : (w7.setCell ⟨X, 1, none⟩ (.slice (some ⟨g', 0, none⟩) (l.length + 1) cap')).cell? ⟨w.heap.size, 1, none⟩ = some (.slice none 0 0) := by rw [hr8.cell]; rfl
      have rf0 : (w7.setCell ⟨X, 1, none⟩ (.slice (some ⟨g', 0, none⟩) (l.length + 1) cap')).frozen? ⟨w.heap.size, 0, none⟩ = false := hr8.frozen 0
      have rf1 : (w7.setCell ⟨X, 1, none⟩ (.slice (some ⟨g', 0, none⟩) (l.length + 1) cap')).frozen? ⟨w.heap.size, 1, none⟩ = false := hr8.frozen 1
      have hlen : (l ++ [SX.mk t []]).length = l.length + 1 := by simp
      have f5 : RowX (w.heap.size + 1) X (.slice (some ⟨g', 0, none⟩) (l ++ [SX.mk t []]).length cap') (l ++ [SX.mk t []]) (w7.setCell ⟨X, 1, none⟩ (.slice (some ⟨g', 0, none⟩) (l.length + 1) cap')) := by rw [hlen]; exact f2
      have hend := bentEnd (n := 100) (a := a) (acc := l ++ [.mk t []]) hg hr8 f3 f4 f5 (by rw [SX.nodesL_snoc, atom_nodes]; omega) ha1 (by rw [SX.wtL_snoc, SX.nodesL_snoc, atom_nodes, atom_wt]; omega)
      rw [hlen] at hend
      have HE := Lib.hid hend
      clear hend f1 f2 f3 f4 f5 hr8 hlen hx6 hown6 hel6 hr6 hc6 hbb6 hgrow7 hown7 hat7 x6 xf6 x7 xf7
      go_wp2
      obtain ⟨e0, e1, e2⟩ := HE.out _ rfl
      exact bodyPost_ret (v := .agg #[.string a, .slice (some ⟨g', 0, none⟩) (l.length + 1) cap']) (by simp [results, Try.results56, go_sem, e0, e1]) rfl e2)
  · go_wp2_with fail
    refine (drawBelow B g 4 _ HC3.out (by omega) (by omega)).mono ?_
    rintro e w3 ⟨v, rfl, ⟨t, rfl, t0, t1⟩, hc4, hb4⟩
    obtain ⟨n, rfl⟩ := Int.eq_ofNat_of_zero_le t0
    have hsz4 := hb4.size
    have hr4 := HR3.out.but hb4 (by omega)
    have hx4 := HX3.out.but hb4 (by omega)
    have hrow4 := HRW3.out.but hb4 (.inl (by omega))
    have hbb4 := HB3.out.trans hb4
    have HC4 := Lib.hid hc4
    have HR4 := Lib.hid hr4
    have HX4 := Lib.hid hx4
    have HRW4 := Lib.hid hrow4
    have HB4 := Lib.hid hbb4
    have HA1 := Lib.hid ha1
    have HS1 := Lib.hid hs1
    have HN1 := Lib.hid hn1
    clear hc4 hb4 hr4 hx4 hrow4 hbb4 ha1 hs1 hn1
    go_wp2
    go_loopw [5] (fun iv wr => ∃ (i : Nat) (b : ByteArray) (A : Option Addr) (c : Nat) (acc : List SX), i ≤ 12 + n ∧ iv = .int .i64 i ∧ Whole wr X 26 #[.string b, .slice A acc.length c] ∧ RowX (w.heap.size + 1) X (.slice A acc.length c) acc wr ∧ Whole wr w.heap.size 26 #[.string ByteArray.empty, .slice none 0 0] ∧ Cur wr B g ∧ But g w wr ∧ 1 + SX.nodesL acc ≤ 64 + i ∧ b.size ≤ 13 ∧ SX.wtL acc ≤ 14 * SX.nodesL acc) (fun iv _ => 12 + n - (Go.RowKit.intOf iv).toNat)
    case atStart => exact ⟨0, a, A1, c1, l, Nat.zero_le _, rfl, HX4.out, HRW4.out, HR4.out, HC4.out, HB4.out, by have := HN1.out; omega, HA1.out, HS1.out⟩
    case round =>
      obtain ⟨i, b, A, c, acc, hi, rfl, hx, hrow, hr, hc, hb, hnd, hbs, hwt⟩ := hrel
      have hXl := hx.lt
      have hRl := hr.lt
      have x0 : wr.cell? ⟨X, 0, none⟩ = some (.string b) := by rw [hx.cell]; rfl
      have x1 : wr.cell? ⟨X, 1, none⟩ = some (.slice A acc.length c) := by rw [hx.cell]; rfl
      have hsize := hb.size
      by_cases hlt : i < 12 + n
      · have hlt' : (i : Int) < 12 + n := by omega
        have hb2 : Below wr.heap.size wr (wr.alloc (.cells #[.string b, .slice A acc.length c] 26)) := (Below.refl _ _).alloc (Nat.le_refl _) _
        have hy2 := Whole.new wr 26 #[.string b, .slice A acc.length c]
        have y0 : (wr.alloc (.cells #[.string b, .slice A acc.length c] 26)).cell? ⟨wr.heap.size, 0, none⟩ = some (.string (SX.mk b acc).atom) := by rw [hy2.cell]; rfl
        have y1 : (wr.alloc (.cells #[.string b, .slice A acc.length c] 26)).cell? ⟨wr.heap.size, 1, none⟩ = some (.slice A (SX.mk b acc).list.length c) := by rw [hy2.cell]; rfl
        have hx2 := hx.below hb2 hXl
        have hr2 := hr.below hb2 hRl
        have hc2 := hc.kept hb2
        have hrow2 := hrow.below hb2
        have hbb2 := hb.trans (But.of_below (g := g) hb2)
        have HY0 := Lib.hid y0
        have HY1 := Lib.hid y1
        have HX := Lib.hid hx2
        have HR := Lib.hid hr2
        have HC := Lib.hid hc2
        have HRW := Lib.hid hrow2
        have HB := Lib.hid hbb2
        have HND := Lib.hid hnd
        have HBS := Lib.hid hbs
        have HWT := Lib.hid hwt
        clear hx hrow hr hc hb hnd hbs hwt hb2 hy2 y0 y1 hx2 hr2 hc2 hrow2 hbb2
        go_wp2_with fail
        refine (listOne wr.heap.size (.mk b acc) A c _ (by simp) HY0.out HY1.out).mono ?_
        rintro e w4 ⟨g', cap', rfl, ho, hb3⟩
        have hsz3 := hb3.size
        rw [World.size_alloc] at hsz3
        have hrow3 := rowOne HRW.out (by rw [World.size_alloc]; omega) (by rw [World.size_alloc]; omega) hb3 ho
        have hx3 := HX.out.below hb3 (by rw [World.size_alloc]; omega)
        have hr3 := HR.out.below hb3 (by rw [World.size_alloc]; omega)
        have hc3 := HC.out.kept hb3
        have hbb3 := HB.out.trans (But.of_below (g := g) hb3)
        have hset : But X w4 ((w4.setCell ⟨X, 0, none⟩ (.string ⟨#[]⟩)).setCell ⟨X, 1, none⟩ (.slice (some ⟨g', 0, none⟩) 1 cap')) := (But.set_ _ _ 0 _).trans (But.set_ _ _ 1 _)
        have hx4 : Whole ((w4.setCell ⟨X, 0, none⟩ (.string ⟨#[]⟩)).setCell ⟨X, 1, none⟩ (.slice (some ⟨g', 0, none⟩) 1 cap')) X 26 #[.string ⟨#[]⟩, .slice (some ⟨g', 0, none⟩) 1 cap'] := by
          have h := (hx3.set_ 0 (.string ⟨#[]⟩)).set_ 1 (.slice (some ⟨g', 0, none⟩) 1 cap')
          simpa using h
        have hbf := (hbb3.far (p := ⟨X, 0, none⟩) (show w.heap.size ≤ X by omega) (.string ⟨#[]⟩)).far (p := ⟨X, 1, none⟩) (show w.heap.size ≤ X by omega) (.slice (some ⟨g', 0, none⟩) 1 cap')
        have z0 : w4.cell? ⟨X, 0, none⟩ = some (.string b) := by rw [hx3.cell]; rfl
        have z1 : w4.cell? ⟨X, 1, none⟩ = some (.slice A acc.length c) := by rw [hx3.cell]; rfl
        have zf0 : w4.frozen? ⟨X, 0, none⟩ = false := hx3.frozen 0
        have zf1 : w4.frozen? ⟨X, 1, none⟩ = false := hx3.frozen 1
        have hXl4 : X < w4.heap.size := by omega
        have F1 := Lib.hid hx4
        have F2 := Lib.hid (hrow3.but hset (.inr rfl))
        have F3 := Lib.hid (hr3.but hset (by omega))
        have F4 := Lib.hid (cur_but hc3 hset (by omega))
        have F5 := Lib.hid hbf
        clear hrow3 hx3 hr3 hc3 hbb3 hset hx4 hbf ho hb3
        go_wp2
        go_roundw
        case rel => exact ⟨i + 1, ⟨#[]⟩, some ⟨g', 0, none⟩, cap', [.mk b acc], by omega, by go_num, F1.out, F2.out, F3.out, F4.out, F5.out, by rw [SX.nodesL, SX.nodes, SX.nodesL]; have := HND.out; omega, by decide, by rw [SX.wtL, SX.wt, SX.wtL, SX.nodesL, SX.nodes, SX.nodesL]; have := HWT.out; have := HBS.out; omega⟩
        case measure => simp [Go.RowKit.intOf]; omega
      · have r0 : wr.cell? ⟨w.heap.size, 0, none⟩ = some (.string ByteArray.empty) := by rw [hr.cell]; rfl
        have r1 : wr.cell? ⟨w.heap.size, 1, none⟩ = some (.slice none 0 0) := by rw [hr.cell]; rfl
        have rf0 : wr.frozen? ⟨w.heap.size, 0, none⟩ = false := hr.frozen 0
        have rf1 : wr.frozen? ⟨w.heap.size, 1, none⟩ = false := hr.frozen 1
        have hlt' : ¬ ((i : Int) < 12 + n) := by omega
        have hend := bentEnd (n := 100) (a := b) hg hr hc hb hrow (by omega) hbs hwt
        have HE := Lib.hid hend
        clear hend hx hrow hr hc hb hnd hbs hwt
        go_wp2
        obtain ⟨e0, e1, e2⟩ := HE.out _ rfl
        exact bodyPost_ret (v := .agg #[.string b, .slice A acc.length c]) (by simp [results, Try.results56, go_sem, e0, e1]) rfl e2
  · have q0 : (m == 0) = false := by rw [beq_eq_false_iff_ne]; omega
    have q1 : (m == 1) = false := by rw [beq_eq_false_iff_ne]; omega
    have q2 : (m == 2) = false := by rw [beq_eq_false_iff_ne]; omega
    have x0 : w2.cell? ⟨X, 0, none⟩ = some (.string a) := by rw [HX3.out.cell]; rfl
    have x1 : w2.cell? ⟨X, 1, none⟩ = some (.slice A1 l.length c1) := by rw [HX3.out.cell]; rfl
    have r0 : w2.cell? ⟨w.heap.size, 0, none⟩ = some (.string ByteArray.empty) := by rw [HR3.out.cell]; rfl
    have r1 : w2.cell? ⟨w.heap.size, 1, none⟩ = some (.slice none 0 0) := by rw [HR3.out.cell]; rfl
    have rf0 : w2.frozen? ⟨w.heap.size, 0, none⟩ = false := HR3.out.frozen 0
    have rf1 : w2.frozen? ⟨w.heap.size, 1, none⟩ = false := HR3.out.frozen 1
    have hend := bentEnd (n := 100) (a := a) hg HR3.out HC3.out HB3.out HRW3.out (by omega) ha1 hs1
    have HE := Lib.hid hend
    clear hend
    go_wp2
    obtain ⟨e0, e1, e2⟩ := HE.out _ rfl
    exact bodyPost_ret (v := .agg #[.string a, .slice A1 l.length c1]) (by simp [results, Try.results56, go_sem, e0, e1]) rfl e2
end Go.Proofs.Ytbnfdjhcakimhaa

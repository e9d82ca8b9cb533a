/- What DrawAlphaEquivalent draws: two types whose variables have no arguments. -/
import Derived.Test.YtngbilblddngcaaDoorZDrawTwo
import Derived.Test.YtngbilblddngcaaDoorZSpCan
import Derived.Test.YtngbilblddngcaaDoorZRenumI
namespace Go.Proofs.YtngbilblddngcaaDoor
open Go.RowKit Go.Lib

/-- WHAT THE DRAW LEAVES. -/
def DrawnAl (w : World) (e : Ending) (w' : World) : Prop := ∃ (p : TypeX) (A : Option Addr) (a : Nat) (t : TypeX) (C : Option Addr) (c : Nat),
  e = .returned (.tuple #[.agg #[.int .i64 p.kind_, .string p.name_, .slice A p.args_.length a], .agg #[.int .i64 t.kind_, .string t.name_, .slice C t.args_.length c]]) ∧
  TypeRow w' (Und w'.heap.size) A a p.args_ ∧ TypeRow w' (Und w'.heap.size) C c t.args_ ∧ p.size ≤ 100 ∧ p.leafy ∧ t.size ≤ 10000 ∧ t.leafy ∧ Below w.heap.size w w'
theorem al_end {w u : World} {R1 R2 : Nat} {a1 b1 d1 a2 b2 d2 : Value} {p t : TypeX} {A C : Option Addr} {a c : Nat} (hR : R1 ≠ R2) (hw1 : w.heap.size ≤ R1) (hw2 : w.heap.size ≤ R2) (h1 : Whole u R1 26 #[a1, b1, d1]) (h2 : Whole u R2 26 #[a2, b2, d2]) (hb : Below w.heap.size w u)
    (hp : TypeRow u (fun b => (w.heap.size ≤ b ∧ b < u.heap.size) ∧ b ≠ R1 ∧ b ≠ R2) A a p.args_) (ht : TypeRow u (fun b => (w.heap.size ≤ b ∧ b < u.heap.size) ∧ b ≠ R1 ∧ b ≠ R2) C c t.args_) (hps : p.size ≤ 100) (hpl : p.leafy) (hts : t.size ≤ 10000) (htl : t.leafy) :
    ∀ w4, (w4 = (((((u.setCell ⟨R1, 0, none⟩ (.int .i64 p.kind_)).setCell ⟨R1, 1, none⟩ (.string p.name_)).setCell ⟨R1, 2, none⟩ (.slice A p.args_.length a)).setCell ⟨R2, 0, none⟩ (.int .i64 t.kind_)).setCell ⟨R2, 1, none⟩ (.string t.name_)).setCell ⟨R2, 2, none⟩ (.slice C t.args_.length c) ∨
      w4 = (((((u.setCell ⟨R2, 0, none⟩ (.int .i64 t.kind_)).setCell ⟨R2, 1, none⟩ (.string t.name_)).setCell ⟨R2, 2, none⟩ (.slice C t.args_.length c)).setCell ⟨R1, 0, none⟩ (.int .i64 p.kind_)).setCell ⟨R1, 1, none⟩ (.string p.name_)).setCell ⟨R1, 2, none⟩ (.slice A p.args_.length a)) →
      w4.cell? ⟨R1, 0, none⟩ = some (.int .i64 p.kind_) ∧ w4.cell? ⟨R1, 1, none⟩ = some (.string p.name_) ∧ w4.cell? ⟨R1, 2, none⟩ = some (.slice A p.args_.length a) ∧
      w4.cell? ⟨R2, 0, none⟩ = some (.int .i64 t.kind_) ∧ w4.cell? ⟨R2, 1, none⟩ = some (.string t.name_) ∧ w4.cell? ⟨R2, 2, none⟩ = some (.slice C t.args_.length c) ∧
      DrawnAl w (.returned (.tuple #[.agg #[.int .i64 p.kind_, .string p.name_, .slice A p.args_.length a], .agg #[.int .i64 t.kind_, .string t.name_, .slice C t.args_.length c]])) w4 := by
  intro w4 h4
  have key : Whole w4 R1 26 #[.int .i64 p.kind_, .string p.name_, .slice A p.args_.length a] ∧ Whole w4 R2 26 #[.int .i64 t.kind_, .string t.name_, .slice C t.args_.length c] ∧ (∀ b, b ≠ R1 → b ≠ R2 → w4.heap[b]? = u.heap[b]?) ∧ w4.heap.size = u.heap.size ∧ Below w.heap.size w w4 := by
    rcases h4 with rfl | rfl
    · refine ⟨(((((h1.set_ 0 _).set_ 1 _).set_ 2 _).far hR _ _).far hR _ _).far hR _ _, ((((((h2.far hR.symm _ _).far hR.symm _ _).far hR.symm _ _).set_ 0 _).set_ 1 _).set_ 2 _), fun b h1 h2 => ?_, by simp, ?_⟩
      · rw [Below.heap_setCell _ _ _ _ (by exact h2), Below.heap_setCell _ _ _ _ (by exact h2), Below.heap_setCell _ _ _ _ (by exact h2), Below.heap_setCell _ _ _ _ (by exact h1), Below.heap_setCell _ _ _ _ (by exact h1), Below.heap_setCell _ _ _ _ (by exact h1)]
      · exact (((((hb.setCell (p := ⟨R1, 0, none⟩) hw1 _).setCell (p := ⟨R1, 1, none⟩) hw1 _).setCell (p := ⟨R1, 2, none⟩) hw1 _).setCell (p := ⟨R2, 0, none⟩) hw2 _).setCell (p := ⟨R2, 1, none⟩) hw2 _).setCell (p := ⟨R2, 2, none⟩) hw2 _
    · refine ⟨((((((h1.far hR _ _).far hR _ _).far hR _ _).set_ 0 _).set_ 1 _).set_ 2 _), (((((h2.set_ 0 _).set_ 1 _).set_ 2 _).far hR.symm _ _).far hR.symm _ _).far hR.symm _ _, fun b h1 h2 => ?_, by simp, ?_⟩
      · rw [Below.heap_setCell _ _ _ _ (by exact h1), Below.heap_setCell _ _ _ _ (by exact h1), Below.heap_setCell _ _ _ _ (by exact h1), Below.heap_setCell _ _ _ _ (by exact h2), Below.heap_setCell _ _ _ _ (by exact h2), Below.heap_setCell _ _ _ _ (by exact h2)]
      · exact (((((hb.setCell (p := ⟨R2, 0, none⟩) hw2 _).setCell (p := ⟨R2, 1, none⟩) hw2 _).setCell (p := ⟨R2, 2, none⟩) hw2 _).setCell (p := ⟨R1, 0, none⟩) hw1 _).setCell (p := ⟨R1, 1, none⟩) hw1 _).setCell (p := ⟨R1, 2, none⟩) hw1 _
  obtain ⟨k1, k2, k3, k4, k5⟩ := key
  obtain ⟨c0, c1, c2⟩ := cells3 k1
  obtain ⟨d0, d1, d2⟩ := cells3 k2
  exact ⟨c0, c1, c2, d0, d1, d2, p, A, a, t, C, c, rfl, hp.frame (fun b h => by rw [k4]; exact h.1.2) (fun b o h => World.cell?_of_block (a := ⟨b, o, none⟩) (k3 b h.2.1 h.2.2)), ht.frame (fun b h => by rw [k4]; exact h.1.2) (fun b o h => World.cell?_of_block (a := ⟨b, o, none⟩) (k3 b h.2.1 h.2.2)), hps, hpl, hts, htl, k5⟩
mutual
theorem TypeX.sub_leafy {f : ByteArray → Option TypeX} (hf : ∀ s y, f s = some y → y.leafy) : ∀ x : TypeX, x.leafy → (x.sub f).leafy
  | .mk k n a, hl => by
    rw [TypeX.leafy] at hl
    by_cases hc : (k == 1) = true ∧ (f n).isSome = true
    · rw [TypeX.sub, if_pos hc]
      obtain ⟨y, hy⟩ := Option.isSome_iff_exists.1 hc.2
      rw [hy]
      exact hf n y hy
    · rw [TypeX.sub, if_neg hc, TypeX.leafy]
      exact ⟨fun hk => by rw [hl.1 hk, TypeX.subL], TypeX.subL_leafy hf a hl.2⟩
theorem TypeX.subL_leafy {f : ByteArray → Option TypeX} (hf : ∀ s y, f s = some y → y.leafy) : ∀ l : List TypeX, TypeX.leafyL l → TypeX.leafyL (TypeX.subL f l)
  | [], _ => by rw [TypeX.subL, TypeX.leafyL]; trivial
  | x :: r, hl => by
    rw [TypeX.leafyL] at hl
    rw [TypeX.subL, TypeX.leafyL]
    exact ⟨TypeX.sub_leafy hf x hl.1, TypeX.subL_leafy hf r hl.2⟩
end
/-- Two bindings of names to names. -/
def twoB (s1 n1 s2 n2 : ByteArray) : List BindingX := [.mk s1 (.mk 1 n1 []), .mk s2 (.mk 1 n2 [])]
theorem bindOwn (s n : ByteArray) (w : World) (B : Nat) : OwVs w B (BindingX.mk s (.mk 1 n [])).cells [.string s, .int .i64 1, .string n, .slice none 0 0] [] := by
  have hx := varX_own n w B
  rw [TypeX.cells_eq] at hx
  rw [BindingX.cells_eq, OwVs]
  exact ⟨_, _, [], [], rfl, rfl, by rw [OwV]; exact ⟨rfl, rfl⟩, hx⟩
theorem twoB_row (s1 n1 s2 n2 : ByteArray) (w : World) :
    BindingRow (w.alloc (.cells #[.string s1, .int .i64 1, .string n1, .slice none 0 0, .string s2, .int .i64 1, .string n2, .slice none 0 0] 58)) (Und (w.alloc (.cells #[.string s1, .int .i64 1, .string n1, .slice none 0 0, .string s2, .int .i64 1, .string n2, .slice none 0 0] 58)).heap.size) (some ⟨w.heap.size, 0, none⟩) 2 (twoB s1 n1 s2 n2) := by
  have hw := Whole.new w 58 #[.string s1, .int .i64 1, .string n1, .slice none 0 0, .string s2, .int .i64 1, .string n2, .slice none 0 0]
  have hE : OwVE (w.alloc (.cells #[.string s1, .int .i64 1, .string n1, .slice none 0 0, .string s2, .int .i64 1, .string n2, .slice none 0 0] 58)) (w.heap.size + 1) 4 (BindingX.rows (twoB s1 n1 s2 n2)) [.string s1, .int .i64 1, .string n1, .slice none 0 0, .string s2, .int .i64 1, .string n2, .slice none 0 0] [] := by
    rw [BindingX.rows_map, twoB, List.map_cons, List.map_cons, List.map_nil, OwVE]
    refine ⟨[.string s1, .int .i64 1, .string n1, .slice none 0 0], [.string s2, .int .i64 1, .string n2, .slice none 0 0], [], [], rfl, rfl, BindingX.cells_length _, bindOwn _ _ _ _, ?_⟩
    rw [OwVE]
    exact ⟨[.string s2, .int .i64 1, .string n2, .slice none 0 0], [], [], [], rfl, rfl, BindingX.cells_length _, bindOwn _ _ _ _, rfl, rfl⟩
  have ho := OwV_filled (n := 2) (K := 4) hw rfl (by decide) (by rw [BindingX.rows_length]; rfl) hE List.nodup_nil
  exact OwV_read (P := Und _) _ (fun b hb => (OwV_lt _ ho.1 b hb).2) ho.1
theorem twoB_look {s1 n1 s2 n2 s : ByteArray} {y : TypeX} (h : subX (twoB s1 n1 s2 n2) s = some y) : y.leafy ∧ y.size ≤ 1 := by
  rw [subX, twoB, lookX, lookX, lookX] at h
  have key : ∀ n : ByteArray, (TypeX.mk 1 n []).leafy ∧ (TypeX.mk 1 n []).size ≤ 1 := fun n => ⟨by rw [TypeX.leafy, TypeX.leafyL]; exact ⟨fun _ => rfl, trivial⟩, by rw [TypeX.size, TypeX.sizeL]; exact Nat.le_refl _⟩
  split at h
  · injection h with h; rw [← h]; exact key _
  · split at h
    · injection h with h; rw [← h]; exact key _
    · cases h
theorem twoB_size {s1 n1 s2 n2 : ByteArray} : ∀ b ∈ twoB s1 n1 s2 n2, b.type_.size ≤ 4294967296 := fun b hb => by
  have key : ∀ n : ByteArray, (TypeX.mk 1 n []).size ≤ 4294967296 := fun n => by rw [TypeX.size, TypeX.sizeL]; decide
  rw [twoB] at hb
  rcases List.mem_cons.1 hb with rfl | hb
  · exact key _
  · rw [List.mem_singleton] at hb; rw [hb]; exact key _

theorem cells_far3 {u : World} {g R : Nat} {t : TypeId} {a b c : Value} (h : Whole u g t #[a, b, c]) (hne : g ≠ R) (v0 v1 v2 : Value) :
    (((u.setCell ⟨R, 0, none⟩ v0).setCell ⟨R, 1, none⟩ v1).setCell ⟨R, 2, none⟩ v2).cell? ⟨g, 0, none⟩ = some a ∧ (((u.setCell ⟨R, 0, none⟩ v0).setCell ⟨R, 1, none⟩ v1).setCell ⟨R, 2, none⟩ v2).cell? ⟨g, 1, none⟩ = some b ∧ (((u.setCell ⟨R, 0, none⟩ v0).setCell ⟨R, 1, none⟩ v1).setCell ⟨R, 2, none⟩ v2).cell? ⟨g, 2, none⟩ = some c :=
  cells3 (((h.far hne _ _).far hne _ _).far hne _ _)
theorem cells_far6 {u : World} {g R S : Nat} {t : TypeId} {a b c : Value} (h : Whole u g t #[a, b, c]) (hne : g ≠ R) (hne' : g ≠ S) (v0 v1 v2 x0 x1 x2 : Value) :
    ((((((u.setCell ⟨R, 0, none⟩ v0).setCell ⟨R, 1, none⟩ v1).setCell ⟨R, 2, none⟩ v2).setCell ⟨S, 0, none⟩ x0).setCell ⟨S, 1, none⟩ x1).setCell ⟨S, 2, none⟩ x2).cell? ⟨g, 0, none⟩ = some a ∧
    ((((((u.setCell ⟨R, 0, none⟩ v0).setCell ⟨R, 1, none⟩ v1).setCell ⟨R, 2, none⟩ v2).setCell ⟨S, 0, none⟩ x0).setCell ⟨S, 1, none⟩ x1).setCell ⟨S, 2, none⟩ x2).cell? ⟨g, 1, none⟩ = some b ∧
    ((((((u.setCell ⟨R, 0, none⟩ v0).setCell ⟨R, 1, none⟩ v1).setCell ⟨R, 2, none⟩ v2).setCell ⟨S, 0, none⟩ x0).setCell ⟨S, 1, none⟩ x1).setCell ⟨S, 2, none⟩ x2).cell? ⟨g, 2, none⟩ = some c :=
  cells3 ((((((h.far hne _ _).far hne _ _).far hne _ _).far hne' _ _).far hne' _ _).far hne' _ _)

set_option maxRecDepth 100000 in
set_option maxHeartbeats 4000000 in
theorem drawAl (A0 : Option Addr) (n c0 : Nat) (w : World) (hA : BytesAt w w.heap.size A0 n) (hn : n ≤ 140737488355328) :
    Calls Tryd.prog 10 #[.slice A0 n c0] w (DrawnAl w) := by
  obtain ⟨W, hW⟩ : ∃ W, W = (w.alloc (.cells zeroT 26)).alloc (.cells zeroT 26) := ⟨_, rfl⟩
  have hbW : Below w.heap.size w W := by rw [hW]; exact ((Below.refl _ _).alloc (Nat.le_refl _) _).alloc (by simp) _
  have hsW : W.heap.size = w.heap.size + 2 := by rw [hW]; simp
  have hr1 : Whole W w.heap.size 26 zeroT := by rw [hW]; exact (Whole.new w _ _).below ((Below.refl (w.heap.size + 1) _).alloc (by simp) _) (by omega)
  have hr2 : Whole W (w.heap.size + 1) 26 zeroT := by
    have h := Whole.new (w.alloc (.cells zeroT 26)) 26 zeroT
    rw [World.size_alloc] at h
    rw [hW]; exact h
  have HAA := Lib.hid ((hA.below hbW).mono_ hbW.size)
  have HW := Lib.hid hW.symm
  have HR1 := Lib.hid hr1
  have HR2 := Lib.hid hr2
  have HBW := Lib.hid hbW
  clear hA hW hbW hr1 hr2
  go_enter Tryd.func10, Tryd.ntmps10
  go_wp2_with fail
  rw [HW.out]
  refine (drawNew A0 n c0 _ HAA.out hn).mono ?_
  rintro e w1 ⟨g, rfl, hc1, hb1⟩
  have hg0 := hc1.own
  have hgl := hc1.lt
  have hs1 := hb1.size
  have HC1 := Lib.hid hc1
  have HR1 := Lib.hid (HR1.out.below hb1 (by omega))
  have HR2 := Lib.hid (HR2.out.below hb1 (by omega))
  have HB1 := Lib.hid (HBW.out.trans (hb1.mono HBW.out.size))
  clear hc1 hb1 HAA HBW HW
  go_wp2_with fail
  refine (freeC (OldG w g) _ g 3 (by omega) w1 (oldG_lt (by omega) hgl) (.inr rfl) HC1.out).mono ?_
  rintro e w2 ⟨p, ⟨V, rfl, ht⟩, hps, hpt, hpf, hc2, hb2⟩
  obtain ⟨A, a, rfl, hrow⟩ := ht.row (oldG_lt (by omega) hgl)
  have hs2 := hb2.size
  have nb : Below w2.heap.size w2 (w2.alloc (.cells #[.int .i64 p.kind_, .string p.name_, .slice A p.args_.length a] 26)) := (Below.refl _ _).alloc (Nat.le_refl _) _
  obtain ⟨w3, hw3⟩ : ∃ w3, w3 = w2.alloc (.cells #[.int .i64 p.kind_, .string p.name_, .slice A p.args_.length a] 26) := ⟨_, rfl⟩
  have hst : TwoSt w W.heap.size g w2.heap.size p w2.heap.size A a w3 := by
    rw [hw3]
    exact ⟨hc2.kept nb, whole_keep (whole_but HR1.out hb2 (by omega)) nb, whole_keep (whole_but HR2.out hb2 (by omega)) nb, Whole.new _ _ _,
      hrow.frame (fun _ h => h) (fun b o h => nb.cell (p := ⟨b, o, none⟩) h.1), by omega, by omega, Nat.le_refl _, (HB1.out.trans (hb2.to_below (by omega) HB1.out.size)).alloc (by have := HB1.out.size; omega) _⟩
  have hs3 : w3.heap.size = w2.heap.size + 1 := by rw [hw3]; simp
  have HST := Lib.hid hst
  have HW3 := Lib.hid hw3.symm
  have hpl := hpf.1.1
  have hps17 : p.size ≤ 17 := by simpa using hps
  have HPL := Lib.hid hpl
  have hc3 := hst.cur
  clear ht hrow hc2 hb2 nb hst hw3 hpt hpf hpl hps
  go_wp2_with fail
  rw [HW3.out]
  refine (drawOnce _ g 3 _ hc3 (by omega) (by omega)).mono ?_
  rintro e w4 ⟨v, rfl, ⟨b, rfl⟩, hc4, hb4⟩
  have hst4 := HST.out.but hb4 hc4
  have hs4 := hb4.size
  have HST := Lib.hid hst4
  clear hc3 hc4 hb4 hst4 HW3
  cases b with
  | true =>
    obtain ⟨p0, p1, p2⟩ := cells3 HST.out.box
    have pl := HST.out.box.lt
    have hcc := HST.out.cur
    have hgl4 : g < w4.heap.size := by omega
    go_upto_region 4 with (fail)
    go_region_law (first
      | (go_simp
         go_at_call 37
         refine (freeC (OldG w g) _ g 3 (by omega) _ (oldG_lt (by simp; omega) (by simp; omega)) (.inr rfl) (HST.out.keep (Below.refl _ w4).drew).cur).mono ?_
         rintro e w5 ⟨t, ⟨V, rfl, ht⟩, hts, -, htf, hc5, hb5⟩
         have htl := htf.1.1
         obtain ⟨C, c, rfl, hrow⟩ := ht.row (oldG_lt (by simp; omega) (by simp; omega))
         have hst5 := (HST.out.keep (Below.refl _ w4).drew).but hb5 hc5
         obtain ⟨p0, p1, p2⟩ := cells3 hst5.box
         have pl := hst5.box.lt
         obtain ⟨a0, a1, a2⟩ := cells3 hst5.r1
         obtain ⟨b0, b1, b2⟩ := cells3 hst5.r2
         have af0 := hst5.r1.frozen 0
         have af1 := hst5.r1.frozen 1
         have af2 := hst5.r1.frozen 2
         have bf0 := hst5.r2.frozen 0
         have bf1 := hst5.r2.frozen 1
         have bf2 := hst5.r2.frozen 2
         have al := hst5.r1.lt
         have bl := hst5.r2.lt))
    all_goals (
      have HE := Lib.hid (al_end (w := w) (R1 := w.heap.size) (R2 := w.heap.size + 1) (by omega) (Nat.le_refl _) (by omega) hst5.r1 hst5.r2 hst5.below hst5.rowE (oldRow hrow) (by omega) HPL.out (by have h17 : t.size ≤ 17 := (by simpa using hts); omega) htl)
      clear hst5 hrow htl htf hc5 hb5 ht
      go_wp2
      obtain ⟨e0, e1, e2, e3, e4, e5, e6⟩ := HE.out _ (.inl rfl)
      exact bodyPost_ret (v := .tuple #[.agg #[.int .i64 p.kind_, .string p.name_, .slice A p.args_.length a], .agg #[.int .i64 t.kind_, .string t.name_, .slice C t.args_.length c]]) (by simp [results, Tryd.results10, go_sem, e0, e1, e2, e3, e4, e5]) rfl e6)
  | false =>
    obtain ⟨p0, p1, p2⟩ := cells3 HST.out.box
    have pl := HST.out.box.lt
    have hgl4 : g < w4.heap.size := by omega
    have hst := HST.out
    go_upto_region 5 with (fail)
    go_region_held3 (fun w' => w'.cell? ⟨w2.heap.size, 0, none⟩ = some (.int .i64 p.kind_) ∧ w'.cell? ⟨w2.heap.size, 1, none⟩ = some (.string p.name_) ∧ w'.cell? ⟨w2.heap.size, 2, none⟩ = some (.slice A p.args_.length a))
      (first
        | go_keep
        | with_reducible exact cells3 hst.box
        | with_reducible exact cells_far3 hst8.box hne1 _ _ _
        | with_reducible exact cells_far6 hst8.box hne1 hne2 _ _ _ _ _ _
        | with_reducible exact cells_far6 hst8.box hne2 hne1 _ _ _ _ _ _)
      (first
        | (go_at_call_of 40 (Value.string ⟨#[98]⟩)
           refine (varN ⟨#[98]⟩ _).mono ?_
           rintro e w5 ⟨rfl, hb5⟩
           have hst5 := (HST.out.keep (by first | exact (Below.refl _ _) | exact (Below.refl _ _).drew | exact ((Below.refl _ _).alloc (Nat.le_refl _) _) | exact ((Below.refl _ _).alloc (Nat.le_refl _) _).drew | exact ((Below.refl _ _).drew).alloc (Nat.le_refl _) _)).keep hb5
           have hst := hst5
           first
             | (have hnm := whole_keep (Whole.new w4.drew 9 #[.string ⟨#[97]⟩, .string ⟨#[98]⟩, .string ⟨#[118, 48]⟩]) hb5)
             | skip
           have hs5 := hb5.size
           simp only [World.size_drew, World.size_alloc] at hs5
           have hg5 : g < w5.heap.size := hst5.cur.lt
           clear hb5)
        | (go_at_call 41
           first
             | refine (drawPick _ g w4.heap.size 3 [⟨#[97]⟩, ⟨#[98]⟩, ⟨#[118, 48]⟩] w5 hst5.cur hnm (by decide) (by decide) (by omega)).mono ?_
             | refine (drawPick _ g w5.heap.size 3 [⟨#[97]⟩, ⟨#[98]⟩, ⟨#[118, 48]⟩] _ (hst5.keep ((Below.refl _ _).alloc (Nat.le_refl _) _)).cur (Whole.new w5 _ _) (by decide) (by decide) (by omega)).mono ?_
           rintro e w6 ⟨v, rfl, ⟨s, -, rfl⟩, hc6, hb6⟩
           have hst6 := (hst5.keep (by first | exact (Below.refl _ _) | exact (Below.refl _ _).drew | exact ((Below.refl _ _).alloc (Nat.le_refl _) _) | exact ((Below.refl _ _).alloc (Nat.le_refl _) _).drew | exact ((Below.refl _ _).drew).alloc (Nat.le_refl _) _)).but hb6 hc6
           have hst := hst6
           clear hb6 hc6)
        | (go_at_call_of 40 (Value.string s)
           refine (varN s _).mono ?_
           rintro e w7 ⟨rfl, hb7⟩
           have hst7 := hst6.keep hb7
           have hst := hst7
           have HRB := Lib.hid (twoB_row ⟨#[97]⟩ ⟨#[98]⟩ ⟨#[98]⟩ s w7)
           have HRP := Lib.hid ((TwoSt.und hst7).grow ((Below.refl _ _).alloc (Nat.le_refl _) (.cells #[.string ⟨#[97]⟩, .int .i64 1, .string ⟨#[98]⟩, .slice none 0 0, .string ⟨#[98]⟩, .int .i64 1, .string s, .slice none 0 0] 58)))
           clear hb7)
        | (go_at_call 39
           refine (specApply (twoB ⟨#[97]⟩ ⟨#[98]⟩ ⟨#[98]⟩ s) (some ⟨w7.heap.size, 0, none⟩) 2 p A a _ (by omega) twoB_size HRB.out HRP.out).mono ?_
           intro e w8 hm
           obtain ⟨C, c, bs8, rfl, -, -, hr8, -, hb8⟩ := madeV_get hm
           have hst8 := (hst7.keep ((Below.refl _ _).alloc (Nat.le_refl _) _)).keep hb8
           have hst := hst8
           simp only [World.size_alloc] at hr8
           obtain ⟨a0, a1, a2⟩ := cells3 hst8.r1
           obtain ⟨b0, b1, b2⟩ := cells3 hst8.r2
           have af0 := hst8.r1.frozen 0
           have af1 := hst8.r1.frozen 1
           have af2 := hst8.r1.frozen 2
           have bf0 := hst8.r2.frozen 0
           have bf1 := hst8.r2.frozen 1
           have bf2 := hst8.r2.frozen 2
           have al := hst8.r1.lt
           have bl := hst8.r2.lt
           have hne1 : w2.heap.size ≠ w.heap.size := by omega
           have hne2 : w2.heap.size ≠ w.heap.size + 1 := by omega
           clear hm hb8))
    all_goals (
      have hts := sub_size_le (f := subX (twoB ⟨#[97]⟩ ⟨#[98]⟩ ⟨#[98]⟩ s)) (x := p) (N := 17) (M := 1) (fun u y hs => (twoB_look hs).2) (by decide) hps17
      have htl := TypeX.sub_leafy (f := subX (twoB ⟨#[97]⟩ ⟨#[98]⟩ ⟨#[98]⟩ s)) (fun u y hs => (twoB_look hs).1) p HPL.out
      have hs7 := hst7.below.size
      have hb7 := hst7.box.lt
      have HE := Lib.hid (al_end (w := w) (u := w8) (R1 := w.heap.size) (R2 := w.heap.size + 1) (p := p) (t := p.sub (subX (twoB ⟨#[97]⟩ ⟨#[98]⟩ ⟨#[98]⟩ s))) (A := A) (C := C) (a := a) (c := c) (by omega) (Nat.le_refl _) (by omega) hst8.r1 hst8.r2 hst8.below hst8.rowE (RdV_frame (fun b h => ⟨⟨by have := h.1; omega, h.2⟩, by have := h.1; omega, by have := h.1; omega⟩) (fun _ _ _ => rfl) _ hr8) (by omega) HPL.out (by omega) htl)
      clear hst hst5 hst6 hst7 hst8 hr8 htl hts
      go_wp2
      obtain ⟨e0, e1, e2, e3, e4, e5, e6⟩ := HE.out _ (.inl rfl)
      exact bodyPost_ret (v := .tuple #[.agg #[.int .i64 p.kind_, .string p.name_, .slice A p.args_.length a], .agg #[.int .i64 (p.sub (subX (twoB ⟨#[97]⟩ ⟨#[98]⟩ ⟨#[98]⟩ s))).kind_, .string (p.sub (subX (twoB ⟨#[97]⟩ ⟨#[98]⟩ ⟨#[98]⟩ s))).name_, .slice C (p.sub (subX (twoB ⟨#[97]⟩ ⟨#[98]⟩ ⟨#[98]⟩ s))).args_.length c]]) (by simp [results, Tryd.results10, go_sem, e0, e1, e2, e3, e4, e5]) rfl e6)
end Go.Proofs.YtngbilblddngcaaDoor

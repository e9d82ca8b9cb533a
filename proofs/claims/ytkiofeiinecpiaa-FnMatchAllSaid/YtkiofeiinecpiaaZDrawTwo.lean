/- The draw of two types (l7Two): the second may be made out of the first. -/
import Derived.Test.YtkiofeiinecpiaaZTwoSt
import Derived.Deep.RegionWith
import Derived.Deep.RegionLaw
import Derived.Deep.CutRange
namespace Go.Proofs.Ytkiofeiinecpiaa
open Go.RowKit Go.Lib

/-- What region 5 leaves: the second type in a box of its own. -/
def TwoBox (w : World) (B g N : Nat) (p : TypeX) (Bp : Nat) (A : Option Addr) (a : Nat) (X : Nat) (wc : World) : Prop :=
  TwoSt w B g N p Bp A a wc ∧ Bp < X ∧ ∃ (t : TypeX) (C : Option Addr) (c : Nat), Whole wc X 26 #[.int .i64 t.kind_, .string t.name_, .slice C t.args_.length c] ∧
    TypeRow wc (fun b => b < wc.heap.size ∧ ¬ OldG w g b ∧ b ≠ X) C c t.args_ ∧ t.size ≤ 1700 ∧ t.tame

/-- A box made ahead of its time: still empty. -/
def ZbT (E : World) (X : Nat) (u : World) : Prop := Whole u X 26 zeroT ∧ E.heap.size ≤ X
theorem ZbT.new {E u : World} (h : E.heap.size ≤ u.heap.size) : ZbT E u.heap.size (u.alloc (.cells zeroT 26)) := ⟨Whole.new _ _ _, h⟩
theorem ZbT.drew {E u : World} {X : Nat} (h : ZbT E X u) : ZbT E X u.drew := h
theorem ZbT.step {E u u' : World} {X : Nat} (h : ZbT E X u) (hb : Below u.heap.size u u') : ZbT E X u' := ⟨whole_keep h.1 hb, h.2⟩
theorem ZbT.but {E u u' : World} {X g : Nat} (h : ZbT E X u) (hb : But g u u') (hg : g < E.heap.size) : ZbT E X u' := ⟨whole_but h.1 hb (by have := h.2; omega), h.2⟩
theorem ZbT.lt {E u : World} {X : Nat} (h : ZbT E X u) : X < u.heap.size := h.1.lt
theorem twoRow {w wc : World} {g n X : Nat} {y : TypeX} {C : Option Addr} {c : Nat} (hr : RdV wc (Bet n wc.heap.size) (.row 26 3 (TypeX.rows y.args_)) (.slice C y.args_.length c)) (hn : w.heap.size + 2 ≤ n) (hg : g < n) (hX : X < n ∨ wc.heap.size ≤ X) :
    TypeRow wc (fun b => b < wc.heap.size ∧ ¬ OldG w g b ∧ b ≠ X) C c y.args_ :=
  RdV_frame (fun b h => ⟨h.2, fun h' => by
    have := h.1
    rcases h' with h' | h'
    · omega
    · omega, by have := h.1; have := h.2; omega⟩) (fun _ _ _ => rfl) _ hr
theorem twoBox_a {w w6 : World} {B g N Bp a n : Nat} {p y : TypeX} {A C : Option Addr} {c : Nat} (hst : TwoSt w B g N p Bp A a w6) (hr : RdV w6 (Bet n w6.heap.size) (.row 26 3 (TypeX.rows y.args_)) (.slice C y.args_.length c)) (hn : w.heap.size + 2 ≤ n) (hg : g < n) (hs : y.size ≤ 1700) (ht : y.tame) :
    TwoBox w B g N p Bp A a w6.heap.size (w6.alloc (.cells #[.int .i64 y.kind_, .string y.name_, .slice C y.args_.length c] 26)) := by
  have nb : Below w6.heap.size w6 (w6.alloc (.cells #[.int .i64 y.kind_, .string y.name_, .slice C y.args_.length c] 26)) := (Below.refl _ _).alloc (Nat.le_refl _) _
  exact ⟨hst.keep nb, hst.box.lt, y, C, c, Whole.new _ _ _, (twoRow (X := w6.heap.size) hr hn hg (.inr (Nat.le_refl _))).frame (fun b h => ⟨by rw [World.size_alloc]; omega, h.2⟩) (fun b o h => nb.cell (p := ⟨b, o, none⟩) h.1), hs, ht⟩
theorem twoBox_set {w w6 : World} {B g N Bp a X : Nat} {p y : TypeX} {A C : Option Addr} {c : Nat} {u0 u1 u2 : Value} (hst : TwoSt w B g N p Bp A a w6) (hx : Whole w6 X 26 #[u0, u1, u2]) (hX : Bp < X) (hr : TypeRow w6 (fun b => b < w6.heap.size ∧ ¬ OldG w g b ∧ b ≠ X) C c y.args_) (hs : y.size ≤ 1700) (ht : y.tame) :
    TwoBox w B g N p Bp A a X (((w6.setCell ⟨X, 0, none⟩ (.int .i64 y.kind_)).setCell ⟨X, 1, none⟩ (.string y.name_)).setCell ⟨X, 2, none⟩ (.slice C y.args_.length c)) := by
  have hfar : ∀ b, b ≠ X → ((((w6.setCell ⟨X, 0, none⟩ (.int .i64 y.kind_)).setCell ⟨X, 1, none⟩ (.string y.name_)).setCell ⟨X, 2, none⟩ (.slice C y.args_.length c)) : World).heap[b]? = w6.heap[b]? := fun b h => by rw [Below.heap_setCell _ _ _ _ (by exact h), Below.heap_setCell _ _ _ _ (by exact h), Below.heap_setCell _ _ _ _ (by exact h)]
  have hbut : But X w6 (((w6.setCell ⟨X, 0, none⟩ (.int .i64 y.kind_)).setCell ⟨X, 1, none⟩ (.string y.name_)).setCell ⟨X, 2, none⟩ (.slice C y.args_.length c)) := ((But.set_ X w6 0 _).trans (But.set_ X _ 1 _)).trans (But.set_ X _ 2 _)
  have hgB := hst.gB
  have hgP := hst.gP
  have hnP := hst.nP
  refine ⟨⟨cur_far hst.cur hbut (by omega), whole_but hst.r1 hbut (by omega), whole_but hst.r2 hbut (by omega), whole_but hst.box hbut (by omega), hst.row.frame (fun _ h => h) (fun b o h => World.cell?_of_block (a := ⟨b, o, none⟩) (hfar b (by have := h.1; omega))), hgB, hgP, hnP, hst.below.trans (hbut.to_below (by have := hst.below.size; omega) hst.below.size)⟩, hX, y, C, c, ((hx.set_ 0 _).set_ 1 _).set_ 2 _, hr.frame (fun b h => ⟨by have := hbut.size; have := h.1; omega, h.2⟩) (fun b o h => World.cell?_of_block (a := ⟨b, o, none⟩) (hfar b h.2.2)), hs, ht⟩
theorem twoBox_keep {w u u' : World} {B g N Bp a X : Nat} {p : TypeX} {A : Option Addr} (h : TwoBox w B g N p Bp A a X u) (hb : But g u u') (hc : Cur u' B g) : TwoBox w B g N p Bp A a X u' := by
  obtain ⟨h1, h2, t, C, c, h3, h4, h5, h6⟩ := h
  exact ⟨h1.but hb hc, h2, t, C, c, whole_but h3 hb (by have := h1.gP; omega), h4.frame (fun b h => ⟨Nat.lt_of_lt_of_le h.1 hb.size, h.2⟩) (fun b o h => World.cell?_of_block (a := ⟨b, o, none⟩) (hb.block b h.1 (fun e => h.2.1 (.inr e)))), h5, h6⟩
/-- A new row of one binding. -/
theorem bind_alone {w : World} {x : BindingX} {A : Option Addr} {c : Nat} (h : TypeRow w (Und w.heap.size) A c x.type_.args_) :
    BindingRow (w.alloc (.cells #[.string x.var_, .int .i64 x.type_.kind_, .string x.type_.name_, .slice A x.type_.args_.length c] 77)) (Und (w.alloc (.cells #[.string x.var_, .int .i64 x.type_.kind_, .string x.type_.name_, .slice A x.type_.args_.length c] 77)).heap.size) (some ⟨w.heap.size, 0, none⟩) 1 [x] := by
  have hb : Below w.heap.size w (w.alloc (.cells #[.string x.var_, .int .i64 x.type_.kind_, .string x.type_.name_, .slice A x.type_.args_.length c] 77)) := (Below.refl _ _).alloc (Nat.le_refl _) _
  have hw := Whole.new w 77 #[.string x.var_, .int .i64 x.type_.kind_, .string x.type_.name_, .slice A x.type_.args_.length c]
  have hx := h.grow hb
  refine RdV_row.2 ⟨some ⟨w.heap.size, 0, none⟩, 1, by rw [BindingX.rows_length], by rw [BindingX.rows_length]; exact Nat.le_refl _, by decide, .inr ⟨w.heap.size, 0, rfl, by show w.heap.size < _; simp, [.string x.var_, .int .i64 x.type_.kind_, .string x.type_.name_, .slice A x.type_.args_.length c], ?_, fun i v hi => ?_⟩⟩
  · rw [BindingX.rows_map, List.map_cons, List.map_nil, RdVE]
    refine ⟨[.string x.var_, .int .i64 x.type_.kind_, .string x.type_.name_, .slice A x.type_.args_.length c], [], rfl, x.cells_length, ?_, by rw [RdVE]⟩
    rw [BindingX.cells_eq]
    simp only [RdVs]
    exact ⟨_, _, rfl, by rw [RdV_pl], _, _, rfl, by rw [RdV_pl], _, _, rfl, by rw [RdV_pl], _, _, rfl, hx, rfl⟩
  · rw [Nat.zero_add, hw.cell]
    simpa using hi
theorem TwoSt.rowE {w : World} {B g N : Nat} {p : TypeX} {Bp : Nat} {A : Option Addr} {a : Nat} {u : World} (h : TwoSt w B g N p Bp A a u) : TypeRow u (fun b => (w.heap.size ≤ b ∧ b < u.heap.size) ∧ b ≠ w.heap.size ∧ b ≠ w.heap.size + 1) A a p.args_ :=
  h.row.frame (fun b hP => by
    have h1 := h.nP
    have h2 := h.box.lt
    have h3 := hP.1
    have h4 : ¬ b < w.heap.size + 2 := fun e => hP.2 (.inl e)
    omega) fun _ _ _ => rfl
theorem oneSmall : ∀ b ∈ [BindingX.mk ⟨#[98]⟩ (.mk 2 ⟨#[105, 110, 116]⟩ [])], b.type_.size ≤ 4294967296 := fun b hb => by
  rw [List.mem_singleton.1 hb]
  show (TypeX.mk 2 ⟨#[105, 110, 116]⟩ []).size ≤ _
  rw [TypeX.size, TypeX.sizeL]; decide
theorem oneSize : ∀ s y, subX [BindingX.mk ⟨#[98]⟩ (.mk 2 ⟨#[105, 110, 116]⟩ [])] s = some y → y.size ≤ 1 := fun s y hy => by
  rw [subX, lookX_one] at hy
  split at hy
  · injection hy with hy
    rw [← hy]
    show (TypeX.mk 2 ⟨#[105, 110, 116]⟩ []).size ≤ _
    rw [TypeX.size, TypeX.sizeL]; decide
  · cases hy
theorem oneTame : (TypeX.mk 2 ⟨#[105, 110, 116]⟩ []).tame := by
  rw [TypeX.tame, TypeX.tameL]
  exact ⟨by decide, by decide, trivial, fun h => absurd h (by decide)⟩
theorem oldRow {w u : World} {g : Nat} {C : Option Addr} {c : Nat} {l : List TypeX} (h : TypeRow u (fun b => b < u.heap.size ∧ ¬ OldG w g b) C c l) : TypeRow u (fun b => (w.heap.size ≤ b ∧ b < u.heap.size) ∧ b ≠ w.heap.size ∧ b ≠ w.heap.size + 1) C c l :=
  h.frame (fun b hP => by
    have h3 := hP.1
    have h4 : ¬ b < w.heap.size + 2 := fun e => hP.2 (.inl e)
    omega) fun _ _ _ => rfl

set_option maxRecDepth 100000 in
set_option maxHeartbeats 4000000 in
theorem drawTwo (A0 : Option Addr) (n c0 : Nat) (w : World) (hA : BytesAt w w.heap.size A0 n) (hn : n ≤ 140737488355328) :
    Calls Try.prog 62 #[.slice A0 n c0] w (DrawnTwo w) := by
  obtain ⟨W, hW⟩ : ∃ W, W = (w.alloc (.cells zeroT 26)).alloc (.cells zeroT 26) := ⟨_, rfl⟩
  have hbW : Below w.heap.size w W := by rw [hW]; exact ((Below.refl _ _).alloc (Nat.le_refl _) _).alloc (by simp) _
  have hsW : W.heap.size = w.heap.size + 2 := by rw [hW]; simp
  have hr1 : Whole W w.heap.size 26 zeroT := by rw [hW]; exact (Whole.new w _ _).below ((Below.refl (w.heap.size + 1) _).alloc (by simp) _) (by omega)
  have hr2 : Whole W (w.heap.size + 1) 26 zeroT := by
    have h := Whole.new (w.alloc (.cells zeroT 26)) 26 zeroT
    rw [World.size_alloc] at h
    rw [hW]; exact h
  have HAA := Lib.hid ((hA.below hbW).mono_ hbW.size)
  have HW := Lib.hid hW.symm
  have HR1 := Lib.hid hr1
  have HR2 := Lib.hid hr2
  have HBW := Lib.hid hbW
  clear hA hW hbW hr1 hr2
  go_enter Try.func62, Try.ntmps62
  go_wp2_with fail
  rw [HW.out]
  refine (drawNew A0 n c0 _ HAA.out hn).mono ?_
  rintro e w1 ⟨g, rfl, hc1, hb1⟩
  have hg0 := hc1.own
  have hgl := hc1.lt
  have hs1 := hb1.size
  have HC1 := Lib.hid hc1
  have HR1 := Lib.hid (HR1.out.below hb1 (by omega))
  have HR2 := Lib.hid (HR2.out.below hb1 (by omega))
  have HB1 := Lib.hid (HBW.out.trans (hb1.mono HBW.out.size))
  clear hc1 hb1 HAA HBW HW
  go_wp2_with fail
  refine (freeC (OldG w g) _ g 3 (by omega) w1 (oldG_lt (by omega) hgl) (.inr rfl) HC1.out).mono ?_
  rintro e w2 ⟨p, ⟨V, rfl, ht⟩, hps, hpt, hpf, hc2, hb2⟩
  obtain ⟨A, a, rfl, hrow⟩ := ht.row (oldG_lt (by omega) hgl)
  have hs2 := hb2.size
  have nb : Below w2.heap.size w2 (w2.alloc (.cells #[.int .i64 p.kind_, .string p.name_, .slice A p.args_.length a] 26)) := (Below.refl _ _).alloc (Nat.le_refl _) _
  obtain ⟨w3, hw3⟩ : ∃ w3, w3 = w2.alloc (.cells #[.int .i64 p.kind_, .string p.name_, .slice A p.args_.length a] 26) := ⟨_, rfl⟩
  have hst : TwoSt w W.heap.size g w2.heap.size p w2.heap.size A a w3 := by
    rw [hw3]
    exact ⟨hc2.kept nb, whole_keep (whole_but HR1.out hb2 (by omega)) nb, whole_keep (whole_but HR2.out hb2 (by omega)) nb, Whole.new _ _ _,
      hrow.frame (fun _ h => h) (fun b o h => nb.cell (p := ⟨b, o, none⟩) h.1), by omega, by omega, Nat.le_refl _, (HB1.out.trans (hb2.to_below (by omega) HB1.out.size)).alloc (by have := HB1.out.size; omega) _⟩
  have hs3 : w3.heap.size = w2.heap.size + 1 := by rw [hw3]; simp
  have HST := Lib.hid hst
  have HW3 := Lib.hid hw3.symm
  have hpl := hpf.1.1
  have hps17 : p.size ≤ 17 := by simpa using hps
  have HPT := Lib.hid hpt
  have HPL := Lib.hid hpl
  have hc3 := hst.cur
  clear ht hrow hc2 hb2 nb hst hw3 hpt hpf hpl hps
  go_wp2_with fail
  rw [HW3.out]
  refine (drawOnce _ g 4 _ hc3 (by omega) (by omega)).mono ?_
  rintro e w4 ⟨v, rfl, ⟨b, rfl⟩, hc4, hb4⟩
  have hst4 := HST.out.but hb4 hc4
  have hs4 := hb4.size
  have HST := Lib.hid hst4
  clear hc3 hc4 hb4 hst4 HW3
  cases b with
  | true =>
    obtain ⟨p0, p1, p2⟩ := cells3 HST.out.box
    have pl := HST.out.box.lt
    have hcc := HST.out.cur
    have hgl4 : g < w4.heap.size := by omega
    go_upto_region 4 with (fail)
    go_region_law (first
      | (go_simp
         go_at_call 92
         refine (freeC (OldG w g) _ g 3 (by omega) _ (oldG_lt (by simp; omega) (by simp; omega)) (.inr rfl) (HST.out.keep (Below.refl _ w4).drew).cur).mono ?_
         rintro e w5 ⟨t, ⟨V, rfl, ht⟩, hts, htt, -, hc5, hb5⟩
         obtain ⟨C, c, rfl, hrow⟩ := ht.row (oldG_lt (by simp; omega) (by simp; omega))
         have hst5 := (HST.out.keep (Below.refl _ w4).drew).but hb5 hc5
         obtain ⟨p0, p1, p2⟩ := cells3 hst5.box
         have pl := hst5.box.lt
         obtain ⟨a0, a1, a2⟩ := cells3 hst5.r1
         obtain ⟨b0, b1, b2⟩ := cells3 hst5.r2
         have af0 := hst5.r1.frozen 0
         have af1 := hst5.r1.frozen 1
         have af2 := hst5.r1.frozen 2
         have bf0 := hst5.r2.frozen 0
         have bf1 := hst5.r2.frozen 1
         have bf2 := hst5.r2.frozen 2
         have al := hst5.r1.lt
         have bl := hst5.r2.lt))
    all_goals (
      have HE := Lib.hid (two_end (w := w) (R1 := w.heap.size) (R2 := w.heap.size + 1) (by omega) (Nat.le_refl _) (by omega) hst5.r1 hst5.r2 hst5.below hst5.rowE (oldRow hrow) (by omega) HPT.out HPL.out (by have h17 : t.size ≤ 17 := (by simpa using hts); omega) htt)
      clear hst5 hrow htt hc5 hb5 ht
      go_wp2
      obtain ⟨e0, e1, e2, e3, e4, e5, e6⟩ := HE.out _ (.inl rfl)
      exact bodyPost_ret (v := .tuple #[.agg #[.int .i64 p.kind_, .string p.name_, .slice A p.args_.length a], .agg #[.int .i64 t.kind_, .string t.name_, .slice C t.args_.length c]]) (by simp [results, Try.results62, go_sem, e0, e1, e2, e3, e4, e5]) rfl e6)
  | false =>
    obtain ⟨p0, p1, p2⟩ := cells3 HST.out.box
    have pl := HST.out.box.lt
    have hgl4 : g < w4.heap.size := by omega
    have hst := HST.out
    go_upto_region 5 with (fail)
    go_cut [6] from 16 to 19 (fun v wc => ∃ X, v = .pointer (some ⟨X, 0, none⟩) ∧ TwoBox w W.heap.size g w2.heap.size p w2.heap.size A a X wc)
    case first =>
      go_region_with (first
        | (go_at_call 78
           refine (bindsC (OldG w g) W.heap.size g _ (oldG_lt (by simp; omega) (by simp; omega)) (.inr rfl) (TwoSt.cur (HST.out.keep (by first | exact (Below.refl _ _) | exact (Below.refl _ _).drew | exact ((Below.refl _ _).alloc (Nat.le_refl _) _) | exact ((Below.refl _ _).alloc (Nat.le_refl _) _).drew | exact ((Below.refl _ _).drew).alloc (Nat.le_refl _) _)))).mono ?_
           rintro e w5 ⟨l, D, d, rfl, hbr, hl4, hok, hc5, hb5⟩
           have hst := (HST.out.keep (by first | exact (Below.refl _ _) | exact (Below.refl _ _).drew | exact ((Below.refl _ _).alloc (Nat.le_refl _) _) | exact ((Below.refl _ _).alloc (Nat.le_refl _) _).drew | exact ((Below.refl _ _).drew).alloc (Nat.le_refl _) _)).but hb5 hc5
           have hs5 := hb5.size
           simp only [World.size_drew, World.size_alloc] at hs5
           obtain ⟨p0, p1, p2⟩ := cells3 hst.box
           have pl := hst.box.lt
           have hbr5 : BindingRow w5 (Und w5.heap.size) D d l := hbr.frame (fun b h => h.1) fun _ _ _ => rfl
           first
             | (have hz := (ZbT.new (E := w4) (u := w4) (Nat.le_refl _)).but hb5 hgl4; have hzl := hz.lt)
             | (have hz := (ZbT.new (E := w4) (u := w4) (Nat.le_refl _)).drew.but hb5 hgl4; have hzl := hz.lt)
             | (have hz := (ZbT.new (E := w4) (u := w4.drew) (Nat.le_refl _)).but hb5 hgl4; have hzl := hz.lt)
             | skip
           clear hbr hc5 hb5)
        | (go_at_call 43
           refine (specApply l D d p A a _ (by omega) (fun b hb => by have := (hok b hb).2.1; omega) (hbr5.grow (by first | exact (Below.refl _ _) | exact (Below.refl _ _).drew | exact ((Below.refl _ _).alloc (Nat.le_refl _) _) | exact ((Below.refl _ _).alloc (Nat.le_refl _) _).drew | exact ((Below.refl _ _).drew).alloc (Nat.le_refl _) _)) (TwoSt.und (hst.keep (by first | exact (Below.refl _ _) | exact (Below.refl _ _).drew | exact ((Below.refl _ _).alloc (Nat.le_refl _) _) | exact ((Below.refl _ _).alloc (Nat.le_refl _) _).drew | exact ((Below.refl _ _).drew).alloc (Nat.le_refl _) _)))).mono ?_
           intro e w6 hm
           obtain ⟨C, c, bs6, rfl, -, -, hr6, -, hb6⟩ := madeV_get hm
           have hst := (hst.keep (by first | exact (Below.refl _ _) | exact (Below.refl _ _).drew | exact ((Below.refl _ _).alloc (Nat.le_refl _) _) | exact ((Below.refl _ _).alloc (Nat.le_refl _) _).drew | exact ((Below.refl _ _).drew).alloc (Nat.le_refl _) _)).keep hb6
           have hs6 := hb6.size
           first
             | (have hz := hz.step hb6; have hzl := hz.lt)
             | (have hz := hz.drew.step hb6; have hzl := hz.lt)
             | (have hz := (ZbT.new (E := w4) (u := w5) (by omega)).step hb6; have hzl := hz.lt)
             | (have hz := (ZbT.new (E := w4) (u := w5) (by omega)).drew.step hb6; have hzl := hz.lt)
             | skip
           try (obtain ⟨z0, z1, z2⟩ := cells3 hz.1; have zf0 := hz.1.frozen 0; have zf1 := hz.1.frozen 1; have zf2 := hz.1.frozen 2)
           clear hm hb6))
      all_goals (
        have hys := sub_size_le (x := p) (N := 17) (fun s y hs => (okBs_look hok s y hs).2) (by decide) hps17
        have hyt := TypeX.sub_tame (fun s y hs => (okBs_look hok s y hs).1) p HPT.out HPL.out
        have HR := Lib.hid hr6
        have HS := Lib.hid hst
        clear hr6 hst
        go_wp2
        go_meet
        case rel => first | exact ⟨_, rfl, twoBox_a HS.out HR.out (by first | omega | (simp only [World.size_alloc]; omega) | (simp only [World.size_drew]; omega) | (simp only [World.size_drew, World.size_alloc]; omega)) (by first | omega | (simp only [World.size_alloc]; omega) | (simp only [World.size_drew]; omega) | (simp only [World.size_drew, World.size_alloc]; omega)) hys hyt⟩ | exact ⟨_, rfl, twoBox_set HS.out hz.1 (by have := hz.2; omega) (twoRow HR.out (by first | omega | (simp only [World.size_alloc]; omega) | (simp only [World.size_drew]; omega) | (simp only [World.size_drew, World.size_alloc]; omega)) (by first | omega | (simp only [World.size_alloc]; omega) | (simp only [World.size_drew]; omega) | (simp only [World.size_drew, World.size_alloc]; omega)) (.inl (by first | omega | (simp only [World.size_alloc]; omega) | (simp only [World.size_drew]; omega) | (simp only [World.size_drew, World.size_alloc]; omega)))) hys hyt⟩)
    case rest =>
      obtain ⟨X, rfl, hbox⟩ := hcut
      have hst := hbox.1
      have hc := hst.cur
      have hgc : g < wc.heap.size := hc.lt
      have HBOX := Lib.hid hbox
      clear hbox hst p0 p1 p2 pl
      go_wp2_with fail
      refine (drawOnce _ g 6 _ hc (by omega) (by omega)).mono ?_
      rintro e w7 ⟨v, rfl, ⟨b, rfl⟩, hc7, hb7⟩
      have hbox7 := twoBox_keep HBOX.out hb7 hc7
      have hs7 := hb7.size
      have HBOX := Lib.hid hbox7
      clear hc7 hb7 hbox7 hc
      cases b with
      | true =>
        obtain ⟨hst, hX, t, C, c, hwx, hrow, hts, htt⟩ := HBOX.out
        obtain ⟨z0, z1, z2⟩ := cells3 hwx
        have zl := hwx.lt
        have hgB := hst.gB
        have hgP := hst.gP
        have HWX := Lib.hid hwx
        have HROW := Lib.hid hrow
        have HS := Lib.hid hst
        have HTT := Lib.hid htt
        clear hwx hrow hst htt
        have hgw7 : g < w7.heap.size := by omega
        go_upto_region 7 with (fail)
        go_cut [] from 22 to 26 (fun wd => TwoBox w W.heap.size g w2.heap.size p w2.heap.size A a X wd)
        case first =>
          go_region_with (first
            | (go_at_call 93
               refine (intC' (OldG w g) _ (oldG_lt (by simp; have := HS.out.below.size; omega) (by simp; omega))).mono ?_
               rintro e w8 ⟨⟨D, d, rfl, hri⟩, hb8⟩
               have hst8 := (HS.out.keep (by first | exact (Below.refl _ _) | exact (Below.refl _ _).drew | exact ((Below.refl _ _).alloc (Nat.le_refl _) _) | exact ((Below.refl _ _).alloc (Nat.le_refl _) _).drew | exact ((Below.refl _ _).drew).alloc (Nat.le_refl _) _)).keep hb8
               have hs8 := hb8.size
               simp only [World.size_drew] at hs8
               have hwx8 := whole_keep (whole_keep HWX.out (by first | exact (Below.refl _ _) | exact (Below.refl _ _).drew | exact ((Below.refl _ _).alloc (Nat.le_refl _) _) | exact ((Below.refl _ _).alloc (Nat.le_refl _) _).drew | exact ((Below.refl _ _).drew).alloc (Nat.le_refl _) _)) hb8
               obtain ⟨z0, z1, z2⟩ := cells3 hwx8
               have zl := hwx8.lt
               have hbd := bind_alone (x := .mk ⟨#[98]⟩ (.mk 2 ⟨#[105, 110, 116]⟩ [])) (A := D) (c := d) (w := w8) (hri.frame (fun b h => h.1) fun _ _ _ => rfl)
               have hrow8 : TypeRow (w8.alloc (.cells #[.string ⟨#[98]⟩, .int .i64 2, .string ⟨#[105, 110, 116]⟩, .slice D 0 d] 77)) (Und (w8.alloc (.cells #[.string ⟨#[98]⟩, .int .i64 2, .string ⟨#[105, 110, 116]⟩, .slice D 0 d] 77)).heap.size) C c t.args_ :=
                 (((HROW.out.frame (Q := Und w7.heap.size) (fun b h => h.1) (fun _ _ _ => rfl)).grow (by first | exact (Below.refl _ _) | exact (Below.refl _ _).drew | exact ((Below.refl _ _).alloc (Nat.le_refl _) _) | exact ((Below.refl _ _).alloc (Nat.le_refl _) _).drew | exact ((Below.refl _ _).drew).alloc (Nat.le_refl _) _)).grow hb8).grow ((Below.refl _ _).alloc (Nat.le_refl _) _)
               have nb8 : Below w8.heap.size w8 (w8.alloc (.cells #[.string ⟨#[98]⟩, .int .i64 2, .string ⟨#[105, 110, 116]⟩, .slice D 0 d] 77)) := (Below.refl _ _).alloc (Nat.le_refl _) _
               clear hb8 hri)
            | (go_at_call 43
               refine (specApply [.mk ⟨#[98]⟩ (.mk 2 ⟨#[105, 110, 116]⟩ [])] (some ⟨w8.heap.size, 0, none⟩) 1 t C c _ (by omega) oneSmall hbd hrow8).mono ?_
               intro e w9 hm
               obtain ⟨C9, c9, bs9, rfl, -, -, hr9, -, hb9⟩ := madeV_get hm
               have hst9 := (hst8.keep nb8).keep hb9
               have hs9 := hb9.size
               simp only [World.size_alloc] at hs9 hr9
               have hwx9 := whole_keep (whole_keep hwx8 nb8) hb9
               obtain ⟨z0, z1, z2⟩ := cells3 hwx9
               have zf0 := hwx9.frozen 0
               have zf1 := hwx9.frozen 1
               have zf2 := hwx9.frozen 2
               have zl := hwx9.lt
               clear hm hb9))
          all_goals (
            have hys := sub_size_le (x := t) (N := 1700) oneSize (by decide) hts
            have hyt := TypeX.sub_tame1 (v := ⟨#[98]⟩) (z := .mk 2 ⟨#[105, 110, 116]⟩ []) (by decide) oneTame t HTT.out
            have HR9 := Lib.hid hr9
            have HS9 := Lib.hid hst9
            have HX9 := Lib.hid hwx9
            clear hr9 hst9 hwx9 hst8 hwx8 hbd nb8 hrow8
            go_wp2
            go_meet
            case rel => exact twoBox_set HS9.out HX9.out hX (twoRow HR9.out (by have := HS.out.below.size; omega) (by omega) (.inl (by omega))) (by simpa using hys) hyt)
        case rest =>
          clear z0 z1 z2 zl
          obtain ⟨hst, hX, t, C, c, hwx, hrow, hts, htt⟩ := hcut
          obtain ⟨p0, p1, p2⟩ := cells3 hst.box
          obtain ⟨z0, z1, z2⟩ := cells3 hwx
          obtain ⟨a0, a1, a2⟩ := cells3 hst.r1
          obtain ⟨b0, b1, b2⟩ := cells3 hst.r2
          have af0 := hst.r1.frozen 0
          have af1 := hst.r1.frozen 1
          have af2 := hst.r1.frozen 2
          have bf0 := hst.r2.frozen 0
          have bf1 := hst.r2.frozen 1
          have bf2 := hst.r2.frozen 2
          have pl := hst.box.lt
          have zl := hwx.lt
          have al := hst.r1.lt
          have bl := hst.r2.lt
          have HE := Lib.hid (two_endD (w := w) (u := wc) (R1 := w.heap.size) (R2 := w.heap.size + 1) (p := p) (t := t) (A := A) (C := C) (a := a) (c := c) (by omega) (Nat.le_refl _) (by omega) hst.r1 hst.r2 hst.below hst.rowE (oldRow (w := w) (g := g) (u := wc) (hrow.frame (fun b h => ⟨h.1, h.2.1⟩) (fun _ _ _ => rfl))) (by omega) HPT.out HPL.out (by omega) htt)
          clear hst hwx hrow htt HBOX
          go_upto_region 8 with (fail)
          go_region
          all_goals (
            go_wp2
            obtain ⟨e0, e1, e2, e3, e4, e5, e6⟩ := HE.out _ rfl
            exact bodyPost_ret (v := .tuple #[.agg #[.int .i64 p.kind_, .string p.name_, .slice A p.args_.length a], .agg #[.int .i64 t.kind_, .string t.name_, .slice C t.args_.length c]]) (by simp [results, Try.results62, go_sem, e0, e1, e2, e3, e4, e5]) rfl e6)
      | false =>
        have hcut := HBOX.out
        obtain ⟨hst, hX, t, C, c, hwx, hrow, hts, htt⟩ := hcut
        obtain ⟨p0, p1, p2⟩ := cells3 hst.box
        obtain ⟨z0, z1, z2⟩ := cells3 hwx
        obtain ⟨a0, a1, a2⟩ := cells3 hst.r1
        obtain ⟨b0, b1, b2⟩ := cells3 hst.r2
        have af0 := hst.r1.frozen 0
        have af1 := hst.r1.frozen 1
        have af2 := hst.r1.frozen 2
        have bf0 := hst.r2.frozen 0
        have bf1 := hst.r2.frozen 1
        have bf2 := hst.r2.frozen 2
        have pl := hst.box.lt
        have zl := hwx.lt
        have al := hst.r1.lt
        have bl := hst.r2.lt
        have HE := Lib.hid (two_endD (w := w) (u := w7) (R1 := w.heap.size) (R2 := w.heap.size + 1) (p := p) (t := t) (A := A) (C := C) (a := a) (c := c) (by omega) (Nat.le_refl _) (by omega) hst.r1 hst.r2 hst.below hst.rowE (oldRow (w := w) (g := g) (u := w7) (hrow.frame (fun b h => ⟨h.1, h.2.1⟩) (fun _ _ _ => rfl))) (by omega) HPT.out HPL.out (by omega) htt)
        clear hst hwx hrow htt HBOX
        go_upto_region 8 with (fail)
        go_region
        all_goals (
          go_wp2
          obtain ⟨e0, e1, e2, e3, e4, e5, e6⟩ := HE.out _ rfl
          exact bodyPost_ret (v := .tuple #[.agg #[.int .i64 p.kind_, .string p.name_, .slice A p.args_.length a], .agg #[.int .i64 t.kind_, .string t.name_, .slice C t.args_.length c]]) (by simp [results, Try.results62, go_sem, e0, e1, e2, e3, e4, e5]) rfl e6)
end Go.Proofs.Ytkiofeiinecpiaa

/- The draw of patterns and types (DrawMatchAll). -/
import Derived.Test.YtkiofeiinecpiaaZDrawTwo
import Derived.Test.YtkiofeiinecpiaaQ1
import Derived.RegionTactic
import Derived.Deep.CutRange
namespace Go.Proofs.Ytkiofeiinecpiaa
open Go.RowKit Go.Lib

theorem infoU8 : (Try.prog.info? 5).map (fun i => (i.zero, i.size, i.bytes)) = some (some (.int .u8 0), 1, 1) := by kernel_rfl
theorem addr_add (b o j : Nat) : (⟨b, o, none⟩ : Addr).add j = ⟨b, o + j, none⟩ := by
  unfold Addr.add
  split
  · rename_i h; subst h; rfl
  · rfl
/-- The bytes of a slice, as a list of values. -/
theorem bytes_list {w : World} {B n : Nat} {A : Option Addr} (h : BytesAt w B A n) : ∃ news : List Value, news.length = n ∧ (n = 0 ∨ ∃ ad, A = some ad ∧ ∀ (j : Nat) (u : Value), news[j]? = some u → w.cell? (ad.add j) = some u) ∧ (∀ u ∈ news, ∃ z : Int, u = .int .u8 z ∧ 0 ≤ z ∧ z ≤ 255) := by
  by_cases h0 : n = 0
  · exact ⟨[], by rw [h0]; rfl, .inl h0, fun u hu => by cases hu⟩
  · obtain ⟨b, o, _, rfl, _⟩ := h 0 (by omega)
    have key : ∀ m, m ≤ n → ∃ news : List Value, news.length = m ∧ (∀ (j : Nat) (u : Value), news[j]? = some u → w.cell? ⟨b, o + j, none⟩ = some u) ∧ (∀ u ∈ news, ∃ z : Int, u = .int .u8 z ∧ 0 ≤ z ∧ z ≤ 255) := by
      intro m
      induction m with
      | zero => exact fun _ => ⟨[], rfl, fun j u hj => by simp at hj, fun u hu => by cases hu⟩
      | succ m ih =>
        intro hm
        obtain ⟨news, h1, h2, h3⟩ := ih (by omega)
        obtain ⟨b', o', z, e, _, hz0, hz1, hc⟩ := h m (by omega)
        injection e with e
        injection e with e1 e2
        subst e1 e2
        refine ⟨news ++ [.int .u8 z], by simp [h1], fun j u hj => ?_, fun u hu => ?_⟩
        · by_cases hjm : j < m
          · rw [List.getElem?_append_left (by omega)] at hj; exact h2 j u hj
          · rw [List.getElem?_append_right (by omega)] at hj
            have hjl : j - news.length = 0 := by
              cases hh : j - news.length with
              | zero => rfl
              | succ k => rw [hh] at hj; simp at hj
            rw [hjl] at hj
            injection hj with hj
            rw [show j = m by omega, hc, hj]
        · rcases List.mem_append.1 hu with hu | hu
          · exact h3 u hu
          · exact ⟨z, List.mem_singleton.1 hu, hz0, hz1⟩
    obtain ⟨news, h1, h2, h3⟩ := key n (Nat.le_refl _)
    exact ⟨news, h1, .inr ⟨⟨b, o, none⟩, rfl, fun j u hj => by rw [show (⟨b, o, none⟩ : Addr).add j = ⟨b, o + j, none⟩ from addr_add b o j]; exact h2 j u hj⟩, h3⟩
theorem bytes_own {w : World} {base m : Nat} {V : Value} {vs : List Value} (h : w.ownsRow base 5 1 V (m + 1) vs) (hb : ∀ u ∈ vs, ∃ z : Int, u = .int .u8 z ∧ 0 ≤ z ∧ z ≤ 255) : ∃ g c, V = .slice (some ⟨g, 0, none⟩) (m + 1) c ∧ BytesAt w w.heap.size (some ⟨g, 0, none⟩) (m + 1) := by
  obtain ⟨g, c, rfl⟩ := own_some h
  refine ⟨g, c, rfl, fun j hj => ?_⟩
  have hl := h.1
  obtain ⟨z, hz, h0, h1⟩ := hb vs[j] (List.getElem_mem (by omega))
  refine ⟨g, 0, z, rfl, (h.lt g rfl).2, h0, h1, ?_⟩
  rw [World.ownsRow.cellAt h _ (by omega), Nat.zero_add, List.getElem?_eq_getElem (by omega), hz]
/-- New rows of one type, of two. -/
theorem rowOne {w : World} {x : TypeX} {A : Option Addr} {c : Nat} (hx : TypeRow w (Und w.heap.size) A c x.args_) : TypeRow (w.alloc (.cells #[.int .i64 x.kind_, .string x.name_, .slice A x.args_.length c] 26)) (Und (w.heap.size + 1)) (some ⟨w.heap.size, 0, none⟩) 1 [x] :=
  (row_one (G := fun _ => False) (hx.frame (fun b h => ⟨h, id⟩) fun _ _ _ => rfl) (fun b h => h.elim)).frame (fun b h => by have := h.1; rw [World.size_alloc] at this; exact this) fun _ _ _ => rfl
theorem rowTwo {w : World} {x y : TypeX} {A B : Option Addr} {c d : Nat} (hx : TypeRow w (Und w.heap.size) A c x.args_) (hy : TypeRow w (Und w.heap.size) B d y.args_) :
    TypeRow (w.alloc (.cells #[.int .i64 x.kind_, .string x.name_, .slice A x.args_.length c, .int .i64 y.kind_, .string y.name_, .slice B y.args_.length d] 26)) (Und (w.heap.size + 1)) (some ⟨w.heap.size, 0, none⟩) 2 [x, y] :=
  (row_two (G := fun _ => False) (hx.frame (fun b h => ⟨h, id⟩) fun _ _ _ => rfl) (hy.frame (fun b h => ⟨h, id⟩) fun _ _ _ => rfl) (fun b h => h.elim)).frame (fun b h => by have := h.1; rw [World.size_alloc] at this; exact this) fun _ _ _ => rfl

theorem rowKeep {w w' : World} {n : Nat} {A : Option Addr} {c : Nat} {l : List TypeX} (h : TypeRow w (fun b => n ≤ b ∧ b < w.heap.size) A c l) (hb : Below w.heap.size w w') : TypeRow w' (fun b => n ≤ b ∧ b < w'.heap.size) A c l :=
  h.frame (fun _ h => ⟨h.1, Nat.lt_of_lt_of_le h.2 hb.size⟩) fun b o h => hb.cell (p := ⟨b, o, none⟩) h.2
theorem rowBut {w w' : World} {n g : Nat} {A : Option Addr} {c : Nat} {l : List TypeX} (h : TypeRow w (fun b => n ≤ b ∧ b < w.heap.size) A c l) (hb : But g w w') (hg : g < n) : TypeRow w' (Und w'.heap.size) A c l :=
  h.frame (fun _ h => Nat.lt_of_lt_of_le h.2 hb.size) fun b o h => World.cell?_of_block (a := ⟨b, o, none⟩) (hb.block b h.2 (by have := h.1; omega))
/-- Two new rows, in either order. -/
theorem endRows {w8 : World} {xs ys : List TypeX} {m k : Nat} {cx cy : Array Value} (hx : ∀ W, Below w8.heap.size w8 W → TypeRow (W.alloc (.cells cx 26)) (Und (W.heap.size + 1)) (some ⟨W.heap.size, 0, none⟩) m xs) (hy : ∀ W, Below w8.heap.size w8 W → TypeRow (W.alloc (.cells cy 26)) (Und (W.heap.size + 1)) (some ⟨W.heap.size, 0, none⟩) k ys) :
    TypeRow (((w8.alloc (.cells cx 26)).alloc (.cells cy 26)).drew) (Und (((w8.alloc (.cells cx 26)).alloc (.cells cy 26)).drew).heap.size) (some ⟨w8.heap.size, 0, none⟩) m xs ∧
    TypeRow (((w8.alloc (.cells cx 26)).alloc (.cells cy 26)).drew) (Und (((w8.alloc (.cells cx 26)).alloc (.cells cy 26)).drew).heap.size) (some ⟨w8.heap.size + 1, 0, none⟩) k ys ∧ Below w8.heap.size w8 (((w8.alloc (.cells cx 26)).alloc (.cells cy 26)).drew) := by
  have n1 : Below w8.heap.size w8 (w8.alloc (.cells cx 26)) := (Below.refl _ _).alloc (Nat.le_refl _) _
  have n2 : Below (w8.alloc (.cells cx 26)).heap.size (w8.alloc (.cells cx 26)) ((w8.alloc (.cells cx 26)).alloc (.cells cy 26)) := (Below.refl _ _).alloc (Nat.le_refl _) _
  have h1 := hx w8 (Below.refl _ _)
  have h2 := hy _ n1
  rw [World.size_alloc] at h2
  refine ⟨h1.frame (fun b h => ?_) (fun b o h => n2.cell (p := ⟨b, o, none⟩) (by rw [World.size_alloc]; exact h)), h2.frame (fun b h => ?_) (fun _ _ _ => rfl), (n1.trans (n2.mono n1.size)).drew⟩
  · have : b < w8.heap.size + 1 := h
    show b < ((w8.alloc _).alloc _).heap.size
    simp only [World.size_alloc]; omega
  · have : b < w8.heap.size + 1 + 1 := h
    show b < ((w8.alloc _).alloc _).heap.size
    simp only [World.size_alloc]; omega

/-- WHAT THE DRAW LEAVES. -/
def DrawnMA (w : World) (e : Ending) (w' : World) : Prop := ∃ (ps : List TypeX) (A : Option Addr) (a : Nat) (ts : List TypeX) (C : Option Addr) (c : Nat),
  e = .returned (.tuple #[.slice A ps.length a, .slice C ts.length c]) ∧ TypeRow w' (Und w'.heap.size) A a ps ∧ TypeRow w' (Und w'.heap.size) C c ts ∧ TypeX.sizeL ps ≤ 200 ∧ TypeX.sizeL ts ≤ 20000 ∧ Below w.heap.size w w'

set_option maxRecDepth 100000 in
set_option maxHeartbeats 2000000 in
theorem drawMatchAll (A0 : Option Addr) (n c0 : Nat) (w : World) (hA : BytesAt w w.heap.size A0 n) (hn : n ≤ 1048576) :
    Calls Try.prog 24 #[.slice A0 n c0] w (DrawnMA w) := by
  obtain ⟨news, hnl, hnA, hnb⟩ := bytes_list hA
  obtain ⟨i0, hi, hz0, hz1, hz2⟩ := info_parts infoU8
  have HAA := Lib.hid hA
  have HNA := Lib.hid hnA
  have HNB := Lib.hid hnb
  have HNL := Lib.hid hnl
  clear hA hnA hnb hnl
  go_enter Try.func24, Try.ntmps24
  go_wp2_with fail
  refine (drawNew A0 n c0 _ HAA.out (by omega)).mono ?_
  rintro e w1 ⟨g, rfl, hc1, hb1⟩
  have HC := Lib.hid hc1
  have HB := Lib.hid hb1
  have hs1 := hb1.size
  have HGL := Lib.hid hc1.lt
  have HGO := Lib.hid hc1.own
  clear hc1 hb1
  go_wp2_with fail
  refine (drawTwo A0 n c0 _ ((HAA.out.below HB.out).mono_ HB.out.size) (by omega)).mono ?_
  rintro e w2 ⟨p, A, a, t, C, c, rfl, hp, ht, hps, -, -, hts, -, hb2⟩
  have hs2 := hb2.size
  obtain ⟨w3, hw3⟩ : ∃ w3, w3 = (w2.alloc (.cells #[.int .i64 p.kind_, .string p.name_, .slice A p.args_.length a] 26)).alloc (.cells #[.int .i64 t.kind_, .string t.name_, .slice C t.args_.length c] 26) := ⟨_, rfl⟩
  have nb : Below w2.heap.size w2 w3 := by rw [hw3]; exact ((Below.refl _ _).alloc (Nat.le_refl _) _).alloc (by simp) _
  have hs3 : w3.heap.size = w2.heap.size + 2 := by rw [hw3]; simp
  have hx1 : Whole w3 w2.heap.size 26 #[.int .i64 p.kind_, .string p.name_, .slice A p.args_.length a] := by rw [hw3]; exact (Whole.new w2 _ _).below ((Below.refl (w2.heap.size + 1) _).alloc (by simp) _) (by omega)
  have hx2 : Whole w3 (w2.heap.size + 1) 26 #[.int .i64 t.kind_, .string t.name_, .slice C t.args_.length c] := by
    have h := Whole.new (w2.alloc (.cells #[.int .i64 p.kind_, .string p.name_, .slice A p.args_.length a] 26)) 26 #[.int .i64 t.kind_, .string t.name_, .slice C t.args_.length c]
    rw [World.size_alloc] at h
    rw [hw3]; exact h
  have hbb2 := hb2.trans (nb.mono hb2.size)
  have HP := Lib.hid (rowKeep hp nb)
  have HT := Lib.hid (rowKeep ht nb)
  have HX1 := Lib.hid hx1
  have HX2 := Lib.hid hx2
  have HC := Lib.hid (HC.out.kept hbb2)
  have HB := Lib.hid (HB.out.trans (hbb2.mono HB.out.size))
  have HW3 := Lib.hid hw3.symm
  have hown3 := World.ownsRow_lit (base := w3.heap.size) (size := 1) (e := 5) w3 #[.int .u8 7] 1 (Nat.le_refl _) (by decide) rfl
  have HO3 := Lib.hid hown3
  have nb4 : Below w3.heap.size w3 (w3.alloc (.cells #[.int .u8 7] 5)) := (Below.refl _ _).alloc (Nat.le_refl _) _
  have hA4 := (HAA.out.below HB.out).below (nb4.mono (by have := HB.out.size; omega))
  have HNA4 : Hid (n = 0 ∨ ∃ ad, A0 = some ad ∧ ∀ (j : Nat) (u : Value), news[j]? = some u → (w3.alloc (.cells #[.int .u8 7] 5)).cell? (ad.add j) = some u) := Lib.hid (HNA.out.imp id fun ⟨ad, e, h⟩ => ⟨ad, e, fun j u hj => by
    have hlt := World.block_lt_of_cell? w _ (h j u hj)
    exact (nb4.cell (p := ad.add j) (Nat.lt_of_lt_of_le hlt (by have := HB.out.size; omega))).trans ((HB.out.cell (p := ad.add j) hlt).trans (h j u hj))⟩)
  have HNB4 := Lib.hid nb4
  have HS3 := Lib.hid hs3
  clear hp ht hx1 hx2 nb hw3 hbb2 hb2 hown3 nb4 hA4 hs3
  go_upto_region 3 with (fail)
  rw [HW3.out]
  go_wp2_with (at_builtin; refine wpList_append_any rfl (.tmp 17) (.tmp 18) 22 rfl w3.heap.size 5 i0 (.int .u8 0) 1 1 Try.underlying22 hi hz0 hz1 hz2 rfl (by decide) (.slice (some ⟨w3.heap.size, 0, none⟩) 1 1) 1 [.int .u8 7] rfl HO3.out A0 n c0 news rfl (by rw [HNL.out, Nat.mul_one]) HNA4.out (fun u hu => by obtain ⟨z, rfl, _⟩ := HNB.out u hu; rfl) (by unfold maxLen; omega) (by omega) (by simp) (w3.heap.size + 1) (by simp) ?_)
  intro V5 w5 hown5 hgrow5 hv5
  have hs5 := hgrow5.size
  simp only [World.size_alloc] at hs5
  have hown5' : w5.ownsRow w3.heap.size 5 1 V5 (n + 1) ([.int .u8 7] ++ news) := by rw [Nat.add_comm n 1]; exact hown5
  obtain ⟨g5, c5, rfl, hA5⟩ := bytes_own hown5' (fun u hu => by
    rcases List.mem_append.1 hu with hu | hu
    · exact ⟨7, List.mem_singleton.1 hu, by decide, by decide⟩
    · exact HNB.out u hu)
  have hb5 : Below w3.heap.size w3 w5 := HNB4.out.grown hgrow5 (by simp) (fun k e => (HO3.out.lt k e).1)
  have HX1 := Lib.hid (HX1.out.below hb5 HX1.out.lt)
  have HX2 := Lib.hid (HX2.out.below hb5 HX2.out.lt)
  have HP := Lib.hid (rowKeep HP.out hb5)
  have HT := Lib.hid (rowKeep HT.out hb5)
  have HC := Lib.hid (HC.out.kept hb5)
  have HB := Lib.hid (HB.out.trans (hb5.mono HB.out.size))
  have HA5 := Lib.hid hA5
  clear hown5 hown5' hgrow5 hv5 hA5 HNA4 HNB4 HO3 HNA hb5 HAA
  go_wp2_with fail
  refine (drawTwo (some ⟨g5, 0, none⟩) (n + 1) c5 _ HA5.out (by omega)).mono ?_
  rintro e w6 ⟨q, D, d, u, F, f, rfl, hq, hu, hqs, -, -, hus, -, hb6⟩
  have hs6 := hb6.size
  have hs15 : w1.heap.size ≤ w5.heap.size := by have := HS3.out; omega
  have hq6 : TypeRow w6 (fun b => w1.heap.size ≤ b ∧ b < w6.heap.size) D d q.args_ := hq.frame (fun b h => ⟨by omega, h.2⟩) fun _ _ _ => rfl
  have hu6 : TypeRow w6 (fun b => w1.heap.size ≤ b ∧ b < w6.heap.size) F f u.args_ := hu.frame (fun b h => ⟨by omega, h.2⟩) fun _ _ _ => rfl
  obtain ⟨w7, hw7⟩ : ∃ w7, w7 = (w6.alloc (.cells #[.int .i64 q.kind_, .string q.name_, .slice D q.args_.length d] 26)).alloc (.cells #[.int .i64 u.kind_, .string u.name_, .slice F u.args_.length f] 26) := ⟨_, rfl⟩
  have nb : Below w6.heap.size w6 w7 := by rw [hw7]; exact ((Below.refl _ _).alloc (Nat.le_refl _) _).alloc (by simp) _
  have hs7 : w7.heap.size = w6.heap.size + 2 := by rw [hw7]; simp
  have hx3 : Whole w7 w6.heap.size 26 #[.int .i64 q.kind_, .string q.name_, .slice D q.args_.length d] := by rw [hw7]; exact (Whole.new w6 _ _).below ((Below.refl (w6.heap.size + 1) _).alloc (by simp) _) (by omega)
  have hx4 : Whole w7 (w6.heap.size + 1) 26 #[.int .i64 u.kind_, .string u.name_, .slice F u.args_.length f] := by
    have h := Whole.new (w6.alloc (.cells #[.int .i64 q.kind_, .string q.name_, .slice D q.args_.length d] 26)) 26 #[.int .i64 u.kind_, .string u.name_, .slice F u.args_.length f]
    rw [World.size_alloc] at h
    rw [hw7]; exact h
  have hbb6 := hb6.trans (nb.mono hb6.size)
  have HX1 := Lib.hid (HX1.out.below hbb6 HX1.out.lt)
  have HX2 := Lib.hid (HX2.out.below hbb6 HX2.out.lt)
  have HX3 := Lib.hid hx3
  have HX4 := Lib.hid hx4
  have HP := Lib.hid (rowKeep HP.out hbb6)
  have HT := Lib.hid (rowKeep HT.out hbb6)
  have HQ := Lib.hid (rowKeep hq6 nb)
  have HU := Lib.hid (rowKeep hu6 nb)
  have hc7 := HC.out.kept hbb6
  have HB := Lib.hid (HB.out.trans (hbb6.mono HB.out.size))
  have HW7 := Lib.hid hw7.symm
  clear hq hu hq6 hu6 nb hw7 hx3 hx4 hbb6 hb6 HA5
  go_wp2_with fail
  rw [HW7.out]
  refine (drawOnce _ g 6 _ hc7 (by omega) (by omega)).mono ?_
  rintro e w8 ⟨v, rfl, ⟨b, rfl⟩, hc8, hb8⟩
  have hs8 := hb8.size
  have hg2 : g < w1.heap.size := HGL.out
  have hx1 := whole_but HX1.out hb8 (by omega)
  have hx2 := whole_but HX2.out hb8 (by omega)
  have hx3 := whole_but HX3.out hb8 (by have := HS3.out; omega)
  have hx4 := whole_but HX4.out hb8 (by have := HS3.out; omega)
  have HP := Lib.hid (rowBut HP.out hb8 hg2)
  have HT := Lib.hid (rowBut HT.out hb8 hg2)
  have HQ := Lib.hid (rowBut HQ.out hb8 hg2)
  have HU := Lib.hid (rowBut HU.out hb8 hg2)
  have HB := Lib.hid (HB.out.trans (hb8.to_below (by have := HGO.out; omega) HB.out.size))
  obtain ⟨p0, p1, p2⟩ := cells3 hx1
  obtain ⟨t0, t1, t2⟩ := cells3 hx2
  obtain ⟨q0, q1, q2⟩ := cells3 hx3
  obtain ⟨u0, u1, u2⟩ := cells3 hx4
  have l1 := hx1.lt
  have l2 := hx2.lt
  have l3 := hx3.lt
  have l4 := hx4.lt
  have HTU := Lib.hid (fun (W : World) (h : Below w8.heap.size w8 W) => rowTwo (w := W) (HT.out.grow h) (HU.out.grow h))
  clear hc7 hc8 hb8 hx1 hx2 hx3 hx4 HW7 HX1 HX2 HX3 HX4
  cases b with
  | true =>
    have HP1 := Lib.hid (fun (W : World) (h : Below w8.heap.size w8 W) => rowOne (w := W) (HP.out.grow h))
    go_upto_region 5 with (fail)
    go_region
    all_goals (
      go_wp2
      go_ret2
      first
        | (obtain ⟨h1, h2, h3⟩ := endRows (xs := [p]) (ys := [t, u]) HP1.out HTU.out
           exact ⟨[p], _, 1, [t, u], _, 2, rfl, h1, h2, by simp only [TypeX.sizeL]; omega, by simp only [TypeX.sizeL]; omega, HB.out.trans (h3.mono HB.out.size)⟩)
        | (obtain ⟨h1, h2, h3⟩ := endRows (xs := [t, u]) (ys := [p]) HTU.out HP1.out
           exact ⟨[p], _, 1, [t, u], _, 2, rfl, h2, h1, by simp only [TypeX.sizeL]; omega, by simp only [TypeX.sizeL]; omega, HB.out.trans (h3.mono HB.out.size)⟩))
  | false =>
    have HPQ := Lib.hid (fun (W : World) (h : Below w8.heap.size w8 W) => rowTwo (w := W) (HP.out.grow h) (HQ.out.grow h))
    go_upto_region 6 with (fail)
    go_region
    all_goals (
      go_wp2
      go_ret2
      first
        | (obtain ⟨h1, h2, h3⟩ := endRows (xs := [p, q]) (ys := [t, u]) HPQ.out HTU.out
           exact ⟨[p, q], _, 2, [t, u], _, 2, rfl, h1, h2, by simp only [TypeX.sizeL]; omega, by simp only [TypeX.sizeL]; omega, HB.out.trans (h3.mono HB.out.size)⟩)
        | (obtain ⟨h1, h2, h3⟩ := endRows (xs := [t, u]) (ys := [p, q]) HTU.out HPQ.out
           exact ⟨[p, q], _, 2, [t, u], _, 2, rfl, h2, h1, by simp only [TypeX.sizeL]; omega, by simp only [TypeX.sizeL]; omega, HB.out.trans (h3.mono HB.out.size)⟩))
end Go.Proofs.Ytkiofeiinecpiaa

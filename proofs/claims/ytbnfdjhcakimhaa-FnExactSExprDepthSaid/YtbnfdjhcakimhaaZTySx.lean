/- The expression that denotes a type: the reference model's l5Sx. -/
import Derived.Test.YtbnfdjhcakimhaaZDrawSx
import Derived.Test.YtbnfdjhcakimhaaZTySize
import Derived.Deep.CutRange
namespace Go.Proofs.Ytbnfdjhcakimhaa
open Go.RowKit Go.Lib

mutual
def TypeX.sx : TypeX → SX
  | .mk k s l => if k = 1 then .mk (⟨#[39]⟩ ++ s) [] else if k = 4 then .mk ⟨#[]⟩ [.mk ⟨#[100, 121, 110]⟩ [], .mk s []] else if k = 2 ∧ l = [] then .mk s [] else .mk ⟨#[]⟩ ((if k = 3 then [.mk ⟨#[97, 115, 115, 111, 99]⟩ []] else []) ++ .mk s [] :: TypeX.sxL l)
def TypeX.sxL : List TypeX → List SX
  | [] => []
  | x :: r => x.sx :: TypeX.sxL r
end
mutual
/-- No name is long. -/
def TypeX.brief : TypeX → Prop
  | .mk _ s l => s.size ≤ 1000000 ∧ TypeX.briefL l
def TypeX.briefL : List TypeX → Prop
  | [] => True
  | x :: r => x.brief ∧ TypeX.briefL r
end
theorem briefL_at : ∀ (l : List TypeX), TypeX.briefL l → ∀ (j : Nat) (h : j < l.length), l[j].brief
  | x :: r, ho, 0, _ => by rw [TypeX.briefL] at ho; exact ho.1
  | x :: r, ho, j + 1, h => by rw [TypeX.briefL] at ho; exact briefL_at r ho.2 j (by simpa using h)
theorem sizeL_ge : ∀ (l : List TypeX), l.length ≤ TypeX.sizeL l
  | [] => by rw [TypeX.sizeL]; simp
  | x :: r => by have := sizeL_ge r; have := TypeX.size_eq x; rw [TypeX.sizeL, List.length_cons]; omega
theorem sxL_len : ∀ l : List TypeX, (TypeX.sxL l).length = l.length
  | [] => by rw [TypeX.sxL]; rfl
  | x :: r => by rw [TypeX.sxL, List.length_cons, List.length_cons, sxL_len r]
theorem sxL_take : ∀ (l : List TypeX) (j : Nat) (h : j < l.length), TypeX.sxL (l.take (j + 1)) = TypeX.sxL (l.take j) ++ [l[j].sx]
  | x :: r, 0, _ => by simp [TypeX.sxL]
  | x :: r, j + 1, h => by
    rw [List.take_succ_cons, List.take_succ_cons, TypeX.sxL, TypeX.sxL, sxL_take r j (by simpa using h)]
    simp
theorem sx_var (s : ByteArray) (l : List TypeX) : (TypeX.mk 1 s l).sx = .mk (⟨#[39]⟩ ++ s) [] := by rw [TypeX.sx]; rfl
theorem sx_dyn (s : ByteArray) (l : List TypeX) : (TypeX.mk 4 s l).sx = .mk ⟨#[]⟩ [.mk ⟨#[100, 121, 110]⟩ [], .mk s []] := by rw [TypeX.sx]; rfl
theorem sx_con (s : ByteArray) : (TypeX.mk 2 s []).sx = .mk s [] := by rw [TypeX.sx]; rfl
theorem sx_proj (s : ByteArray) (l : List TypeX) : (TypeX.mk 3 s l).sx = .mk ⟨#[]⟩ (.mk ⟨#[97, 115, 115, 111, 99]⟩ [] :: .mk s [] :: TypeX.sxL l) := by rw [TypeX.sx]; rfl
theorem sx_list {k : Int} (s : ByteArray) {l : List TypeX} (h1 : k ≠ 1) (h4 : k ≠ 4) (h2 : ¬ (k = 2 ∧ l = [])) (h3 : k ≠ 3) : (TypeX.mk k s l).sx = .mk ⟨#[]⟩ (.mk s [] :: TypeX.sxL l) := by
  rw [TypeX.sx, if_neg h1, if_neg h4, if_neg h2, if_neg h3]; rfl

/-- WHAT A MAKER OF AN EXPRESSION LEAVES: a row of its own. -/
def SxMade (y : SX) (w : World) (e : Ending) (w' : World) : Prop := ∃ V, e = .returned (.agg #[.string y.atom, V]) ∧ RowX w.heap.size w'.heap.size V y.list w' ∧ Below w.heap.size w w'
theorem atomY {a : ByteArray} {y : SX} (hy : y = .mk a []) (w : World) : Calls Try.prog 67 #[.string a] w (SxMade y w) := by
  subst hy
  refine (atomC a w).mono ?_
  rintro e w' ⟨rfl, hb⟩
  exact ⟨_, rfl, RowX.nil _ _ _, hb⟩
theorem sxEnd {w w3 : World} {t : ByteArray} {L : List SX} {V a b : Value} {C X : Nat} (hx : Whole w3 (w.heap.size + 1) 26 #[a, b]) (hb : Below w.heap.size w w3) (hrow : RowX C X V L w3) (hC : w.heap.size + 2 ≤ C) :
    ∀ w4, w4 = (w3.setCell ⟨w.heap.size + 1, 0, none⟩ (.string t)).setCell ⟨w.heap.size + 1, 1, none⟩ V → w4.cell? ⟨w.heap.size + 1, 0, none⟩ = some (.string t) ∧ w4.cell? ⟨w.heap.size + 1, 1, none⟩ = some V ∧ SxMade (.mk t L) w (.returned (.agg #[.string t, V])) w4 := by
  intro w4 h4
  have hw : Whole w4 (w.heap.size + 1) 26 #[.string t, V] := by
    have h := (hx.set_ 0 (.string t)).set_ 1 V
    rw [← h4] at h
    simpa using h
  have hbut : But (w.heap.size + 1) w3 w4 := by rw [h4]; exact (But.set_ _ _ 0 _).trans (But.set_ _ _ 1 _)
  exact ⟨by rw [hw.cell]; rfl, by rw [hw.cell]; rfl, V, rfl, (hrow.but hbut (.inl (by omega))).wide (by omega) (.inr (.inl (Nat.le_refl _))), hb.trans (hbut.to_below (by omega) hb.size)⟩

theorem own_lower {w : World} {B B' size n : Nat} {e : TypeId} {v : Value} {xs : List Value} (hB : B' ≤ B) (h : w.ownsRow B e size v n xs) : w.ownsRow B' e size v n xs := by
  refine ⟨h.1, ?_⟩
  rcases h.2 with hn | ⟨g, cap, cur, rfl, hbg, rest⟩
  · exact .inl hn
  · exact .inr ⟨g, cap, cur, rfl, Nat.le_trans hB hbg, rest⟩
theorem SX.mk_atom (a : ByteArray) (l : List SX) : (SX.mk a l).atom = a := rfl
theorem SX.mk_list (a : ByteArray) (l : List SX) : (SX.mk a l).list = l := rfl

set_option maxRecDepth 100000 in
set_option maxHeartbeats 1000000 in
/-- A list of these, in a row of its own. -/
theorem listC (b : Nat) (l : List SX) (us : List Value) (w : World) (hl0 : 0 < l.length) (hln : l.length ≤ 1000) (hlen : us.length = l.length * 2) (hb : b < w.heap.size) (hc : ∀ j u, us[j]? = some u → w.cell? ⟨b, j, none⟩ = some u) (h1 : ∀ u ∈ us, u.oneCell' = true) :
    Calls Try.prog 75 #[.slice (some ⟨b, 0, none⟩) l.length l.length] w fun e w' => ∃ g' cap', e = .returned (.agg #[.string ⟨#[]⟩, .slice (some ⟨g', 0, none⟩) l.length cap']) ∧ w'.ownsRow w.heap.size 26 2 (.slice (some ⟨g', 0, none⟩) l.length cap') l.length us ∧ Below w.heap.size w w' := by
  obtain ⟨i0, hi0, hz0, hz1, hz2⟩ := info_parts infoSx
  have hbR : Below w.heap.size w (w.alloc (.cells #[.string ByteArray.empty, .slice none 0 0] 26)) := (Below.refl _ _).alloc (Nat.le_refl _) _
  have hR := Whole.new w 26 #[.string ByteArray.empty, .slice none 0 0]
  have hown := World.ownsRow_made (base := w.heap.size + 1) (e := 26) (size := 2) (w.alloc (.cells #[.string ByteArray.empty, .slice none 0 0] 26)) #[] 0 (by rw [World.size_alloc]; exact Nat.le_refl _) (by decide) rfl
  rw [World.size_alloc] at hown
  have hb2 : Below w.heap.size w ((w.alloc (.cells #[.string ByteArray.empty, .slice none 0 0] 26)).alloc (.cells #[] 26)) := hbR.alloc (by simp) _
  have hR2 := hR.of_alloc (.cells #[] 26)
  have hnews : ∀ (j : Nat) (u : Value), us[j]? = some u → ((w.alloc (.cells #[.string ByteArray.empty, .slice none 0 0] 26)).alloc (.cells #[] 26)).cell? ((⟨b, 0, none⟩ : Addr).add j) = some u := by
    intro j u hj
    have hadd : (⟨b, 0, none⟩ : Addr).add j = ⟨b, j, none⟩ := by unfold Addr.add; split <;> simp_all
    rw [hadd]
    exact (hb2.cell (p := ⟨b, j, none⟩) hb).trans (hc j u hj)
  have HB2 := Lib.hid hb2
  have HR2 := Lib.hid hR2
  have HL := Lib.hid hlen
  clear hbR hR hb2 hR2 hlen hc
  go_enter Try.func75, Try.ntmps75
  go_wp2_with (at_builtin; refine wpList_append_lies _ (by rfl) _ _ _ (by rfl) (w.heap.size + 1) 26 i0 _ 2 40 Try.underlying24 hi0 hz0 hz1 hz2 rfl (by omega) _ _ _ (by rfl) hown ⟨b, 0, none⟩ l.length l.length us (by rfl) HL.out hnews h1 (by omega) (by unfold maxLen; omega) (by omega) (by simp) (w.heap.size + 2) (by simp) ?_)
  intro g' cap' w7 hown7 hgrow7 hat7 hlt7
  have hlt3 : w.heap.size + 1 + 1 ≤ w7.heap.size := by have := hgrow7.size; simpa using this
  have hR7 : Whole w7 w.heap.size 26 #[.string ByteArray.empty, .slice none 0 0] := (hgrow7.block w.heap.size (by simp; omega) (by simp [Value.ownBlock])).trans HR2.out
  have hb7 : Below w.heap.size w w7 := HB2.out.trans ⟨hgrow7.os, hgrow7.tape, hgrow7.output, hgrow7.size, fun k hk => hgrow7.block k (by simp; omega) (by simp [Value.ownBlock]; omega)⟩
  have hlt7' : w.heap.size < w7.heap.size := by omega
  have r0 : w7.cell? ⟨w.heap.size, 0, none⟩ = some (.string ByteArray.empty) := by rw [hR7.cell]; rfl
  have r1 : w7.cell? ⟨w.heap.size, 1, none⟩ = some (.slice none 0 0) := by rw [hR7.cell]; rfl
  have rf0 : w7.frozen? ⟨w.heap.size, 0, none⟩ = false := hR7.frozen 0
  have rf1 : w7.frozen? ⟨w.heap.size, 1, none⟩ = false := hR7.frozen 1
  have HR7 := Lib.hid hR7
  have HB7 := Lib.hid hb7
  have HO7 := Lib.hid hown7
  clear hR7 hb7 hgrow7 hown7 hat7 hown hnews
  go_wp2
  obtain ⟨e0, e1, e2, e3, e4⟩ := res_set HR7.out HB7.out (.string ⟨#[]⟩) (.slice (some ⟨g', 0, none⟩) l.length cap') _ rfl
  refine bodyPost_ret (v := .agg #[.string ⟨#[]⟩, .slice (some ⟨g', 0, none⟩) l.length cap']) (by simp [results, Try.results75, go_sem, e0, e1]) rfl ?_
  refine ⟨g', cap', rfl, ?_, e2⟩
  have h1 := own_same HO7.out fun k hk => e3 k (by have := (HO7.out.lt k hk).1; omega)
  exact own_lower (Nat.le_succ _) (by simpa using h1)
theorem listAtoms (a1 a2 : ByteArray) (b : Nat) (w : World) (hb : b < w.heap.size) (hc : w.cell? ⟨b, 0, none⟩ = some (.string a1) ∧ w.cell? ⟨b, 1, none⟩ = some (.slice none 0 0) ∧ w.cell? ⟨b, 2, none⟩ = some (.string a2) ∧ w.cell? ⟨b, 3, none⟩ = some (.slice none 0 0)) :
    Calls Try.prog 75 #[.slice (some ⟨b, 0, none⟩) 2 2] w fun e w' => ∃ A c, e = .returned (.agg #[.string ⟨#[]⟩, .slice A 2 c]) ∧ RowX w.heap.size w'.heap.size (.slice A 2 c) [.mk a1 [], .mk a2 []] w' ∧ Below w.heap.size w w' := by
  obtain ⟨c0, c1, c2, c3⟩ := hc
  refine (listC b [.mk a1 [], .mk a2 []] [.string a1, .slice none 0 0, .string a2, .slice none 0 0] w (by simp) (by simp) rfl hb (fun j u hj => ?_) (by simp [Value.oneCell'])).mono ?_
  · match j, hj with
    | 0, hj => simp at hj; subst hj; exact c0
    | 1, hj => simp at hj; subst hj; exact c1
    | 2, hj => simp at hj; subst hj; exact c2
    | 3, hj => simp at hj; subst hj; exact c3
  · rintro e w' ⟨g', cap', rfl, ho, hbl⟩
    exact ⟨_, _, rfl, ⟨_, ho, ((ElemsC.nil w' _).snoc (x := .mk a1 []) (A := none) (c := 0) (SxRow.nil _ _ _ _ (by decide))).snoc (x := .mk a2 []) (A := none) (c := 0) (SxRow.nil _ _ _ _ (by decide)), fun e => by have := (ho.lt _ e).2; omega⟩, hbl⟩
end Go.Proofs.Ytbnfdjhcakimhaa

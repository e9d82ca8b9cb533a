/- The expression that denotes a type: the reference model's l5Sx. -/
import Derived.Test.YtbcfeoobhemdcaaGreatZDrawSx
import Derived.Test.YtbcfeoobhemdcaaGreatQ1
import Derived.Deep.CutRange
namespace Go.Proofs.YtbcfeoobhemdcaaGreat
open Go.RowKit Go.Lib

mutual
def TypeX.sx : TypeX → SX
  | .mk k s l => if k = 1 then .mk (⟨#[39]⟩ ++ s) [] else if k = 4 then .mk ⟨#[]⟩ [.mk ⟨#[100, 121, 110]⟩ [], .mk s []] else if k = 2 ∧ l = [] then .mk s [] else .mk ⟨#[]⟩ ((if k = 3 then [.mk ⟨#[97, 115, 115, 111, 99]⟩ []] else []) ++ .mk s [] :: TypeX.sxL l)
def TypeX.sxL : List TypeX → List SX
  | [] => []
  | x :: r => x.sx :: TypeX.sxL r
end
mutual
/-- No name is long. -/
def TypeX.brief : TypeX → Prop
  | .mk _ s l => s.size ≤ 1000000 ∧ TypeX.briefL l
def TypeX.briefL : List TypeX → Prop
  | [] => True
  | x :: r => x.brief ∧ TypeX.briefL r
end
theorem briefL_at : ∀ (l : List TypeX), TypeX.briefL l → ∀ (j : Nat) (h : j < l.length), l[j].brief
  | x :: r, ho, 0, _ => by rw [TypeX.briefL] at ho; exact ho.1
  | x :: r, ho, j + 1, h => by rw [TypeX.briefL] at ho; exact briefL_at r ho.2 j (by simpa using h)
theorem sizeL_ge : ∀ (l : List TypeX), l.length ≤ TypeX.sizeL l
  | [] => by rw [TypeX.sizeL]; simp
  | x :: r => by have := sizeL_ge r; have := TypeX.size_eq x; rw [TypeX.sizeL, List.length_cons]; omega
theorem sxL_len : ∀ l : List TypeX, (TypeX.sxL l).length = l.length
  | [] => by rw [TypeX.sxL]; rfl
  | x :: r => by rw [TypeX.sxL, List.length_cons, List.length_cons, sxL_len r]
theorem sxL_take : ∀ (l : List TypeX) (j : Nat) (h : j < l.length), TypeX.sxL (l.take (j + 1)) = TypeX.sxL (l.take j) ++ [l[j].sx]
  | x :: r, 0, _ => by simp [TypeX.sxL]
  | x :: r, j + 1, h => by
    rw [List.take_succ_cons, List.take_succ_cons, TypeX.sxL, TypeX.sxL, sxL_take r j (by simpa using h)]
    simp
theorem sx_var (s : ByteArray) (l : List TypeX) : (TypeX.mk 1 s l).sx = .mk (⟨#[39]⟩ ++ s) [] := by rw [TypeX.sx]; rfl
theorem sx_dyn (s : ByteArray) (l : List TypeX) : (TypeX.mk 4 s l).sx = .mk ⟨#[]⟩ [.mk ⟨#[100, 121, 110]⟩ [], .mk s []] := by rw [TypeX.sx]; rfl
theorem sx_con (s : ByteArray) : (TypeX.mk 2 s []).sx = .mk s [] := by rw [TypeX.sx]; rfl
theorem sx_proj (s : ByteArray) (l : List TypeX) : (TypeX.mk 3 s l).sx = .mk ⟨#[]⟩ (.mk ⟨#[97, 115, 115, 111, 99]⟩ [] :: .mk s [] :: TypeX.sxL l) := by rw [TypeX.sx]; rfl
theorem sx_list {k : Int} (s : ByteArray) {l : List TypeX} (h1 : k ≠ 1) (h4 : k ≠ 4) (h2 : ¬ (k = 2 ∧ l = [])) (h3 : k ≠ 3) : (TypeX.mk k s l).sx = .mk ⟨#[]⟩ (.mk s [] :: TypeX.sxL l) := by
  rw [TypeX.sx, if_neg h1, if_neg h4, if_neg h2, if_neg h3]; rfl

/-- WHAT A MAKER OF AN EXPRESSION LEAVES: a row of its own. -/
def SxMade (y : SX) (w : World) (e : Ending) (w' : World) : Prop := ∃ V, e = .returned (.agg #[.string y.atom, V]) ∧ RowX w.heap.size w'.heap.size V y.list w' ∧ Below w.heap.size w w'
theorem atomY {a : ByteArray} {y : SX} (hy : y = .mk a []) (w : World) : Calls Tryz.prog 57 #[.string a] w (SxMade y w) := by
  subst hy
  refine (atomC a w).mono ?_
  rintro e w' ⟨rfl, hb⟩
  exact ⟨_, rfl, RowX.nil _ _ _, hb⟩
theorem sxEnd {w w3 : World} {t : ByteArray} {L : List SX} {V a b : Value} {C X : Nat} (hx : Whole w3 (w.heap.size + 1) 33 #[a, b]) (hb : Below w.heap.size w w3) (hrow : RowX C X V L w3) (hC : w.heap.size + 2 ≤ C) :
    ∀ w4, w4 = (w3.setCell ⟨w.heap.size + 1, 0, none⟩ (.string t)).setCell ⟨w.heap.size + 1, 1, none⟩ V → w4.cell? ⟨w.heap.size + 1, 0, none⟩ = some (.string t) ∧ w4.cell? ⟨w.heap.size + 1, 1, none⟩ = some V ∧ SxMade (.mk t L) w (.returned (.agg #[.string t, V])) w4 := by
  intro w4 h4
  have hw : Whole w4 (w.heap.size + 1) 33 #[.string t, V] := by
    have h := (hx.set_ 0 (.string t)).set_ 1 V
    rw [← h4] at h
    simpa using h
  have hbut : But (w.heap.size + 1) w3 w4 := by rw [h4]; exact (But.set_ _ _ 0 _).trans (But.set_ _ _ 1 _)
  exact ⟨by rw [hw.cell]; rfl, by rw [hw.cell]; rfl, V, rfl, (hrow.but hbut (.inl (by omega))).wide (by omega) (.inr (.inl (Nat.le_refl _))), hb.trans (hbut.to_below (by omega) hb.size)⟩

/-- THE LIST UNDER WAY: the type's box, the result's cells, the list's own variable. -/
structure OutX (w w' : World) (k : Int) (s : ByteArray) (A2 : Option Addr) (n c2 : Nat) (V : Value) (acc : List SX) : Prop where
  bx : Whole w' w.heap.size 26 #[.int .i64 k, .string s, .slice A2 n c2]
  rx : Whole w' (w.heap.size + 1) 33 #[.string ⟨#[]⟩, .slice none 0 0]
  ox : Whole w' (w.heap.size + 2) 33 #[.string ⟨#[]⟩, V]
  row : RowX (w.heap.size + 3) (w.heap.size + 2) V acc w'
  bel : Below w.heap.size w w'
theorem OutX.call {w w' w1 w6 : World} {k : Int} {s : ByteArray} {A2 : Option Addr} {n c2 : Nat} {V : Value} {acc : List SX} {y : SX} {e : Ending} (h : OutX w w' k s A2 n c2 V acc) (h1 : Below w'.heap.size w' w1) (hm : SxMade y w1 e w6) :
    ∃ A c, e = .returned (.agg #[.string y.atom, .slice A y.list.length c]) ∧ OutX w w6 k s A2 n c2 V acc ∧ SxRow w6 (Off V (w.heap.size + 3) (w.heap.size + 2) w6.heap.size) A c y.list ∧ Below w'.heap.size w' w6 := by
  obtain ⟨V2, rfl, hr, hb⟩ := hm
  have hb6 := h1.trans (hb.mono h1.size)
  have hol := h.ox.lt
  have hs1 := h1.size
  obtain ⟨A, c, rfl⟩ := hr.shape
  refine ⟨A, c, rfl, ⟨h.bx.below hb6 h.bx.lt, h.rx.below hb6 h.rx.lt, h.ox.below hb6 h.ox.lt, h.row.below hb6, h.bel.trans (hb6.mono h.bel.size)⟩, ?_, hb6⟩
  obtain ⟨vs, hown, -, -⟩ := h.row
  exact hr.row.frame (fun b hP => ⟨⟨by have := hP.1.1; omega, hP.1.2⟩, fun e => by have := (hown.lt b e).2; have := hP.1.1; omega, by have := hP.1.1; omega⟩) fun _ _ _ => rfl
theorem OutX.mid {w w6 w7 : World} {k : Int} {s : ByteArray} {A2 : Option Addr} {n c2 : Nat} {V : Value} {acc : List SX} {o : Obj} (h : OutX w w6 k s A2 n c2 V acc) (hgrow : (w6.alloc o).grownBy w7 V.ownBlock) :
    w7.cell? ⟨w.heap.size + 2, 1, none⟩ = some V ∧ w7.frozen? ⟨w.heap.size + 2, 1, none⟩ = false ∧ w.heap.size + 2 < w7.heap.size := by
  have hol := h.ox.lt
  obtain ⟨vs, hown, -, hVX⟩ := h.row
  have hz := hgrow.size
  simp only [World.size_alloc] at hz
  have h7 : Whole w7 (w.heap.size + 2) 33 #[.string ⟨#[]⟩, V] := ((hgrow.block _ (by simp; omega) (fun e => hVX e.symm)).trans (Below.heap_alloc _ _ _ hol)).trans h.ox
  exact ⟨by rw [h7.cell]; rfl, h7.frozen 1, by omega⟩
theorem OutX.push {w w6 w7 : World} {k : Int} {s : ByteArray} {A2 A : Option Addr} {n c2 c g' cap' : Nat} {V : Value} {acc : List SX} {vs : List Value} {y : SX} (h : OutX w w6 k s A2 n c2 V acc)
    (hown : w6.ownsRow (w.heap.size + 3) 33 2 V acc.length vs) (hel : ElemsC w6 (Off V (w.heap.size + 3) (w.heap.size + 2) w6.heap.size) acc vs) (hVX : V.ownBlock ≠ some (w.heap.size + 2)) (hl : SxRow w6 (Off V (w.heap.size + 3) (w.heap.size + 2) w6.heap.size) A c y.list)
    (hgrow : (w6.alloc (.cells #[.string y.atom, .slice A y.list.length c] 33)).grownBy w7 V.ownBlock)
    (hown7 : w7.ownsRow (w.heap.size + 3) 33 2 (.slice (some ⟨g', 0, none⟩) (acc.length + 1) cap') (acc.length + 1) (vs ++ [.string y.atom, .slice A y.list.length c])) (hat : V.ownBlock = some g' ∨ g' = w6.heap.size + 1) :
    ∀ w8, w8 = w7.setCell ⟨w.heap.size + 2, 1, none⟩ (.slice (some ⟨g', 0, none⟩) (acc.length + 1) cap') → OutX w w8 k s A2 n c2 (.slice (some ⟨g', 0, none⟩) (acc.length + 1) cap') (acc ++ [y]) := by
  intro w8 h8
  have hVlt := hown.lt
  have hol := h.ox.lt
  have hsz7 : w6.heap.size + 1 ≤ w7.heap.size := by have := hgrow.size; simpa using this
  have hlow : ∀ b, b < w6.heap.size → V.ownBlock ≠ some b → w7.heap[b]? = w6.heap[b]? := fun b hb hne => (hgrow.block b (by simp; omega) (fun e => hne e.symm)).trans (Below.heap_alloc _ _ _ hb)
  have hset : But (w.heap.size + 2) w7 w8 := by rw [h8]; exact But.set_ _ w7 1 _
  have hne : ∀ b, b < w.heap.size + 3 → V.ownBlock ≠ some b := fun b hb e => by have := (hVlt b e).1; omega
  have hrow := RowX.more hel hVX hol hl hgrow hown7 hat (Nat.lt_succ_self _)
  have hb7 : Below w.heap.size w6 w7 := ⟨hgrow.os, hgrow.tape, hgrow.output, by omega, fun b hb => hlow b (by omega) (hne b (by omega))⟩
  have ho7 : Whole w7 (w.heap.size + 2) 33 #[.string ⟨#[]⟩, V] := (hlow _ hol hVX).trans h.ox
  have hbx7 : Whole w7 w.heap.size 26 #[.int .i64 k, .string s, .slice A2 n c2] := (hlow _ h.bx.lt (hne _ (by omega))).trans h.bx
  have hrx7 : Whole w7 (w.heap.size + 1) 33 #[.string ⟨#[]⟩, .slice none 0 0] := (hlow _ h.rx.lt (hne _ (by omega))).trans h.rx
  refine ⟨hbx7.but hset (by omega), hrx7.but hset (by omega), ?_, hrow.but hset (.inr rfl), h.bel.trans (hb7.trans (hset.to_below (by omega) (by omega)))⟩
  have h := ho7.set_ 1 (.slice (some ⟨g', 0, none⟩) (acc.length + 1) cap')
  rw [← h8] at h
  simpa using h
theorem own_lower {w : World} {B B' size n : Nat} {e : TypeId} {v : Value} {xs : List Value} (hB : B' ≤ B) (h : w.ownsRow B e size v n xs) : w.ownsRow B' e size v n xs := by
  refine ⟨h.1, ?_⟩
  rcases h.2 with hn | ⟨g, cap, cur, rfl, hbg, rest⟩
  · exact .inl hn
  · exact .inr ⟨g, cap, cur, rfl, Nat.le_trans hB hbg, rest⟩
theorem SX.mk_atom (a : ByteArray) (l : List SX) : (SX.mk a l).atom = a := rfl
theorem SX.mk_list (a : ByteArray) (l : List SX) : (SX.mk a l).list = l := rfl

set_option maxRecDepth 100000 in
set_option maxHeartbeats 1000000 in
/-- A list of these, in a row of its own. -/
theorem listC (b : Nat) (l : List SX) (us : List Value) (w : World) (hl0 : 0 < l.length) (hln : l.length ≤ 1000) (hlen : us.length = l.length * 2) (hb : b < w.heap.size) (hc : ∀ j u, us[j]? = some u → w.cell? ⟨b, j, none⟩ = some u) (h1 : ∀ u ∈ us, u.oneCell' = true) :
    Calls Tryz.prog 58 #[.slice (some ⟨b, 0, none⟩) l.length l.length] w fun e w' => ∃ g' cap', e = .returned (.agg #[.string ⟨#[]⟩, .slice (some ⟨g', 0, none⟩) l.length cap']) ∧ w'.ownsRow w.heap.size 33 2 (.slice (some ⟨g', 0, none⟩) l.length cap') l.length us ∧ Below w.heap.size w w' := by
  obtain ⟨i0, hi0, hz0, hz1, hz2⟩ := info_parts infoSx
  have hbR : Below w.heap.size w (w.alloc (.cells #[.string ByteArray.empty, .slice none 0 0] 33)) := (Below.refl _ _).alloc (Nat.le_refl _) _
  have hR := Whole.new w 33 #[.string ByteArray.empty, .slice none 0 0]
  have hown := World.ownsRow_made (base := w.heap.size + 1) (e := 33) (size := 2) (w.alloc (.cells #[.string ByteArray.empty, .slice none 0 0] 33)) #[] 0 (by rw [World.size_alloc]; exact Nat.le_refl _) (by decide) rfl
  rw [World.size_alloc] at hown
  have hb2 : Below w.heap.size w ((w.alloc (.cells #[.string ByteArray.empty, .slice none 0 0] 33)).alloc (.cells #[] 33)) := hbR.alloc (by simp) _
  have hR2 := hR.of_alloc (.cells #[] 33)
  have hnews : ∀ (j : Nat) (u : Value), us[j]? = some u → ((w.alloc (.cells #[.string ByteArray.empty, .slice none 0 0] 33)).alloc (.cells #[] 33)).cell? ((⟨b, 0, none⟩ : Addr).add j) = some u := by
    intro j u hj
    have hadd : (⟨b, 0, none⟩ : Addr).add j = ⟨b, j, none⟩ := by unfold Addr.add; split <;> simp_all
    rw [hadd]
    exact (hb2.cell (p := ⟨b, j, none⟩) hb).trans (hc j u hj)
  have HB2 := Lib.hid hb2
  have HR2 := Lib.hid hR2
  have HL := Lib.hid hlen
  clear hbR hR hb2 hR2 hlen hc
  go_enter Tryz.func58, Tryz.ntmps58
  go_wp2_with (at_builtin; refine wpList_append_lies _ (by rfl) _ _ _ (by rfl) (w.heap.size + 1) 33 i0 _ 2 40 Tryz.underlying31 hi0 hz0 hz1 hz2 rfl (by omega) _ _ _ (by rfl) hown ⟨b, 0, none⟩ l.length l.length us (by rfl) HL.out hnews h1 (by omega) (by unfold maxLen; omega) (by omega) (by simp) (w.heap.size + 2) (by simp) ?_)
  intro g' cap' w7 hown7 hgrow7 hat7 hlt7
  have hlt3 : w.heap.size + 1 + 1 ≤ w7.heap.size := by have := hgrow7.size; simpa using this
  have hR7 : Whole w7 w.heap.size 33 #[.string ByteArray.empty, .slice none 0 0] := (hgrow7.block w.heap.size (by simp; omega) (by simp [Value.ownBlock])).trans HR2.out
  have hb7 : Below w.heap.size w w7 := HB2.out.trans ⟨hgrow7.os, hgrow7.tape, hgrow7.output, hgrow7.size, fun k hk => hgrow7.block k (by simp; omega) (by simp [Value.ownBlock]; omega)⟩
  have hlt7' : w.heap.size < w7.heap.size := by omega
  have r0 : w7.cell? ⟨w.heap.size, 0, none⟩ = some (.string ByteArray.empty) := by rw [hR7.cell]; rfl
  have r1 : w7.cell? ⟨w.heap.size, 1, none⟩ = some (.slice none 0 0) := by rw [hR7.cell]; rfl
  have rf0 : w7.frozen? ⟨w.heap.size, 0, none⟩ = false := hR7.frozen 0
  have rf1 : w7.frozen? ⟨w.heap.size, 1, none⟩ = false := hR7.frozen 1
  have HR7 := Lib.hid hR7
  have HB7 := Lib.hid hb7
  have HO7 := Lib.hid hown7
  clear hR7 hb7 hgrow7 hown7 hat7 hown hnews
  go_wp2
  obtain ⟨e0, e1, e2, e3, e4⟩ := res_set HR7.out HB7.out (.string ⟨#[]⟩) (.slice (some ⟨g', 0, none⟩) l.length cap') _ rfl
  refine bodyPost_ret (v := .agg #[.string ⟨#[]⟩, .slice (some ⟨g', 0, none⟩) l.length cap']) (by simp [results, Tryz.results58, go_sem, e0, e1]) rfl ?_
  refine ⟨g', cap', rfl, ?_, e2⟩
  have h1 := own_same HO7.out fun k hk => e3 k (by have := (HO7.out.lt k hk).1; omega)
  exact own_lower (Nat.le_succ _) (by simpa using h1)
theorem listAtoms (a1 a2 : ByteArray) (b : Nat) (w : World) (hb : b < w.heap.size) (hc : w.cell? ⟨b, 0, none⟩ = some (.string a1) ∧ w.cell? ⟨b, 1, none⟩ = some (.slice none 0 0) ∧ w.cell? ⟨b, 2, none⟩ = some (.string a2) ∧ w.cell? ⟨b, 3, none⟩ = some (.slice none 0 0)) :
    Calls Tryz.prog 58 #[.slice (some ⟨b, 0, none⟩) 2 2] w fun e w' => ∃ A c, e = .returned (.agg #[.string ⟨#[]⟩, .slice A 2 c]) ∧ RowX w.heap.size w'.heap.size (.slice A 2 c) [.mk a1 [], .mk a2 []] w' ∧ Below w.heap.size w w' := by
  obtain ⟨c0, c1, c2, c3⟩ := hc
  refine (listC b [.mk a1 [], .mk a2 []] [.string a1, .slice none 0 0, .string a2, .slice none 0 0] w (by simp) (by simp) rfl hb (fun j u hj => ?_) (by simp [Value.oneCell'])).mono ?_
  · match j, hj with
    | 0, hj => simp at hj; subst hj; exact c0
    | 1, hj => simp at hj; subst hj; exact c1
    | 2, hj => simp at hj; subst hj; exact c2
    | 3, hj => simp at hj; subst hj; exact c3
  · rintro e w' ⟨g', cap', rfl, ho, hbl⟩
    exact ⟨_, _, rfl, ⟨_, ho, ((ElemsC.nil w' _).snoc (x := .mk a1 []) (A := none) (c := 0) (SxRow.nil _ _ _ _ (by decide))).snoc (x := .mk a2 []) (A := none) (c := 0) (SxRow.nil _ _ _ _ (by decide)), fun e => by have := (ho.lt _ e).2; omega⟩, hbl⟩
set_option maxRecDepth 100000 in
set_option maxHeartbeats 2000000 in
theorem specSx_step (N : Nat) (ih : ∀ (x : TypeX) (A2 : Option Addr) (c2 : Nat) (w : World), DV.nodesL x.cells < N → x.size ≤ 4294967296 → x.brief → TypeRow w (Und w.heap.size) A2 c2 x.args_ → Calls Tryz.prog 33 #[.agg #[.int .i64 x.kind_, .string x.name_, .slice A2 x.args_.length c2]] w (SxMade x.sx w)) : ∀ (k : Int) (s : ByteArray) (l : List TypeX) (A2 : Option Addr) (c2 : Nat) (w : World), DV.nodesL (TypeX.mk k s l).cells ≤ N → (TypeX.mk k s l).size ≤ 4294967296 → (TypeX.mk k s l).brief → TypeRow w (Und w.heap.size) A2 c2 l → Calls Tryz.prog 33 #[.agg #[.int .i64 k, .string s, .slice A2 l.length c2]] w (SxMade (TypeX.mk k s l).sx w) := by
  intro k s l A2 c2 w hn hs hbr h2
  rw [TypeX.size] at hs
  rw [TypeX.brief] at hbr
  obtain ⟨hsb, hbl⟩ := hbr
  have HBL := Lib.hid hbl
  clear hbl
  have hll := sizeL_ge l
  rw [TypeX.nodes_eq] at hn
  obtain ⟨i0, hi0', hz0, hz1, hz2⟩ := info_parts infoSx
  have hcap := h2.cap
  have hb0 : Below w.heap.size w ((w.alloc (.cells #[.int .i64 k, .string s, .slice A2 l.length c2] 26)).alloc (.cells #[.string ⟨#[]⟩, .slice none 0 0] 33)) := ((Below.refl _ _).alloc (Nat.le_refl _) _).alloc (by simp) _
  have hbx : Whole ((w.alloc (.cells #[.int .i64 k, .string s, .slice A2 l.length c2] 26)).alloc (.cells #[.string ⟨#[]⟩, .slice none 0 0] 33)) w.heap.size 26 #[.int .i64 k, .string s, .slice A2 l.length c2] :=
    (Whole.new w _ _).below ((Below.refl (w.heap.size + 1) _).alloc (by simp) _) (by omega)
  have hrx : Whole ((w.alloc (.cells #[.int .i64 k, .string s, .slice A2 l.length c2] 26)).alloc (.cells #[.string ⟨#[]⟩, .slice none 0 0] 33)) (w.heap.size + 1) 33 #[.string ⟨#[]⟩, .slice none 0 0] := by
    have h := Whole.new (w.alloc (.cells #[.int .i64 k, .string s, .slice A2 l.length c2] 26)) 33 #[.string ⟨#[]⟩, .slice none 0 0]
    rw [World.size_alloc] at h
    exact h
  have HB0 := Lib.hid hb0
  have HBX := Lib.hid hbx
  have HRX := Lib.hid hrx
  have H2 := Lib.hid h2
  have HN := Lib.hid hn
  clear hb0 hbx hrx h2 hn
  by_cases h1 : k = 1
  · subst h1
    rw [sx_var]
    go_enter Tryz.func33, Tryz.ntmps33
    go_wp2_with fail
    refine (atomC _ _).mono ?_
    rintro e w3 ⟨rfl, hb3⟩
    have hrx := HRX.out.below hb3 HRX.out.lt
    have HE := Lib.hid (sxEnd (t := (⟨#[39]⟩ ++ s)) (L := []) (V := .slice none 0 0) hrx (HB0.out.trans (hb3.mono HB0.out.size)) (RowX.nil (w.heap.size + 2) 0 _) (Nat.le_refl _))
    have r0 : w3.cell? ⟨w.heap.size + 1, 0, none⟩ = some (.string ⟨#[]⟩) := by rw [hrx.cell]; rfl
    have r1 : w3.cell? ⟨w.heap.size + 1, 1, none⟩ = some (.slice none 0 0) := by rw [hrx.cell]; rfl
    have rf0 : w3.frozen? ⟨w.heap.size + 1, 0, none⟩ = false := hrx.frozen 0
    have rf1 : w3.frozen? ⟨w.heap.size + 1, 1, none⟩ = false := hrx.frozen 1
    have hrl := hrx.lt
    clear hrx hb3
    go_wp2
    obtain ⟨e0, e1, e2⟩ := HE.out _ rfl
    exact bodyPost_ret (v := .agg #[.string (⟨#[39]⟩ ++ s), .slice none 0 0]) (by simp [results, Tryz.results33, go_sem, e0, e1]) rfl e2
  · have h1' : (k == 1) = false := by simpa using h1
    by_cases h4 : k = 4
    · subst h4
      rw [sx_dyn]
      obtain ⟨W, hW⟩ : ∃ W, W = (w.alloc (.cells #[.int .i64 4, .string s, .slice A2 l.length c2] 26)).alloc (.cells #[.string ⟨#[]⟩, .slice none 0 0] 33) := ⟨_, rfl⟩
      have hWs : W.heap.size = w.heap.size + 2 := by rw [hW]; simp
      rw [← hW] at HB0 HBX HRX
      have HWW := Lib.hid hW
      have HWS := Lib.hid hWs
      have hbl := HBX.out.lt
      clear hW hWs
      go_enter Tryz.func33, Tryz.ntmps33
      go_wp2
      rw [← HWW.out]
      have b1 : W.cell? ⟨w.heap.size, 1, none⟩ = some (.string s) := by rw [HBX.out.cell]; rfl
      have hcur : Below W.heap.size W W.drew := (Below.refl _ W).drew
      go_region_with (first
        | (go_at_call 57
           refine (atomC _ _).mono ?_
           rintro e w3 ⟨rfl, hb3⟩
           have hcur := hcur.trans (hb3.mono hcur.size)
           have b1 : w3.cell? ⟨w.heap.size, 1, none⟩ = some (.string s) := by rw [(HBX.out.below hcur HBX.out.lt).cell]; rfl
           have hbl := (HBX.out.below hcur HBX.out.lt).lt)
        | (go_at_call 58
           refine (listAtoms ⟨#[100, 121, 110]⟩ s _ _ (by simp) ⟨by simp, by simp, by simp, by simp⟩).mono ?_
           rintro e w5 ⟨A, c, rfl, hr, hb5⟩
           have hcur := (hcur.alloc hcur.size _).trans (hb5.mono (by have := hcur.size; simp; omega))
           have hrx := HRX.out.below hcur HRX.out.lt
           have HE := Lib.hid (sxEnd (t := ⟨#[]⟩) hrx (HB0.out.trans (hcur.mono HB0.out.size)) hr (by have := HWS.out; simp; omega))
           have r0 : w5.cell? ⟨w.heap.size + 1, 0, none⟩ = some (.string ⟨#[]⟩) := by rw [hrx.cell]; rfl
           have r1 : w5.cell? ⟨w.heap.size + 1, 1, none⟩ = some (.slice none 0 0) := by rw [hrx.cell]; rfl
           have rf0 : w5.frozen? ⟨w.heap.size + 1, 0, none⟩ = false := hrx.frozen 0
           have rf1 : w5.frozen? ⟨w.heap.size + 1, 1, none⟩ = false := hrx.frozen 1
           have hrl := hrx.lt
           clear hrx hr hb5))
      all_goals (
        go_wp2
        obtain ⟨e0, e1, e2⟩ := HE.out _ rfl
        exact bodyPost_ret (v := .agg #[.string ⟨#[]⟩, .slice A 2 c]) (by simp [results, Tryz.results33, go_sem, e0, e1]) rfl e2)
    · have h4' : (k == 4) = false := by simpa using h4
      by_cases hc : k = 2 ∧ l = []
      · obtain ⟨rfl, rfl⟩ := hc
        rw [sx_con]
        go_enter Tryz.func33, Tryz.ntmps33
        go_wp2_with fail
        refine (atomC _ _).mono ?_
        rintro e w3 ⟨rfl, hb3⟩
        have hrx := HRX.out.below hb3 HRX.out.lt
        have HE := Lib.hid (sxEnd (t := s) (L := []) (V := .slice none 0 0) hrx (HB0.out.trans (hb3.mono HB0.out.size)) (RowX.nil (w.heap.size + 2) 0 _) (Nat.le_refl _))
        have r0 : w3.cell? ⟨w.heap.size + 1, 0, none⟩ = some (.string ⟨#[]⟩) := by rw [hrx.cell]; rfl
        have r1 : w3.cell? ⟨w.heap.size + 1, 1, none⟩ = some (.slice none 0 0) := by rw [hrx.cell]; rfl
        have rf0 : w3.frozen? ⟨w.heap.size + 1, 0, none⟩ = false := hrx.frozen 0
        have rf1 : w3.frozen? ⟨w.heap.size + 1, 1, none⟩ = false := hrx.frozen 1
        have hrl := hrx.lt
        clear hrx hb3
        go_wp2
        obtain ⟨e0, e1, e2⟩ := HE.out _ rfl
        exact bodyPost_ret (v := .agg #[.string s, .slice none 0 0]) (by simp [results, Tryz.results33, go_sem, e0, e1]) rfl e2
      · by_cases hk2 : k = 2
        · subst hk2
          obtain ⟨W, hW⟩ : ∃ W, W = ((w.alloc (.cells #[.int .i64 2, .string s, .slice A2 l.length c2] 26)).alloc (.cells #[.string ⟨#[]⟩, .slice none 0 0] 33)).alloc (.cells #[.string ⟨#[]⟩, .slice none 0 0] 33) := ⟨_, rfl⟩
          have ho0 : OutX w W 2 s A2 l.length c2 (.slice none 0 0) [] := by
            rw [hW]
            have hbn := (Below.refl ((w.alloc (.cells #[.int .i64 2, .string s, .slice A2 l.length c2] 26)).alloc (.cells #[.string ⟨#[]⟩, .slice none 0 0] 33)).heap.size _).alloc (Nat.le_refl _) (.cells #[.string ⟨#[]⟩, .slice none 0 0] 33)
            refine ⟨HBX.out.below hbn HBX.out.lt, HRX.out.below hbn HRX.out.lt, ?_, RowX.nil _ _ _, HB0.out.trans (hbn.mono HB0.out.size)⟩
            have h := Whole.new ((w.alloc (.cells #[.int .i64 2, .string s, .slice A2 l.length c2] 26)).alloc (.cells #[.string ⟨#[]⟩, .slice none 0 0] 33)) 33 #[.string ⟨#[]⟩, .slice none 0 0]
            rw [World.size_alloc, World.size_alloc] at h
            exact h
          have HO0 := Lib.hid ho0
          have HWW := Lib.hid hW
          clear ho0 hW
          have hlne : l ≠ [] := fun h => hc ⟨rfl, h⟩
          have hl0 : ((l.length : Int) == 0) = false := by simpa using hlne
          go_enter Tryz.func33, Tryz.ntmps33
          go_wp2
          rw [← HWW.out]
          obtain ⟨V0, HO⟩ : ∃ V0, Hid (OutX w W 2 s A2 l.length c2 V0 []) := ⟨_, HO0⟩
          clear HO0 HBX HRX HB0
          obtain ⟨y1, hy1⟩ : ∃ y1 : SX, y1 = .mk s [] := ⟨_, rfl⟩
          have HY1 := Lib.hid hy1
          obtain ⟨Av, cv, hV⟩ := HO.out.row.shape
          subst hV
          have x1 : W.cell? ⟨w.heap.size + 2, 1, none⟩ = some (.slice Av ([] : List SX).length cv) := by rw [HO.out.ox.cell]; rfl
          have xl := HO.out.ox.lt
          have b1 : W.cell? ⟨w.heap.size, 1, none⟩ = some (.string s) := by rw [HO.out.bx.cell]; rfl
          have b2 : W.cell? ⟨w.heap.size, 2, none⟩ = some (.slice A2 l.length c2) := by rw [HO.out.bx.cell]; rfl
          have bl := HO.out.bx.lt
          clear hy1
          simp only [List.length_nil] at x1
          go_wp2
          go_cut [52] from 46 to 53 (fun v52 wd => ∃ V, OutX w wd 2 s A2 l.length c2 V ([] ++ [y1]))
          case first =>
            go_region_law (first
              | (refine step_append_lies _ (by rfl) _ _ _ (by rfl) (w.heap.size + 3) 33 i0 _ 2 40 Tryz.underlying31 hi0' hz0 hz1 hz2 rfl (by omega) (.slice Av 0 cv) 0 vs6 (by rfl) (hown6.alloc _)
                   ⟨w6.heap.size, 0, none⟩ 1 1 [.string y1.atom, .slice A y1.list.length c] (by rfl) (by rfl) (news_sx w6 _ _ _) (one_sx _ _ _ _) (by omega) (by unfold maxLen; omega) (by omega) (by have := ho6.ox.lt; simp; omega) (w6.heap.size + 1) (by simp) ?_
                 intro g' cap' w7 hown7 hgrow7 hat7 hlt7
                 obtain ⟨x7, xf7, xl7⟩ := ho6.mid hgrow7)
              | (go_simp
                 go_at_call 57
                 refine (atomY HY1.out _).mono ?_
                 intro e w6 hgv
                 obtain ⟨A, c, rfl, ho6, hl6, hb6⟩ := HO.out.call (Below.refl _ _).drew hgv
                 obtain ⟨vs6, hown6, hel6, hVX6⟩ := ho6.row
                 have x6 : w6.cell? ⟨w.heap.size + 2, 1, none⟩ = some (.slice Av 0 cv) := by rw [ho6.ox.cell]; rfl
                 have xl6 := ho6.ox.lt
                 have b1 : w6.cell? ⟨w.heap.size, 1, none⟩ = some (.string s) := by rw [ho6.bx.cell]; rfl
                 have b2 : w6.cell? ⟨w.heap.size, 2, none⟩ = some (.slice A2 l.length c2) := by rw [ho6.bx.cell]; rfl
                 have bl6 := ho6.bx.lt))
            all_goals (
              have HP := HO.out
              have hp := ho6.push hown6 hel6 hVX6 hl6 hgrow7 hown7 hat7 _ rfl
              have HP := Lib.hid hp
              clear hp hown7 hgrow7 hat7 hown6 hel6 hl6
              go_wp2
              go_meet
              case rel => exact ⟨_, HP.out⟩)
          case rest =>
            obtain ⟨V1, ho1⟩ := hcut
            obtain ⟨acc1, ha1⟩ : ∃ acc1 : List SX, acc1 = [] ++ [y1] := ⟨_, rfl⟩
            have hal : acc1.length ≤ 2 := by rw [ha1]; simp
            rw [← ha1] at ho1
            have HO1 := Lib.hid ho1
            have HA1 := Lib.hid ha1
            clear ha1 ho1 x1 b1 b2 HO xl bl
            go_wp2
            go_loopw [4] (fun iv wr => ∃ (j : Nat) (V : Value) (acc : List SX), j ≤ l.length ∧ iv = .int .i64 j ∧ acc = acc1 ++ TypeX.sxL (l.take j) ∧ acc.length = acc1.length + j ∧ OutX w wr 2 s A2 l.length c2 V acc) (fun iv _ => l.length - (Go.RowKit.intOf iv).toNat)
            case atStart => exact ⟨0, V1, acc1, Nat.zero_le _, rfl, by simp [TypeX.sxL], rfl, HO1.out⟩
            case round =>
              obtain ⟨j, V, acc, hj, rfl, hacc, hlen, ho⟩ := hrel
              have HO := Lib.hid ho
              have HAC := Lib.hid hacc
              have hal2 : acc.length ≤ 4294967298 := by omega
              have HLEN := Lib.hid hlen
              clear ho hacc hlen
              obtain ⟨Av, cv, hV⟩ := HO.out.row.shape
              subst hV
              have x1 : wr.cell? ⟨w.heap.size + 2, 1, none⟩ = some (.slice Av acc.length cv) := by rw [HO.out.ox.cell]; rfl
              have xl := HO.out.ox.lt
              have b1 : wr.cell? ⟨w.heap.size, 1, none⟩ = some (.string s) := by rw [HO.out.bx.cell]; rfl
              have b2 : wr.cell? ⟨w.heap.size, 2, none⟩ = some (.slice A2 l.length c2) := by rw [HO.out.bx.cell]; rfl
              have bl := HO.out.bx.lt
              by_cases hlt : j < l.length
              · obtain ⟨b, o, A', c', rfl, hP, q0, q1, q2, k2⟩ := (H2.out.grow HO.out.bel).at_ hlt
                have hP : b < wr.heap.size := hP
                have hj0 : (0 : Int) ≤ (j : Int) := Int.natCast_nonneg _
                have hj1 : (j : Int) < (l.length : Int) := by omega
                have hnx : DV.nodesL l[j].cells < N := by
                  have h := nodesVE_at (TypeX.rows l) j (by rw [TypeX.rows_length]; exact hlt)
                  rw [TypeX.rows_at l j hlt] at h
                  have := HN.out
                  simp only [TypeX.args_] at this
                  omega
                have hsx : l[j].size ≤ 4294967296 := by have := TypeX.sizeL_take l j hlt; have := TypeX.sizeL_le l (j + 1); omega
                have HIH := Lib.hid (ih l[j] A' c' wr.drew hnx hsx (briefL_at l HBL.out j hlt) (k2.grow ((Below.refl _ _).drew)))
                clear k2 hnx hsx
                go_wp2
                go_region_law (first
                  | (refine step_append_lies _ (by rfl) _ _ _ (by rfl) (w.heap.size + 3) 33 i0 _ 2 40 Tryz.underlying31 hi0' hz0 hz1 hz2 rfl (by omega) (.slice Av acc.length cv) acc.length vs6 (by rfl) (hown6.alloc _)
                       ⟨w6.heap.size, 0, none⟩ 1 1 [.string l[j].sx.atom, .slice A l[j].sx.list.length c] (by rfl) (by rfl) (news_sx w6 _ _ _) (one_sx _ _ _ _) (by omega) (by unfold maxLen; omega) (by omega) (by have := ho6.ox.lt; simp; omega) (w6.heap.size + 1) (by simp) ?_
                     intro g' cap' w7 hown7 hgrow7 hat7 hlt7
                     obtain ⟨x7, xf7, xl7⟩ := ho6.mid hgrow7)
                  | (go_simp
                     go_at_call 33
                     refine HIH.out.mono ?_
                     intro e w6 hgv
                     obtain ⟨A, c, rfl, ho6, hl6, hb6⟩ := HO.out.call (Below.refl _ _).drew hgv
                     obtain ⟨vs6, hown6, hel6, hVX6⟩ := ho6.row
                     have x6 : w6.cell? ⟨w.heap.size + 2, 1, none⟩ = some (.slice Av acc.length cv) := by rw [ho6.ox.cell]; rfl
                     have xl6 := ho6.ox.lt
                     have b1 : w6.cell? ⟨w.heap.size, 1, none⟩ = some (.string s) := by rw [ho6.bx.cell]; rfl
                     have b2 : w6.cell? ⟨w.heap.size, 2, none⟩ = some (.slice (some ⟨b, o, none⟩) l.length c2) := by rw [ho6.bx.cell]; rfl
                     have bl6 := ho6.bx.lt
                     have q0' := (hb6.cell (p := ⟨b, o + j * 3, none⟩) hP).trans q0
                     have q1' := (hb6.cell (p := ⟨b, o + j * 3 + 1, none⟩) hP).trans q1
                     have q2' := (hb6.cell (p := ⟨b, o + j * 3 + 2, none⟩) hP).trans q2))
                all_goals (
                  have HP := Lib.hid (ho6.push hown6 hel6 hVX6 hl6 hgrow7 hown7 hat7 _ rfl)
                  clear hown7 hgrow7 hat7 hown6 hel6 hl6
                  go_wp2
                  go_roundw
                  case rel => exact ⟨j + 1, _, _, by omega, by go_num, by rw [HAC.out, sxL_take l j hlt, List.append_assoc], by rw [List.length_append, List.length_singleton, HLEN.out]; omega, HP.out⟩
                  case measure => simp [Go.RowKit.intOf]; omega)
              · have hjl : j = l.length := by omega
                subst hjl
                have hacc := HAC.out
                rw [List.take_length, HA1.out, HY1.out] at hacc
                have hgl : acc = [] ++ .mk s [] :: TypeX.sxL l := by rw [hacc]; simp
                have x0 : wr.cell? ⟨w.heap.size + 2, 0, none⟩ = some (.string ⟨#[]⟩) := by rw [HO.out.ox.cell]; rfl
                have hrx := HO.out.rx
                have hend := sxEnd (t := ⟨#[]⟩) (L := acc) hrx HO.out.bel HO.out.row (by omega)
                have hsx : (TypeX.mk 2 s l).sx = .mk ⟨#[]⟩ acc := by rw [sx_list (k := 2) s (by decide) (by decide) (fun h => hlne h.2) (by decide), hgl]; rfl
                have HSX := Lib.hid hsx
                clear hsx
                have HE := Lib.hid hend
                have r0 : wr.cell? ⟨w.heap.size + 1, 0, none⟩ = some (.string ⟨#[]⟩) := by rw [hrx.cell]; rfl
                have r1 : wr.cell? ⟨w.heap.size + 1, 1, none⟩ = some (.slice none 0 0) := by rw [hrx.cell]; rfl
                have rf0 : wr.frozen? ⟨w.heap.size + 1, 0, none⟩ = false := hrx.frozen 0
                have rf1 : wr.frozen? ⟨w.heap.size + 1, 1, none⟩ = false := hrx.frozen 1
                have hrl := hrx.lt
                clear hrx hend hacc hgl HAC
                go_wp2
                obtain ⟨e0, e1, e2⟩ := HE.out _ rfl
                exact bodyPost_ret (v := .agg #[.string ⟨#[]⟩, .slice Av acc.length cv]) (by simp [results, Tryz.results33, go_sem, e0, e1]) rfl (by rw [HSX.out]; exact e2)
        · have hk2' : (k == 2) = false := by simpa using hk2
          by_cases hk3 : k = 3
          · subst hk3
            obtain ⟨W, hW⟩ : ∃ W, W = ((w.alloc (.cells #[.int .i64 3, .string s, .slice A2 l.length c2] 26)).alloc (.cells #[.string ⟨#[]⟩, .slice none 0 0] 33)).alloc (.cells #[.string ⟨#[]⟩, .slice none 0 0] 33) := ⟨_, rfl⟩
            have ho0 : OutX w W 3 s A2 l.length c2 (.slice none 0 0) [] := by
              rw [hW]
              have hbn := (Below.refl ((w.alloc (.cells #[.int .i64 3, .string s, .slice A2 l.length c2] 26)).alloc (.cells #[.string ⟨#[]⟩, .slice none 0 0] 33)).heap.size _).alloc (Nat.le_refl _) (.cells #[.string ⟨#[]⟩, .slice none 0 0] 33)
              refine ⟨HBX.out.below hbn HBX.out.lt, HRX.out.below hbn HRX.out.lt, ?_, RowX.nil _ _ _, HB0.out.trans (hbn.mono HB0.out.size)⟩
              have h := Whole.new ((w.alloc (.cells #[.int .i64 3, .string s, .slice A2 l.length c2] 26)).alloc (.cells #[.string ⟨#[]⟩, .slice none 0 0] 33)) 33 #[.string ⟨#[]⟩, .slice none 0 0]
              rw [World.size_alloc, World.size_alloc] at h
              exact h
            have HO0 := Lib.hid ho0
            have HWW := Lib.hid hW
            clear ho0 hW
            obtain ⟨y0, hy0⟩ : ∃ y0 : SX, y0 = .mk ⟨#[97, 115, 115, 111, 99]⟩ [] := ⟨_, rfl⟩
            have HY0 := Lib.hid hy0
            clear hy0
            go_enter Tryz.func33, Tryz.ntmps33
            go_wp2
            rw [← HWW.out]
            obtain ⟨V0, HO⟩ : ∃ V0, Hid (OutX w W 3 s A2 l.length c2 V0 []) := ⟨_, HO0⟩
            clear HO0 HBX HRX HB0
            obtain ⟨Av, cv, hV⟩ := HO.out.row.shape
            subst hV
            have x1 : W.cell? ⟨w.heap.size + 2, 1, none⟩ = some (.slice Av ([] : List SX).length cv) := by rw [HO.out.ox.cell]; rfl
            have xl := HO.out.ox.lt
            have b1 : W.cell? ⟨w.heap.size, 1, none⟩ = some (.string s) := by rw [HO.out.bx.cell]; rfl
            have b2 : W.cell? ⟨w.heap.size, 2, none⟩ = some (.slice A2 l.length c2) := by rw [HO.out.bx.cell]; rfl
            have bl := HO.out.bx.lt
            simp only [List.length_nil] at x1
            go_cut [44] from 40 to 45 (fun v44 wd => ∃ V, OutX w wd 3 s A2 l.length c2 V [y0])
            case first =>
              go_region_law (first
                | (refine step_append_lies _ (by rfl) _ _ _ (by rfl) (w.heap.size + 3) 33 i0 _ 2 40 Tryz.underlying31 hi0' hz0 hz1 hz2 rfl (by omega) (.slice Av 0 cv) 0 vs6 (by rfl) (hown6.alloc _)
                     ⟨w6.heap.size, 0, none⟩ 1 1 [.string y0.atom, .slice A y0.list.length c] (by rfl) (by rfl) (news_sx w6 _ _ _) (one_sx _ _ _ _) (by omega) (by unfold maxLen; omega) (by omega) (by have := ho6.ox.lt; simp; omega) (w6.heap.size + 1) (by simp) ?_
                   intro g' cap' w7 hown7 hgrow7 hat7 hlt7
                   obtain ⟨x7, xf7, xl7⟩ := ho6.mid hgrow7)
                | (go_simp
                   go_at_call 57
                   refine (atomY HY0.out _).mono ?_
                   intro e w6 hgv
                   obtain ⟨A, c, rfl, ho6, hl6, hb6⟩ := HO.out.call (Below.refl _ _).drew hgv
                   obtain ⟨vs6, hown6, hel6, hVX6⟩ := ho6.row
                   have x6 : w6.cell? ⟨w.heap.size + 2, 1, none⟩ = some (.slice Av 0 cv) := by rw [ho6.ox.cell]; rfl
                   have xl6 := ho6.ox.lt
                   have b1 : w6.cell? ⟨w.heap.size, 1, none⟩ = some (.string s) := by rw [ho6.bx.cell]; rfl
                   have b2 : w6.cell? ⟨w.heap.size, 2, none⟩ = some (.slice A2 l.length c2) := by rw [ho6.bx.cell]; rfl
                   have bl6 := ho6.bx.lt))
              all_goals (
                have HP := Lib.hid (ho6.push hown6 hel6 hVX6 hl6 hgrow7 hown7 hat7 _ rfl)
                clear hown7 hgrow7 hat7 hown6 hel6 hl6
                go_wp2
                go_meet
                case rel => exact ⟨_, HP.out⟩)
            case rest =>
              obtain ⟨V2, ho2⟩ := hcut
              clear x1 b1 b2 HO xl bl
              have HO := Lib.hid ho2
              clear ho2
              obtain ⟨y1, hy1⟩ : ∃ y1 : SX, y1 = .mk s [] := ⟨_, rfl⟩
              have HY1 := Lib.hid hy1
              obtain ⟨Av, cv, hV⟩ := HO.out.row.shape
              subst hV
              have x1 : wc.cell? ⟨w.heap.size + 2, 1, none⟩ = some (.slice Av ([y0] : List SX).length cv) := by rw [HO.out.ox.cell]; rfl
              have xl := HO.out.ox.lt
              have b1 : wc.cell? ⟨w.heap.size, 1, none⟩ = some (.string s) := by rw [HO.out.bx.cell]; rfl
              have b2 : wc.cell? ⟨w.heap.size, 2, none⟩ = some (.slice A2 l.length c2) := by rw [HO.out.bx.cell]; rfl
              have bl := HO.out.bx.lt
              clear hy1
              simp only [List.length_nil, List.length_cons] at x1
              go_wp2
              go_cut [52] from 46 to 53 (fun v52 wd => ∃ V, OutX w wd 3 s A2 l.length c2 V ([y0] ++ [y1]))
              case first =>
                go_region_law (first
                  | (refine step_append_lies _ (by rfl) _ _ _ (by rfl) (w.heap.size + 3) 33 i0 _ 2 40 Tryz.underlying31 hi0' hz0 hz1 hz2 rfl (by omega) (.slice Av 1 cv) 1 vs6 (by rfl) (hown6.alloc _)
                       ⟨w6.heap.size, 0, none⟩ 1 1 [.string y1.atom, .slice A y1.list.length c] (by rfl) (by rfl) (news_sx w6 _ _ _) (one_sx _ _ _ _) (by omega) (by unfold maxLen; omega) (by omega) (by have := ho6.ox.lt; simp; omega) (w6.heap.size + 1) (by simp) ?_
                     intro g' cap' w7 hown7 hgrow7 hat7 hlt7
                     obtain ⟨x7, xf7, xl7⟩ := ho6.mid hgrow7)
                  | (go_simp
                     go_at_call 57
                     refine (atomY HY1.out _).mono ?_
                     intro e w6 hgv
                     obtain ⟨A, c, rfl, ho6, hl6, hb6⟩ := HO.out.call (Below.refl _ _).drew hgv
                     obtain ⟨vs6, hown6, hel6, hVX6⟩ := ho6.row
                     have x6 : w6.cell? ⟨w.heap.size + 2, 1, none⟩ = some (.slice Av 1 cv) := by rw [ho6.ox.cell]; rfl
                     have xl6 := ho6.ox.lt
                     have b1 : w6.cell? ⟨w.heap.size, 1, none⟩ = some (.string s) := by rw [ho6.bx.cell]; rfl
                     have b2 : w6.cell? ⟨w.heap.size, 2, none⟩ = some (.slice A2 l.length c2) := by rw [ho6.bx.cell]; rfl
                     have bl6 := ho6.bx.lt))
                all_goals (
                  have HP := HO.out
                  have hp := ho6.push hown6 hel6 hVX6 hl6 hgrow7 hown7 hat7 _ rfl
                  have HP := Lib.hid hp
                  clear hp hown7 hgrow7 hat7 hown6 hel6 hl6
                  go_wp2
                  go_meet
                  case rel => exact ⟨_, HP.out⟩)
              case rest =>
                obtain ⟨V1, ho1⟩ := hcut
                obtain ⟨acc1, ha1⟩ : ∃ acc1 : List SX, acc1 = [y0] ++ [y1] := ⟨_, rfl⟩
                have hal : acc1.length ≤ 2 := by rw [ha1]; simp
                rw [← ha1] at ho1
                have HO1 := Lib.hid ho1
                have HA1 := Lib.hid ha1
                clear ha1 ho1 x1 b1 b2 HO xl bl
                go_wp2
                go_loopw [4] (fun iv wr => ∃ (j : Nat) (V : Value) (acc : List SX), j ≤ l.length ∧ iv = .int .i64 j ∧ acc = acc1 ++ TypeX.sxL (l.take j) ∧ acc.length = acc1.length + j ∧ OutX w wr 3 s A2 l.length c2 V acc) (fun iv _ => l.length - (Go.RowKit.intOf iv).toNat)
                case atStart => exact ⟨0, V1, acc1, Nat.zero_le _, rfl, by simp [TypeX.sxL], rfl, HO1.out⟩
                case round =>
                  obtain ⟨j, V, acc, hj, rfl, hacc, hlen, ho⟩ := hrel
                  have HO := Lib.hid ho
                  have HAC := Lib.hid hacc
                  have hal2 : acc.length ≤ 4294967298 := by omega
                  have HLEN := Lib.hid hlen
                  clear ho hacc hlen
                  obtain ⟨Av, cv, hV⟩ := HO.out.row.shape
                  subst hV
                  have x1 : wr.cell? ⟨w.heap.size + 2, 1, none⟩ = some (.slice Av acc.length cv) := by rw [HO.out.ox.cell]; rfl
                  have xl := HO.out.ox.lt
                  have b1 : wr.cell? ⟨w.heap.size, 1, none⟩ = some (.string s) := by rw [HO.out.bx.cell]; rfl
                  have b2 : wr.cell? ⟨w.heap.size, 2, none⟩ = some (.slice A2 l.length c2) := by rw [HO.out.bx.cell]; rfl
                  have bl := HO.out.bx.lt
                  by_cases hlt : j < l.length
                  · obtain ⟨b, o, A', c', rfl, hP, q0, q1, q2, k2⟩ := (H2.out.grow HO.out.bel).at_ hlt
                    have hP : b < wr.heap.size := hP
                    have hj0 : (0 : Int) ≤ (j : Int) := Int.natCast_nonneg _
                    have hj1 : (j : Int) < (l.length : Int) := by omega
                    have hnx : DV.nodesL l[j].cells < N := by
                      have h := nodesVE_at (TypeX.rows l) j (by rw [TypeX.rows_length]; exact hlt)
                      rw [TypeX.rows_at l j hlt] at h
                      have := HN.out
                      simp only [TypeX.args_] at this
                      omega
                    have hsx : l[j].size ≤ 4294967296 := by have := TypeX.sizeL_take l j hlt; have := TypeX.sizeL_le l (j + 1); omega
                    have HIH := Lib.hid (ih l[j] A' c' wr.drew hnx hsx (briefL_at l HBL.out j hlt) (k2.grow ((Below.refl _ _).drew)))
                    clear k2 hnx hsx
                    go_wp2
                    go_region_law (first
                      | (refine step_append_lies _ (by rfl) _ _ _ (by rfl) (w.heap.size + 3) 33 i0 _ 2 40 Tryz.underlying31 hi0' hz0 hz1 hz2 rfl (by omega) (.slice Av acc.length cv) acc.length vs6 (by rfl) (hown6.alloc _)
                           ⟨w6.heap.size, 0, none⟩ 1 1 [.string l[j].sx.atom, .slice A l[j].sx.list.length c] (by rfl) (by rfl) (news_sx w6 _ _ _) (one_sx _ _ _ _) (by omega) (by unfold maxLen; omega) (by omega) (by have := ho6.ox.lt; simp; omega) (w6.heap.size + 1) (by simp) ?_
                         intro g' cap' w7 hown7 hgrow7 hat7 hlt7
                         obtain ⟨x7, xf7, xl7⟩ := ho6.mid hgrow7)
                      | (go_simp
                         go_at_call 33
                         refine HIH.out.mono ?_
                         intro e w6 hgv
                         obtain ⟨A, c, rfl, ho6, hl6, hb6⟩ := HO.out.call (Below.refl _ _).drew hgv
                         obtain ⟨vs6, hown6, hel6, hVX6⟩ := ho6.row
                         have x6 : w6.cell? ⟨w.heap.size + 2, 1, none⟩ = some (.slice Av acc.length cv) := by rw [ho6.ox.cell]; rfl
                         have xl6 := ho6.ox.lt
                         have b1 : w6.cell? ⟨w.heap.size, 1, none⟩ = some (.string s) := by rw [ho6.bx.cell]; rfl
                         have b2 : w6.cell? ⟨w.heap.size, 2, none⟩ = some (.slice (some ⟨b, o, none⟩) l.length c2) := by rw [ho6.bx.cell]; rfl
                         have bl6 := ho6.bx.lt
                         have q0' := (hb6.cell (p := ⟨b, o + j * 3, none⟩) hP).trans q0
                         have q1' := (hb6.cell (p := ⟨b, o + j * 3 + 1, none⟩) hP).trans q1
                         have q2' := (hb6.cell (p := ⟨b, o + j * 3 + 2, none⟩) hP).trans q2))
                    all_goals (
                      have HP := Lib.hid (ho6.push hown6 hel6 hVX6 hl6 hgrow7 hown7 hat7 _ rfl)
                      clear hown7 hgrow7 hat7 hown6 hel6 hl6
                      go_wp2
                      go_roundw
                      case rel => exact ⟨j + 1, _, _, by omega, by go_num, by rw [HAC.out, sxL_take l j hlt, List.append_assoc], by rw [List.length_append, List.length_singleton, HLEN.out]; omega, HP.out⟩
                      case measure => simp [Go.RowKit.intOf]; omega)
                  · have hjl : j = l.length := by omega
                    subst hjl
                    have hacc := HAC.out
                    rw [List.take_length, HA1.out, HY1.out, HY0.out] at hacc
                    have hgl : acc = [.mk ⟨#[97, 115, 115, 111, 99]⟩ []] ++ .mk s [] :: TypeX.sxL l := by rw [hacc]; simp
                    have x0 : wr.cell? ⟨w.heap.size + 2, 0, none⟩ = some (.string ⟨#[]⟩) := by rw [HO.out.ox.cell]; rfl
                    have hrx := HO.out.rx
                    have hend := sxEnd (t := ⟨#[]⟩) (L := acc) hrx HO.out.bel HO.out.row (by omega)
                    have hsx : (TypeX.mk 3 s l).sx = .mk ⟨#[]⟩ acc := by rw [sx_proj, hgl]; rfl
                    have HSX := Lib.hid hsx
                    clear hsx
                    have HE := Lib.hid hend
                    have r0 : wr.cell? ⟨w.heap.size + 1, 0, none⟩ = some (.string ⟨#[]⟩) := by rw [hrx.cell]; rfl
                    have r1 : wr.cell? ⟨w.heap.size + 1, 1, none⟩ = some (.slice none 0 0) := by rw [hrx.cell]; rfl
                    have rf0 : wr.frozen? ⟨w.heap.size + 1, 0, none⟩ = false := hrx.frozen 0
                    have rf1 : wr.frozen? ⟨w.heap.size + 1, 1, none⟩ = false := hrx.frozen 1
                    have hrl := hrx.lt
                    clear hrx hend hacc hgl HAC
                    go_wp2
                    obtain ⟨e0, e1, e2⟩ := HE.out _ rfl
                    exact bodyPost_ret (v := .agg #[.string ⟨#[]⟩, .slice Av acc.length cv]) (by simp [results, Tryz.results33, go_sem, e0, e1]) rfl (by rw [HSX.out]; exact e2)
          · have hk3' : (k == 3) = false := by simpa using hk3
            obtain ⟨W, hW⟩ : ∃ W, W = ((w.alloc (.cells #[.int .i64 k, .string s, .slice A2 l.length c2] 26)).alloc (.cells #[.string ⟨#[]⟩, .slice none 0 0] 33)).alloc (.cells #[.string ⟨#[]⟩, .slice none 0 0] 33) := ⟨_, rfl⟩
            have ho0 : OutX w W k s A2 l.length c2 (.slice none 0 0) [] := by
              rw [hW]
              have hbn := (Below.refl ((w.alloc (.cells #[.int .i64 k, .string s, .slice A2 l.length c2] 26)).alloc (.cells #[.string ⟨#[]⟩, .slice none 0 0] 33)).heap.size _).alloc (Nat.le_refl _) (.cells #[.string ⟨#[]⟩, .slice none 0 0] 33)
              refine ⟨HBX.out.below hbn HBX.out.lt, HRX.out.below hbn HRX.out.lt, ?_, RowX.nil _ _ _, HB0.out.trans (hbn.mono HB0.out.size)⟩
              have h := Whole.new ((w.alloc (.cells #[.int .i64 k, .string s, .slice A2 l.length c2] 26)).alloc (.cells #[.string ⟨#[]⟩, .slice none 0 0] 33)) 33 #[.string ⟨#[]⟩, .slice none 0 0]
              rw [World.size_alloc, World.size_alloc] at h
              exact h
            have HO0 := Lib.hid ho0
            have HWW := Lib.hid hW
            clear ho0 hW
            go_enter Tryz.func33, Tryz.ntmps33
            go_wp2
            rw [← HWW.out]
            obtain ⟨V0, HO⟩ : ∃ V0, Hid (OutX w W k s A2 l.length c2 V0 []) := ⟨_, HO0⟩
            clear HO0 HBX HRX HB0
            obtain ⟨y1, hy1⟩ : ∃ y1 : SX, y1 = .mk s [] := ⟨_, rfl⟩
            have HY1 := Lib.hid hy1
            obtain ⟨Av, cv, hV⟩ := HO.out.row.shape
            subst hV
            have x1 : W.cell? ⟨w.heap.size + 2, 1, none⟩ = some (.slice Av ([] : List SX).length cv) := by rw [HO.out.ox.cell]; rfl
            have xl := HO.out.ox.lt
            have b1 : W.cell? ⟨w.heap.size, 1, none⟩ = some (.string s) := by rw [HO.out.bx.cell]; rfl
            have b2 : W.cell? ⟨w.heap.size, 2, none⟩ = some (.slice A2 l.length c2) := by rw [HO.out.bx.cell]; rfl
            have bl := HO.out.bx.lt
            clear hy1
            simp only [List.length_nil] at x1
            go_wp2
            go_cut [52] from 46 to 53 (fun v52 wd => ∃ V, OutX w wd k s A2 l.length c2 V ([] ++ [y1]))
            case first =>
              go_region_law (first
                | (refine step_append_lies _ (by rfl) _ _ _ (by rfl) (w.heap.size + 3) 33 i0 _ 2 40 Tryz.underlying31 hi0' hz0 hz1 hz2 rfl (by omega) (.slice Av 0 cv) 0 vs6 (by rfl) (hown6.alloc _)
                     ⟨w6.heap.size, 0, none⟩ 1 1 [.string y1.atom, .slice A y1.list.length c] (by rfl) (by rfl) (news_sx w6 _ _ _) (one_sx _ _ _ _) (by omega) (by unfold maxLen; omega) (by omega) (by have := ho6.ox.lt; simp; omega) (w6.heap.size + 1) (by simp) ?_
                   intro g' cap' w7 hown7 hgrow7 hat7 hlt7
                   obtain ⟨x7, xf7, xl7⟩ := ho6.mid hgrow7)
                | (go_simp
                   go_at_call 57
                   refine (atomY HY1.out _).mono ?_
                   intro e w6 hgv
                   obtain ⟨A, c, rfl, ho6, hl6, hb6⟩ := HO.out.call (Below.refl _ _).drew hgv
                   obtain ⟨vs6, hown6, hel6, hVX6⟩ := ho6.row
                   have x6 : w6.cell? ⟨w.heap.size + 2, 1, none⟩ = some (.slice Av 0 cv) := by rw [ho6.ox.cell]; rfl
                   have xl6 := ho6.ox.lt
                   have b1 : w6.cell? ⟨w.heap.size, 1, none⟩ = some (.string s) := by rw [ho6.bx.cell]; rfl
                   have b2 : w6.cell? ⟨w.heap.size, 2, none⟩ = some (.slice A2 l.length c2) := by rw [ho6.bx.cell]; rfl
                   have bl6 := ho6.bx.lt))
              all_goals (
                have HP := HO.out
                have hp := ho6.push hown6 hel6 hVX6 hl6 hgrow7 hown7 hat7 _ rfl
                have HP := Lib.hid hp
                clear hp hown7 hgrow7 hat7 hown6 hel6 hl6
                go_wp2
                go_meet
                case rel => exact ⟨_, HP.out⟩)
            case rest =>
              obtain ⟨V1, ho1⟩ := hcut
              obtain ⟨acc1, ha1⟩ : ∃ acc1 : List SX, acc1 = [] ++ [y1] := ⟨_, rfl⟩
              have hal : acc1.length ≤ 2 := by rw [ha1]; simp
              rw [← ha1] at ho1
              have HO1 := Lib.hid ho1
              have HA1 := Lib.hid ha1
              clear ha1 ho1 x1 b1 b2 HO xl bl
              go_wp2
              go_loopw [4] (fun iv wr => ∃ (j : Nat) (V : Value) (acc : List SX), j ≤ l.length ∧ iv = .int .i64 j ∧ acc = acc1 ++ TypeX.sxL (l.take j) ∧ acc.length = acc1.length + j ∧ OutX w wr k s A2 l.length c2 V acc) (fun iv _ => l.length - (Go.RowKit.intOf iv).toNat)
              case atStart => exact ⟨0, V1, acc1, Nat.zero_le _, rfl, by simp [TypeX.sxL], rfl, HO1.out⟩
              case round =>
                obtain ⟨j, V, acc, hj, rfl, hacc, hlen, ho⟩ := hrel
                have HO := Lib.hid ho
                have HAC := Lib.hid hacc
                have hal2 : acc.length ≤ 4294967298 := by omega
                have HLEN := Lib.hid hlen
                clear ho hacc hlen
                obtain ⟨Av, cv, hV⟩ := HO.out.row.shape
                subst hV
                have x1 : wr.cell? ⟨w.heap.size + 2, 1, none⟩ = some (.slice Av acc.length cv) := by rw [HO.out.ox.cell]; rfl
                have xl := HO.out.ox.lt
                have b1 : wr.cell? ⟨w.heap.size, 1, none⟩ = some (.string s) := by rw [HO.out.bx.cell]; rfl
                have b2 : wr.cell? ⟨w.heap.size, 2, none⟩ = some (.slice A2 l.length c2) := by rw [HO.out.bx.cell]; rfl
                have bl := HO.out.bx.lt
                by_cases hlt : j < l.length
                · obtain ⟨b, o, A', c', rfl, hP, q0, q1, q2, k2⟩ := (H2.out.grow HO.out.bel).at_ hlt
                  have hP : b < wr.heap.size := hP
                  have hj0 : (0 : Int) ≤ (j : Int) := Int.natCast_nonneg _
                  have hj1 : (j : Int) < (l.length : Int) := by omega
                  have hnx : DV.nodesL l[j].cells < N := by
                    have h := nodesVE_at (TypeX.rows l) j (by rw [TypeX.rows_length]; exact hlt)
                    rw [TypeX.rows_at l j hlt] at h
                    have := HN.out
                    simp only [TypeX.args_] at this
                    omega
                  have hsx : l[j].size ≤ 4294967296 := by have := TypeX.sizeL_take l j hlt; have := TypeX.sizeL_le l (j + 1); omega
                  have HIH := Lib.hid (ih l[j] A' c' wr.drew hnx hsx (briefL_at l HBL.out j hlt) (k2.grow ((Below.refl _ _).drew)))
                  clear k2 hnx hsx
                  go_wp2
                  go_region_law (first
                    | (refine step_append_lies _ (by rfl) _ _ _ (by rfl) (w.heap.size + 3) 33 i0 _ 2 40 Tryz.underlying31 hi0' hz0 hz1 hz2 rfl (by omega) (.slice Av acc.length cv) acc.length vs6 (by rfl) (hown6.alloc _)
                         ⟨w6.heap.size, 0, none⟩ 1 1 [.string l[j].sx.atom, .slice A l[j].sx.list.length c] (by rfl) (by rfl) (news_sx w6 _ _ _) (one_sx _ _ _ _) (by omega) (by unfold maxLen; omega) (by omega) (by have := ho6.ox.lt; simp; omega) (w6.heap.size + 1) (by simp) ?_
                       intro g' cap' w7 hown7 hgrow7 hat7 hlt7
                       obtain ⟨x7, xf7, xl7⟩ := ho6.mid hgrow7)
                    | (go_simp
                       go_at_call 33
                       refine HIH.out.mono ?_
                       intro e w6 hgv
                       obtain ⟨A, c, rfl, ho6, hl6, hb6⟩ := HO.out.call (Below.refl _ _).drew hgv
                       obtain ⟨vs6, hown6, hel6, hVX6⟩ := ho6.row
                       have x6 : w6.cell? ⟨w.heap.size + 2, 1, none⟩ = some (.slice Av acc.length cv) := by rw [ho6.ox.cell]; rfl
                       have xl6 := ho6.ox.lt
                       have b1 : w6.cell? ⟨w.heap.size, 1, none⟩ = some (.string s) := by rw [ho6.bx.cell]; rfl
                       have b2 : w6.cell? ⟨w.heap.size, 2, none⟩ = some (.slice (some ⟨b, o, none⟩) l.length c2) := by rw [ho6.bx.cell]; rfl
                       have bl6 := ho6.bx.lt
                       have q0' := (hb6.cell (p := ⟨b, o + j * 3, none⟩) hP).trans q0
                       have q1' := (hb6.cell (p := ⟨b, o + j * 3 + 1, none⟩) hP).trans q1
                       have q2' := (hb6.cell (p := ⟨b, o + j * 3 + 2, none⟩) hP).trans q2))
                  all_goals (
                    have HP := Lib.hid (ho6.push hown6 hel6 hVX6 hl6 hgrow7 hown7 hat7 _ rfl)
                    clear hown7 hgrow7 hat7 hown6 hel6 hl6
                    go_wp2
                    go_roundw
                    case rel => exact ⟨j + 1, _, _, by omega, by go_num, by rw [HAC.out, sxL_take l j hlt, List.append_assoc], by rw [List.length_append, List.length_singleton, HLEN.out]; omega, HP.out⟩
                    case measure => simp [Go.RowKit.intOf]; omega)
                · have hjl : j = l.length := by omega
                  subst hjl
                  have hacc := HAC.out
                  rw [List.take_length, HA1.out, HY1.out] at hacc
                  have hgl : acc = [] ++ .mk s [] :: TypeX.sxL l := by rw [hacc]; simp
                  have x0 : wr.cell? ⟨w.heap.size + 2, 0, none⟩ = some (.string ⟨#[]⟩) := by rw [HO.out.ox.cell]; rfl
                  have hrx := HO.out.rx
                  have hend := sxEnd (t := ⟨#[]⟩) (L := acc) hrx HO.out.bel HO.out.row (by omega)
                  have hsx : (TypeX.mk k s l).sx = .mk ⟨#[]⟩ acc := by rw [sx_list s h1 h4 (fun h => hk2 h.1) hk3, hgl]; rfl
                  have HSX := Lib.hid hsx
                  clear hsx
                  have HE := Lib.hid hend
                  have r0 : wr.cell? ⟨w.heap.size + 1, 0, none⟩ = some (.string ⟨#[]⟩) := by rw [hrx.cell]; rfl
                  have r1 : wr.cell? ⟨w.heap.size + 1, 1, none⟩ = some (.slice none 0 0) := by rw [hrx.cell]; rfl
                  have rf0 : wr.frozen? ⟨w.heap.size + 1, 0, none⟩ = false := hrx.frozen 0
                  have rf1 : wr.frozen? ⟨w.heap.size + 1, 1, none⟩ = false := hrx.frozen 1
                  have hrl := hrx.lt
                  clear hrx hend hacc hgl HAC
                  go_wp2
                  obtain ⟨e0, e1, e2⟩ := HE.out _ rfl
                  exact bodyPost_ret (v := .agg #[.string ⟨#[]⟩, .slice Av acc.length cv]) (by simp [results, Tryz.results33, go_sem, e0, e1]) rfl (by rw [HSX.out]; exact e2)
theorem specSxAll : ∀ (N : Nat) (x : TypeX) (A2 : Option Addr) (c2 : Nat) (w : World), DV.nodesL x.cells ≤ N → x.size ≤ 4294967296 → x.brief → TypeRow w (Und w.heap.size) A2 c2 x.args_ → Calls Tryz.prog 33 #[.agg #[.int .i64 x.kind_, .string x.name_, .slice A2 x.args_.length c2]] w (SxMade x.sx w)
  | 0, .mk k s l, A2, c2, w, hn, hs, hbr, h2 => specSx_step 0 (fun _ _ _ _ h => absurd h (Nat.not_lt_zero _)) k s l A2 c2 w hn hs hbr h2
  | N + 1, .mk k s l, A2, c2, w, hn, hs, hbr, h2 => specSx_step (N + 1) (fun y A c w h => specSxAll N y A c w (Nat.le_of_lt_succ h)) k s l A2 c2 w hn hs hbr h2
end Go.Proofs.YtbcfeoobhemdcaaGreat

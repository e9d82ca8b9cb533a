/- The program's encoders of the four kinds, and the one that chooses. -/
import Derived.Test.YtbcfeoobhemdcaaGreatZListWith
import Derived.RegionTactic
import Derived.Laws.EntriesVeiled
namespace Go.Proofs.YtbcfeoobhemdcaaGreat
open Go.RowKit Go.Lib

theorem encBoxes (w : World) (k : Int) (s : ByteArray) (V : Value) :
    Below w.heap.size w ((w.alloc (.cells #[.int .i64 k, .string s, V] 26)).alloc (.cells #[.string ⟨#[]⟩, .slice none 0 0] 33)) ∧
      Whole ((w.alloc (.cells #[.int .i64 k, .string s, V] 26)).alloc (.cells #[.string ⟨#[]⟩, .slice none 0 0] 33)) w.heap.size 26 #[.int .i64 k, .string s, V] ∧
      Whole ((w.alloc (.cells #[.int .i64 k, .string s, V] 26)).alloc (.cells #[.string ⟨#[]⟩, .slice none 0 0] 33)) (w.heap.size + 1) 33 #[.string ⟨#[]⟩, .slice none 0 0] := by
  refine ⟨((Below.refl _ _).alloc (Nat.le_refl _) _).alloc (by simp) _, (Whole.new w _ _).below ((Below.refl (w.heap.size + 1) _).alloc (by simp) _) (by omega), ?_⟩
  have h := Whole.new (w.alloc (.cells #[.int .i64 k, .string s, V] 26)) 33 #[.string ⟨#[]⟩, .slice none 0 0]
  rw [World.size_alloc] at h
  exact h
theorem encOne {w w1 : World} {y : SX} {a b : Value} (hx : Whole w1 (w.heap.size + 1) 33 #[a, b]) (hb : Below w.heap.size w w1) (hl : y.list = []) :
    ∀ w4, w4 = (w1.setCell ⟨w.heap.size + 1, 0, none⟩ (.string y.atom)).setCell ⟨w.heap.size + 1, 1, none⟩ (.slice none 0 0) → w4.cell? ⟨w.heap.size + 1, 0, none⟩ = some (.string y.atom) ∧ w4.cell? ⟨w.heap.size + 1, 1, none⟩ = some (.slice none 0 0) ∧ SxOwn y w (.returned (.agg #[.string y.atom, .slice none 0 0])) w4 := by
  intro w4 h4
  obtain ⟨ya, yl⟩ := y
  simp only [SX.mk_list] at hl
  subst hl
  have hw : Whole w4 (w.heap.size + 1) 33 #[.string ya, .slice none 0 0] := by
    have h := (hx.set_ 0 (.string ya)).set_ 1 (.slice none 0 0)
    rw [SX.mk_atom] at h4
    rw [← h4] at h
    simpa using h
  have hbut : But (w.heap.size + 1) w1 w4 := by rw [h4]; exact (But.set_ _ _ 0 _).trans (But.set_ _ _ 1 _)
  exact ⟨by rw [hw.cell]; rfl, by rw [hw.cell]; rfl, SxOwn.word _ (hb.trans (hbut.to_below (by omega) hb.size))⟩

set_option maxRecDepth 100000 in
set_option maxHeartbeats 400000 in
theorem encVar (s : ByteArray) (l : List TypeX) (A2 : Option Addr) (c2 : Nat) (w : World) (hs : s.size ≤ 1000000) :
    Calls Tryz.prog 49 #[.agg #[.int .i64 1, .string s, .slice A2 l.length c2]] w (SxOwn (.mk (⟨#[39]⟩ ++ s) []) w) := by
  obtain ⟨hb0, hbx, hrx⟩ := encBoxes w 1 s (.slice A2 l.length c2)
  clear hb0 hbx hrx
  have HE := Lib.hid (((Below.refl w.heap.size w).alloc (Nat.le_refl _) (.cells #[.int .i64 1, .string s, .slice A2 l.length c2] 26)).alloc (by simp) (.cells #[.string (⟨#[39]⟩ ++ s), .slice none 0 0] 33))
  have hsz : (⟨#[39]⟩ ++ s : ByteArray).size = 1 + s.size := by rw [ByteArray.size_append]; rfl
  go_enter Tryz.func49, Tryz.ntmps49
  go_wp2
  exact bodyPost_ret (v := .agg #[.string (⟨#[39]⟩ ++ s), .slice none 0 0]) (by simp [results, Tryz.results49, go_sem]) rfl (SxOwn.word _ HE.out)

/-- The end of an encoder that hands on what the list's maker made. -/
theorem encStore {w w1 : World} {l : List TypeX} {ss : List ByteArray} (h1 : Below w.heap.size w w1) (hx : Whole w1 (w.heap.size + 1) 33 #[.string ⟨#[]⟩, .slice none 0 0]) {e : Ending} {w3 : World} (hm : SxOwn (.mk ⟨#[]⟩ (words ss ++ TypeX.sxL l)) w1 e w3) :
    ∃ A n c, e = .returned (.agg #[.string ⟨#[]⟩, .slice A n c]) ∧ w3.cell? ⟨w.heap.size + 1, 0, none⟩ = some (.string ⟨#[]⟩) ∧ w3.cell? ⟨w.heap.size + 1, 1, none⟩ = some (.slice none 0 0) ∧ w3.frozen? ⟨w.heap.size + 1, 0, none⟩ = false ∧ w3.frozen? ⟨w.heap.size + 1, 1, none⟩ = false ∧ w.heap.size + 1 < w3.heap.size ∧
      ∀ w4, w4 = (w3.setCell ⟨w.heap.size + 1, 0, none⟩ (.string ⟨#[]⟩)).setCell ⟨w.heap.size + 1, 1, none⟩ (.slice A n c) → w4.cell? ⟨w.heap.size + 1, 0, none⟩ = some (.string ⟨#[]⟩) ∧ w4.cell? ⟨w.heap.size + 1, 1, none⟩ = some (.slice A n c) ∧ SxOwn (.mk ⟨#[]⟩ (words ss ++ TypeX.sxL l)) w (.returned (.agg #[.string ⟨#[]⟩, .slice A n c])) w4 := by
  obtain ⟨A, c, rfl, h3, hb, hk⟩ := hm.store h1 hx
  exact ⟨A, _, c, rfl, by rw [h3.cell]; rfl, by rw [h3.cell]; rfl, h3.frozen 0, h3.frozen 1, h3.lt, hk⟩

set_option maxRecDepth 100000 in
set_option maxHeartbeats 400000 in
theorem encCon (N : Nat) (ih : EncX N) (s : ByteArray) (l : List TypeX) (A2 : Option Addr) (c2 : Nat) (w : World) (hn : DV.nodesE (TypeX.rows l) ≤ N) (hs : TypeX.sizeL l ≤ 4294967296) (hbr : TypeX.briefL l) (hk : TypeX.kindsL l) (h2 : TypeRow w (Und w.heap.size) A2 c2 l) (hl0 : 0 < l.length) :
    Calls Tryz.prog 50 #[.agg #[.int .i64 2, .string s, .slice A2 l.length c2]] w (SxOwn (.mk ⟨#[]⟩ (words [s] ++ TypeX.sxL l)) w) := by
  obtain ⟨hb0, hbx, hrx⟩ := encBoxes w 2 s (.slice A2 l.length c2)
  generalize hW : ((w.alloc (.cells #[.int .i64 2, .string s, .slice A2 l.length c2] 26)).alloc (.cells #[.string ⟨#[]⟩, .slice none 0 0] 33)) = W at hb0 hbx hrx
  have hb1 : Below w.heap.size w (W.alloc (.cells #[.string s] 9)) := hb0.alloc hb0.size _
  have hbw : Below W.heap.size W (W.alloc (.cells #[.string s] 9)) := (Below.refl _ _).alloc (Nat.le_refl _) _
  have hs1 : Strs (W.alloc (.cells #[.string s] 9)) (some ⟨W.heap.size, 0, none⟩) [s] := by
    refine .inr ⟨_, _, rfl, by simp, fun j t hj => ?_⟩
    rw [Nat.zero_add, (Whole.new W 9 #[.string s]).cell]
    match j, hj with
    | 0, hj => simpa using hj
  have hC := listWith N ih l [s] (some ⟨W.heap.size, 0, none⟩) A2 1 c2 _ hn hs hbr hk (by simp) hs1 (h2.grow hb1)
  simp only [List.length_cons, List.length_nil, Nat.zero_add] at hC
  have HB := Lib.hid hb1
  have HX := Lib.hid (hrx.below hbw hrx.lt)
  have hWs : W.heap.size = w.heap.size + 2 := by rw [← hW]; simp
  rw [hWs] at hC
  have HC := Lib.hid hC
  subst hW
  clear hC
  clear hb0 hb1 hbx hrx hbw hs1 hn hs hbr hk h2 ih
  go_enter Tryz.func50, Tryz.ntmps50
  go_wp2_with fail
  refine HC.out.mono ?_
  intro e w3 hm
  obtain ⟨A, n, c, rfl, r0, r1, rf0, rf1, rl, hk⟩ := encStore HB.out HX.out hm
  have HE := Lib.hid hk
  clear hm hk
  go_wp2
  obtain ⟨e0, e1, e2⟩ := HE.out _ rfl
  exact bodyPost_ret (v := .agg #[.string ⟨#[]⟩, .slice A n c]) (by simp [results, Tryz.results50, go_sem, e0, e1]) rfl e2

set_option maxRecDepth 100000 in
set_option maxHeartbeats 400000 in
theorem encProj (N : Nat) (ih : EncX N) (s : ByteArray) (l : List TypeX) (A2 : Option Addr) (c2 : Nat) (w : World) (hn : DV.nodesE (TypeX.rows l) ≤ N) (hs : TypeX.sizeL l ≤ 4294967296) (hbr : TypeX.briefL l) (hk : TypeX.kindsL l) (h2 : TypeRow w (Und w.heap.size) A2 c2 l) :
    Calls Tryz.prog 51 #[.agg #[.int .i64 3, .string s, .slice A2 l.length c2]] w (SxOwn (.mk ⟨#[]⟩ (words [⟨#[97, 115, 115, 111, 99]⟩, s] ++ TypeX.sxL l)) w) := by
  obtain ⟨hb0, hbx, hrx⟩ := encBoxes w 3 s (.slice A2 l.length c2)
  generalize hW : ((w.alloc (.cells #[.int .i64 3, .string s, .slice A2 l.length c2] 26)).alloc (.cells #[.string ⟨#[]⟩, .slice none 0 0] 33)) = W at hb0 hbx hrx
  have hb1 : Below w.heap.size w (W.alloc (.cells #[.string ⟨#[97, 115, 115, 111, 99]⟩, .string s] 9)) := hb0.alloc hb0.size _
  have hbw : Below W.heap.size W (W.alloc (.cells #[.string ⟨#[97, 115, 115, 111, 99]⟩, .string s] 9)) := (Below.refl _ _).alloc (Nat.le_refl _) _
  have hs1 : Strs (W.alloc (.cells #[.string ⟨#[97, 115, 115, 111, 99]⟩, .string s] 9)) (some ⟨W.heap.size, 0, none⟩) [⟨#[97, 115, 115, 111, 99]⟩, s] := by
    refine .inr ⟨_, _, rfl, by simp, fun j t hj => ?_⟩
    rw [Nat.zero_add, (Whole.new W 9 #[.string ⟨#[97, 115, 115, 111, 99]⟩, .string s]).cell]
    match j, hj with
    | 0, hj => simpa using hj
    | 1, hj => simpa using hj
  have hC := listWith N ih l [⟨#[97, 115, 115, 111, 99]⟩, s] (some ⟨W.heap.size, 0, none⟩) A2 2 c2 _ hn hs hbr hk (by simp) hs1 (h2.grow hb1)
  simp only [List.length_cons, List.length_nil, Nat.zero_add, Nat.reduceAdd] at hC
  have HB := Lib.hid hb1
  have HX := Lib.hid (hrx.below hbw hrx.lt)
  have hWs : W.heap.size = w.heap.size + 2 := by rw [← hW]; simp
  rw [hWs] at hC
  have HC := Lib.hid hC
  subst hW
  clear hC
  clear hb0 hb1 hbx hrx hbw hs1 hn hs hbr hk h2 ih
  go_enter Tryz.func51, Tryz.ntmps51
  go_wp2_with fail
  refine HC.out.mono ?_
  intro e w3 hm
  obtain ⟨A, n, c, rfl, r0, r1, rf0, rf1, rl, hk⟩ := encStore HB.out HX.out hm
  have HE := Lib.hid hk
  clear hm hk
  go_wp2
  obtain ⟨e0, e1, e2⟩ := HE.out _ rfl
  exact bodyPost_ret (v := .agg #[.string ⟨#[]⟩, .slice A n c]) (by simp [results, Tryz.results51, go_sem, e0, e1]) rfl e2

set_option maxRecDepth 100000 in
set_option maxHeartbeats 400000 in
theorem encCon0 (s : ByteArray) (A2 : Option Addr) (c2 : Nat) (w : World) :
    Calls Tryz.prog 50 #[.agg #[.int .i64 2, .string s, .slice A2 0 c2]] w (SxOwn (.mk s []) w) := by
  have HE := Lib.hid (((Below.refl w.heap.size w).alloc (Nat.le_refl _) (.cells #[.int .i64 2, .string s, .slice A2 0 c2] 26)).alloc (by simp) (.cells #[.string s, .slice none 0 0] 33))
  go_enter Tryz.func50, Tryz.ntmps50
  go_wp2
  exact bodyPost_ret (v := .agg #[.string s, .slice none 0 0]) (by simp [results, Tryz.results50, go_sem]) rfl (SxOwn.word _ HE.out)

set_option maxRecDepth 100000 in
set_option maxHeartbeats 400000 in
theorem encDyn (N : Nat) (ih : EncX N) (s : ByteArray) (l : List TypeX) (A2 : Option Addr) (c2 : Nat) (w : World) :
    Calls Tryz.prog 52 #[.agg #[.int .i64 4, .string s, .slice A2 l.length c2]] w (SxOwn (.mk ⟨#[]⟩ (words [⟨#[100, 121, 110]⟩, s] ++ TypeX.sxL [])) w) := by
  obtain ⟨hb0, hbx, hrx⟩ := encBoxes w 4 s (.slice A2 l.length c2)
  generalize hW : ((w.alloc (.cells #[.int .i64 4, .string s, .slice A2 l.length c2] 26)).alloc (.cells #[.string ⟨#[]⟩, .slice none 0 0] 33)) = W at hb0 hbx hrx
  have hb1 : Below w.heap.size w (W.alloc (.cells #[.string ⟨#[100, 121, 110]⟩, .string s] 9)) := hb0.alloc hb0.size _
  have hbw : Below W.heap.size W (W.alloc (.cells #[.string ⟨#[100, 121, 110]⟩, .string s] 9)) := (Below.refl _ _).alloc (Nat.le_refl _) _
  have hs1 : Strs (W.alloc (.cells #[.string ⟨#[100, 121, 110]⟩, .string s] 9)) (some ⟨W.heap.size, 0, none⟩) [⟨#[100, 121, 110]⟩, s] := by
    refine .inr ⟨_, _, rfl, by simp, fun j t hj => ?_⟩
    rw [Nat.zero_add, (Whole.new W 9 #[.string ⟨#[100, 121, 110]⟩, .string s]).cell]
    match j, hj with
    | 0, hj => simpa using hj
    | 1, hj => simpa using hj
  have hC := listWith N ih [] [⟨#[100, 121, 110]⟩, s] (some ⟨W.heap.size, 0, none⟩) none 2 0 _ (by rw [TypeX.rows, DV.nodesE]; exact Nat.zero_le _) (by rw [TypeX.sizeL]; omega) (by rw [TypeX.briefL]; trivial) (by rw [TypeX.kindsL]; trivial) (by simp) hs1 (TypeRow.nil _ _ _ _ (by decide))
  simp only [List.length_cons, List.length_nil, Nat.zero_add, Nat.reduceAdd] at hC
  have HB := Lib.hid hb1
  have HX := Lib.hid (hrx.below hbw hrx.lt)
  have hWs : W.heap.size = w.heap.size + 2 := by rw [← hW]; simp
  rw [hWs] at hC
  have HC := Lib.hid hC
  subst hW
  clear hC
  clear hb0 hb1 hbx hrx hbw hs1 ih
  go_enter Tryz.func52, Tryz.ntmps52
  go_wp2_with fail
  refine HC.out.mono ?_
  intro e w3 hm
  obtain ⟨A, n, c, rfl, r0, r1, rf0, rf1, rl, hk⟩ := encStore HB.out HX.out hm
  have HE := Lib.hid hk
  clear hm hk
  go_wp2
  obtain ⟨e0, e1, e2⟩ := HE.out _ rfl
  exact bodyPost_ret (v := .agg #[.string ⟨#[]⟩, .slice A n c]) (by simp [results, Tryz.results52, go_sem, e0, e1]) rfl e2

theorem encTable (w : World) (k : Int) (s : ByteArray) (l : List TypeX) (A2 : Option Addr) (c2 : Nat) : Below w.heap.size w (((w.alloc (.cells #[.int .i64 k, .string s, .slice A2 l.length c2] 26)).alloc (.cells #[.string ⟨#[]⟩, .slice none 0 0] 33)).alloc (.cells #[.nilFunc, .func (.func 49) #[] #[], .func (.func 50) #[] #[], .func (.func 51) #[] #[], .func (.func 52) #[] #[]] 68)).drew ∧ Whole (((w.alloc (.cells #[.int .i64 k, .string s, .slice A2 l.length c2] 26)).alloc (.cells #[.string ⟨#[]⟩, .slice none 0 0] 33)).alloc (.cells #[.nilFunc, .func (.func 49) #[] #[], .func (.func 50) #[] #[], .func (.func 51) #[] #[], .func (.func 52) #[] #[]] 68)).drew (w.heap.size + 1) 33 #[.string ⟨#[]⟩, .slice none 0 0] := by
  obtain ⟨hb0, hbx, hrx⟩ := encBoxes w k s (.slice A2 l.length c2)
  have hb : Below ((w.alloc (.cells #[.int .i64 k, .string s, .slice A2 l.length c2] 26)).alloc (.cells #[.string ⟨#[]⟩, .slice none 0 0] 33)).heap.size ((w.alloc (.cells #[.int .i64 k, .string s, .slice A2 l.length c2] 26)).alloc (.cells #[.string ⟨#[]⟩, .slice none 0 0] 33)) (((w.alloc (.cells #[.int .i64 k, .string s, .slice A2 l.length c2] 26)).alloc (.cells #[.string ⟨#[]⟩, .slice none 0 0] 33)).alloc (.cells #[.nilFunc, .func (.func 49) #[] #[], .func (.func 50) #[] #[], .func (.func 51) #[] #[], .func (.func 52) #[] #[]] 68)) := (Below.refl _ _).alloc (Nat.le_refl _) _
  exact ⟨(hb0.trans (hb.mono hb0.size)).drew, hrx.below hb.drew hrx.lt⟩

set_option maxRecDepth 100000 in
set_option maxHeartbeats 1000000 in
theorem encT1 (s : ByteArray) (l : List TypeX) (A2 : Option Addr) (c2 : Nat) (w : World) (hs : s.size ≤ 1000000) :
    Calls Tryz.prog 21 #[.agg #[.int .i64 1, .string s, .slice A2 l.length c2]] w (SxOwn (.mk (⟨#[39]⟩ ++ s) []) w) := by
  obtain ⟨hb, hx⟩ := encTable w 1 s l A2 c2
  have hC := encVar s l A2 c2 (((w.alloc (.cells #[.int .i64 1, .string s, .slice A2 l.length c2] 26)).alloc (.cells #[.string ⟨#[]⟩, .slice none 0 0] 33)).alloc (.cells #[.nilFunc, .func (.func 49) #[] #[], .func (.func 50) #[] #[], .func (.func 51) #[] #[], .func (.func 52) #[] #[]] 68)).drew hs
  obtain ⟨y, hy⟩ : ∃ y : SX, y = (.mk (⟨#[39]⟩ ++ s) []) := ⟨_, rfl⟩
  rw [← hy] at hC ⊢
  have HC := Lib.hid hC
  have HB := Lib.hid hb
  have HX := Lib.hid hx
  clear hC hb hx hy hs
  go_enter Tryz.func21, Tryz.ntmps21
  go_wp2
  go_region_law (first
    | (go_simp
       go_at_call 49
       refine HC.out.mono ?_
       intro e w6 hm
       obtain ⟨A, c, rfl, h6, hb6, hk6⟩ := hm.store HB.out HX.out
       have HE := Lib.hid hk6
       have r0 : w6.cell? ⟨w.heap.size + 1, 0, none⟩ = some (.string ⟨#[]⟩) := by rw [h6.cell]; rfl
       have r1 : w6.cell? ⟨w.heap.size + 1, 1, none⟩ = some (.slice none 0 0) := by rw [h6.cell]; rfl
       have rf0 := h6.frozen 0
       have rf1 := h6.frozen 1
       have rl := h6.lt
       clear hk6 hm h6))
  all_goals (
    go_wp2
    obtain ⟨e0, e1, e2⟩ := HE.out _ rfl
    exact bodyPost_ret (v := .agg #[.string y.atom, .slice A y.list.length c]) (by simp [results, Tryz.results21, go_sem, e0, e1]) rfl e2)

set_option maxRecDepth 100000 in
set_option maxHeartbeats 1000000 in
theorem encT2 (N : Nat) (ih : EncX N) (s : ByteArray) (l : List TypeX) (A2 : Option Addr) (c2 : Nat) (w : World) (hn : DV.nodesE (TypeX.rows l) ≤ N) (hs : TypeX.sizeL l ≤ 4294967296) (hbr : TypeX.briefL l) (hk : TypeX.kindsL l) (h2 : TypeRow w (Und w.heap.size) A2 c2 l) (hl0 : 0 < l.length) :
    Calls Tryz.prog 21 #[.agg #[.int .i64 2, .string s, .slice A2 l.length c2]] w (SxOwn (.mk ⟨#[]⟩ (words [s] ++ TypeX.sxL l)) w) := by
  obtain ⟨hb, hx⟩ := encTable w 2 s l A2 c2
  have hC := encCon N ih s l A2 c2 (((w.alloc (.cells #[.int .i64 2, .string s, .slice A2 l.length c2] 26)).alloc (.cells #[.string ⟨#[]⟩, .slice none 0 0] 33)).alloc (.cells #[.nilFunc, .func (.func 49) #[] #[], .func (.func 50) #[] #[], .func (.func 51) #[] #[], .func (.func 52) #[] #[]] 68)).drew hn hs hbr hk (h2.grow hb) hl0
  obtain ⟨y, hy⟩ : ∃ y : SX, y = (.mk ⟨#[]⟩ (words [s] ++ TypeX.sxL l)) := ⟨_, rfl⟩
  rw [← hy] at hC ⊢
  have HC := Lib.hid hC
  have HB := Lib.hid hb
  have HX := Lib.hid hx
  clear hC hb hx hy hn hs hbr hk h2 ih hl0
  go_enter Tryz.func21, Tryz.ntmps21
  go_wp2
  go_region_law (first
    | (go_simp
       go_at_call 50
       refine HC.out.mono ?_
       intro e w6 hm
       obtain ⟨A, c, rfl, h6, hb6, hk6⟩ := hm.store HB.out HX.out
       have HE := Lib.hid hk6
       have r0 : w6.cell? ⟨w.heap.size + 1, 0, none⟩ = some (.string ⟨#[]⟩) := by rw [h6.cell]; rfl
       have r1 : w6.cell? ⟨w.heap.size + 1, 1, none⟩ = some (.slice none 0 0) := by rw [h6.cell]; rfl
       have rf0 := h6.frozen 0
       have rf1 := h6.frozen 1
       have rl := h6.lt
       clear hk6 hm h6))
  all_goals (
    go_wp2
    obtain ⟨e0, e1, e2⟩ := HE.out _ rfl
    exact bodyPost_ret (v := .agg #[.string y.atom, .slice A y.list.length c]) (by simp [results, Tryz.results21, go_sem, e0, e1]) rfl e2)

set_option maxRecDepth 100000 in
set_option maxHeartbeats 1000000 in
theorem encT3 (N : Nat) (ih : EncX N) (s : ByteArray) (l : List TypeX) (A2 : Option Addr) (c2 : Nat) (w : World) (hn : DV.nodesE (TypeX.rows l) ≤ N) (hs : TypeX.sizeL l ≤ 4294967296) (hbr : TypeX.briefL l) (hk : TypeX.kindsL l) (h2 : TypeRow w (Und w.heap.size) A2 c2 l) :
    Calls Tryz.prog 21 #[.agg #[.int .i64 3, .string s, .slice A2 l.length c2]] w (SxOwn (.mk ⟨#[]⟩ (words [⟨#[97, 115, 115, 111, 99]⟩, s] ++ TypeX.sxL l)) w) := by
  obtain ⟨hb, hx⟩ := encTable w 3 s l A2 c2
  have hC := encProj N ih s l A2 c2 (((w.alloc (.cells #[.int .i64 3, .string s, .slice A2 l.length c2] 26)).alloc (.cells #[.string ⟨#[]⟩, .slice none 0 0] 33)).alloc (.cells #[.nilFunc, .func (.func 49) #[] #[], .func (.func 50) #[] #[], .func (.func 51) #[] #[], .func (.func 52) #[] #[]] 68)).drew hn hs hbr hk (h2.grow hb)
  obtain ⟨y, hy⟩ : ∃ y : SX, y = (.mk ⟨#[]⟩ (words [⟨#[97, 115, 115, 111, 99]⟩, s] ++ TypeX.sxL l)) := ⟨_, rfl⟩
  rw [← hy] at hC ⊢
  have HC := Lib.hid hC
  have HB := Lib.hid hb
  have HX := Lib.hid hx
  clear hC hb hx hy hn hs hbr hk h2 ih
  go_enter Tryz.func21, Tryz.ntmps21
  go_wp2
  go_region_law (first
    | (go_simp
       go_at_call 51
       refine HC.out.mono ?_
       intro e w6 hm
       obtain ⟨A, c, rfl, h6, hb6, hk6⟩ := hm.store HB.out HX.out
       have HE := Lib.hid hk6
       have r0 : w6.cell? ⟨w.heap.size + 1, 0, none⟩ = some (.string ⟨#[]⟩) := by rw [h6.cell]; rfl
       have r1 : w6.cell? ⟨w.heap.size + 1, 1, none⟩ = some (.slice none 0 0) := by rw [h6.cell]; rfl
       have rf0 := h6.frozen 0
       have rf1 := h6.frozen 1
       have rl := h6.lt
       clear hk6 hm h6))
  all_goals (
    go_wp2
    obtain ⟨e0, e1, e2⟩ := HE.out _ rfl
    exact bodyPost_ret (v := .agg #[.string y.atom, .slice A y.list.length c]) (by simp [results, Tryz.results21, go_sem, e0, e1]) rfl e2)

set_option maxRecDepth 100000 in
set_option maxHeartbeats 1000000 in
theorem encT4 (N : Nat) (ih : EncX N) (s : ByteArray) (l : List TypeX) (A2 : Option Addr) (c2 : Nat) (w : World) :
    Calls Tryz.prog 21 #[.agg #[.int .i64 4, .string s, .slice A2 l.length c2]] w (SxOwn (.mk ⟨#[]⟩ (words [⟨#[100, 121, 110]⟩, s] ++ TypeX.sxL [])) w) := by
  obtain ⟨hb, hx⟩ := encTable w 4 s l A2 c2
  have hC := encDyn N ih s l A2 c2 (((w.alloc (.cells #[.int .i64 4, .string s, .slice A2 l.length c2] 26)).alloc (.cells #[.string ⟨#[]⟩, .slice none 0 0] 33)).alloc (.cells #[.nilFunc, .func (.func 49) #[] #[], .func (.func 50) #[] #[], .func (.func 51) #[] #[], .func (.func 52) #[] #[]] 68)).drew
  obtain ⟨y, hy⟩ : ∃ y : SX, y = (.mk ⟨#[]⟩ (words [⟨#[100, 121, 110]⟩, s] ++ TypeX.sxL [])) := ⟨_, rfl⟩
  rw [← hy] at hC ⊢
  have HC := Lib.hid hC
  have HB := Lib.hid hb
  have HX := Lib.hid hx
  clear hC hb hx hy ih
  go_enter Tryz.func21, Tryz.ntmps21
  go_wp2
  go_region_law (first
    | (go_simp
       go_at_call 52
       refine HC.out.mono ?_
       intro e w6 hm
       obtain ⟨A, c, rfl, h6, hb6, hk6⟩ := hm.store HB.out HX.out
       have HE := Lib.hid hk6
       have r0 : w6.cell? ⟨w.heap.size + 1, 0, none⟩ = some (.string ⟨#[]⟩) := by rw [h6.cell]; rfl
       have r1 : w6.cell? ⟨w.heap.size + 1, 1, none⟩ = some (.slice none 0 0) := by rw [h6.cell]; rfl
       have rf0 := h6.frozen 0
       have rf1 := h6.frozen 1
       have rl := h6.lt
       clear hk6 hm h6))
  all_goals (
    go_wp2
    obtain ⟨e0, e1, e2⟩ := HE.out _ rfl
    exact bodyPost_ret (v := .agg #[.string y.atom, .slice A y.list.length c]) (by simp [results, Tryz.results21, go_sem, e0, e1]) rfl e2)

set_option maxRecDepth 100000 in
set_option maxHeartbeats 1000000 in
theorem encT0 (s : ByteArray) (A2 : Option Addr) (c2 : Nat) (w : World) :
    Calls Tryz.prog 21 #[.agg #[.int .i64 2, .string s, .slice A2 0 c2]] w (SxOwn (.mk s []) w) := by
  obtain ⟨hb, hx⟩ := encTable w 2 s [] A2 c2
  have hC := encCon0 s A2 c2 (((w.alloc (.cells #[.int .i64 2, .string s, .slice A2 0 c2] 26)).alloc (.cells #[.string ⟨#[]⟩, .slice none 0 0] 33)).alloc (.cells #[.nilFunc, .func (.func 49) #[] #[], .func (.func 50) #[] #[], .func (.func 51) #[] #[], .func (.func 52) #[] #[]] 68)).drew
  obtain ⟨y, hy⟩ : ∃ y : SX, y = (.mk s []) := ⟨_, rfl⟩
  rw [← hy] at hC ⊢
  have HC := Lib.hid hC
  have HB := Lib.hid hb
  have HX := Lib.hid hx
  clear hC hb hx hy
  go_enter Tryz.func21, Tryz.ntmps21
  go_wp2
  go_region_law (first
    | (go_simp
       go_at_call 50
       refine HC.out.mono ?_
       intro e w6 hm
       obtain ⟨A, c, rfl, h6, hb6, hk6⟩ := hm.store HB.out HX.out
       have HE := Lib.hid hk6
       have r0 : w6.cell? ⟨w.heap.size + 1, 0, none⟩ = some (.string ⟨#[]⟩) := by rw [h6.cell]; rfl
       have r1 : w6.cell? ⟨w.heap.size + 1, 1, none⟩ = some (.slice none 0 0) := by rw [h6.cell]; rfl
       have rf0 := h6.frozen 0
       have rf1 := h6.frozen 1
       have rl := h6.lt
       clear hk6 hm h6))
  all_goals (
    go_wp2
    obtain ⟨e0, e1, e2⟩ := HE.out _ rfl
    exact bodyPost_ret (v := .agg #[.string y.atom, .slice A y.list.length c]) (by simp [results, Tryz.results21, go_sem, e0, e1]) rfl e2)

theorem encode_step (N : Nat) (ih : EncX N) : EncX (N + 1) := by
  rintro ⟨k, s, l⟩ A2 c2 w hn hs hbr hk h2
  rw [TypeX.size] at hs
  rw [TypeX.brief] at hbr
  rw [TypeX.kinds] at hk
  have hnn := TypeX.nodes_eq (.mk k s l)
  have hn2 : DV.nodesL (TypeX.mk k s l).cells < N + 1 := hn
  simp only [TypeX.args_] at hnn
  clear hn
  obtain ⟨hsb, hbl⟩ := hbr
  obtain ⟨hk0, hkl⟩ := hk
  rcases hk0 with rfl | rfl | rfl | rfl
  · rw [sx_var]
    exact encT1 s l A2 c2 w hsb
  · cases l with
    | nil =>
      rw [sx_con]
      exact encT0 s A2 c2 w
    | cons x r =>
      rw [sx_list s (by decide) (by decide) (by simp) (by decide)]
      exact encT2 N ih s (x :: r) A2 c2 w (by omega) (by omega) hbl hkl h2 (by simp)
  · rw [sx_proj]
    exact encT3 N ih s l A2 c2 w (by omega) (by omega) hbl hkl h2
  · rw [sx_dyn]
    exact encT4 N ih s l A2 c2 w
theorem encodeAll : ∀ N, EncX N
  | 0 => fun _ _ _ _ h => absurd h (Nat.not_lt_zero _)
  | N + 1 => encode_step N (encodeAll N)
theorem encode (x : TypeX) (A2 : Option Addr) (c2 : Nat) (w : World) (hs : x.size ≤ 4294967296) (hbr : x.brief) (hk : x.kinds) (h2 : TypeRow w (Und w.heap.size) A2 c2 x.args_) : Calls Tryz.prog 21 #[.agg #[.int .i64 x.kind_, .string x.name_, .slice A2 x.args_.length c2]] w (SxOwn x.sx w) :=
  encodeAll _ x A2 c2 w (Nat.lt_succ_self _) hs hbr hk h2
end Go.Proofs.YtbcfeoobhemdcaaGreat

/- The program's CanonicalRenaming: each variable's binding at the place of its number, in whatever order the map is ranged over. -/
import Derived.Test.YtngbilblddngcaaDoorZCanNum
import Derived.Test.YtngbilblddngcaaDoorZSpCan
namespace Go.Proofs.YtngbilblddngcaaDoor
open Go.RowKit Go.Lib

/-- The bindings of all variables that are no longer to come stand at their places. -/
def CanDone (vs : List ByteArray) (todo : List (ByteArray × Value)) (cs : Array Value) : Prop :=
  ∀ (i : Nat) (s : ByteArray), vs[i]? = some s → (todo.any fun q => isN s q) = false → cs[i * 4]? = some (.string s) ∧ cs[i * 4 + 1]? = some (.int .i64 1) ∧ cs[i * 4 + 2]? = some (.string (canName i)) ∧ cs[i * 4 + 3]? = some (.slice none 0 0)
theorem canDone_start (vs : List ByteArray) (cs : Array Value) : CanDone vs (numF 0 vs) cs := fun i s h hn => by
  have hm : s ∈ (numF 0 vs).map (·.1) := by rw [numF_names]; exact List.mem_of_getElem? h
  obtain ⟨q, hq, e⟩ := List.mem_map.1 hm
  rw [show (numF 0 vs).any (fun q => isN s q) = true from List.any_eq_true.2 ⟨q, hq, by simp [isN, e]⟩] at hn
  cases hn
theorem canDone_step {vs : List ByteArray} (hnd : vs.Nodup) {todo : List (ByteArray × Value)} {cs : Array Value} (h : CanDone vs todo cs) (hcs : cs.size = vs.length * 4) {i : Nat} {s : ByteArray} (hi : vs[i]? = some s) :
    CanDone vs (todo.filter fun q => !isN s q) (setAt cs (i * 4) [.string s, .int .i64 1, .string (canName i), .slice none 0 0]) := by
  have hil := (List.getElem?_eq_some_iff.1 hi).1
  have h4 : i * 4 + 4 ≤ cs.size := by rw [hcs]; omega
  intro j t hj hn
  have hjl := (List.getElem?_eq_some_iff.1 hj).1
  have hj4 : j * 4 + 4 ≤ cs.size := by rw [hcs]; omega
  simp only [setAt, Array.getElem?_setIfInBounds, Array.size_setIfInBounds]
  by_cases e : i = j
  · subst e
    rw [hi] at hj
    injection hj with hj
    subst hj
    refine ⟨?_, ?_, ?_, ?_⟩
    · rw [if_neg (by omega), if_neg (by omega), if_neg (by omega), if_pos rfl, if_pos (by omega)]
    · rw [if_neg (by omega), if_neg (by omega), if_pos rfl, if_pos (by omega)]
    · rw [if_neg (by omega), if_pos rfl, if_pos (by omega)]
    · rw [if_pos rfl, if_pos (by omega)]
  · have hts : t ≠ s := fun ee => e (by
      have h1 := (List.getElem?_eq_some_iff.1 hi).2
      have h2 := (List.getElem?_eq_some_iff.1 hj).2
      exact (List.getElem_inj hnd).1 (h1.trans (ee.symm.trans h2.symm)))
    rw [any_filter, decide_eq_false hts, Bool.not_false, Bool.true_and] at hn
    obtain ⟨k0, k1, k2, k3⟩ := h j t hj hn
    have hne : i * 4 + 4 ≤ j * 4 ∨ j * 4 + 4 ≤ i * 4 := by omega
    refine ⟨?_, ?_, ?_, ?_⟩
    · rw [if_neg (by omega), if_neg (by omega), if_neg (by omega), if_neg (by omega)]; exact k0
    · rw [if_neg (by omega), if_neg (by omega), if_neg (by omega), if_neg (by omega)]; exact k1
    · rw [if_neg (by omega), if_neg (by omega), if_neg (by omega), if_neg (by omega)]; exact k2
    · rw [if_neg (by omega), if_neg (by omega), if_neg (by omega), if_neg (by omega)]; exact k3
theorem four_list {l : List Value} {n : Nat} (h : l.length = (n + 1) * 4) : ∃ a b c d r, l = a :: b :: c :: d :: r ∧ r.length = n * 4 := by
  match l, h with
  | a :: b :: c :: d :: r, h => exact ⟨a, b, c, d, r, rfl, by simp only [List.length_cons] at h; omega⟩
  | [], h => simp only [List.length_nil] at h; omega
  | [a], h => simp only [List.length_cons, List.length_nil] at h; omega
  | [a, b], h => simp only [List.length_cons, List.length_nil] at h; omega
  | [a, b, c], h => simp only [List.length_cons, List.length_nil] at h; omega
theorem canOwn {w : World} {B : Nat} : ∀ (vs : List ByteArray) (k : Nat) (l : List Value), l.length = vs.length * 4 →
    (∀ (i : Nat) (s : ByteArray), vs[i]? = some s → l[i * 4]? = some (.string s) ∧ l[i * 4 + 1]? = some (.int .i64 1) ∧ l[i * 4 + 2]? = some (.string (canName (k + i))) ∧ l[i * 4 + 3]? = some (.slice none 0 0)) → OwVE w B 4 (BindingX.rows (canBF k vs)) l []
  | [], k, l, hl, _ => by
    rw [List.length_nil, Nat.zero_mul] at hl
    rw [List.eq_nil_of_length_eq_zero hl]
    exact ⟨rfl, rfl⟩
  | v :: vs, k, l, hl, h => by
    obtain ⟨a, b, c, d, r, rfl, hr⟩ := four_list hl
    obtain ⟨h0, h1, h2, h3⟩ := h 0 v rfl
    simp only [Nat.zero_mul, Nat.zero_add, Nat.add_zero, List.getElem?_cons_zero, List.getElem?_cons_succ] at h0 h1 h2 h3
    injection h0 with h0
    injection h1 with h1
    injection h2 with h2
    injection h3 with h3
    subst h0 h1 h2 h3
    rw [canBF, BindingX.rows_map, List.map_cons, OwVE]
    refine ⟨[.string v, .int .i64 1, .string (canName k), .slice none 0 0], r, [], [], rfl, rfl, BindingX.cells_length _, ?_, ?_⟩
    · have hx := canV_own k w B
      rw [TypeX.cells_eq] at hx
      rw [BindingX.cells_eq, OwVs]
      exact ⟨_, _, [], [], rfl, rfl, by rw [OwV]; exact ⟨rfl, rfl⟩, hx⟩
    · have ih := canOwn (w := w) (B := B) vs (k + 1) r hr fun i s hi => by
        obtain ⟨k0, k1, k2, k3⟩ := h (i + 1) s hi
        rw [show (i + 1) * 4 = i * 4 + 4 by omega] at k0 k1 k2 k3
        rw [show i * 4 + 4 + 1 = (i * 4 + 1) + 4 by omega] at k1
        rw [show i * 4 + 4 + 2 = (i * 4 + 2) + 4 by omega, show k + (i + 1) = k + 1 + i by omega] at k2
        rw [show i * 4 + 4 + 3 = (i * 4 + 3) + 4 by omega] at k3
        simp only [List.getElem?_cons_succ] at k0 k1 k2 k3
        exact ⟨k0, k1, k2, k3⟩
      rw [BindingX.rows_map] at ih
      exact ih

section
variable {P : Program} (w : World) {ops : Array Oper} {rest : List Oper} {o : Oper} {a : Act} {Q : Exit → Act → World → Prop}
/-- The step of a range over the numbers. -/
theorem wpList_next_n (hg : o.guard = none) (it : Operand) (hop : o.op = Op.next it false) (b r : Nat) (l todo : List (ByteArray × Value)) (vs : List ByteArray) (hsub : ∀ q ∈ todo, q ∈ numF 0 vs) (hit : a.eval it = .pointer (some ⟨r, 0, none⟩)) (h : RngS w b r l todo)
    (hDone : todo = [] → wpList P ops Q rest (a.put o.dst (.tuple #[.bool false])) w)
    (hMore : ∀ (s : ByteArray) (i : Nat) (w' : World), (s, .int .i64 (i : Nat)) ∈ todo → i < vs.length → vs[i]? = some s → RngS w' b r l (todo.filter fun q => !isN s q) → w.grownBy w' (some r) → w'.heap.size = w.heap.size →
      (Instr.entry (.pointer (some ⟨r, 0, none⟩))).run P w' = .ok (.tuple #[.string s, .int .i64 (i : Nat)]) w' → wpList P ops Q rest (a.put o.dst (.tuple #[.bool true, .string s, .int .i64 (i : Nat)])) w') :
    wpList P ops Q (o :: rest) a w :=
  wpList_next_s w hg it hop b r l todo hit h hDone fun s v w' hin hrg hgr hsz hen => by
    obtain ⟨i, h1, h2, rfl⟩ := numF_mem (hsub _ hin)
    rw [Nat.zero_add] at *
    exact hMore s i w' hin h1 h2 hrg hgr hsz hen
end
theorem todo_less {s : ByteArray} {v : Value} {todo : List (ByteArray × Value)} (h : (s, v) ∈ todo) : (todo.filter fun q => !isN s q).length < todo.length := by
  refine List.length_filter_lt_length_iff_exists.2 ⟨(s, v), h, ?_⟩
  simp [isN]
theorem RngS.left_eq {w : World} {b r : Nat} {l todo : List (ByteArray × Value)} (h : RngS w b r l todo) : w.rangeLeft b r = todo.length := by
  obtain ⟨es, clk, since, seen, c0, hb, _, _, hr, _, _, _, hto⟩ := h
  simp only [World.rangeLeft, hb, hr]
  rw [← hto.length, ← left_list, Array.length_toList]

set_option maxRecDepth 100000 in
set_option maxHeartbeats 4000000 in
theorem implCanRen (l : List TypeX) (A : Option Addr) (c : Nat) (w : World) (hp : Pow w) (hsz : TypeX.sizeL l ≤ 4294967200) (hv : TypeRow w (Und w.heap.size) A c l) :
    Calls Tryd.prog 19 #[.slice A l.length c] w (MadeR (.row 58 4 (BindingX.rows (canB (varsOf l)))) w) := by
  have hnum := implNumbers l A c w hsz hv
  have hvl := varsOf_len l
  have hnd := varsOf_nodup l
  obtain ⟨vs, hvs⟩ : ∃ vs, vs = varsOf l := ⟨_, rfl⟩
  rw [← hvs] at hnum hvl hnd ⊢
  have hvl2 : vs.length ≤ 4294967296 := by omega
  obtain ⟨i0, hi, hz0, hz1, hz2⟩ := info_parts infoBd
  have km := fun (w : World) => run_make (P := Tryd.prog) w 33 58 i0 (.agg #[.string ByteArray.empty, .int .i64 0, .string ByteArray.empty, .slice none 0 0]) Tryd.underlying33 hi hz0 .i64 .i64 (vs.length : Int) (vs.length : Int) (by omega) (by omega) (by rw [hz2]; omega) (by omega)
  simp only [Int.toNat_natCast, hz1] at km
  have hms : (madeCells (Value.agg #[.string ByteArray.empty, .int .i64 0, .string ByteArray.empty, .slice none 0 0]).cells (vs.length * 4)).size = vs.length * 4 := size_madeCells _ _
  generalize madeCells (Value.agg #[.string ByteArray.empty, .int .i64 0, .string ByteArray.empty, .slice none 0 0]).cells (vs.length * 4) = cs0 at *
  have HN := Lib.hid hnum
  have HM := Lib.hid hms
  have HND := Lib.hid hnd
  have HP := Lib.hid hp
  clear hv hms hi hz0 hz1 hz2 hnum hvs hvl hsz hnd hp
  go_enter Tryd.func19, Tryd.ntmps19
  go_wp2_with fail
  refine HN.out.mono ?_
  rintro e w1 ⟨rfl, hm1, hb1, hlt1⟩
  have hlm := fun ty => run_len_map (P := Tryd.prog) hm1.at_ Tryd.underlying67 ty
  rw [numF_length] at hlm
  have hs1 := hb1.size
  have hm2 : MapS (w1.alloc (.cells cs0 58)) w.heap.size (numF 0 vs) := hm1.same (Below.heap_alloc _ _ _ hlt1)
  have hc2 := Whole.new w1 58 cs0
  have HM2 := Lib.hid hm2
  have HC2 := Lib.hid hc2
  have HB1 := Lib.hid hb1
  clear hm1 hm2 hc2 hb1
  go_wp2_with (first
    | (at_range; refine wpList_range_s _ rfl _ 67 rfl _ _ Tryd.underlying67 w.heap.size (numF 0 vs) rfl HM2.out (w1.heap.size + 1) (by simp) ?_; intro w2 hrg hg hs)
    | go_in)
  go_frame
  have hb2 : Below w1.heap.size w1 w2 := ((Below.refl _ _).alloc (Nat.le_refl _) _).grown hg (by simp) (fun k e => by cases e)
  have hw2 : Whole w2 w1.heap.size 58 cs0 := (hg.block _ HC2.out.lt (by simp)).trans HC2.out
  have HRG := Lib.hid hrg
  clear hrg hg
  go_loopw [5, 6] (fun _ _ wr => ∃ (todo : List (ByteArray × Value)) (cs : Array Value), RngS wr w.heap.size (w1.heap.size + 1) (numF 0 vs) todo ∧ (∀ q ∈ todo, q ∈ numF 0 vs) ∧ Whole wr w1.heap.size 58 cs ∧ cs.size = vs.length * 4 ∧ CanDone vs todo cs ∧ Below w1.heap.size w1 wr ∧ w1.heap.size + 1 < wr.heap.size) (fun _ _ wr => wr.rangeLeft w.heap.size (w1.heap.size + 1))
  case atStart => exact ⟨_, cs0, HRG.out, fun _ h => h, hw2, HM.out, canDone_start _ _, hb2, by omega⟩
  case round =>
    obtain ⟨todo, cs, hrg, hsub, hwr, hcs, hdone, hb, hsz⟩ := hrel
    have HR := Lib.hid hrg
    have HSUB := Lib.hid hsub
    have HWR := Lib.hid hwr
    have HD := Lib.hid hdone
    have HB := Lib.hid hb
    clear hrg hsub hwr hdone hb hw2 hb2
    go_wp2_with (first
      | (at_next; refine wpList_next_n _ rfl _ rfl w.heap.size (w1.heap.size + 1) (numF 0 vs) todo vs HSUB.out rfl HR.out ?_ ?_)
      | go_in)
    · intro h0
      have hfull : OwVE wr (w1.heap.size + 1) 4 (BindingX.rows (canB vs)) cs.toList [] := canOwn vs 0 cs.toList (by rw [Array.length_toList, hcs]) fun i s hi => by
        rw [Nat.zero_add]
        simp only [Array.getElem?_toList]
        exact HD.out i s hi (by rw [h0]; rfl)
      have hfin := OwV_filled (n := vs.length) HWR.out hcs (by unfold maxLen; omega) (by rw [BindingX.rows_length, canB_length]) hfull List.nodup_nil
      have hfin1 := OwV_wide (B' := w.heap.size) hs1 _ hfin.1
      have HF1 := Lib.hid hfin1
      have HF2 := Lib.hid hfin.2
      have HBB := Lib.hid (HB1.out.trans (HB.out.mono hs1))
      clear hfull hfin hfin1
      go_wp2
      go_ret
      exact ⟨_, _, rfl, HF1.out, HF2.out, HBB.out⟩
    · intro s i w3 hin hil hi hrg3 hg3 hs3 hen
      have hb3 : Below w1.heap.size w1 w3 := HB.out.grown hg3 HB.out.size (fun k e => by injection e with e; omega)
      have hp3 : Pow w3 := HP.out.below (HB1.out.trans (hb3.mono hs1))
      have hw3 : Whole w3 w1.heap.size 58 cs := (hg3.block _ HWR.out.lt (by intro e; injection e with e; omega)).trans HWR.out
      have HIN := Lib.hid hin
      have HI := Lib.hid hi
      have HR3 := Lib.hid hrg3
      have HB3 := Lib.hid hb3
      have HW3 := Lib.hid hw3
      have HNM := Lib.hid (implCanName i w3 (by omega) hp3)
      clear hin hi hrg3 hg3 hb3 hp3 hw3
      go_wp2_with fail
      refine HNM.out.mono ?_
      rintro e w4 ⟨rfl, hb4⟩
      have hw4 := HW3.out.below hb4 HW3.out.lt
      have hbl := HR3.out.map_.lt
      have hrl := HR3.out.lt
      have hr4 : RngS w4 w.heap.size (w1.heap.size + 1) (numF 0 vs) (todo.filter fun q => !isN s q) := HR3.out.same (hb4.block _ hbl) (hb4.block _ hrl)
      have hb5 := HB3.out.trans (hb4.mono HB3.out.size)
      have hs4 := hb4.size
      obtain ⟨d0, e0⟩ : ∃ v, w4.cell? ⟨w1.heap.size, i * 4, none⟩ = some v := by rw [hw4.cell]; exact ⟨_, Array.getElem?_eq_getElem (by omega)⟩
      obtain ⟨d1, e1⟩ : ∃ v, w4.cell? ⟨w1.heap.size, i * 4 + 1, none⟩ = some v := by rw [hw4.cell]; exact ⟨_, Array.getElem?_eq_getElem (by omega)⟩
      obtain ⟨d2, e2⟩ : ∃ v, w4.cell? ⟨w1.heap.size, i * 4 + 2, none⟩ = some v := by rw [hw4.cell]; exact ⟨_, Array.getElem?_eq_getElem (by omega)⟩
      obtain ⟨d3, e3⟩ : ∃ v, w4.cell? ⟨w1.heap.size, i * 4 + 3, none⟩ = some v := by rw [hw4.cell]; exact ⟨_, Array.getElem?_eq_getElem (by omega)⟩
      have f0 := hw4.frozen (i * 4)
      have f1 := hw4.frozen (i * 4 + 1)
      have f2 := hw4.frozen (i * 4 + 2)
      have f3 := hw4.frozen (i * 4 + 3)
      have hi0 : (0 : Int) ≤ (i : Int) := Int.natCast_nonneg _
      have hi1 : (i : Int) < (vs.length : Int) := by omega
      have hwl := hw4.lt
      have hrl4 := hr4.lt
      have hne0 : w.heap.size ≠ w1.heap.size := by omega
      have hne1 : w1.heap.size + 1 ≠ w1.heap.size := by omega
      have HW4 := Lib.hid hw4
      have HR4 := Lib.hid hr4
      have HB5 := Lib.hid hb5
      clear hw4 hr4 hb5 hb4 hen
      go_wp2
      go_roundw
      case rel =>
        refine ⟨_, setAt cs (i * 4) [.string s, .int .i64 1, .string (canName i), .slice none 0 0], HR4.out.same ?_ ?_, fun q hq => HSUB.out q (List.mem_filter.1 hq).1, ((((HW4.out.set_ _ _).set_ _ _).set_ _ _).set_ _ _), by rw [setAt_size]; exact hcs, canDone_step HND.out HD.out hcs HI.out, ((((HB5.out.setCell (Nat.le_refl _) _).setCell (Nat.le_refl _) _).setCell (Nat.le_refl _) _).setCell (Nat.le_refl _) _), ?_⟩
        · rw [Below.heap_setCell _ _ _ _ (by exact hne0), Below.heap_setCell _ _ _ _ (by exact hne0), Below.heap_setCell _ _ _ _ (by exact hne0), Below.heap_setCell _ _ _ _ (by exact hne0)]
        · rw [Below.heap_setCell _ _ _ _ (by exact hne1), Below.heap_setCell _ _ _ _ (by exact hne1), Below.heap_setCell _ _ _ _ (by exact hne1), Below.heap_setCell _ _ _ _ (by exact hne1)]
        · simpa [World.setCell] using hrl4
      case measure =>
        rw [RngS.left_eq (HR4.out.same (w' := (((w4.setCell ⟨w1.heap.size, i * 4, none⟩ (.string s)).setCell ⟨w1.heap.size, i * 4 + 1, none⟩ (.int .i64 1)).setCell ⟨w1.heap.size, i * 4 + 2, none⟩ (.string (canName i))).setCell ⟨w1.heap.size, i * 4 + 3, none⟩ (.slice none 0 0))
          (by rw [Below.heap_setCell _ _ _ _ (by exact hne0), Below.heap_setCell _ _ _ _ (by exact hne0), Below.heap_setCell _ _ _ _ (by exact hne0), Below.heap_setCell _ _ _ _ (by exact hne0)])
          (by rw [Below.heap_setCell _ _ _ _ (by exact hne1), Below.heap_setCell _ _ _ _ (by exact hne1), Below.heap_setCell _ _ _ _ (by exact hne1), Below.heap_setCell _ _ _ _ (by exact hne1)])), RngS.left_eq HR.out]
        exact todo_less HIN.out
end Go.Proofs.YtngbilblddngcaaDoor

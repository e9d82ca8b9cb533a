/- The program's CanonicalizeAll: the numbers that say what is so already struck, in whatever order; then each type renumbered. -/
import Derived.Test.YtngbilblddngcaaDoorZCanRenI
import Derived.Test.YtngbilblddngcaaDoorZRenumI
namespace Go.Proofs.YtngbilblddngcaaDoor
open Go.RowKit Go.Lib

theorem renL_at (g : ByteArray → ByteArray) (l : List TypeX) (k : Nat) (h : k < l.length) (h' : k < (TypeX.renL g l).length) : (TypeX.renL g l)[k] = l[k].ren g := by simp [TypeX.renL_map]
theorem renL_length (g : ByteArray → ByteArray) (l : List TypeX) : (TypeX.renL g l).length = l.length := by rw [TypeX.renL_map, List.length_map]

theorem isCan_of {s : ByteArray} {i : Nat} (h : s = canName i) : isCan (s, .int .i64 (i : Nat)) = true := by
  show decide (s = canName ((i : Nat) : Int).toNat) = true
  rw [Int.toNat_natCast, decide_eq_true h]
theorem isCan_not {s : ByteArray} {i : Nat} (h : ¬ s = canName i) : isCan (s, .int .i64 (i : Nat)) = false := by
  show decide (s = canName ((i : Nat) : Int).toNat) = false
  rw [Int.toNat_natCast, decide_eq_false h]

set_option maxRecDepth 100000 in
set_option maxHeartbeats 8000000 in
theorem implCanAll (xs : List TypeX) (D : Option Addr) (d : Nat) (w : World) (hp : Pow w) (hx : TypeX.sizeL xs ≤ 4294967200) (hv : TypeRow w (Und w.heap.size) D d xs) :
    Calls Tryd.prog 32 #[.slice D xs.length d] w (MadeR (.row 26 3 (TypeX.rows (TypeX.renL (newN (varsOf xs)) xs))) w) := by
  have hnum := implNumbers xs D d w hx hv
  have hvl := varsOf_len xs
  have hnd := varsOf_nodup xs
  have hlen := sizeL_length xs
  obtain ⟨vs, hvs⟩ : ∃ vs, vs = varsOf xs := ⟨_, rfl⟩
  rw [← hvs] at hnum hvl hnd ⊢
  have hvl2 : vs.length ≤ 4294967296 := by omega
  obtain ⟨i0, hi, hz0, hz1, hz2⟩ := info_parts infoTy
  have km := fun (w : World) => run_make (P := Tryd.prog) w 24 26 i0 (.agg #[.int .i64 0, .string ByteArray.empty, .slice none 0 0]) Tryd.underlying24 hi hz0 .i64 .i64 (xs.length : Int) (xs.length : Int) (by omega) (by omega) (by rw [hz2]; omega) (by omega)
  simp only [Int.toNat_natCast, hz1] at km
  have hms : (madeCells (Value.agg #[.int .i64 0, .string ByteArray.empty, .slice none 0 0]).cells (xs.length * 3)).size = xs.length * 3 := size_madeCells _ _
  generalize madeCells (Value.agg #[.int .i64 0, .string ByteArray.empty, .slice none 0 0]).cells (xs.length * 3) = cs0 at *
  have HN := Lib.hid hnum
  have HV := Lib.hid hv
  have HM := Lib.hid hms
  have HX := Lib.hid hx
  have HND := Lib.hid hnd
  have HP := Lib.hid hp
  have KM := Lib.hid km
  clear hv hms hi hz0 hz1 hz2 hx hnum hvs hvl hnd hp km
  go_enter Tryd.func32, Tryd.ntmps32
  go_wp2_with fail
  refine HN.out.mono ?_
  rintro e w1 ⟨rfl, hm1, hb1, hlt1⟩
  have HM1 := Lib.hid hm1
  have HB1 := Lib.hid hb1
  have hs1 := hb1.size
  clear hm1 hb1
  go_wp2_with (first
    | (at_range; refine wpList_range_s _ rfl _ 67 rfl _ _ Tryd.underlying67 w.heap.size (numF 0 vs) rfl HM1.out w1.heap.size rfl ?_; intro w2 hrg hg hs)
    | go_in)
  go_frame
  have hb2 : Below w.heap.size w w2 := HB1.out.grown hg hs1 (fun k e => by cases e)
  have HRG := Lib.hid hrg
  clear hrg hg
  go_loopw [4, 5] (fun _ _ wr => ∃ todo : List (ByteArray × Value), RngS wr w.heap.size w1.heap.size (canL vs todo) todo ∧ (∀ q ∈ todo, q ∈ numF 0 vs) ∧ Below w.heap.size w wr) (fun _ _ wr => wr.rangeLeft w.heap.size w1.heap.size)
  case atStart => exact ⟨numF 0 vs, by rw [canL_start]; exact HRG.out, fun _ h => h, hb2⟩
  case round =>
    obtain ⟨todo, hrg, hsub, hb⟩ := hrel
    have HR := Lib.hid hrg
    have HSUB := Lib.hid hsub
    have HB := Lib.hid hb
    clear hrg hsub hb hb2
    go_wp2_with (first
      | (at_next; refine wpList_next_n _ rfl _ rfl w.heap.size w1.heap.size (canL vs todo) todo vs HSUB.out rfl HR.out ?_ ?_)
      | go_in)
    · intro h0
      have hmap := HR.out.map_
      rw [h0] at hmap
      have HMAP := Lib.hid hmap
      have hmlt := hmap.lt
      have HBM := Lib.hid HB.out
      rename World => wm
      clear hmap HR HSUB HB
      have km := KM.out
      go_wp2
      clear km
      have hb0 : Below w.heap.size w (wm.alloc (.cells cs0 26)) := HBM.out.alloc HBM.out.size _
      have hbq : Below wm.heap.size wm (wm.alloc (.cells cs0 26)) := (Below.refl _ _).alloc (Nat.le_refl _) _
      have hw0 := Whole.new wm 26 cs0
      go_loopw [29] (fun iv wr => ∃ (k : Nat) (cs : Array Value) (bs : List Nat), k ≤ xs.length ∧ iv = .int .i64 k ∧ Whole wr wm.heap.size 26 cs ∧ cs.size = xs.length * 3 ∧ OwVE wr (wm.heap.size + 1) 3 (TypeX.rows ((TypeX.renL (newN vs) xs).take k)) (cs.toList.take (k * 3)) bs ∧ bs.Nodup ∧ Below wm.heap.size wm wr) (fun iv _ => xs.length - (Go.RowKit.intOf iv).toNat)
      case atStart => exact ⟨0, cs0, [], Nat.zero_le _, rfl, hw0, HM.out, by rw [List.take_zero, TypeX.rows_map, List.map_nil, Nat.zero_mul, List.take_zero, OwVE]; exact ⟨rfl, rfl⟩, List.nodup_nil, hbq⟩
      case round =>
        obtain ⟨k, cs, bs, hk, rfl, hwr, hcs, hE, hnd, hb⟩ := hrel
        clear hw0 hb0 hbq
        have hbw : Below w.heap.size w wr := HBM.out.trans (hb.mono HBM.out.size)
        by_cases hlt : k < xs.length
        · have hlt' : k < (TypeX.renL (newN vs) xs).length := by rw [renL_length]; exact hlt
          obtain ⟨b, o, A2, c2, rfl, hP, p0, p1, p2, h2⟩ := (HV.out.grow hbw).at_ hlt
          have hxk : xs[k].size ≤ 4294967296 := by have := TypeX.sizeL_at xs k hlt; have := HX.out; omega
          obtain ⟨wb, hwb⟩ : ∃ wb, wb = wr.alloc (.cells #[.int .i64 xs[k].kind_, .string xs[k].name_, .slice A2 xs[k].args_.length c2] 26) := ⟨_, rfl⟩
          have hbb : Below wr.heap.size wr wb := by rw [hwb]; exact (Below.refl _ _).alloc (Nat.le_refl _) _
          have hbx : Whole wb wr.heap.size 26 #[.int .i64 xs[k].kind_, .string xs[k].name_, .slice A2 xs[k].args_.length c2] := by rw [hwb]; exact Whole.new _ _ _
          have hsb : wb.heap.size = wr.heap.size + 1 := by rw [hwb]; simp
          have hmb : w.heap.size < wb.heap.size := by have := hb.size; omega
          have hbmb : Below wm.heap.size wm wb := hb.trans (hbb.mono hb.size)
          have hcall := implRenum vs w.heap.size xs[k] A2 c2 wb HND.out hvl2 hxk (h2.grow hbb) (mapS_below HMAP.out hbmb hmlt) (HP.out.below (HBM.out.trans (hbmb.mono HBM.out.size)))
          have HC := Lib.hid hcall
          have HWB := Lib.hid hwb.symm
          have HE := Lib.hid (OwVE_frame _ (fun b hm => hbb.block b (OwVE_lt _ hE b hm).2) hE)
          have HND := Lib.hid hnd
          have HWR := Lib.hid (hwr.below hbb hwr.lt)
          have HBX := Lib.hid hbx
          have HBB := Lib.hid hbmb
          have hwl := hwr.lt
          clear h2 hE hnd hwr hbx hcall hwb hbb hbw hP hbmb
          go_upto_region 11 with (fail)
          rw [HWB.out]
          obtain ⟨x0, x1, x2⟩ := cells3 HBX.out
          go_wp2_with fail
          refine HC.out.mono ?_
          rintro e w1 ⟨vs9, b2, rfl, ho2, hn2, hb1⟩
          have hcell := TypeX.cells_length (xs[k].ren (newN vs))
          have hw1 := HWR.out.below hb1 HWR.out.lt
          have hfill := fun (w2 : World) (h2 : ∀ b, b ≠ wm.heap.size → w2.heap[b]? = w1.heap[b]?) => OwVE_fill HE.out HND.out hb1 HWR.out.lt ho2 hn2 hcell (by have : (k + 1) * 3 ≤ xs.length * 3 := Nat.mul_le_mul_right _ hlt; omega) h2
          have ho3 := ho2
          rw [TypeX.cells_eq] at ho3
          simp only [OwVs] at ho3
          obtain ⟨v0, _, z0, _, rfl, rfl, k0, v1, _, z1, _, rfl, rfl, k1, v2, _, z2, _, rfl, rfl, k2, rfl, rfl⟩ := ho3
          rw [OwV] at k0
          obtain ⟨rfl, rfl⟩ := k0
          rw [OwV] at k1
          obtain ⟨rfl, rfl⟩ := k1
          obtain ⟨V2, C2, rfl⟩ := OwV_shape k2 (TypeX.rows_length _)
          obtain ⟨d0, e0⟩ : ∃ v, w1.cell? ⟨wm.heap.size, k * 3, none⟩ = some v := by rw [hw1.cell]; exact ⟨_, Array.getElem?_eq_getElem (by have : (k + 1) * 3 ≤ xs.length * 3 := Nat.mul_le_mul_right _ hlt; omega)⟩
          have f0 := hw1.frozen (k * 3)
          obtain ⟨d1, e1⟩ : ∃ v, w1.cell? ⟨wm.heap.size, k * 3 + 1, none⟩ = some v := by rw [hw1.cell]; exact ⟨_, Array.getElem?_eq_getElem (by have : (k + 1) * 3 ≤ xs.length * 3 := Nat.mul_le_mul_right _ hlt; omega)⟩
          have f1 := hw1.frozen (k * 3 + 1)
          obtain ⟨d2, e2⟩ : ∃ v, w1.cell? ⟨wm.heap.size, k * 3 + 2, none⟩ = some v := by rw [hw1.cell]; exact ⟨_, Array.getElem?_eq_getElem (by have : (k + 1) * 3 ≤ xs.length * 3 := Nat.mul_le_mul_right _ hlt; omega)⟩
          have f2 := hw1.frozen (k * 3 + 2)
          have HF := Lib.hid hfill
          have hb2 : Below wm.heap.size wm w1 := HBB.out.trans (hb1.mono HBB.out.size)
          have hkb : (k : Int) ≤ 4294967296 := by have := HX.out; omega
          clear hfill ho2 hn2 hcell k2 x0 x1 x2 hb1
          go_wp2
          go_roundw
          case rel =>
            have hfin := HF.out (((w1.setCell ⟨wm.heap.size, k * 3, none⟩ (.int .i64 (xs[k].ren (newN vs)).kind_)).setCell ⟨wm.heap.size, k * 3 + 1, none⟩ (.string (xs[k].ren (newN vs)).name_)).setCell ⟨wm.heap.size, k * 3 + 2, none⟩ (.slice V2 (xs[k].ren (newN vs)).args_.length C2)) (fun b hne => by rw [Below.heap_setCell _ _ _ _ (by exact hne), Below.heap_setCell _ _ _ _ (by exact hne), Below.heap_setCell _ _ _ _ (by exact hne)])
            exact ⟨k + 1, _, _, by omega, by go_num, show Whole _ _ _ (setAt cs (k * 3) [.int .i64 (xs[k].ren (newN vs)).kind_, .string (xs[k].ren (newN vs)).name_, .slice V2 (xs[k].ren (newN vs)).args_.length C2]) from (((hw1.set_ _ _).set_ _ _).set_ _ _), by rw [setAt_size]; exact hcs, by rw [List.take_succ_eq_append_getElem hlt', renL_at _ _ _ hlt, TypeX.rows_snoc]; exact hfin.1, hfin.2, (((hb2.setCell (Nat.le_refl _) _).setCell (Nat.le_refl _) _).setCell (Nat.le_refl _) _)⟩
          case measure => simp [Go.RowKit.intOf]; omega
        · have hkl : k = xs.length := by omega
          subst hkl
          rw [List.take_of_length_le (by rw [renL_length]; exact Nat.le_refl _), List.take_of_length_le (by simp [hcs])] at hE
          have hfin := OwV_filled hwr hcs (by have := HX.out; unfold maxLen; omega) (by rw [TypeX.rows_length, renL_length]) hE hnd
          have hfin1 := OwV_wide (B' := w.heap.size) (by have := HBM.out.size; omega) _ hfin.1
          have HF1 := Lib.hid hfin1
          have HF2 := Lib.hid hfin.2
          clear hE hnd hfin hfin1
          go_wp2
          go_ret
          exact ⟨_, _, rfl, HF1.out, HF2.out, hbw⟩
    · intro s i w3 hin hil hi hrg3 hg3 hs3 hen
      have hrl3 := hrg3.lt
      have hb3 : Below w.heap.size w w3 := HB.out.grown hg3 HB.out.size (fun k e => by injection e with e; omega)
      have HNM := Lib.hid (implCanName i w3 (by omega) (HP.out.below hb3))
      have hmem := HSUB.out _ hin
      have HIN := Lib.hid hin
      have HMEM := Lib.hid hmem
      have HR3 := Lib.hid hrg3
      have HB3 := Lib.hid hb3
      clear hin hi hrg3 hg3 hb3 hmem
      go_wp2_with fail
      refine HNM.out.mono ?_
      rintro e w4 ⟨rfl, hb4⟩
      have hr4 : RngS w4 w.heap.size w1.heap.size (canL vs todo) (todo.filter fun q => !isN s q) := HR3.out.same (hb4.block _ HR3.out.map_.lt) (hb4.block _ hrl3)
      have hb5 := HB3.out.trans (hb4.mono HB3.out.size)
      have HR4 := Lib.hid hr4
      have HB5 := Lib.hid hb5
      have hsub4 : ∀ q ∈ todo.filter fun q => !isN s q, q ∈ numF 0 vs := fun q hq => HSUB.out q (List.mem_filter.1 hq).1
      have HS4 := Lib.hid hsub4
      clear hr4 hb5 hb4 hen hsub4
      cases hc : (s.toList == (canName i).toList) with
      | true =>
        have hcan : isCan (s, .int .i64 (i : Nat)) = true := isCan_of (by rw [beq_iff_eq, ByteArray.toList_eq, ByteArray.toList_eq] at hc; exact data_inj hc)
        have HCAN := Lib.hid hcan
        clear hcan
        go_wp2_with (first
          | (at_delete; refine wpList_delete_s _ rfl _ _ 67 9 rfl _ Tryd.underlying67 Tryd.underlying9 w.heap.size w1.heap.size (canL vs todo) _ rfl HR4.out s rfl ?_; intro w6 hrg6 hg6 hs6; go_frame)
          | go_in)
        rw [canL_struck HND.out HMEM.out HCAN.out, filter_twice] at hrg6
        have hb6 : Below w.heap.size w w6 := HB5.out.grown hg6 HB5.out.size (fun k e => by injection e with e; omega)
        have HR6 := Lib.hid hrg6
        clear hrg6 hg6
        go_roundw
        case rel => exact ⟨_, HR6.out, HS4.out, hb6⟩
        case measure => rw [RngS.left_eq HR6.out, RngS.left_eq HR.out]; exact todo_less HIN.out
      | false =>
        have hcan : isCan (s, .int .i64 (i : Nat)) = false := isCan_not (fun e => by rw [e, beq_self_eq_true] at hc; cases hc)
        have hr4 := HR4.out
        rw [canL_stays HND.out HMEM.out hcan] at hr4
        have HR6 := Lib.hid hr4
        clear hcan hr4
        go_wp2
        go_roundw
        case rel => exact ⟨_, HR6.out, HS4.out, HB5.out⟩
        case measure => rw [RngS.left_eq HR6.out, RngS.left_eq HR.out]; exact todo_less HIN.out
end Go.Proofs.YtngbilblddngcaaDoor

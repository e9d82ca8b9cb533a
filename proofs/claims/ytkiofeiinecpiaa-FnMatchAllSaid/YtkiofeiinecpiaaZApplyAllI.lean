/- The program's ApplyAll. -/
import Derived.Test.YtkiofeiinecpiaaZApplyI
import Derived.Test.YtkiofeiinecpiaaQ2
namespace Go.Proofs.Ytkiofeiinecpiaa
open Go.RowKit Go.Lib

theorem subL_at (f : ByteArray → Option TypeX) (l : List TypeX) (k : Nat) (h : k < l.length) (h' : k < (TypeX.subL f l).length) : (TypeX.subL f l)[k] = l[k].sub f := by simp [TypeX.subL_map]

set_option maxRecDepth 100000 in
set_option maxHeartbeats 4000000 in
theorem implApplyAll (l : List BindingX) (A : Option Addr) (c : Nat) (xs : List TypeX) (D : Option Addr) (d : Nat) (w : World) (hx : TypeX.sizeL xs ≤ 4294967296) (hl : SmallX l) (hA : BindingRow w (Und w.heap.size) A c l) (hv : TypeRow w (Und w.heap.size) D d xs) :
    Calls Try.prog 28 #[.slice A l.length c, .slice D xs.length d] w (MadeR (.row 26 3 (TypeX.rows (TypeX.subL (subX l) xs))) w) := by
  have hlen := sizeL_length xs
  obtain ⟨i0, hi, hz0, hz1, hz2⟩ := info_parts infoTy
  have km := fun (w : World) => run_make (P := Try.prog) w 24 26 i0 (.agg #[.int .i64 0, .string ByteArray.empty, .slice none 0 0]) Try.underlying24 hi hz0 .i64 .i64 (xs.length : Int) (xs.length : Int) (by omega) (by omega) (by rw [hz2]; omega) (by omega)
  simp only [Int.toNat_natCast, hz1] at km
  have hms : (madeCells (Value.agg #[.int .i64 0, .string ByteArray.empty, .slice none 0 0]).cells (xs.length * 3)).size = xs.length * 3 := size_madeCells _ _
  generalize madeCells (Value.agg #[.int .i64 0, .string ByteArray.empty, .slice none 0 0]).cells (xs.length * 3) = cs0 at *
  have HA := Lib.hid hA
  have HV := Lib.hid hv
  have HM := Lib.hid hms
  have HX := Lib.hid hx
  have HL := Lib.hid hl
  clear hA hv hms hi hz0 hz1 hz2 hx hl
  go_enter Try.func28, Try.ntmps28
  go_wp2_with fail
  refine (implSubstOf l A c w HA.out).mono ?_
  rintro e wm ⟨rfl, hsub, hbm⟩
  have HSUB := Lib.hid hsub
  have hmlt := SubstAt.lt hsub
  clear hsub
  go_wp2
  clear km
  have hb0 : Below w.heap.size w (wm.alloc (.cells cs0 26)) := hbm.alloc hbm.size _
  have hbq : Below wm.heap.size wm (wm.alloc (.cells cs0 26)) := (Below.refl _ _).alloc (Nat.le_refl _) _
  have hw0 := Whole.new wm 26 cs0
  go_loopw [16] (fun iv wr => ∃ (k : Nat) (cs : Array Value) (bs : List Nat), k ≤ xs.length ∧ iv = .int .i64 k ∧ Whole wr wm.heap.size 26 cs ∧ cs.size = xs.length * 3 ∧ OwVE wr (wm.heap.size + 1) 3 (TypeX.rows ((TypeX.subL (subX l) xs).take k)) (cs.toList.take (k * 3)) bs ∧ bs.Nodup ∧ Below wm.heap.size wm wr) (fun iv _ => xs.length - (Go.RowKit.intOf iv).toNat)
  case atStart => exact ⟨0, cs0, [], Nat.zero_le _, rfl, hw0, HM.out, by rw [List.take_zero, TypeX.rows_map, List.map_nil, Nat.zero_mul, List.take_zero, OwVE]; exact ⟨rfl, rfl⟩, List.nodup_nil, hbq⟩
  case round =>
    obtain ⟨k, cs, bs, hk, rfl, hwr, hcs, hE, hnd, hb⟩ := hrel
    clear hw0 hb0 hbq
    have hbw : Below w.heap.size w wr := hbm.trans (hb.mono hbm.size)
    by_cases hlt : k < xs.length
    · have hlt' : k < (TypeX.subL (subX l) xs).length := by rw [TypeX.subL_length]; exact hlt
      obtain ⟨b, o, A2, c2, rfl, hP, p0, p1, p2, h2⟩ := (HV.out.grow hbw).at_ hlt
      have hxk : xs[k].size ≤ 4294967296 := by have := TypeX.sizeL_at xs k hlt; have := HX.out; omega
      obtain ⟨wb, hwb⟩ : ∃ wb, wb = wr.alloc (.cells #[.int .i64 xs[k].kind_, .string xs[k].name_, .slice A2 xs[k].args_.length c2] 26) := ⟨_, rfl⟩
      have hbb : Below wr.heap.size wr wb := by rw [hwb]; exact (Below.refl _ _).alloc (Nat.le_refl _) _
      have hbx : Whole wb wr.heap.size 26 #[.int .i64 xs[k].kind_, .string xs[k].name_, .slice A2 xs[k].args_.length c2] := by rw [hwb]; exact Whole.new _ _ _
      have hsb : wb.heap.size = wr.heap.size + 1 := by rw [hwb]; simp
      have hmb : w.heap.size < wb.heap.size := by have := hb.size; omega
      have hbmb : Below wm.heap.size wm wb := hb.trans (hbb.mono hb.size)
      have hsubb : SubstAt wb (Und w.heap.size) w.heap.size (firstX l) := HSUB.out.same (hbmb.block _ hmlt) (fun _ h => h) fun b o h => hbmb.cell (p := ⟨b, o, none⟩) (Nat.lt_trans h hmlt)
      have hcall := implReplace (subX l) xs[k] A2 c2 (some w.heap.size) wb hxk (h2.grow hbb) (looks_subst hsubb hmb rfl) (fun s y h A c W hv => implCopy y A c W (HL.out s y h) hv)
      have HC := Lib.hid hcall
      have HWB := Lib.hid hwb.symm
      have HE := Lib.hid (OwVE_frame _ (fun b hm => hbb.block b (OwVE_lt _ hE b hm).2) hE)
      have HND := Lib.hid hnd
      have HWR := Lib.hid (hwr.below hbb hwr.lt)
      have HBX := Lib.hid hbx
      have HBB := Lib.hid hbmb
      have hwl := hwr.lt
      clear h2 hE hnd hwr hbx hcall hsubb hwb hbb hbw hP hbmb
      go_upto_region 6 with (fail)
      rw [HWB.out]
      obtain ⟨x0, x1, x2⟩ := cells3 HBX.out
      go_wp2_with fail
      refine HC.out.mono ?_
      rintro e w1 ⟨vs, b2, rfl, ho2, hn2, hb1⟩
      have hcell := TypeX.cells_length (xs[k].sub (subX l))
      have hw1 := HWR.out.below hb1 HWR.out.lt
      have hfill := fun (w2 : World) (h2 : ∀ b, b ≠ wm.heap.size → w2.heap[b]? = w1.heap[b]?) => OwVE_fill HE.out HND.out hb1 HWR.out.lt ho2 hn2 hcell (by have : (k + 1) * 3 ≤ xs.length * 3 := Nat.mul_le_mul_right _ hlt; omega) h2
      have ho3 := ho2
      rw [TypeX.cells_eq] at ho3
      simp only [OwVs] at ho3
      obtain ⟨v0, _, z0, _, rfl, rfl, k0, v1, _, z1, _, rfl, rfl, k1, v2, _, z2, _, rfl, rfl, k2, rfl, rfl⟩ := ho3
      rw [OwV] at k0
      obtain ⟨rfl, rfl⟩ := k0
      rw [OwV] at k1
      obtain ⟨rfl, rfl⟩ := k1
      obtain ⟨V2, C2, rfl⟩ := OwV_shape k2 (TypeX.rows_length _)
      obtain ⟨d0, e0⟩ : ∃ v, w1.cell? ⟨wm.heap.size, k * 3, none⟩ = some v := by rw [hw1.cell]; exact ⟨_, Array.getElem?_eq_getElem (by have : (k + 1) * 3 ≤ xs.length * 3 := Nat.mul_le_mul_right _ hlt; omega)⟩
      have f0 := hw1.frozen (k * 3)
      obtain ⟨d1, e1⟩ : ∃ v, w1.cell? ⟨wm.heap.size, k * 3 + 1, none⟩ = some v := by rw [hw1.cell]; exact ⟨_, Array.getElem?_eq_getElem (by have : (k + 1) * 3 ≤ xs.length * 3 := Nat.mul_le_mul_right _ hlt; omega)⟩
      have f1 := hw1.frozen (k * 3 + 1)
      obtain ⟨d2, e2⟩ : ∃ v, w1.cell? ⟨wm.heap.size, k * 3 + 2, none⟩ = some v := by rw [hw1.cell]; exact ⟨_, Array.getElem?_eq_getElem (by have : (k + 1) * 3 ≤ xs.length * 3 := Nat.mul_le_mul_right _ hlt; omega)⟩
      have f2 := hw1.frozen (k * 3 + 2)
      have HF := Lib.hid hfill
      have hb2 : Below wm.heap.size wm w1 := HBB.out.trans (hb1.mono HBB.out.size)
      have hkb : (k : Int) ≤ 4294967296 := by have := HX.out; omega
      clear hfill ho2 hn2 hcell k2 x0 x1 x2 hb1
      go_wp2
      go_roundw
      case rel =>
        have hfin := HF.out (((w1.setCell ⟨wm.heap.size, k * 3, none⟩ (.int .i64 (xs[k].sub (subX l)).kind_)).setCell ⟨wm.heap.size, k * 3 + 1, none⟩ (.string (xs[k].sub (subX l)).name_)).setCell ⟨wm.heap.size, k * 3 + 2, none⟩ (.slice V2 (xs[k].sub (subX l)).args_.length C2)) (fun b hne => by rw [Below.heap_setCell _ _ _ _ (by exact hne), Below.heap_setCell _ _ _ _ (by exact hne), Below.heap_setCell _ _ _ _ (by exact hne)])
        exact ⟨k + 1, _, _, by omega, by go_num, show Whole _ _ _ (setAt cs (k * 3) [.int .i64 (xs[k].sub (subX l)).kind_, .string (xs[k].sub (subX l)).name_, .slice V2 (xs[k].sub (subX l)).args_.length C2]) from (((hw1.set_ _ _).set_ _ _).set_ _ _), by rw [setAt_size]; exact hcs, by rw [List.take_succ_eq_append_getElem hlt', subL_at _ _ _ hlt, TypeX.rows_snoc]; exact hfin.1, hfin.2, (((hb2.setCell (Nat.le_refl _) _).setCell (Nat.le_refl _) _).setCell (Nat.le_refl _) _)⟩
      case measure => simp [Go.RowKit.intOf]; omega
    · have hkl : k = xs.length := by omega
      subst hkl
      rw [List.take_of_length_le (by rw [TypeX.subL_length]; exact Nat.le_refl _), List.take_of_length_le (by simp [hcs])] at hE
      have hfin := OwV_filled hwr hcs (by have := HX.out; unfold maxLen; omega) (by rw [TypeX.rows_length, TypeX.subL_length]) hE hnd
      have hfin1 := OwV_wide (B' := w.heap.size) (by have := hbm.size; omega) _ hfin.1
      have HF1 := Lib.hid hfin1
      have HF2 := Lib.hid hfin.2
      clear hE hnd hfin hfin1
      go_wp2
      go_ret
      exact ⟨_, _, rfl, HF1.out, HF2.out, hbw⟩
end Go.Proofs.Ytkiofeiinecpiaa

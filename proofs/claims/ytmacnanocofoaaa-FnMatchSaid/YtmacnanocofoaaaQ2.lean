/- Texts that the claims share, joined. -/
import Derived.Test.YtmacnanocofoaaaQ1
import Derived.Outline
import Derived.Test.YtmacnanocofoaaaProg
import Derived.Lib.QuietBelow
import Derived.BigQuiet
import Derived.Laws.RangeAny
import Derived.RangeFuncNested
import Derived.RangeFuncBound
import Derived.Lib.Hide
import Derived.RegionTactic
import Derived.Deep.QuietTactic
import Derived.Deep.CutRange
import Derived.RangeFuncCalls
import Derived.Lib.AppendZeros
import Derived.Lib.AppendZerosOnto
import Derived.Lib.SliceRun
import Derived.Laws.OwnMore
import Derived.ProofKit
import Derived.OpenShut
import Derived.ChangeOld
import Derived.Deep.RegionHeld3
namespace Go.Proofs.Ytmacnanocofoaaa
open Go.RowKit Go.Lib

theorem infoBinding : (Try.prog.info? 82).map (fun i => (i.zero, i.size, i.bytes)) = some (some (.agg #[.string ByteArray.empty, .int .i64 0, .string ByteArray.empty, .slice none 0 0]), 4, 64) := by kernel_rfl
def ToBinding : Prop := ∀ (x : BindingX) (v : Value) (w : World), DV.wtL x.cells ≤ 1048576 → BindingAt w (Und w.heap.size) x v → Calls Try.prog 88 #[v] w (MadeV x.cells w)
def ToBindingS : Prop := ∀ (l : List BindingX) (A : Option Addr) (c : Nat) (w : World), DV.wtE (BindingX.rows l) ≤ 1048576 → BindingRow w (Und w.heap.size) A c l → Calls Try.prog 47 #[.slice A l.length c] w (MadeR (.row 82 4 (BindingX.rows l)) w)

set_option maxRecDepth 100000 in
set_option maxHeartbeats 2000000 in
theorem toBinding_step : ToBinding := by
  intro x v w hw hv
  obtain ⟨A3, c3, rfl, h3⟩ := hv
  rw [BindingX.wt_eq] at hw
  have H3 := Lib.hid h3
  have h1lt : w.heap.size + 1 < w.heap.size + 3 := by omega
  have h2lt : w.heap.size + 1 + 1 < w.heap.size + 3 := by omega
  have h1le : w.heap.size ≤ w.heap.size + 1 := by omega
  have h2le : w.heap.size ≤ w.heap.size + 1 + 1 := by omega
  have hne12 : w.heap.size + 1 ≠ w.heap.size + 1 + 1 := by omega
  clear h3
  go_enter Try.func88, Try.ntmps88
  go_wp2_with fail
  refine calls_gen (fun W => Whole W (w.heap.size + 1) 82 #[.string ⟨#[]⟩, .int .i64 0, .string ⟨#[]⟩, .slice none 0 0] ∧ Whole W (w.heap.size + 1 + 1) 82 #[.string x.var_, .int .i64 0, .string ⟨#[]⟩, .slice none 0 0] ∧ Below w.heap.size w W ∧ w.heap.size + 3 ≤ W.heap.size) ?_ ?_
  · refine ⟨?_, ?_, (((Below.refl _ _).alloc (Nat.le_refl _) _).alloc (by simp) _).alloc (by simp; omega) _, by simp⟩
    · have h := Whole.new (w.alloc (.cells #[.string x.var_, .int .i64 x.type_.kind_, .string x.type_.name_, .slice A3 x.type_.args_.length c3] 102)) 82 #[.string ⟨#[]⟩, .int .i64 0, .string ⟨#[]⟩, .slice none 0 0]
      have h2 := h.below ((Below.refl _ _).alloc (Nat.le_refl _) (.cells #[.string x.var_, .int .i64 0, .string ⟨#[]⟩, .slice none 0 0] 82)) h.lt
      simpa using h2
    · have h := Whole.new ((w.alloc (.cells #[.string x.var_, .int .i64 x.type_.kind_, .string x.type_.name_, .slice A3 x.type_.args_.length c3] 102)).alloc (.cells #[.string ⟨#[]⟩, .int .i64 0, .string ⟨#[]⟩, .slice none 0 0] 82)) 82 #[.string x.var_, .int .i64 0, .string ⟨#[]⟩, .slice none 0 0]
      simpa using h
  rintro W1 ⟨r1, r2, hb, hsz⟩
  have hO : OwVs W1 (w.heap.size + 3) [.pl (.string x.var_)] [.string x.var_] [] := (OwVs_plain (OwVs_start _ _) _)
  have hN : ([] : List Nat).Nodup := List.nodup_nil
  refine (toType x.type_ _ _ (by omega) ⟨_, _, rfl, H3.out.grow hb⟩).mono ?_
  rintro e w1 ⟨vs1, b1, rfl, o1, n1, bel1⟩
  obtain ⟨hO, hN⟩ := OwVs_struct hO hN bel1 o1 n1 hsz
  rw [TypeX.cells_eq] at o1 hO
  simp only [OwVs] at o1
  obtain ⟨v1, _, p1, _, rfl, rfl, k1, v2, _, p2, _, rfl, rfl, k2, v3, _, p3, _, rfl, rfl, k3, rfl, rfl⟩ := o1
  rw [OwV] at k1
  obtain ⟨rfl, rfl⟩ := k1
  rw [OwV] at k2
  obtain ⟨rfl, rfl⟩ := k2
  obtain ⟨V3, C3, rfl⟩ := OwV_shape k3 (TypeX.rows_length _)
  have hb := hb.trans (bel1.mono hb.size)
  have hsz : w.heap.size + 3 ≤ w1.heap.size := Nat.le_trans hsz bel1.size
  have s1 := r1.below bel1 r1.lt
  have s2 := r2.below bel1 r2.lt
  have c1_0 : w1.cell? ⟨w.heap.size + 1, 0, none⟩ = some (.string ⟨#[]⟩) := by rw [s1.cell]; rfl
  have c2_0 : w1.cell? ⟨w.heap.size + 1 + 1, 0, none⟩ = some (.string x.var_) := by rw [s2.cell]; rfl
  have f1_0 := s1.frozen 0
  have f2_0 := s2.frozen 0
  have c1_1 : w1.cell? ⟨w.heap.size + 1, 1, none⟩ = some (.int .i64 0) := by rw [s1.cell]; rfl
  have c2_1 : w1.cell? ⟨w.heap.size + 1 + 1, 1, none⟩ = some (.int .i64 0) := by rw [s2.cell]; rfl
  have f1_1 := s1.frozen 1
  have f2_1 := s2.frozen 1
  have c1_2 : w1.cell? ⟨w.heap.size + 1, 2, none⟩ = some (.string ⟨#[]⟩) := by rw [s1.cell]; rfl
  have c2_2 : w1.cell? ⟨w.heap.size + 1 + 1, 2, none⟩ = some (.string ⟨#[]⟩) := by rw [s2.cell]; rfl
  have f1_2 := s1.frozen 2
  have f2_2 := s2.frozen 2
  have c1_3 : w1.cell? ⟨w.heap.size + 1, 3, none⟩ = some (.slice none 0 0) := by rw [s1.cell]; rfl
  have c2_3 : w1.cell? ⟨w.heap.size + 1 + 1, 3, none⟩ = some (.slice none 0 0) := by rw [s2.cell]; rfl
  have f1_3 := s1.frozen 3
  have f2_3 := s2.frozen 3
  clear bel1
  have HO := Lib.hid hO
  have HB := Lib.hid hb
  clear hO
  go_wp2
  refine bodyPost_ret (v := .agg #[.string x.var_, .int .i64 x.type_.kind_, .string x.type_.name_, .slice V3 x.type_.args_.length C3]) (by simp [results, Try.results88, go_sem, c1_0, c1_1, c1_2, c1_3]) rfl ⟨[.string x.var_, .int .i64 x.type_.kind_, .string x.type_.name_, .slice V3 x.type_.args_.length C3], _, rfl, ?_, hN, ?_⟩
  · rw [BindingX.cells_eq]
    exact OwVs_wide (show w.heap.size ≤ w.heap.size + 3 by omega) _ (OwVs_set (OwVs_set (OwVs_set (OwVs_set (OwVs_set (OwVs_set (OwVs_set HO.out h2lt _ _) h2lt _ _) h2lt _ _) h1lt _ _) h1lt _ _) h1lt _ _) h1lt _ _)
  · exact (((((((HB.out.setCell h2le _).setCell h2le _).setCell h2le _).setCell h1le _).setCell h1le _).setCell h1le _).setCell h1le _)

set_option maxRecDepth 100000 in
set_option maxHeartbeats 2000000 in
theorem toBindingS_step (ih : ToBinding) : ToBindingS := by
  intro l A c w hw hl
  have hlen := wtVE_length (BindingX.rows l)
  rw [BindingX.rows_length] at hlen
  obtain ⟨i0, hi, hz0, hz1, hz2⟩ := info_parts infoBinding
  have km := fun (w : World) => run_make (P := Try.prog) w 24 82 i0 (.agg #[.string ByteArray.empty, .int .i64 0, .string ByteArray.empty, .slice none 0 0]) Try.underlying24 hi hz0 .i64 .i64 (l.length : Int) (l.length : Int) (by omega) (by omega) (by rw [hz2]; omega) (by omega)
  simp only [Int.toNat_natCast, hz1] at km
  have hms : (madeCells (Value.agg #[.string ByteArray.empty, .int .i64 0, .string ByteArray.empty, .slice none 0 0]).cells (l.length * 4)).size = l.length * 4 := size_madeCells _ _
  generalize madeCells (Value.agg #[.string ByteArray.empty, .int .i64 0, .string ByteArray.empty, .slice none 0 0]).cells (l.length * 4) = cs0 at *
  have HL := Lib.hid hl
  have HW := Lib.hid hw
  have HM := Lib.hid hms
  clear hl hw hms hi hz0 hz1 hz2
  go_enter Try.func47, Try.ntmps47
  go_wp2
  clear km
  have hb0 : Below w.heap.size w (w.alloc (.cells cs0 82)) := (Below.refl _ _).alloc (Nat.le_refl _) _
  have hw0 := Whole.new w 82 cs0
  go_loopw [4] (fun iv wr => ∃ (k : Nat) (cs : Array Value) (bs : List Nat), k ≤ l.length ∧ iv = .int .i64 k ∧ Whole wr w.heap.size 82 cs ∧ cs.size = l.length * 4 ∧ OwVE wr (w.heap.size + 1) 4 (BindingX.rows (l.take k)) (cs.toList.take (k * 4)) bs ∧ bs.Nodup ∧ Below w.heap.size w wr) (fun iv _ => l.length - (Go.RowKit.intOf iv).toNat)
  case atStart => exact ⟨0, cs0, [], Nat.zero_le _, rfl, hw0, HM.out, by rw [List.take_zero, BindingX.rows_map, List.map_nil, Nat.zero_mul, List.take_zero, OwVE]; exact ⟨rfl, rfl⟩, List.nodup_nil, hb0⟩
  case round =>
    obtain ⟨k, cs, bs, hk, rfl, hwr, hcs, hE, hnd, hb⟩ := hrel
    clear hw0 hb0
    by_cases hlt : k < l.length
    · obtain ⟨b, o, A3, c3, hA, hP, p0, p1, p2, p3, h3⟩ := (HL.out.grow hb).at_ hlt
      subst hA
      have hwx : DV.wtL l[k].cells ≤ 1048576 := by
        have h := wtVE_at (BindingX.rows l) k (by rw [BindingX.rows_length]; exact hlt)
        rw [BindingX.rows_at l k hlt] at h
        have := HW.out
        omega
      have hX : BindingAt wr (Und wr.heap.size) l[k] (.agg #[.string l[k].var_, .int .i64 l[k].type_.kind_, .string l[k].type_.name_, .slice A3 l[k].type_.args_.length c3]) := ⟨A3, c3, rfl, h3⟩
      have HX := Lib.hid hX
      clear hX
      have HE := Lib.hid hE
      have HND := Lib.hid hnd
      clear h3 hE hnd
      go_wp2_with fail
      refine (ih l[k] _ _ hwx HX.out).mono ?_
      rintro e w1 ⟨vs, b2, rfl, ho2, hn2, hb1⟩
      have hcell := BindingX.cells_length l[k]
      have hw1 := hwr.below hb1 hwr.lt
      have hfill := fun (w2 : World) (h2 : ∀ b, b ≠ w.heap.size → w2.heap[b]? = w1.heap[b]?) => OwVE_fill HE.out HND.out hb1 hwr.lt ho2 hn2 hcell (by have : (k + 1) * 4 ≤ l.length * 4 := Nat.mul_le_mul_right _ hlt; omega) h2
      have ho3 := ho2
      rw [BindingX.cells_eq] at ho3
      simp only [OwVs] at ho3
      obtain ⟨v0, _, z0, _, rfl, rfl, k0, v1, _, z1, _, rfl, rfl, k1, v2, _, z2, _, rfl, rfl, k2, v3, _, z3, _, rfl, rfl, k3, rfl, rfl⟩ := ho3
      rw [OwV] at k0
      obtain ⟨rfl, rfl⟩ := k0
      rw [OwV] at k1
      obtain ⟨rfl, rfl⟩ := k1
      rw [OwV] at k2
      obtain ⟨rfl, rfl⟩ := k2
      obtain ⟨V3, C3, rfl⟩ := OwV_shape k3 (TypeX.rows_length _)
      obtain ⟨d0, e0⟩ : ∃ v, w1.cell? ⟨w.heap.size, k * 4, none⟩ = some v := by rw [hw1.cell]; exact ⟨_, Array.getElem?_eq_getElem (by have : (k + 1) * 4 ≤ l.length * 4 := Nat.mul_le_mul_right _ hlt; omega)⟩
      have f0 := hw1.frozen (k * 4)
      obtain ⟨d1, e1⟩ : ∃ v, w1.cell? ⟨w.heap.size, k * 4 + 1, none⟩ = some v := by rw [hw1.cell]; exact ⟨_, Array.getElem?_eq_getElem (by have : (k + 1) * 4 ≤ l.length * 4 := Nat.mul_le_mul_right _ hlt; omega)⟩
      have f1 := hw1.frozen (k * 4 + 1)
      obtain ⟨d2, e2⟩ : ∃ v, w1.cell? ⟨w.heap.size, k * 4 + 2, none⟩ = some v := by rw [hw1.cell]; exact ⟨_, Array.getElem?_eq_getElem (by have : (k + 1) * 4 ≤ l.length * 4 := Nat.mul_le_mul_right _ hlt; omega)⟩
      have f2 := hw1.frozen (k * 4 + 2)
      obtain ⟨d3, e3⟩ : ∃ v, w1.cell? ⟨w.heap.size, k * 4 + 3, none⟩ = some v := by rw [hw1.cell]; exact ⟨_, Array.getElem?_eq_getElem (by have : (k + 1) * 4 ≤ l.length * 4 := Nat.mul_le_mul_right _ hlt; omega)⟩
      have f3 := hw1.frozen (k * 4 + 3)
      have HF := Lib.hid hfill
      have hb2 : Below w.heap.size w w1 := hb.trans (hb1.mono hb.size)
      have hkb : (k : Int) ≤ 1048576 := by have := HW.out; omega
      clear hfill ho2 hn2 hcell k3
      go_wp2
      go_roundw
      case rel =>
        have hfin := HF.out ((((w1.setCell ⟨w.heap.size, k * 4, none⟩ (.string l[k].var_)).setCell ⟨w.heap.size, k * 4 + 1, none⟩ (.int .i64 l[k].type_.kind_)).setCell ⟨w.heap.size, k * 4 + 2, none⟩ (.string l[k].type_.name_)).setCell ⟨w.heap.size, k * 4 + 3, none⟩ (.slice V3 l[k].type_.args_.length C3)) (fun b hne => by rw [Below.heap_setCell _ _ _ _ (by exact hne), Below.heap_setCell _ _ _ _ (by exact hne), Below.heap_setCell _ _ _ _ (by exact hne), Below.heap_setCell _ _ _ _ (by exact hne)])
        exact ⟨k + 1, _, _, by omega, by go_num, show Whole _ _ _ (setAt cs (k * 4) [.string l[k].var_, .int .i64 l[k].type_.kind_, .string l[k].type_.name_, .slice V3 l[k].type_.args_.length C3]) from ((((hw1.set_ _ _).set_ _ _).set_ _ _).set_ _ _), by rw [setAt_size]; exact hcs, by rw [List.take_succ_eq_append_getElem hlt, BindingX.rows_snoc]; exact hfin.1, hfin.2, ((((hb2.setCell (Nat.le_refl _) _).setCell (Nat.le_refl _) _).setCell (Nat.le_refl _) _).setCell (Nat.le_refl _) _)⟩
      case measure => simp [Go.RowKit.intOf]; omega
    · have hkl : k = l.length := by omega
      subst hkl
      rw [List.take_length, List.take_of_length_le (by simp [hcs])] at hE
      have hfin := OwV_filled hwr hcs (by have := HW.out; unfold maxLen; omega) (BindingX.rows_length l) hE hnd
      have HF := Lib.hid hfin
      clear hE hnd hfin
      go_wp2
      go_ret
      exact ⟨_, _, rfl, HF.out.1, HF.out.2, hb⟩
theorem toBinding : ToBinding := toBinding_step
theorem toBindingS : ToBindingS := toBindingS_step toBinding
end Go.Proofs.Ytmacnanocofoaaa
namespace Go.Proofs.Ytmacnanocofoaaa
open Go.RowKit Go.Lib

def EqBinding : Prop := ∀ (x : BindingX) (v v' : Value) (w : World), BindingAt w (Und w.heap.size) x v → BindingAt w (Und w.heap.size) x v' →
  Calls Try.prog 89 #[v, v'] w fun e w' => e = .returned (.bool true) ∧ Below w.heap.size w w'
def EqBindingS : Prop := ∀ (l : List BindingX) (A B : Option Addr) (c d : Nat) (w : World), BindingRow w (Und w.heap.size) A c l → BindingRow w (Und w.heap.size) B d l →
  Calls Try.prog 48 #[.slice A l.length c, .slice B l.length d] w fun e w' => e = .returned (.bool true) ∧ Below w.heap.size w w'

set_option maxRecDepth 100000 in
set_option maxHeartbeats 2000000 in
theorem eqBinding_step : EqBinding := by
  intro x v v' w hv hv'
  obtain ⟨A3, c3, rfl, h3⟩ := hv
  obtain ⟨B3, d3, rfl, g3⟩ := hv'
  have hb0 : Below w.heap.size w ((w.alloc (.cells #[.string x.var_, .int .i64 x.type_.kind_, .string x.type_.name_, .slice A3 x.type_.args_.length c3] 82)).alloc (.cells #[.string x.var_, .int .i64 x.type_.kind_, .string x.type_.name_, .slice B3 x.type_.args_.length d3] 82)) := ((Below.refl _ _).alloc (Nat.le_refl _) _).alloc (by simp) _
  have H3 := Lib.hid (h3.grow hb0)
  have G3 := Lib.hid (g3.grow hb0)
  clear h3 g3
  go_enter Try.func89, Try.ntmps89
  go_wp2_with fail
  refine (eqType x.type_ _ _ _ ⟨_, _, rfl, H3.out⟩ ⟨_, _, rfl, G3.out⟩).mono ?_
  rintro e w1 ⟨rfl, b1⟩
  have hb1 : Below w.heap.size w w1 := hb0.trans (b1.mono hb0.size)
  go_wp2
  go_ret
  exact ⟨rfl, hb1⟩

set_option maxRecDepth 100000 in
set_option maxHeartbeats 2000000 in
theorem eqBindingS_step (ih : EqBinding) : EqBindingS := by
  intro l A B c d w hA hB
  have hlen := hA.cap
  have HA := Lib.hid hA
  have HB := Lib.hid hB
  clear hA hB
  go_enter Try.func48, Try.ntmps48
  go_wp2
  go_loopw [5] (fun iv wr => ∃ k : Nat, k ≤ l.length ∧ iv = .int .i64 k ∧ Below w.heap.size w wr) (fun iv _ => l.length - (Go.RowKit.intOf iv).toNat)
  case atStart => exact ⟨0, Nat.zero_le _, rfl, Below.refl _ _⟩
  case round =>
    obtain ⟨k, hk, rfl, hb⟩ := hrel
    by_cases hlt : k < l.length
    · obtain ⟨b, o, A3, c3, hA, hP, p0, p1, p2, p3, h3⟩ := (HA.out.grow hb).at_ hlt
      subst hA
      obtain ⟨b2, o2, B3, d3, hB, hP2, r0, r1, r2, r3, g3⟩ := (HB.out.grow hb).at_ hlt
      subst hB
      have cE : ∀ dr os, Calls Try.prog 89 #[.agg #[.string l[k].var_, .int .i64 l[k].type_.kind_, .string l[k].type_.name_, .slice A3 l[k].type_.args_.length c3], .agg #[.string l[k].var_, .int .i64 l[k].type_.kind_, .string l[k].type_.name_, .slice B3 l[k].type_.args_.length d3]] (Go.Sort.grow (redrawn wr dr) os) fun e w'' => e = .returned (.bool true) ∧ ∃ p : Regrown, w'' = Go.Sort.grow (redrawn wr p.d) p.os :=
        fun dr os => Calls.regrown_of (ih l[k] _ _ _ ⟨_, _, rfl, h3.grow (below_regrown wr dr os)⟩ ⟨_, _, rfl, g3.grow (below_regrown wr dr os)⟩)
      have kp0 := cell_regrown p0
      have kr0 := cell_regrown r0
      have kp1 := cell_regrown p1
      have kr1 := cell_regrown r1
      have kp2 := cell_regrown p2
      have kr2 := cell_regrown r2
      have kp3 := cell_regrown p3
      have kr3 := cell_regrown r3
      have hk0 : (0 : Int) ≤ k := by omega
      clear h3 g3
      go_wp2
      refine wp_region_quiet_below (by kernel_rfl) (by kernel_rfl) ?_
      repeat (quiet_step (exact cE _ _))
      refine wpQuiet_nil ?_
      intro _ hw'
      obtain ⟨⟨dq, osq⟩, hw''⟩ := hw'
      subst hw''
      have hb3 := hb.trans ((below_regrown wr dq osq).mono hb.size)
      clear cE kp0 kr0 kp1 kr1 kp2 kr2 kp3 kr3
      go_wp2
      go_roundw
      case rel => exact ⟨k + 1, by omega, by go_num, hb3⟩
      case measure => simp [Go.RowKit.intOf]; omega
    · go_wp2
      go_ret
      exact ⟨rfl, hb⟩
theorem eqBinding : EqBinding := eqBinding_step
theorem eqBindingS : EqBindingS := eqBindingS_step eqBinding
end Go.Proofs.Ytmacnanocofoaaa
namespace Go.Proofs.Ytmacnanocofoaaa
open Go.RowKit Go.Lib

theorem TypeX.tcnt_eq (x : TypeX) : tcntL x.cells = DV.cntE (TypeX.rows x.args_) := by
  rw [TypeX.cells_eq]
  simp only [tcntL, DV.tcnt]
  omega
theorem TypeX.tmk_eq (x : TypeX) (k : Nat) : tmkL k x.cells = [.pl (.int .i64 x.kind_), .pl (.string x.name_), .row 27 3 (vmkE (k) (TypeX.rows x.args_))] := by
  rw [TypeX.cells_eq]
  simp only [tmkL, DV.tmk, DV.tcnt, Nat.add_zero]
set_option maxRecDepth 100000 in
set_option maxHeartbeats 2000000 in
theorem markVType (x : TypeX) (vs : List Value) (k B : Nat) (bs : List Nat) (w : World) (hO : OwVs w B x.cells vs bs) (hnd : bs.Nodup) (hk0 : 0 < k) (hk : k + tcntL x.cells ≤ 4398046511104) :
    Calls Try.prog 43 #[.agg vs.toArray, .int .i64 k] w fun e w' => e = .returned (.int .i64 (k + tcntL x.cells : Nat)) ∧ OwVs w' B (tmkL k x.cells) vs bs ∧ ButV bs w w' := by
  rw [TypeX.tcnt_eq] at hk ⊢
  rw [TypeX.tmk_eq]
  rw [TypeX.cells_eq] at hO
  have hO2 := hO
  simp only [OwVs] at hO2
  obtain ⟨v0, _, y0, _, z0, -, h0, v1, _, y1, _, z1, -, h1, v2, _, y2, _, z2, -, h2, z3, -⟩ := hO2
  subst z3 z2 z1 z0
  rw [OwV] at h0
  obtain ⟨rfl, -⟩ := h0
  rw [OwV] at h1
  obtain ⟨rfl, -⟩ := h1
  obtain ⟨A2, c2, rfl⟩ := OwV_shape h2 (TypeX.rows_length _)
  clear h2
  have hb0 : Below w.heap.size w (w.alloc (.cells #[.int .i64 x.kind_, .string x.name_, .slice A2 x.args_.length c2] 27)) := (Below.refl _ _).alloc (Nat.le_refl _) _
  have hO := OwVs_below hO hb0
  have hb := ButV.of_below (bs := bs) hb0
  have HND := Lib.hid hnd
  clear hnd hb0
  go_enter Try.func43, Try.ntmps43
  go_wp2_with fail
  obtain ⟨v, bd, hv, hod, hndd, hsub, hput⟩ := OwVs_focus hO HND.out (c := 2) rfl
  obtain rfl : .slice A2 x.args_.length c2 = v := Option.some.inj hv
  refine (markTypeS x.args_ A2 c2 (k) B bd _ hod hndd (by omega) (by omega)).mono ?_
  rintro e w1 ⟨rfl, hO3, hb3⟩
  have hO := hput w1 _ hO3 (fun b hm hn => hb3.block b (OwVs_lt _ hO b hm).2 hn)
  have hb := hb.trans (hb3.more hsub)
  have hO : OwVs w1 B [.pl (.int .i64 x.kind_), .pl (.string x.name_), .row 27 3 (vmkE (k) (TypeX.rows x.args_))] [.int .i64 x.kind_, .string x.name_, .slice A2 x.args_.length c2] bs := hO
  clear hO3 hb3 hput hsub hndd hod hv
  have HF := Lib.hid hO
  have HB := Lib.hid hb
  clear hO hb
  go_wp2
  go_ret
  exact ⟨rfl, HF.out, HB.out⟩
end Go.Proofs.Ytmacnanocofoaaa
namespace Go.Proofs.Ytmacnanocofoaaa
open Go.RowKit Go.Lib

set_option maxRecDepth 100000 in
set_option maxHeartbeats 2000000 in
theorem heldVType (x : TypeX) (A : Option Addr) (c k : Nat) (w : World) (hl : RdV w (Und w.heap.size) (.row 27 3 (vmkE k (TypeX.rows x.args_))) (.slice A x.args_.length c)) (hk0 : 0 < k) (hk : k + DV.cntE (TypeX.rows x.args_) ≤ 4398046511104) :
    Calls Try.prog 50 #[.agg #[.int .i64 x.kind_, .string x.name_, .slice A x.args_.length c], .int .i64 k] w fun e w' => e = .returned (.int .i64 (k + DV.cntE (TypeX.rows x.args_) : Nat)) ∧ Below w.heap.size w w' := by
  have hb0 : Below w.heap.size w (w.alloc (.cells #[.int .i64 x.kind_, .string x.name_, .slice A x.args_.length c] 27)) := (Below.refl _ _).alloc (Nat.le_refl _) _
  have HL := Lib.hid (RdV.grow hl hb0)
  have hnn : ¬ ((k + DV.cntE (TypeX.rows x.args_) : Nat) : Int) < 0 := by omega
  clear hl
  go_enter Try.func50, Try.ntmps50
  go_wp2_with fail
  refine (heldTypeS x.args_ A c k _ HL.out hk0 hk).mono ?_
  rintro e w1 ⟨rfl, hb⟩
  have hb1 := hb0.trans (hb.mono hb0.size)
  go_wp2
  go_ret
  exact ⟨rfl, hb1⟩
/-- The row of what has been marked. -/
theorem marked_row {x : TypeX} {w : World} {B k : Nat} {P : Nat → Prop} {A : Option Addr} {c : Nat} {bs : List Nat} (hP : ∀ b ∈ bs, P b) (h : OwVs w B (tmkL k x.cells) [.int .i64 x.kind_, .string x.name_, .slice A x.args_.length c] bs) :
    RdV w P (.row 27 3 (vmkE k (TypeX.rows x.args_))) (.slice A x.args_.length c) := by
  have h2 := OwVs_read _ hP h
  rw [TypeX.tmk_eq] at h2
  simp only [RdVs] at h2
  obtain ⟨v0, _, e0, h0, v1, _, e1, h1, v2, _, e2, h3, e3⟩ := h2
  subst e3
  simp only [List.cons.injEq] at e0
  obtain ⟨rfl, rfl⟩ := e0
  simp only [List.cons.injEq] at e1
  obtain ⟨rfl, rfl⟩ := e1
  simp only [List.cons.injEq, and_true] at e2
  rw [← e2] at h3
  exact h3
end Go.Proofs.Ytmacnanocofoaaa
namespace Go.Proofs.Ytmacnanocofoaaa
open Go.RowKit

/-- The keywords. -/
def keywords : List ByteArray := [⟨#[105, 110, 116]⟩, ⟨#[98, 111, 111, 108]⟩, ⟨#[97, 115, 115, 111, 99]⟩, ⟨#[100, 121, 110]⟩, ⟨#[105, 102]⟩, ⟨#[108, 101, 116]⟩, ⟨#[99, 97, 115, 101]⟩, ⟨#[110, 101, 119]⟩, ⟨#[109, 101, 116, 104, 111, 100]⟩, ⟨#[112, 97, 99, 107]⟩, ⟨#[116, 114, 117, 101]⟩, ⟨#[102, 97, 108, 115, 101]⟩]
/-- A keyword. -/
def isKey (s : ByteArray) : Bool := has keywords s

set_option maxRecDepth 100000 in
set_option maxHeartbeats 400000 in
theorem specReserved (s : ByteArray) (w : World) : Calls Try.prog 107 #[.string s] w fun e w' => e = .returned (.bool (isKey s)) ∧ Below w.heap.size w w' := by
  have hal : Below w.heap.size w (w.alloc (.cells (keywords.map Value.string).toArray 9)) := (Below.refl _ _).alloc (Nat.le_refl _) _
  have HAL := Lib.hid hal
  clear hal
  go_enter Try.func107, Try.ntmps107
  go_wp2_with fail
  refine (specHas (some ⟨w.heap.size, 0, none⟩) 12 keywords s _ (Whole.new w 9 (keywords.map Value.string).toArray).strs (by decide)).mono ?_
  rintro e w1 ⟨rfl, rfl⟩
  go_wp2
  go_ret
  exact ⟨rfl, HAL.out⟩

theorem zeroBool (w : World) : (zeroValue 4).run Try.prog w = .ok (.bool false) w := by kernel_rfl
set_option maxRecDepth 100000 in
set_option maxHeartbeats 1000000 in
theorem implReserved (s : ByteArray) (w : World) (hs : s.size ≤ 9223372036854775807) : Calls Try.prog 104 #[.string s] w fun e w' => e = .returned (.bool (isKey s)) ∧ Below w.heap.size w w' := by
  have hmm := @run_makeMap Try.prog
  have h0 := Seen.made (P := Try.prog) (k := 9) (e := 4) w
  have hb0 : Below w.heap.size w (w.alloc (.map #[] 0)) := (Below.refl _ _).alloc (Nat.le_refl _) _
  have H0 := Lib.hid h0
  have HB0 := Lib.hid hb0
  clear h0 hb0
  obtain ⟨w1, e1, h1, g1⟩ := H0.out.store Try.underlying89 Try.underlying9 Try.underlying4 (by decide) ⟨#[105, 110, 116]⟩ (by decide)
  have H1 := Lib.hid h1
  have HB1 := Lib.hid (HB0.out.grown g1 HB0.out.size (fun j hj => by cases hj; exact Nat.le_refl _))
  clear h1 g1
  obtain ⟨w2, e2, h2, g2⟩ := H1.out.store Try.underlying89 Try.underlying9 Try.underlying4 (by decide) ⟨#[98, 111, 111, 108]⟩ (by decide)
  have H2 := Lib.hid h2
  have HB2 := Lib.hid (HB1.out.grown g2 HB1.out.size (fun j hj => by cases hj; exact Nat.le_refl _))
  clear h2 g2
  obtain ⟨w3, e3, h3, g3⟩ := H2.out.store Try.underlying89 Try.underlying9 Try.underlying4 (by decide) ⟨#[97, 115, 115, 111, 99]⟩ (by decide)
  have H3 := Lib.hid h3
  have HB3 := Lib.hid (HB2.out.grown g3 HB2.out.size (fun j hj => by cases hj; exact Nat.le_refl _))
  clear h3 g3
  obtain ⟨w4, e4, h4, g4⟩ := H3.out.store Try.underlying89 Try.underlying9 Try.underlying4 (by decide) ⟨#[100, 121, 110]⟩ (by decide)
  have H4 := Lib.hid h4
  have HB4 := Lib.hid (HB3.out.grown g4 HB3.out.size (fun j hj => by cases hj; exact Nat.le_refl _))
  clear h4 g4
  obtain ⟨w5, e5, h5, g5⟩ := H4.out.store Try.underlying89 Try.underlying9 Try.underlying4 (by decide) ⟨#[105, 102]⟩ (by decide)
  have H5 := Lib.hid h5
  have HB5 := Lib.hid (HB4.out.grown g5 HB4.out.size (fun j hj => by cases hj; exact Nat.le_refl _))
  clear h5 g5
  obtain ⟨w6, e6, h6, g6⟩ := H5.out.store Try.underlying89 Try.underlying9 Try.underlying4 (by decide) ⟨#[108, 101, 116]⟩ (by decide)
  have H6 := Lib.hid h6
  have HB6 := Lib.hid (HB5.out.grown g6 HB5.out.size (fun j hj => by cases hj; exact Nat.le_refl _))
  clear h6 g6
  obtain ⟨w7, e7, h7, g7⟩ := H6.out.store Try.underlying89 Try.underlying9 Try.underlying4 (by decide) ⟨#[99, 97, 115, 101]⟩ (by decide)
  have H7 := Lib.hid h7
  have HB7 := Lib.hid (HB6.out.grown g7 HB6.out.size (fun j hj => by cases hj; exact Nat.le_refl _))
  clear h7 g7
  obtain ⟨w8, e8, h8, g8⟩ := H7.out.store Try.underlying89 Try.underlying9 Try.underlying4 (by decide) ⟨#[110, 101, 119]⟩ (by decide)
  have H8 := Lib.hid h8
  have HB8 := Lib.hid (HB7.out.grown g8 HB7.out.size (fun j hj => by cases hj; exact Nat.le_refl _))
  clear h8 g8
  obtain ⟨w9, e9, h9, g9⟩ := H8.out.store Try.underlying89 Try.underlying9 Try.underlying4 (by decide) ⟨#[109, 101, 116, 104, 111, 100]⟩ (by decide)
  have H9 := Lib.hid h9
  have HB9 := Lib.hid (HB8.out.grown g9 HB8.out.size (fun j hj => by cases hj; exact Nat.le_refl _))
  clear h9 g9
  obtain ⟨w10, e10, h10, g10⟩ := H9.out.store Try.underlying89 Try.underlying9 Try.underlying4 (by decide) ⟨#[112, 97, 99, 107]⟩ (by decide)
  have H10 := Lib.hid h10
  have HB10 := Lib.hid (HB9.out.grown g10 HB9.out.size (fun j hj => by cases hj; exact Nat.le_refl _))
  clear h10 g10
  obtain ⟨w11, e11, h11, g11⟩ := H10.out.store Try.underlying89 Try.underlying9 Try.underlying4 (by decide) ⟨#[116, 114, 117, 101]⟩ (by decide)
  have H11 := Lib.hid h11
  have HB11 := Lib.hid (HB10.out.grown g11 HB10.out.size (fun j hj => by cases hj; exact Nat.le_refl _))
  clear h11 g11
  obtain ⟨w12, e12, h12, g12⟩ := H11.out.store Try.underlying89 Try.underlying9 Try.underlying4 (by decide) ⟨#[102, 97, 108, 115, 101]⟩ (by decide)
  have H12 := Lib.hid h12
  have HB12 := Lib.hid (HB11.out.grown g12 HB11.out.size (fun j hj => by cases hj; exact Nat.le_refl _))
  clear h12 g12
  have hlk := H12.out.look Try.underlying89 Try.underlying9 Try.underlying4 (zeroBool _) s hs
  go_enter Try.func104, Try.ntmps104
  go_wp2
  go_ret
  exact ⟨rfl, HB12.out⟩
end Go.Proofs.Ytmacnanocofoaaa
namespace Go.Proofs.Ytmacnanocofoaaa
open Go.RowKit

def letterR (r : Int) : Bool := decide (97 ≤ r) && decide (r ≤ 122)
def digitR (r : Int) : Bool := decide (48 ≤ r) && decide (r ≤ 57)

set_option maxRecDepth 100000 in
theorem letterIs (r : Int) (w : World) : Calls Try.prog 102 #[.int .i32 r] w fun e w' => e = .returned (.bool (letterR r)) ∧ w = w' := by
  by_cases h1 : 97 ≤ r
  all_goals (
    go_enter Try.func102, Try.ntmps102
    go_wp2
    go_ret
    refine ⟨congrArg (fun b => Ending.returned (.bool b)) ?_, rfl⟩
    (simp [letterR, h1]; try omega))
set_option maxRecDepth 100000 in
theorem digitIs (r : Int) (w : World) : Calls Try.prog 103 #[.int .i32 r] w fun e w' => e = .returned (.bool (digitR r)) ∧ w = w' := by
  by_cases h1 : 48 ≤ r
  all_goals (
    go_enter Try.func103, Try.ntmps103
    go_wp2
    go_ret
    refine ⟨congrArg (fun b => Ending.returned (.bool b)) ?_, rfl⟩
    (simp [digitR, h1]; try omega))
end Go.Proofs.Ytmacnanocofoaaa
namespace Go.Proofs.Ytmacnanocofoaaa
open Go.RowKit

/-- A byte that may stand at place i of a name. -/
def goodAt (i : Nat) (c : UInt8) : Bool := letterR c.toNat || (i != 0 && digitR c.toNat)
def goods (s : ByteArray) (k : Nat) : Bool := (List.range k).all fun i => goodAt i (s.data.toList.getD i 0)
/-- A name. -/
def okName (s : ByteArray) : Bool := decide (1 ≤ s.size ∧ s.size ≤ 8) && (!isKey s && goods s s.size)
theorem goods_succ {s : ByteArray} {k : Nat} (h : k < s.size) : goods s (k + 1) = (goods s k && goodAt k s[k]) := by
  unfold goods
  rw [List.range_succ, List.all_append]
  simp
  congr 2
  have : s.data[k]? = some s[k] := by simp [h]; rfl
  rw [this]
  rfl
theorem goods_bad {s : ByteArray} {k : Nat} (h : k < s.size) (hb : goodAt k s[k] = false) : okName s = false := by
  have h1 := goods_succ h
  rw [hb, Bool.and_false] at h1
  have : goods s s.size = false := by
    unfold goods at h1 ⊢
    rw [List.all_eq_false] at h1 ⊢
    obtain ⟨x, hx, hf⟩ := h1
    exact ⟨x, by simp at hx ⊢; omega, hf⟩
  rw [okName, this, Bool.and_false, Bool.and_false]
theorem name_size {s : ByteArray} (h : ¬ (1 ≤ s.size ∧ s.size ≤ 8)) : okName s = false := by rw [okName, decide_eq_false h, Bool.false_and]
theorem name_key {s : ByteArray} (h : isKey s = true) : okName s = false := by rw [okName, h]; simp
theorem name_ok {s : ByteArray} (h : 1 ≤ s.size ∧ s.size ≤ 8) (hg : goods s s.size = true) : okName s = !isKey s := by rw [okName, decide_eq_true h, hg]; simp

theorem withinN (x lo hi : Int) (w : World) : Calls Try.prog 106 #[.int .i64 x, .int .i64 lo, .int .i64 hi] w fun e w' => e = .returned (.bool (decide (lo ≤ x ∧ x ≤ hi))) ∧ w = w' := by
  by_cases h1 : lo ≤ x
  · go_enter Try.func106, Try.ntmps106
    go_wp2
    go_ret
    refine ⟨congrArg (fun b => Ending.returned (.bool b)) ?_, rfl⟩
    rw [Bool.eq_iff_iff]
    simp [h1]
  · go_enter Try.func106, Try.ntmps106
    go_wp2
    go_ret
    refine ⟨congrArg (fun b => Ending.returned (.bool b)) ?_, rfl⟩
    rw [Bool.eq_iff_iff]
    simp
    omega

set_option maxRecDepth 100000 in
set_option maxHeartbeats 1000000 in
theorem specName (s : ByteArray) (w : World) (hs : s.size ≤ 9223372036854775807) : Calls Try.prog 71 #[.string s] w fun e w' => e = .returned (.bool (okName s)) ∧ Below w.heap.size w w' := by
  by_cases hsz : 1 ≤ s.size ∧ s.size ≤ 8
  · have hd : decide ((1 : Int) ≤ s.size ∧ (s.size : Int) ≤ 8) = true := by simp; omega
    go_enter Try.func71, Try.ntmps71
    go_wp2_with fail
    refine (withinN _ _ _ _).mono ?_
    rintro e w1 ⟨rfl, rfl⟩
    rw [hd]
    clear hd
    go_wp2_with fail
    refine (specReserved s _).mono ?_
    rintro e w1 ⟨rfl, hb1⟩
    cases hk : isKey s with
    | true =>
      have hno := name_key hk
      have HN := Lib.hid hno
      clear hk hno
      go_wp2
      go_ret
      exact ⟨congrArg (fun b => Ending.returned (.bool b)) HN.out.symm, hb1⟩
    | false =>
      have hyes := fun h => @name_ok s hsz h
      rw [hk] at hyes
      have HY := Lib.hid hyes
      have HB := Lib.hid hb1
      obtain ⟨hsz1, hsz2⟩ := hsz
      clear hyes hk hb1
      go_wp2
      go_loopw [3] (fun iv wr => ∃ k : Nat, k ≤ s.size ∧ iv = .int .i64 k ∧ goods s k = true ∧ wr = w1) (fun iv _ => s.size - (Go.RowKit.intOf iv).toNat)
      case atStart => exact ⟨0, Nat.zero_le _, rfl, rfl, rfl⟩
      case round =>
        obtain ⟨k, hk, rfl, hg, rfl⟩ := hrel
        by_cases hlt : k < s.size
        · have hst := goods_succ hlt
          rw [hg, Bool.true_and] at hst
          have hbad := @goods_bad s k hlt
          have HS := Lib.hid hst
          have HX := Lib.hid hbad
          clear hst hbad hg
          by_cases h97 : 97 ≤ s[k].toNat
          · by_cases h122 : s[k].toNat ≤ 122
            · have hg : goodAt k s[k] = true := by unfold goodAt letterR; simp; omega
              have HG := Lib.hid (HS.out.trans hg)
              clear hg
              go_wp2
              go_roundw
              case rel => exact ⟨k + 1, by omega, by go_num, HG.out, trivial⟩
              case measure => simp [Go.RowKit.intOf]; omega
            · have hg : goodAt k s[k] = false := by unfold goodAt letterR digitR; simp; omega
              have HG := Lib.hid (HX.out hg)
              clear hg
              have q1 : decide ((s[k].toNat : Int) ≤ 122) = false := by simp; omega
              by_cases h0 : k = 0
              · subst h0
                go_wp2
                go_ret
                exact ⟨congrArg (fun b => Ending.returned (.bool b)) HG.out.symm, HB.out⟩
              · have q0 : ((k : Int) == 0) = false := by simp; omega
                go_wp2
                go_ret
                exact ⟨congrArg (fun b => Ending.returned (.bool b)) HG.out.symm, HB.out⟩
          · by_cases h0 : k = 0
            · subst h0
              have hg : goodAt 0 s[0] = false := by unfold goodAt letterR digitR; simp; omega
              have HG := Lib.hid (HX.out hg)
              clear hg
              go_wp2
              go_ret
              exact ⟨congrArg (fun b => Ending.returned (.bool b)) HG.out.symm, HB.out⟩
            · have q0 : ((k : Int) == 0) = false := by simp; omega
              by_cases h48 : s[k].toNat < 48
              · have hg : goodAt k s[k] = false := by unfold goodAt letterR digitR; simp; omega
                have HG := Lib.hid (HX.out hg)
                clear hg
                go_wp2
                go_ret
                exact ⟨congrArg (fun b => Ending.returned (.bool b)) HG.out.symm, HB.out⟩
              · by_cases h57 : 57 < s[k].toNat
                · have hg : goodAt k s[k] = false := by unfold goodAt letterR digitR; simp; omega
                  have HG := Lib.hid (HX.out hg)
                  clear hg
                  go_wp2
                  go_ret
                  exact ⟨congrArg (fun b => Ending.returned (.bool b)) HG.out.symm, HB.out⟩
                · have hg : goodAt k s[k] = true := by unfold goodAt letterR digitR; simp; omega
                  have HG := Lib.hid (HS.out.trans hg)
                  clear hg
                  go_wp2
                  go_roundw
                  case rel => exact ⟨k + 1, by omega, by go_num, HG.out, trivial⟩
                  case measure => simp [Go.RowKit.intOf]; omega
        · have hkl : k = s.size := by omega
          subst hkl
          have hy := HY.out hg
          have HZ := Lib.hid hy
          clear hg hy
          go_wp2
          go_ret
          exact ⟨congrArg (fun b => Ending.returned (.bool b)) HZ.out.symm, HB.out⟩
  · have hno := name_size hsz
    have HN := Lib.hid hno
    have hd : decide ((1 : Int) ≤ s.size ∧ (s.size : Int) ≤ 8) = false := by simp; omega
    clear hno
    go_enter Try.func71, Try.ntmps71
    go_wp2_with fail
    refine (withinN _ _ _ _).mono ?_
    rintro e w1 ⟨rfl, rfl⟩
    rw [hd]
    go_wp2
    go_ret
    exact ⟨congrArg (fun b => Ending.returned (.bool b)) HN.out.symm, Below.refl _ _⟩
end Go.Proofs.Ytmacnanocofoaaa
namespace Go.Proofs.Ytmacnanocofoaaa
open Go.RowKit Go.Lib

set_option maxRecDepth 100000 in
set_option maxHeartbeats 2000000 in
theorem specLeft_step (N : Nat) (ih : ∀ (y : TypeX) (v : Value) (L : Nat) (w : World), DV.nodesL y.cells < N → L ≤ 4294967296 → TypeAt w (Und w.heap.size) y v → Calls Try.prog 108 #[v, .int .i64 L] w fun e w' => e = .returned (.int .i64 (leftV L y.size)) ∧ Below w.heap.size w w') :
    ∀ (x : TypeX) (v : Value) (L : Nat) (w : World), DV.nodesL x.cells ≤ N → L ≤ 4294967296 → TypeAt w (Und w.heap.size) x v → Calls Try.prog 108 #[v, .int .i64 L] w fun e w' => e = .returned (.int .i64 (leftV L x.size)) ∧ Below w.heap.size w w' := by
  intro x v L w hn hL hv
  obtain ⟨A2, c2, rfl, h2⟩ := hv
  have hcap := h2.cap
  rw [TypeX.nodes_eq] at hn
  have hb0 : Below w.heap.size w (w.alloc (.cells #[.int .i64 x.kind_, .string x.name_, .slice A2 x.args_.length c2] 27)) := (Below.refl _ _).alloc (Nat.le_refl _) _
  have hx0 := Whole.new w 27 #[.int .i64 x.kind_, .string x.name_, .slice A2 x.args_.length c2]
  have hr0 := h2.grow hb0
  have hse := TypeX.size_eq x
  have HSE := Lib.hid hse
  have HX0 := Lib.hid hx0
  have HR0 := Lib.hid hr0
  have HN := Lib.hid hn
  clear h2 hn hx0 hr0 hse
  go_enter Try.func108, Try.ntmps108
  go_wp2
  go_loopw [1, 5] (fun qv iv wr => ∃ (k : Nat) (q : Int), k ≤ x.args_.length ∧ iv = .int .i64 k ∧ qv = .int .i64 q ∧ ((q = -1 ∧ L < x.size) ∨ ∃ n : Nat, q = n ∧ n + 1 + TypeX.sizeL (x.args_.take k) = L) ∧ Whole wr w.heap.size 27 #[.int .i64 x.kind_, .string x.name_, .slice A2 x.args_.length c2] ∧ TypeRow wr (Und wr.heap.size) A2 c2 x.args_ ∧ Below w.heap.size w wr) (fun _ iv _ => x.args_.length - (Go.RowKit.intOf iv).toNat)
  case atStart =>
    refine ⟨0, (L : Int) - 1, Nat.zero_le _, rfl, rfl, ?_, HX0.out, HR0.out, hb0⟩
    by_cases h0 : L = 0
    · exact .inl ⟨by omega, by have := HSE.out; omega⟩
    · exact .inr ⟨L - 1, by omega, by simp [TypeX.sizeL]; omega⟩
  case round =>
    clear HX0 HR0 hb0
    obtain ⟨k, q, hk, rfl, rfl, hq, hx, hr, hb⟩ := hrel
    have c2f : wr.cell? ⟨w.heap.size, 2, none⟩ = some (.slice A2 x.args_.length c2) := by rw [hx.cell]; rfl
    have hxlt := hx.lt
    rcases hq with ⟨rfl, hno⟩ | ⟨n, rfl, hq⟩
    · have hz : leftV L x.size = -1 := leftV_no hno
      have HZ := Lib.hid hz
      clear hx hr hz
      by_cases hlt : k < x.args_.length
      · go_wp2
        go_ret
        exact ⟨ret_int HZ.out.symm, hb⟩
      · go_wp2
        go_ret
        exact ⟨ret_int HZ.out.symm, hb⟩
    · by_cases hlt : k < x.args_.length
      · obtain ⟨b, o, A2', c2', hA, hP, q0, q1, q2, k2⟩ := hr.at_ hlt
        subst hA
        have hnx : DV.nodesL x.args_[k].cells < N := by
          have h := nodesVE_at (TypeX.rows x.args_) k (by rw [TypeX.rows_length]; exact hlt)
          rw [TypeX.rows_at x.args_ k hlt] at h
          have := HN.out
          omega
        have hst := TypeX.sizeL_take x.args_ k hlt
        have hle := TypeX.sizeL_le x.args_ (k + 1)
        have hrel2 : (leftV n x.args_[k].size = -1 ∧ L < x.size) ∨ ∃ m : Nat, leftV n x.args_[k].size = m ∧ m + 1 + TypeX.sizeL (x.args_.take (k + 1)) = L := by
          by_cases h : x.args_[k].size ≤ n
          · exact .inr ⟨n - x.args_[k].size, by rw [leftV_yes h]; omega, by omega⟩
          · exact .inl ⟨leftV_no (by omega), by have := HSE.out; omega⟩
        have hnL : n ≤ 4294967296 := by omega
        have HR2 := Lib.hid hrel2
        have HX := Lib.hid hx
        have HR := Lib.hid hr
        have HK := Lib.hid k2
        clear hx hr k2 hst hle hrel2 hq
        go_wp2_with fail
        refine (ih x.args_[k] _ n _ hnx hnL ⟨_, _, rfl, HK.out⟩).mono ?_
        rintro e w1 ⟨rfl, hb1⟩
        have hb2 := hb.trans (hb1.mono hb.size)
        have hx1 := HX.out.below hb1 HX.out.lt
        have hr1 := HR.out.grow hb1
        have HX1 := Lib.hid hx1
        have HR1 := Lib.hid hr1
        clear hx1 hr1 hb1
        go_wp2
        go_roundw
        case rel => exact ⟨k + 1, _, by omega, by go_num, rfl, HR2.out, HX1.out, HR1.out, hb2⟩
        case measure => simp [Go.RowKit.intOf]; omega
      · have hkl : k = x.args_.length := by omega
        subst hkl
        rw [List.take_length] at hq
        have hz : leftV L x.size = n := by have := HSE.out; rw [leftV_yes (by omega)]; omega
        have HZ := Lib.hid hz
        clear hx hr hz hq
        go_wp2
        go_ret
        exact ⟨ret_int HZ.out.symm, hb⟩
theorem specLeftAll : ∀ (N : Nat) (x : TypeX) (v : Value) (L : Nat) (w : World), DV.nodesL x.cells ≤ N → L ≤ 4294967296 → TypeAt w (Und w.heap.size) x v → Calls Try.prog 108 #[v, .int .i64 L] w fun e w' => e = .returned (.int .i64 (leftV L x.size)) ∧ Below w.heap.size w w'
  | 0 => specLeft_step 0 (fun _ _ _ _ h => absurd h (Nat.not_lt_zero _))
  | N + 1 => specLeft_step (N + 1) (fun y v L w h => specLeftAll N y v L w (Nat.le_of_lt_succ h))
theorem specLeft (x : TypeX) (v : Value) (L : Nat) (w : World) (hL : L ≤ 4294967296) (hv : TypeAt w (Und w.heap.size) x v) : Calls Try.prog 108 #[v, .int .i64 L] w fun e w' => e = .returned (.int .i64 (leftV L x.size)) ∧ Below w.heap.size w w' := specLeftAll _ x v L w (Nat.le_refl _) hL hv
end Go.Proofs.Ytmacnanocofoaaa
namespace Go.Proofs.Ytmacnanocofoaaa
open Go.RowKit

set_option maxRecDepth 100000 in
set_option maxHeartbeats 1000000 in
theorem maxOf (a b : Nat) (w : World) : Calls Try.prog 124 #[.int .i64 a, .int .i64 b] w fun e w' => e = .returned (.int .i64 (max a b : Nat)) ∧ w = w' := by
  by_cases h1 : b < a
  · go_enter Try.func124, Try.ntmps124
    go_wp2
    go_ret
    exact ⟨ret_int (by omega), rfl⟩
  · go_enter Try.func124, Try.ntmps124
    go_wp2
    go_ret
    exact ⟨ret_int (by omega), rfl⟩
end Go.Proofs.Ytmacnanocofoaaa
namespace Go.Proofs.Ytmacnanocofoaaa
open Go.RowKit Go.Lib

mutual
def TypeX.depth : TypeX → Nat
  | .mk _ _ l => TypeX.depthL l
def TypeX.depthL : List TypeX → Nat
  | [] => 0
  | x :: r => max (1 + x.depth) (TypeX.depthL r)
end
theorem TypeX.depth_eq (x : TypeX) : x.depth = TypeX.depthL x.args_ := by cases x with | mk a b c => rw [TypeX.depth]; rfl
theorem TypeX.depthL_take : ∀ (l : List TypeX) (j : Nat) (h : j < l.length), TypeX.depthL (l.take (j + 1)) = max (TypeX.depthL (l.take j)) (1 + l[j].depth)
  | x :: r, 0, _ => by simp [TypeX.depthL]
  | x :: r, j + 1, h => by
    have := TypeX.depthL_take r j (by simpa using h)
    rw [List.take_succ_cons, List.take_succ_cons, TypeX.depthL, TypeX.depthL, this]
    simp [Nat.max_assoc]
theorem TypeX.depthL_le : ∀ (l : List TypeX) (j : Nat), TypeX.depthL (l.take j) ≤ TypeX.depthL l
  | [], j => by simp
  | x :: r, 0 => by simp [TypeX.depthL]
  | x :: r, j + 1 => by
    have := TypeX.depthL_le r j
    rw [List.take_succ_cons, TypeX.depthL, TypeX.depthL]; omega

set_option maxRecDepth 100000 in
set_option maxHeartbeats 2000000 in
theorem specTyDepth_step (N : Nat) (ih : ∀ (y : TypeX) (v : Value) (w : World), DV.nodesL y.cells < N → TypeX.depth y ≤ 4294967296 → TypeAt w (Und w.heap.size) y v → Calls Try.prog 109 #[v] w fun e w' => e = .returned (.int .i64 (TypeX.depth y : Nat)) ∧ Below w.heap.size w w') :
    ∀ (x : TypeX) (v : Value) (w : World), DV.nodesL x.cells ≤ N → TypeX.depth x ≤ 4294967296 → TypeAt w (Und w.heap.size) x v → Calls Try.prog 109 #[v] w fun e w' => e = .returned (.int .i64 (TypeX.depth x : Nat)) ∧ Below w.heap.size w w' := by
  intro x v w hn hs0 hv
  obtain ⟨A2, c2, rfl, h2⟩ := hv
  have hcap := h2.cap
  rw [TypeX.nodes_eq] at hn
  have hb0 : Below w.heap.size w (w.alloc (.cells #[.int .i64 x.kind_, .string x.name_, .slice A2 x.args_.length c2] 27)) := (Below.refl _ _).alloc (Nat.le_refl _) _
  have hx0 := Whole.new w 27 #[.int .i64 x.kind_, .string x.name_, .slice A2 x.args_.length c2]
  have hr0 := h2.grow hb0
  have HX0 := Lib.hid hx0
  have HR0 := Lib.hid hr0
  have HN := Lib.hid hn
  have HS0 := Lib.hid hs0
  clear hs0
  clear h2 hn hx0 hr0
  go_enter Try.func109, Try.ntmps109
  go_wp2
  go_loopw [3, 4] (fun mv iv wr => ∃ k m : Nat, k ≤ x.args_.length ∧ iv = .int .i64 k ∧ m = TypeX.depthL (x.args_.take k) ∧ mv = .int .i64 m ∧ Whole wr w.heap.size 27 #[.int .i64 x.kind_, .string x.name_, .slice A2 x.args_.length c2] ∧ TypeRow wr (Und wr.heap.size) A2 c2 x.args_ ∧ Below w.heap.size w wr) (fun _ iv _ => x.args_.length - (Go.RowKit.intOf iv).toNat)
  case atStart => exact ⟨0, 0, Nat.zero_le _, rfl, by simp [TypeX.depthL], rfl, HX0.out, HR0.out, hb0⟩
  case round =>
    clear HX0 HR0 hb0
    obtain ⟨k, m, hk, rfl, hm, rfl, hx, hr, hb⟩ := hrel
    have c2f : wr.cell? ⟨w.heap.size, 2, none⟩ = some (.slice A2 x.args_.length c2) := by rw [hx.cell]; rfl
    have hxlt := hx.lt
    by_cases hlt : k < x.args_.length
    · obtain ⟨b, o, A2', c2', hA, hP, q0, q1, q2, k2⟩ := hr.at_ hlt
      subst hA
      have hnx : DV.nodesL x.args_[k].cells < N := by
        have h := nodesVE_at (TypeX.rows x.args_) k (by rw [TypeX.rows_length]; exact hlt)
        rw [TypeX.rows_at x.args_ k hlt] at h
        have := HN.out
        omega
      have hst := TypeX.depthL_take x.args_ k hlt
      have hle := TypeX.depthL_le x.args_ (k + 1)
      have hse := TypeX.depth_eq x
      have hs1 : x.args_[k].depth < 4294967296 ∧ m ≤ 4294967296 := by have := HS0.out; omega
      have hm2 : max m (1 + x.args_[k].depth) = TypeX.depthL (x.args_.take (k + 1)) := by rw [hst, hm]
      have hcast : (1 : Int) + (x.args_[k].depth : Nat) = ((1 + x.args_[k].depth : Nat) : Int) := by omega
      have HM := Lib.hid hm2
      have HC := Lib.hid hcast
      clear hst hle hse hm2 hm hcast
      have HX := Lib.hid hx
      have HR := Lib.hid hr
      have HK := Lib.hid k2
      clear hx hr k2
      go_wp2_with fail
      refine (ih x.args_[k] _ _ hnx (by omega) ⟨_, _, rfl, HK.out⟩).mono ?_
      rintro e w1 ⟨rfl, hb1⟩
      have hb2 := hb.trans (hb1.mono hb.size)
      have hx1 := HX.out.below hb1 HX.out.lt
      have hr1 := HR.out.grow hb1
      have HX1 := Lib.hid hx1
      have HR1 := Lib.hid hr1
      clear hx1 hr1 hb1
      go_wp2_with fail
      rw [HC.out]
      refine (maxOf m (1 + x.args_[k].depth) _).mono ?_
      rintro e w2 ⟨rfl, rfl⟩
      go_wp2
      go_roundw
      case rel => exact ⟨k + 1, max m (1 + x.args_[k].depth), by omega, by go_num, HM.out, rfl, HX1.out, HR1.out, hb2⟩
      case measure => simp [Go.RowKit.intOf]; omega
    · have hkl : k = x.args_.length := by omega
      subst hkl
      rw [List.take_length] at hm
      have c0f : wr.cell? ⟨w.heap.size, 0, none⟩ = some (.int .i64 x.kind_) := by rw [hx.cell]; rfl
      rw [← TypeX.depth_eq] at hm
      have HM := Lib.hid hm
      clear hm hx hr
      go_wp2
      go_ret
      exact ⟨ret_int (by rw [HM.out]), hb⟩
theorem specTyDepthAll : ∀ (N : Nat) (x : TypeX) (v : Value) (w : World), DV.nodesL x.cells ≤ N → TypeX.depth x ≤ 4294967296 → TypeAt w (Und w.heap.size) x v → Calls Try.prog 109 #[v] w fun e w' => e = .returned (.int .i64 (TypeX.depth x : Nat)) ∧ Below w.heap.size w w'
  | 0 => specTyDepth_step 0 (fun _ _ _ h => absurd h (Nat.not_lt_zero _))
  | N + 1 => specTyDepth_step (N + 1) (fun y v w h => specTyDepthAll N y v w (Nat.le_of_lt_succ h))
theorem specTyDepth (x : TypeX) (v : Value) (w : World) : TypeX.depth x ≤ 4294967296 → TypeAt w (Und w.heap.size) x v → Calls Try.prog 109 #[v] w fun e w' => e = .returned (.int .i64 (TypeX.depth x : Nat)) ∧ Below w.heap.size w w' := specTyDepthAll _ x v w (Nat.le_refl _)
end Go.Proofs.Ytmacnanocofoaaa
namespace Go.Proofs.Ytmacnanocofoaaa
open Go.RowKit

def IsBool (v : Value) : Prop := ∃ x : Bool, v = .bool x
theorem drawOnce (B g : Nat) (n : Int) (w : World) (hw : Cur w B g) (h0 : 0 < n) (h1 : n ≤ 9223372036854775807) :
    Calls Try.prog 83 #[.pointer (some ⟨g, 0, none⟩), .int .i64 n] w (Drawn IsBool B g w) := by
  go_enter Try.func83, Try.ntmps83
  go_wp2_with fail
  refine (drawBelow B g n _ hw h0 h1).mono ?_
  rintro e w1 ⟨v, rfl, ⟨x, rfl, x0, x1⟩, hc1, hb1⟩
  go_wp2
  go_ret
  exact ⟨_, rfl, ⟨_, rfl⟩, hc1, hb1⟩
end Go.Proofs.Ytmacnanocofoaaa
namespace Go.Proofs.Ytmacnanocofoaaa
open Go.RowKit

def addNew (acc : List ByteArray) (x : ByteArray) : List ByteArray := if has acc x then acc else acc ++ [x]
/-- The elements of the second list that are new, each once, behind the first. -/
def uniF (acc l : List ByteArray) : List ByteArray := l.foldl addNew acc
theorem uniF_take {acc l : List ByteArray} {k : Nat} (h : k < l.length) : uniF acc (l.take (k + 1)) = addNew (uniF acc (l.take k)) l[k] := by
  rw [List.take_succ_eq_append_getElem h, uniF, List.foldl_append]
  rfl
theorem uniF_append (acc a b : List ByteArray) : uniF acc (a ++ b) = uniF (uniF acc a) b := by simp [uniF]
theorem addNew_old {acc : List ByteArray} {x : ByteArray} (h : has acc x = true) : addNew acc x = acc := by rw [addNew, h]; rfl
theorem addNew_new {acc : List ByteArray} {x : ByteArray} (h : has acc x = false) : addNew acc x = acc ++ [x] := by rw [addNew, h]; rfl
theorem uniF_len : ∀ (l acc : List ByteArray), (uniF acc l).length ≤ acc.length + l.length
  | [], acc => by simp [uniF]
  | x :: r, acc => by
    have h := uniF_len r (addNew acc x)
    have e : uniF acc (x :: r) = uniF (addNew acc x) r := rfl
    rw [e]
    have : (addNew acc x).length ≤ acc.length + 1 := by
      unfold addNew
      split <;> simp
    simp only [List.length_cons]
    omega
theorem uniF_eq : ∀ (l acc : List ByteArray), (uniF acc l).length = acc.length + l.length → uniF acc l = acc ++ l
  | [], acc, _ => by simp [uniF]
  | x :: r, acc, h => by
    have e : uniF acc (x :: r) = uniF (addNew acc x) r := rfl
    rw [e] at h ⊢
    cases hx : has acc x with
    | true =>
      rw [addNew_old hx] at h
      have := uniF_len r acc
      simp only [List.length_cons] at h
      omega
    | false =>
      rw [addNew_new hx] at h ⊢
      rw [uniF_eq r (acc ++ [x]) (by rw [h]; simp; omega), List.append_assoc]
      rfl
theorem has_addNew (acc : List ByteArray) (x s : ByteArray) : has (addNew acc x) s = (has acc s || x.data.toList == s.data.toList) := by
  cases h : has acc x with
  | true =>
    rw [addNew_old h]
    cases he : x.data.toList == s.data.toList with
    | true => rw [← data_inj (eq_of_beq he), h]; rfl
    | false => rw [Bool.or_false]
  | false => rw [addNew_new h, has_snoc]
theorem has_uniF (s : ByteArray) : ∀ (l acc : List ByteArray), has (uniF acc l) s = (has acc s || has l s)
  | [], acc => by simp [uniF, has]
  | x :: r, acc => by
    have e : uniF acc (x :: r) = uniF (addNew acc x) r := rfl
    rw [e, has_uniF s r, has_addNew, Bool.or_assoc]
    rfl
theorem uniF_mem {x : ByteArray} {l : List ByteArray} (h : x ∈ uniF [] l) : x ∈ l := by
  rw [← has_iff] at h ⊢
  rw [has_uniF] at h
  exact h
/-- No two elements are equal. -/
def distinct (ss : List ByteArray) : Bool := decide ((uniF [] ss).length = ss.length)
theorem distinct_yes {ss : List ByteArray} (h : uniF [] ss = ss) : distinct ss = true := by rw [distinct, h]; simp
theorem distinct_no {ss : List ByteArray} {k : Nat} (hk : k < ss.length) (he : uniF [] (ss.take k) = ss.take k) (hh : has (ss.take k) ss[k] = true) : distinct ss = false := by
  have e : uniF [] ss = uniF (ss.take k) (ss.drop (k + 1)) := by
    have h1 : uniF [] ss = uniF (uniF [] (ss.take (k + 1))) (ss.drop (k + 1)) := by rw [← uniF_append, List.take_append_drop]
    rw [h1, uniF_take hk, he, addNew_old hh]
  have h2 := uniF_len (ss.drop (k + 1)) (ss.take k)
  rw [← e] at h2
  simp only [List.length_take, List.length_drop] at h2
  rw [distinct, decide_eq_false_iff_not]
  omega
theorem distinct_step {ss : List ByteArray} {k : Nat} (hk : k < ss.length) (he : uniF [] (ss.take k) = ss.take k) (hh : has (ss.take k) ss[k] = false) : uniF [] (ss.take (k + 1)) = ss.take (k + 1) := by
  rw [uniF_take hk, he, addNew_new hh, ← List.take_succ_eq_append_getElem hk]

theorem uniF_uniF : ∀ (l acc : List ByteArray), uniF [] acc = acc → uniF [] (uniF acc l) = uniF acc l
  | [], acc, h => h
  | x :: r, acc, h => by
    have e : uniF acc (x :: r) = uniF (addNew acc x) r := rfl
    rw [e]
    refine uniF_uniF r _ ?_
    cases hx : has acc x with
    | true => rw [addNew_old hx]; exact h
    | false =>
      rw [addNew_new hx, uniF_append, h]
      exact addNew_new hx
theorem distinct_uni (l : List ByteArray) : distinct (uniF [] l) = true := distinct_yes (uniF_uniF l [] rfl)

theorem Strs.take {w : World} {A : Option Addr} {ss : List ByteArray} (h : Strs w A ss) (k : Nat) : Strs w A (ss.take k) := by
  rcases h with h | ⟨g, o, hA, hg, hc⟩
  · exact .inl (by rw [h]; simp)
  · refine .inr ⟨g, o, hA, hg, fun j s hj => hc j s ?_⟩
    rw [List.getElem?_take] at hj
    split at hj
    · exact hj
    · cases hj
/-- A NEW ROW of these strings, owned. -/
def RowOf (d : List ByteArray) (w : World) (e : Ending) (w' : World) : Prop :=
  ∃ V, e = .returned V ∧ w'.ownsRow w.heap.size 9 1 V d.length (d.map Value.string) ∧ Below w.heap.size w w'
end Go.Proofs.Ytmacnanocofoaaa
namespace Go.Proofs.Ytmacnanocofoaaa
open Go.RowKit Go.Lib

/-- Is it the variable itself? -/
def TypeX.isV (u : ByteArray) (k : Int) (s : ByteArray) : Nat := if k = 1 ∧ s = u then 1 else 0
mutual
def TypeX.cntV (u : ByteArray) : TypeX → Nat
  | .mk k s l => TypeX.isV u k s + TypeX.cntVL u l
def TypeX.cntVL (u : ByteArray) : List TypeX → Nat
  | [] => 0
  | x :: r => x.cntV u + TypeX.cntVL u r
end
theorem TypeX.cntV_eq (u : ByteArray) (x : TypeX) : x.cntV u = TypeX.isV u x.kind_ x.name_ + TypeX.cntVL u x.args_ := by cases x with | mk a b c => rw [TypeX.cntV]; rfl
theorem TypeX.cntVL_take (u : ByteArray) : ∀ (l : List TypeX) (j : Nat) (h : j < l.length), TypeX.cntVL u (l.take (j + 1)) = TypeX.cntVL u (l.take j) + l[j].cntV u
  | x :: r, 0, _ => by simp [TypeX.cntVL]
  | x :: r, j + 1, h => by
    have := TypeX.cntVL_take u r j (by simpa using h)
    rw [List.take_succ_cons, List.take_succ_cons, TypeX.cntVL, TypeX.cntVL, this]
    simp; omega
theorem TypeX.cntVL_le (u : ByteArray) : ∀ (l : List TypeX) (j : Nat), TypeX.cntVL u (l.take j) ≤ TypeX.cntVL u l
  | [], j => by simp
  | x :: r, 0 => by simp [TypeX.cntVL]
  | x :: r, j + 1 => by
    have := TypeX.cntVL_le u r j
    rw [List.take_succ_cons, TypeX.cntVL, TypeX.cntVL]; omega

end Go.Proofs.Ytmacnanocofoaaa
namespace Go.Proofs.Ytmacnanocofoaaa
open Go.RowKit

/-- The index of the first element that is the string; -1 where there is none. -/
def indexOf (ss : List ByteArray) (s : ByteArray) : Int := if has ss s then ((ss.takeWhile fun x => !(x.data.toList == s.data.toList)).length : Int) else -1
theorem indexOf_miss {ss : List ByteArray} {s : ByteArray} (h : has ss s = false) : indexOf ss s = -1 := by rw [indexOf, h]; rfl
theorem indexOf_hit {ss : List ByteArray} {s : ByteArray} {k : Nat} (hk : k < ss.length) (hno : has (ss.take k) s = false) (he : (ss[k].data.toList == s.data.toList) = true) : indexOf ss s = k := by
  have hy : has ss s = true := has_of_take (k := k + 1) (by rw [has_take hk, he, Bool.or_true])
  have e : ss = ss.take k ++ ss[k] :: ss.drop (k + 1) := by rw [← List.drop_eq_getElem_cons hk, List.take_append_drop]
  have hl : (ss.takeWhile fun x => !(x.data.toList == s.data.toList)) = ss.take k := by
    conv => lhs; rw [e]
    rw [List.takeWhile_append_of_pos, List.takeWhile_cons_of_neg, List.append_nil]
    · rw [he]; decide
    · intro x hx
      rw [has, List.any_eq_false] at hno
      simpa using hno x hx
  rw [indexOf, hy, hl, List.length_take]
  simp
  omega
theorem indexOf_has (ss : List ByteArray) (s : ByteArray) : decide (0 ≤ indexOf ss s) = has ss s := by
  cases h : has ss s with
  | true => rw [indexOf, h]; simp
  | false => rw [indexOf_miss h]; decide
theorem indexOf_lt (ss : List ByteArray) (s : ByteArray) : -1 ≤ indexOf ss s ∧ indexOf ss s < ss.length + 1 := by
  unfold indexOf
  have := (List.takeWhile_sublist (fun x : ByteArray => !(x.data.toList == s.data.toList)) (l := ss)).length_le
  split <;> omega

set_option maxRecDepth 100000 in
set_option maxHeartbeats 400000 in
theorem specIndex (A : Option Addr) (c : Nat) (ss : List ByteArray) (s : ByteArray) (w : World) (hA : Strs w A ss) (hn : ss.length ≤ 9223372036854775807) :
    Calls Try.prog 77 #[.slice A ss.length c, .string s] w fun e w' => e = .returned (.int .i64 (indexOf ss s)) ∧ w = w' := by
  have HA := Lib.hid hA
  clear hA
  go_enter Try.func77, Try.ntmps77
  go_wp2
  go_loop [5] (fun i => ∃ k : Nat, k ≤ ss.length ∧ i = .int .i64 k ∧ has (ss.take k) s = false) (fun i => ss.length - (Go.RowKit.intOf i).toNat)
  case atStart => exact ⟨0, Nat.zero_le _, rfl, rfl⟩
  case round =>
    obtain ⟨k, hk, rfl, hno⟩ := hrel
    by_cases hlt : k < ss.length
    · obtain ⟨g, o, rfl, hc⟩ := HA.out.at_ hlt
      have hst := has_take hlt s
      rw [hno, Bool.false_or] at hst
      have hup := @indexOf_hit ss s k hlt hno
      have HS := Lib.hid hst
      have HU := Lib.hid hup
      clear hst hup hno
      cases he : ss[k].data.toList == s.data.toList with
      | true =>
        have hy := HU.out he
        have HY := Lib.hid hy
        have he1 : ss[k] = s := data_inj (by simpa using he)
        clear hy
        go_wp2
        go_ret
        exact ⟨congrArg (fun b => Ending.returned (.int .i64 b)) HY.out.symm, rfl⟩
      | false =>
        have hf := HS.out.trans he
        have HF := Lib.hid hf
        have he1 : (ss[k].toList == s.toList) = false := text_ne (by intro e; rw [e] at he; simp at he)
        clear hf
        go_wp2
        go_round
        case rel => exact ⟨k + 1, by omega, by go_num, HF.out⟩
        case measure => simp [Go.RowKit.intOf]; omega
    · have hkl : k = ss.length := by omega
      subst hkl
      rw [List.take_length] at hno
      have hm := indexOf_miss hno
      have HN := Lib.hid hm
      clear hno hm
      go_wp2
      go_ret
      exact ⟨congrArg (fun b => Ending.returned (.int .i64 b)) HN.out.symm, rfl⟩

end Go.Proofs.Ytmacnanocofoaaa
namespace Go.Proofs.Ytmacnanocofoaaa
open Go.RowKit Go.Lib

mutual
/-- What the bindings become when the pattern is matched; nothing where it doesn't. -/
def TypeX.mat : TypeX → TypeX → List BindingX → Option (List BindingX)
  | .mk k n a, t, acc =>
    if k = 1 then
      match lookX n acc with
      | some y => if y.same t = true then some acc else none
      | none => some (acc ++ [.mk n t])
    else if k = t.kind_ ∧ n = t.name_ ∧ a.length = t.args_.length then TypeX.matL a t.args_ acc else none
def TypeX.matL : List TypeX → List TypeX → List BindingX → Option (List BindingX)
  | [], _, acc => some acc
  | _ :: _, [], _ => none
  | x :: r, y :: s, acc =>
    match x.mat y acc with
    | some acc2 => TypeX.matL r s acc2
    | none => none
end
/-- Matching at all positions. -/
def matAll (ps ts : List TypeX) : Option (List BindingX) := if ps.length = ts.length then TypeX.matL ps ts [] else none
theorem TypeX.mat_met {p t y : TypeX} {acc : List BindingX} (hk : p.kind_ = 1) (hl : lookX p.name_ acc = some y) : p.mat t acc = if y.same t = true then some acc else none := by
  cases p with | mk k n a =>
  simp only [TypeX.kind_, TypeX.name_] at hk hl
  rw [TypeX.mat, if_pos hk, hl]
theorem TypeX.mat_new {p t : TypeX} {acc : List BindingX} (hk : p.kind_ = 1) (hl : lookX p.name_ acc = none) : p.mat t acc = some (acc ++ [.mk p.name_ t]) := by
  cases p with | mk k n a =>
  simp only [TypeX.kind_, TypeX.name_] at hk hl
  rw [TypeX.mat, if_pos hk, hl]
  rfl
theorem TypeX.mat_no {p t : TypeX} {acc : List BindingX} (hk : p.kind_ ≠ 1) (h : ¬ (p.kind_ = t.kind_ ∧ p.name_ = t.name_ ∧ p.args_.length = t.args_.length)) : p.mat t acc = none := by
  cases p with | mk k n a =>
  have hk : k ≠ 1 := hk
  have h : ¬ (k = t.kind_ ∧ n = t.name_ ∧ a.length = t.args_.length) := h
  rw [TypeX.mat, if_neg hk, if_neg h]
theorem TypeX.mat_args {p t : TypeX} {acc : List BindingX} (hk : p.kind_ ≠ 1) (h : p.kind_ = t.kind_ ∧ p.name_ = t.name_ ∧ p.args_.length = t.args_.length) : p.mat t acc = TypeX.matL p.args_ t.args_ acc := by
  cases p with | mk k n a =>
  have hk : k ≠ 1 := hk
  have h : k = t.kind_ ∧ n = t.name_ ∧ a.length = t.args_.length := h
  rw [TypeX.mat, if_neg hk, if_pos h]
  rfl
/-- One position more. -/
theorem TypeX.matL_step : ∀ (ps ts : List TypeX) (acc : List BindingX) (k : Nat) (hp : k < ps.length) (ht : k < ts.length), TypeX.matL (ps.take (k + 1)) (ts.take (k + 1)) acc = (TypeX.matL (ps.take k) (ts.take k) acc).bind fun a2 => ps[k].mat ts[k] a2
  | x :: r, y :: s, acc, 0, _, _ => by
    simp only [Nat.zero_add, List.take_succ_cons, List.take_zero, TypeX.matL, Option.bind_some, List.getElem_cons_zero]
    cases x.mat y acc <;> rfl
  | x :: r, y :: s, acc, k + 1, hp, ht => by
    rw [List.take_succ_cons, List.take_succ_cons, List.take_succ_cons, List.take_succ_cons, TypeX.matL, TypeX.matL]
    cases x.mat y acc with
    | none => rfl
    | some a2 =>
      simp only [List.getElem_cons_succ]
      exact TypeX.matL_step r s a2 k (by simpa using hp) (by simpa using ht)
/-- Once it fails it fails. -/
theorem TypeX.matL_none : ∀ (ps ts : List TypeX) (acc : List BindingX) (k : Nat), ps.length = ts.length → TypeX.matL (ps.take k) (ts.take k) acc = none → TypeX.matL ps ts acc = none
  | [], _, acc, k, _, h => by rw [List.take_nil, TypeX.matL] at h; cases h
  | x :: r, [], acc, k, hl, h => by simp at hl
  | x :: r, y :: s, acc, 0, hl, h => by rw [List.take_zero, List.take_zero, TypeX.matL] at h; cases h
  | x :: r, y :: s, acc, k + 1, hl, h => by
    rw [List.take_succ_cons, List.take_succ_cons, TypeX.matL] at h
    rw [TypeX.matL]
    cases hm : x.mat y acc with
    | none => rfl
    | some a2 =>
      rw [hm] at h
      exact TypeX.matL_none r s a2 k (by simpa using hl) h
mutual
/-- What is bound is small, and there is no more of it than the pattern is large. -/
theorem TypeX.mat_small {M : Nat} : ∀ (p t : TypeX) (acc a2 : List BindingX), (∀ b ∈ acc, b.type_.size ≤ M) → t.size ≤ M → p.mat t acc = some a2 → (∀ b ∈ a2, b.type_.size ≤ M) ∧ a2.length ≤ acc.length + p.size
  | .mk k n a, t, acc, a2, ha, ht, h => by
    rw [TypeX.mat] at h
    rw [TypeX.size]
    by_cases hk : k = 1
    · rw [if_pos hk] at h
      cases hl : lookX n acc with
      | some y =>
        rw [hl] at h
        by_cases hs : y.same t = true
        · simp only [hs, if_true, Option.some.injEq] at h
          subst h; exact ⟨ha, by omega⟩
        · simp [hs] at h
      | none =>
        rw [hl] at h
        simp only [Option.some.injEq] at h
        subst h
        refine ⟨fun b hb => ?_, by rw [List.length_append, List.length_singleton]; omega⟩
        rcases List.mem_append.1 hb with hb | hb
        · exact ha b hb
        · rw [List.mem_singleton.1 hb]; exact ht
    · rw [if_neg hk] at h
      by_cases hc : k = t.kind_ ∧ n = t.name_ ∧ a.length = t.args_.length
      · rw [if_pos hc] at h
        have := TypeX.matL_small a t.args_ acc a2 ha (by rw [TypeX.size_eq] at ht; omega) h
        exact ⟨this.1, by omega⟩
      · rw [if_neg hc] at h; cases h
theorem TypeX.matL_small {M : Nat} : ∀ (ps ts : List TypeX) (acc a2 : List BindingX), (∀ b ∈ acc, b.type_.size ≤ M) → TypeX.sizeL ts ≤ M → TypeX.matL ps ts acc = some a2 → (∀ b ∈ a2, b.type_.size ≤ M) ∧ a2.length ≤ acc.length + TypeX.sizeL ps
  | [], ts, acc, a2, ha, ht, h => by
    rw [TypeX.matL] at h
    injection h with h
    subst h; exact ⟨ha, by omega⟩
  | x :: r, [], acc, a2, ha, ht, h => by rw [TypeX.matL] at h; cases h
  | x :: r, y :: s, acc, a2, ha, ht, h => by
    rw [TypeX.matL] at h
    rw [TypeX.sizeL] at ht
    rw [TypeX.sizeL]
    cases hm : x.mat y acc with
    | none => rw [hm] at h; cases h
    | some a1 =>
      rw [hm] at h
      have h1 := TypeX.mat_small x y acc a1 ha (by omega) hm
      have h2 := TypeX.matL_small r s a1 a2 h1.1 (by omega) h
      exact ⟨h2.1, by omega⟩
end
end Go.Proofs.Ytmacnanocofoaaa
namespace Go.Proofs.Ytmacnanocofoaaa
open Go.RowKit

abbrev PairX := TypeX × TypeX
/-- What stands below a pair. -/
def pairsX (p t : TypeX) : List PairX := if p.kind_ = 1 then [] else p.args_.zip t.args_
/-- What the walk may go on below. -/
def GoodP (p t : TypeX) : Prop := p.kind_ = 1 ∨ p.args_.length = t.args_.length
mutual
def TypeX.walkP (d : Nat) : TypeX → TypeX → List (Nat × PairX)
  | .mk k n a, t => (d, .mk k n a, t) :: (if k = 1 then [] else TypeX.walkPL (d + 1) a t.args_)
def TypeX.walkPL (d : Nat) : List TypeX → List TypeX → List (Nat × PairX)
  | [], _ => []
  | _ :: _, [] => []
  | x :: r, y :: s => x.walkP d y ++ TypeX.walkPL d r s
end
def walkPs (d : Nat) : List PairX → List (Nat × PairX)
  | [] => []
  | q :: r => q.1.walkP d q.2 ++ walkPs d r
theorem walkPL_zip (d : Nat) : ∀ a b : List TypeX, TypeX.walkPL d a b = walkPs d (a.zip b)
  | [], _ => by rw [TypeX.walkPL, List.zip_nil_left, walkPs]
  | _ :: _, [] => by rw [TypeX.walkPL, List.zip_nil_right, walkPs]
  | x :: r, y :: s => by rw [TypeX.walkPL, List.zip_cons_cons, walkPs, walkPL_zip d r s]
theorem walkP_eq (d : Nat) (p t : TypeX) : p.walkP d t = (d, p, t) :: walkPs (d + 1) (pairsX p t) := by
  cases p with | mk k n a =>
  rw [TypeX.walkP, pairsX]
  by_cases h : k = 1
  · rw [if_pos h, if_pos (show (TypeX.mk k n a).kind_ = 1 from h), walkPs]
  · rw [if_neg h, if_neg (show ¬ (TypeX.mk k n a).kind_ = 1 from h), walkPL_zip]; rfl
/-- What the lists of a stack (the top one first) have still to give. -/
def todoP : List (List PairX) → List (Nat × PairX)
  | [] => []
  | l :: r => walkPs r.length l ++ todoP r
theorem todoP_pop (r : List (List PairX)) : todoP ([] :: r) = todoP r := by rw [todoP, walkPs]; rfl
theorem todoP_step (p t : TypeX) (l : List PairX) (r : List (List PairX)) : todoP (((p, t) :: l) :: r) = (r.length, p, t) :: todoP (pairsX p t :: l :: r) := by
  rw [todoP, todoP, todoP, walkPs, walkP_eq, List.length_cons]
  simp
theorem todoP_start (p t : TypeX) : todoP [[(p, t)]] = p.walkP 0 t := by simp [todoP, walkPs]
theorem pairsX_length {p t : TypeX} (h : GoodP p t) : (pairsX p t).length = if p.kind_ = 1 then 0 else p.args_.length := by
  rw [pairsX]
  by_cases hk : p.kind_ = 1
  · rw [if_pos hk, if_pos hk]; rfl
  · rw [if_neg hk, if_neg hk, List.length_zip]
    rcases h with h | h
    · exact absurd h hk
    · omega
theorem pairsX_at {p t : TypeX} (hk : p.kind_ ≠ 1) {j : Nat} (h : j < (pairsX p t).length) (h1 : j < p.args_.length) (h2 : j < t.args_.length) : (pairsX p t)[j] = (p.args_[j], t.args_[j]) := by
  simp only [pairsX, if_neg hk, List.getElem_zip]
mutual
theorem walkP_length (d : Nat) : ∀ p t : TypeX, (p.walkP d t).length ≤ p.size
  | .mk k n a, t => by
    rw [TypeX.walkP, TypeX.size, List.length_cons]
    have := walkPL_length (d + 1) a t.args_
    split
    · simp
    · omega
theorem walkPL_length (d : Nat) : ∀ a b : List TypeX, (TypeX.walkPL d a b).length ≤ TypeX.sizeL a
  | [], _ => by rw [TypeX.walkPL]; simp
  | _ :: _, [] => by rw [TypeX.walkPL]; simp
  | x :: r, y :: s => by
    have := walkP_length d x y
    have := walkPL_length d r s
    rw [TypeX.walkPL, TypeX.sizeL, List.length_append]; omega
end
mutual
theorem walkP_small (d : Nat) : ∀ (p t : TypeX), ∀ q ∈ p.walkP d t, q.2.2.size ≤ t.size
  | .mk k n a, t, q, h => by
    rw [TypeX.walkP] at h
    rcases List.mem_cons.1 h with rfl | h
    · exact Nat.le_refl _
    · by_cases hk : k = 1
      · rw [if_pos hk] at h; cases h
      · rw [if_neg hk] at h
        have := walkPL_small (d + 1) a t.args_ q h
        rw [TypeX.size_eq t]; omega
theorem walkPL_small (d : Nat) : ∀ (a b : List TypeX), ∀ q ∈ TypeX.walkPL d a b, q.2.2.size ≤ TypeX.sizeL b
  | [], _, q, h => by rw [TypeX.walkPL] at h; cases h
  | _ :: _, [], q, h => by rw [TypeX.walkPL] at h; cases h
  | x :: r, y :: s, q, h => by
    rw [TypeX.walkPL] at h
    rw [TypeX.sizeL]
    rcases List.mem_append.1 h with h | h
    · have := walkP_small d x y q h; omega
    · have := walkPL_small d r s q h; omega
end
mutual
theorem walkP_left (d : Nat) : ∀ (p t : TypeX), ∀ q ∈ p.walkP d t, q.2.1.size ≤ p.size
  | .mk k n a, t, q, h => by
    rw [TypeX.walkP] at h
    rcases List.mem_cons.1 h with rfl | h
    · exact Nat.le_refl _
    · by_cases hk : k = 1
      · rw [if_pos hk] at h; cases h
      · rw [if_neg hk] at h
        have := walkPL_left (d + 1) a t.args_ q h
        rw [TypeX.size]; omega
theorem walkPL_left (d : Nat) : ∀ (a b : List TypeX), ∀ q ∈ TypeX.walkPL d a b, q.2.1.size ≤ TypeX.sizeL a
  | [], _, q, h => by rw [TypeX.walkPL] at h; cases h
  | _ :: _, [], q, h => by rw [TypeX.walkPL] at h; cases h
  | x :: r, y :: s, q, h => by
    rw [TypeX.walkPL] at h
    rw [TypeX.sizeL]
    rcases List.mem_append.1 h with h | h
    · have := walkP_left d x y q h; omega
    · have := walkPL_left d r s q h; omega
end

/-- What one pair makes of the bindings. -/
def stepP (q : PairX) (acc : List BindingX) : Option (List BindingX) :=
  if q.1.kind_ = 1 then
    match lookX q.1.name_ acc with
    | some y => if y.same q.2 = true then some acc else none
    | none => some (acc ++ [.mk q.1.name_ q.2])
  else if q.1.kind_ = q.2.kind_ ∧ q.1.name_ = q.2.name_ ∧ q.1.args_.length = q.2.args_.length then some acc else none
def stepsP : List (Nat × PairX) → List BindingX → Option (List BindingX)
  | [], acc => some acc
  | q :: r, acc => (stepP q.2 acc).bind (stepsP r)
theorem stepsP_app : ∀ (a b : List (Nat × PairX)) (acc : List BindingX), stepsP (a ++ b) acc = (stepsP a acc).bind (stepsP b)
  | [], b, acc => rfl
  | q :: r, b, acc => by
    rw [List.cons_append, stepsP, stepsP]
    cases stepP q.2 acc with
    | none => rfl
    | some a2 => exact stepsP_app r b a2
theorem stepsP_one (q : Nat × PairX) (acc : List BindingX) : stepsP [q] acc = stepP q.2 acc := by
  rw [stepsP]
  cases stepP q.2 acc <;> rfl
theorem stepP_met {q : PairX} {y : TypeX} {acc : List BindingX} (hk : q.1.kind_ = 1) (hl : lookX q.1.name_ acc = some y) : stepP q acc = if y.same q.2 = true then some acc else none := by
  rw [stepP, if_pos hk, hl]
theorem stepP_new {q : PairX} {acc : List BindingX} (hk : q.1.kind_ = 1) (hl : lookX q.1.name_ acc = none) : stepP q acc = some (acc ++ [.mk q.1.name_ q.2]) := by
  rw [stepP, if_pos hk, hl]
theorem stepP_root {q : PairX} {acc : List BindingX} (hk : q.1.kind_ ≠ 1) : stepP q acc = if q.1.kind_ = q.2.kind_ ∧ q.1.name_ = q.2.name_ ∧ q.1.args_.length = q.2.args_.length then some acc else none := by
  rw [stepP, if_neg hk]
theorem stepP_yes {q : PairX} {acc : List BindingX} (hk : q.1.kind_ ≠ 1) (hc : q.1.kind_ = q.2.kind_ ∧ q.1.name_ = q.2.name_ ∧ q.1.args_.length = q.2.args_.length) : stepP q acc = some acc := by
  rw [stepP_root hk, if_pos hc]
theorem stepP_no {q : PairX} {acc : List BindingX} (hk : q.1.kind_ ≠ 1) (hc : ¬ (q.1.kind_ = q.2.kind_ ∧ q.1.name_ = q.2.name_ ∧ q.1.args_.length = q.2.args_.length)) : stepP q acc = none := by
  rw [stepP_root hk, if_neg hc]
theorem stepP_good {q : PairX} {acc a2 : List BindingX} (h : stepP q acc = some a2) : GoodP q.1 q.2 := by
  by_cases hk : q.1.kind_ = 1
  · exact .inl hk
  · rw [stepP_root hk] at h
    by_cases hc : q.1.kind_ = q.2.kind_ ∧ q.1.name_ = q.2.name_ ∧ q.1.args_.length = q.2.args_.length
    · exact .inr hc.2.2
    · rw [if_neg hc] at h; cases h
mutual
theorem stepsP_walk (d : Nat) : ∀ (p t : TypeX) (acc : List BindingX), stepsP (p.walkP d t) acc = p.mat t acc
  | .mk k n a, t, acc => by
    rw [TypeX.walkP, stepsP]
    by_cases hk : k = 1
    · rw [if_pos hk]
      cases hl : lookX n acc with
      | some y =>
        rw [stepP_met (q := (.mk k n a, t)) hk hl, TypeX.mat_met (p := .mk k n a) hk hl]
        by_cases hs : y.same t = true
        · simp only [hs, if_true, Option.bind_some, stepsP]
        · rw [if_neg hs]; rfl
      | none =>
        rw [stepP_new (q := (.mk k n a, t)) hk hl, TypeX.mat_new (p := .mk k n a) hk hl]
        rfl
    · rw [if_neg hk]
      by_cases hc : k = t.kind_ ∧ n = t.name_ ∧ a.length = t.args_.length
      · rw [stepP_yes (q := (.mk k n a, t)) hk hc, TypeX.mat_args (p := .mk k n a) hk hc, Option.bind_some]
        exact stepsP_walkL (d + 1) a t.args_ acc hc.2.2
      · rw [stepP_no (q := (.mk k n a, t)) hk hc, TypeX.mat_no (p := .mk k n a) hk hc]; rfl
theorem stepsP_walkL (d : Nat) : ∀ (a b : List TypeX) (acc : List BindingX), a.length = b.length → stepsP (TypeX.walkPL d a b) acc = TypeX.matL a b acc
  | [], _, acc, _ => by rw [TypeX.walkPL, stepsP, TypeX.matL]
  | _ :: _, [], acc, h => by simp at h
  | x :: r, y :: s, acc, h => by
    rw [TypeX.walkPL, stepsP_app, stepsP_walk d x y, TypeX.matL]
    cases x.mat y acc with
    | none => rfl
    | some a2 => exact stepsP_walkL d r s a2 (by simpa using h)
end
/-- Once it fails it fails. -/
theorem stepsP_none {a b : List (Nat × PairX)} {acc : List BindingX} (h : stepsP a acc = none) : stepsP (a ++ b) acc = none := by rw [stepsP_app, h]; rfl
theorem stepP_small {M : Nat} {q : PairX} {acc a2 : List BindingX} (ha : ∀ b ∈ acc, b.type_.size ≤ M) (hq : q.2.size ≤ M) (h : stepP q acc = some a2) : (∀ b ∈ a2, b.type_.size ≤ M) ∧ a2.length ≤ acc.length + 1 := by
  by_cases hk : q.1.kind_ = 1
  · cases hl : lookX q.1.name_ acc with
    | some y =>
      rw [stepP_met hk hl] at h
      by_cases hs : y.same q.2 = true
      · rw [if_pos hs] at h; injection h with h; subst h; exact ⟨ha, by omega⟩
      · rw [if_neg hs] at h; cases h
    | none =>
      rw [stepP_new hk hl] at h
      injection h with h
      subst h
      refine ⟨fun b hb => ?_, by rw [List.length_append]; simp⟩
      rcases List.mem_append.1 hb with hb | hb
      · exact ha b hb
      · rw [List.mem_singleton.1 hb]; exact hq
  · rw [stepP_root hk] at h
    by_cases hc : q.1.kind_ = q.2.kind_ ∧ q.1.name_ = q.2.name_ ∧ q.1.args_.length = q.2.args_.length
    · rw [if_pos hc] at h; injection h with h; subst h; exact ⟨ha, by omega⟩
    · rw [if_neg hc] at h; cases h
theorem stepsP_small {M : Nat} : ∀ {l : List (Nat × PairX)} {acc a2 : List BindingX}, (∀ b ∈ acc, b.type_.size ≤ M) → (∀ q ∈ l, q.2.2.size ≤ M) → stepsP l acc = some a2 → (∀ b ∈ a2, b.type_.size ≤ M) ∧ a2.length ≤ acc.length + l.length
  | [], acc, a2, ha, hl, h => by rw [stepsP] at h; injection h with h; subst h; exact ⟨ha, by simp⟩
  | q :: r, acc, a2, ha, hl, h => by
    rw [stepsP] at h
    cases hs : stepP q.2 acc with
    | none => rw [hs] at h; cases h
    | some a1 =>
      rw [hs] at h
      obtain ⟨h1, h2⟩ := stepP_small ha (hl q List.mem_cons_self) hs
      obtain ⟨h3, h4⟩ := stepsP_small h1 (fun q hq => hl q (List.mem_cons_of_mem _ hq)) h
      exact ⟨h3, by rw [List.length_cons]; omega⟩
end Go.Proofs.Ytmacnanocofoaaa
namespace Go.Proofs.Ytmacnanocofoaaa
open Go.RowKit

/-- What a round keeps: what lay below n₀, and the iterator's own blocks. -/
structure KeepsM (n₀ : Nat) (M : Nat → Prop) (W W' : World) : Prop where
  below : Below n₀ W W'
  own : ∀ b, M b → W'.heap[b]? = W.heap[b]?
theorem KeepsM.refl (n₀ : Nat) (M : Nat → Prop) (W : World) : KeepsM n₀ M W W := ⟨Below.refl _ _, fun _ _ => rfl⟩
theorem KeepsM.trans {n₀ : Nat} {M : Nat → Prop} {A B C : World} (h : KeepsM n₀ M A B) (k : KeepsM n₀ M B C) : KeepsM n₀ M A C := ⟨h.below.trans k.below, fun b hb => (k.own b hb).trans (h.own b hb)⟩
theorem KeepsM.putObj {n₀ : Nat} {M : Nat → Prop} {W : World} {l : Nat} {o' : Obj} (hn : n₀ ≤ l) (hl : l < W.heap.size) (hM : ¬ M l) : KeepsM n₀ M W (W.putObj l o') :=
  ⟨(Below.refl n₀ W).grown (grownBy_putObj' W l o') (by omega) (fun k e => by cases e; exact hn), fun b hb => World.putObj_heap_other (fun e => hM (e ▸ hb))⟩
theorem KeepsM.alloc {n₀ : Nat} {M : Nat → Prop} {W : World} (hn : n₀ ≤ W.heap.size) (hM : ∀ b, M b → b < W.heap.size) (o : Obj) : KeepsM n₀ M W (W.alloc o) :=
  ⟨(Below.refl n₀ W).alloc hn o, fun b hb => Below.heap_alloc W o b (hM b hb)⟩
theorem KeepsM.setCell {n₀ : Nat} {M : Nat → Prop} {W : World} {b : Nat} {o : Nat} (hn : n₀ ≤ b) (hM : ¬ M b) (v : Value) : KeepsM n₀ M W (W.setCell ⟨b, o, none⟩ v) :=
  ⟨(Below.refl n₀ W).setCell (p := ⟨b, o, none⟩) hn v, fun k hk => Below.heap_setCell W _ v k (fun e => hM (by rw [← show k = b from e]; exact hk))⟩
theorem KeepsM.grown {n₀ : Nat} {M : Nat → Prop} {W W' : World} {row : Option Nat} (hg : W.grownBy W' row) (hn : n₀ ≤ W.heap.size) (hM : ∀ b, M b → b < W.heap.size) (hr : ∀ k, row = some k → n₀ ≤ k ∧ ¬ M k) : KeepsM n₀ M W W' :=
  ⟨(Below.refl n₀ W).grown hg hn (fun k e => (hr k e).1), fun b hb => hg.block b (hM b hb) (fun e => (hr b e.symm).2 hb)⟩
theorem KeepsM.of_below {n₀ : Nat} {M : Nat → Prop} {W W' : World} (hb : Below W.heap.size W W') (hn : n₀ ≤ W.heap.size) (hM : ∀ b, M b → b < W.heap.size) : KeepsM n₀ M W W' :=
  ⟨hb.mono hn, fun b hb' => hb.block b (hM b hb')⟩
theorem grown_none {A B : World} (h : Below A.heap.size A B) : A.grownBy B none := ⟨h.os, h.tape, h.output, h.size, fun k hk _ => h.block k hk⟩
theorem grownBy_setCell'' (W : World) (b o : Nat) (v : Value) : W.grownBy (W.setCell ⟨b, o, none⟩ v) (some b) :=
  ⟨rfl, rfl, rfl, by simp, fun k _ hk => Below.heap_setCell _ _ _ k (fun e => hk (by rw [e]))⟩
theorem KeepsFrom.of_below {B : Nat} {W W' : World} (hb : Below W.heap.size W W') : KeepsFrom B W W' :=
  ⟨hb.size, fun k _ _ hk _ => (hb.block k (Array.getElem?_eq_some_iff.1 hk).1).trans hk⟩

/-- THE ITERATOR's CONTRACT: J and Jx are the caller's; M: the blocks that the iterator has made; Rd: those that it only reads. -/
def SeqM {α : Type} (F : Fence) (n : Nat) (P : Program) (g : Nat) (lb : Array Value) (encs : α → Array Value) (Ok : List α → α → Prop) (S : List α → Prop) (n₀ : Nat) (Rd : Nat → Prop) (w : World) : Prop :=
  ∀ (l : Nat) (J : (Nat → Prop) → List α → World → Prop) (Jx : List α → World → Prop) (W : World), Below w.heap.size w W →
    (∀ M s A B row, J M s A → A.grownBy B row → (∀ r, row = some r → M r) → J (fun b => M b ∨ (A.heap.size ≤ b ∧ b < B.heap.size)) s B) →
    (∀ M pre x W1, J M pre W1 → Ok pre x → YieldAt F (n - 1) P l (encs x) W1 fun e W' =>
      (e = .returned (.bool true) ∧ J M (pre ++ [x]) W' ∧ KeepsM n₀ (fun b => M b ∨ Rd b) W1 W') ∨ (e = .returned (.bool false) ∧ Jx (pre ++ [x]) W')) →
    J (fun _ => False) [] W →
    CallsIn F n P g (#[.func (.yield l) #[] #[]] ++ lb) W fun e W' => (∃ v, e = .returned v) ∧ ((∃ M xs, S xs ∧ J M xs W') ∨ (∃ pre, Jx pre W'))

/-- THE CALLER's INVARIANT abides the iterator's steps, and the turns of what is no cells, from B on. -/
def OwnM {β : Type} (B : Nat) (I : (Nat → Prop) → β → World → Prop) : Prop :=
  ∀ M M' s A A' row, I M s A → A.grownBy A' row → (∀ r, row = some r → B ≤ r ∧ (M r ∨ ∃ o : Obj, A.heap[r]? = some o ∧ o.isCells = false)) → (∀ b, M' b → M b ∨ A.heap.size ≤ b) → I M' s A'
theorem OwnM.and {β : Type} {B : Nat} {I I' : (Nat → Prop) → β → World → Prop} (h : OwnM B I) (h' : OwnM B I') : OwnM B (fun M s W => I M s W ∧ I' M s W) :=
  fun M M' s A A' row hs hg hr hM => ⟨h M M' s A A' row hs.1 hg hr hM, h' M M' s A A' row hs.2 hg hr hM⟩
theorem OwnM.from {β : Type} {B : Nat} {I : (Nat → Prop) → β → World → Prop} (h : OwnM B I) (M : Nat → Prop) : OwnFrom B (I M) :=
  fun s A A' row hs hg hr => h M M s A A' row hs hg (fun r e => ⟨(hr r e).1, .inr (hr r e).2⟩) (fun _ hb => .inl hb)
theorem ownM_pure {β : Type} (B : Nat) (p : β → Prop) : OwnM B (fun _ s (_ : World) => p s) := fun _ _ _ _ _ _ hs _ _ _ => hs
theorem ownM_below {β : Type} {B n₀ : Nat} {w : World} (hn : n₀ ≤ B) (hs : n₀ ≤ w.heap.size) : OwnM B (fun _ (_ : β) W => Below n₀ w W) :=
  fun _ _ _ A A' row h hg hr _ => h.grown hg (by have := h.size; omega) (fun k e => by have := (hr k e).1; omega)
theorem ownM_boxed {β : Type} {B Bx : Nat} (t : TypeId) (f : β → Value) (hx : Bx < B) : OwnM B (fun _ s W => Boxed W Bx t (f s)) :=
  fun _ _ _ _ _ _ hs hg hr _ => hs.kept hg (fun e => by have := (hr _ e.symm).1; omega)
/-- A box that holds a slice with memory of its own, none of it the iterator's. -/
theorem ownM_row {β : Type} (n₀ : Nat) {B Bx : Nat} (t e : TypeId) (size : Nat) (k : β → Nat) (f : β → List Value) (G : β → Value → Prop) (hx : Bx < B) :
    OwnM B (fun M s W => ∃ v, Boxed W Bx t v ∧ W.ownsRow n₀ e size v (k s) (f s) ∧ (∀ b, v.ownBlock = some b → ¬ M b) ∧ G s v) := by
  rintro M M' s A A' row ⟨v, hv, hr, hn, hG⟩ hg hrow hM
  refine ⟨v, hv.kept hg (fun e' => by have := (hrow _ e'.symm).1; omega), hr.kept hg ?_, fun b hb h' => ?_, hG⟩
  · rcases hr.2 with ⟨rfl, _⟩ | ⟨g, cap, cur, rfl, _, hgb, _⟩
    · exact .inl rfl
    · refine .inr fun e' => ?_
      have e2 : row = some g := by simpa [Value.ownBlock] using e'.symm
      rcases (hrow g e2).2 with h | ⟨o, ho, hc⟩
      · exact hn g rfl h
      · rw [hgb] at ho; cases ho; cases hc
  · rcases hM b h' with h | h
    · exact hn b hb h
    · have := (hr.lt b hb).2; omega

theorem boxed_set_int {W : World} {B : Nat} {t : TypeId} {v : Value} {z z' : Int} (h : Boxed W B t v) (e : z = z') : Boxed (W.setCell ⟨B, 0, none⟩ (.int .i64 z)) B t (.int .i64 z') := e ▸ h.set _
theorem whole_kept {W W' : World} {row : Option Nat} {B : Nat} {t : TypeId} {cs : Array Value} (h : Whole W B t cs) (hg : W.grownBy W' row) (hr : ∀ r, row = some r → ∃ o : Obj, W.heap[r]? = some o ∧ o.isCells = false) : Whole W' B t cs :=
  (hg.block B h.lt (fun e => by obtain ⟨o, ho, hc⟩ := hr B e.symm; rw [show W.heap[B]? = _ from h] at ho; cases ho; cases hc)).trans h
/-- A new block of the round's. -/
theorem OwnM.alloc_ {β : Type} {B : Nat} {I : (Nat → Prop) → β → World → Prop} (h : OwnM B I) {M : Nat → Prop} {s : β} {W : World} {o : Obj} (hs : I M s W) (_hM : ∀ b, M b → B < b) : I M s (W.alloc o) :=
  h M M s W _ none hs (World.grownBy_alloc W o none) (fun r e => by cases e) (fun _ hb => .inl hb)

/-- HOW THE BODY OF A ROUND MAY BE LEFT. -/
def ownPostM {α : Type} (B n₀ : Nat) (Rd : Nat → Prop) (I : (Nat → Prop) → List α → World → Prop) (Ix : Code → List α → World → Prop) (M : Nat → Prop) (xs : List α) (W : World) : Exit → Act → World → Prop
  | .normal, _, W' => KeepsFrom B W W' ∧ KeepsM n₀ (fun b => M b ∨ Rd b) W W' ∧ I M xs W'
  | .ret, _, W' => KeepsFrom B W W' ∧ Ix .ret xs W'
  | .exit id, _, W' => KeepsFrom B W W' ∧ Ix (.exit id) xs W'
  | .goto t, _, W' => KeepsFrom B W W' ∧ Ix (.goto t) xs W'
  | .panic _, _, _ => False
  | .outgrown, _, _ => False

variable {F : Fence} {n : Nat} {P : Program}

theorem wpIn_rangeFunc_ownM {α : Type} {g : Operand} {ps : Array Tmp} {assign body : Code} {Q : Exit → Act → World → Prop} {a : Act} {w : World}
    (hro : F.round = none) (h1 : 1 ≤ n) {gf : Nat} {lb : Array Value} (hg : a.eval g = .func (.func gf) #[] lb) (hFg : F.fn gf) (eg : ∀ args w, (callFunc gf args).run P w = .ok (.enter gf args) w)
    {encs : α → Array Value} {Ok : List α → α → Prop} {S : List α → Prop} {n₀ : Nat} {Rd : Nat → Prop} {w0 : World} (hseq : SeqM F (n - 1) P gf lb encs Ok S n₀ Rd w0) (hRd : ∀ b, Rd b → b < w.heap.size)
    (hb0 : Below w0.heap.size w0 w) (hn0 : n₀ ≤ w.heap.size) (hps : ∀ x, (encs x).size = ps.size)
    (I : (Nat → Prop) → List α → World → Prop) (Ix : Code → List α → World → Prop) (hI : OwnM w.heap.size I) (hIx : ∀ c, OwnFrom w.heap.size (Ix c)) (h0 : ∀ M : Nat → Prop, (∀ b, M b → w.heap.size ≤ b) → I M [] w) (Ax : α → Act → World → Prop) (hAx : ∀ x a', OwnFrom w.heap.size (fun (_ : Unit) W => Ax x a' W))
    (hassign : ∀ (l : Nat) (M : Nat → Prop) (pre : List α) (x : α) (W : World) (K : Act → World → Prop), (∀ b, M b → w.heap.size < b) → (∀ b, M b ∨ Rd b → b < W.heap.size) → w.heap.size + 1 < W.heap.size → I M pre W → Ok pre x → (∀ a' W', KeepsFrom w.heap.size W W' → KeepsM n₀ (fun b => M b ∨ Rd b) W W' → I M pre W' → Ax x a' W' → K a' W') →
      assign.wpIn (F.inRound l) (n - 1 - 1) P (Exit.then K (fun _ _ _ => False)) { tmps := (ps.zip (encs x)).foldl (fun t (p, v) => t.setIfInBounds p v) a.tmps, defers := [] } W)
    (hbody : ∀ (l : Nat) (M : Nat → Prop) (pre : List α) (x : α) (a' : Act) (W : World), (∀ b, M b → w.heap.size < b) → (∀ b, M b ∨ Rd b → b < W.heap.size) → w.heap.size + 1 < W.heap.size → I M pre W → Ax x a' W → Ok pre x → body.wpIn (F.inRound l) (n - 1 - 1) P (ownPostM w.heap.size n₀ Rd I Ix M (pre ++ [x]) W) a' W)
    (hdone : ∀ (D : Nat) (M : Nat → Prop) (xs : List α) (W : World), w.heap.size ≤ D → S xs → I M xs W → W.heap[D]? = some (.deferred (some [])) → Q .normal { a with defers := { target := .collected D, args := #[] } :: a.defers } W)
    (hstop : ∀ (D : Nat) (c : Code) (pre : List α) (W : World), w.heap.size ≤ D → Ix c pre W → W.heap[D]? = some (.deferred (some [])) → c.wpIn F n P Q { a with defers := { target := .collected D, args := #[] } :: a.defers } W) :
    (Code.rangeFunc g ps assign body).wpIn F n P Q a w := by
  refine wpIn_rangeFunc ?_
  intro fn hfn
  rw [hro]
  obtain ⟨rec, hrec⟩ : ∃ rec : LoopState → Option Code → Loop, rec = fun st pe => { state := st, pending := pe, fn, tmps := a.tmps, params := ps, assign, body, defers := w.heap.size } := ⟨_, rfl⟩
  obtain ⟨W1, hW1⟩ : ∃ W1, (w.alloc (.deferred (some []))).alloc (.loop (rec .ready none)) = W1 := ⟨_, rfl⟩
  have hsz : W1.heap.size = w.heap.size + 2 := by rw [← hW1]; simp
  have hL1 : W1.heap[w.heap.size + 1]? = some (.loop (rec .ready none)) := by
    rw [← hW1]; have := World.alloc_heap_new (w.alloc (.deferred (some []))) (.loop (rec .ready none)); rwa [World.size_alloc] at this
  have hK1 : W1.heap[w.heap.size]? = some (.deferred (some [])) := by
    rw [← hW1]; exact (Below.heap_alloc _ _ _ (by simp)).trans (World.alloc_heap_new w _)
  have hI1 : I (fun _ => False) [] W1 := by
    have h := h0 (fun _ => False) (fun _ h => h.elim)
    rw [← hW1]; exact (hI.from _).alloc _ ((hI.from _).alloc _ h)
  have hb1 : Below w0.heap.size w0 W1 := by
    rw [← hW1]; exact hb0.trans ((((Below.refl _ w).alloc (Nat.le_refl _) _).alloc (by simp) _).mono hb0.size)
  refine ⟨w.heap.size + 1, [{ target := .collected w.heap.size, args := #[] }], W1, { target := .fn (.func gf) lb, args := #[.func (.yield (w.heap.size + 1)) #[] #[]] }, W1, gf,
    #[.func (.yield (w.heap.size + 1)) #[] #[]] ++ lb, W1, ?_, ?_, ?_, ?_, fun _ => h1, ?_⟩
  · rw [← hW1, hrec]; exact run_enterLoop_outer _ _ _ _ _
  · simp only [resolve, hg]
    simp [go_sem]
  · intro f' hf'; simp [Target.leads] at hf'; subst hf'; exact hFg
  · simp [invoke, go_sem, eg]
  · refine (hseq (w.heap.size + 1)
      (fun M pre W => (∀ b, M b → w.heap.size + 2 ≤ b ∧ b < W.heap.size) ∧ I M pre W ∧ W.heap[w.heap.size + 1]? = some (.loop (rec .ready none)) ∧ W.heap[w.heap.size]? = some (.deferred (some [])))
      (fun pre W => ∃ c, Ix c pre W ∧ W.heap[w.heap.size + 1]? = some (.loop (rec .done (some c))) ∧ W.heap[w.heap.size]? = some (.deferred (some [])))
      W1 hb1 ?_ ?_ ⟨fun _ h => h.elim, hI1, hL1, hK1⟩).mono ?_
    · rintro M s A B row ⟨hM, hi, hl, hk⟩ hg' hr
      have hlt : w.heap.size + 1 < A.heap.size := (Array.getElem?_eq_some_iff.1 hl).1
      have hsz' := hg'.size
      refine ⟨fun b hb => ?_, hI M _ s A B row hi hg' (fun r e => ⟨by have := (hM r (hr r e)).1; omega, .inl (hr r e)⟩) (fun b hb => hb.imp_right (fun h => h.1)), ?_, ?_⟩
      · rcases hb with hb | hb
        · have := hM b hb; omega
        · omega
      · exact (hg'.block _ hlt (fun e => by have := (hM _ (hr _ e.symm)).1; omega)).trans hl
      · exact (hg'.block _ (by omega) (fun e => by have := (hM _ (hr _ e.symm)).1; omega)).trans hk
    · rintro M pre x W ⟨hM, hi, hl, hk⟩ hok
      have hlt : w.heap.size + 1 < W.heap.size := (Array.getElem?_eq_some_iff.1 hl).1
      have hy := run_yield (P := P) (args := encs x) hl (by rw [hrec]; exact hps x)
      rw [hrec] at hy
      refine ⟨fn, _, assign, body, hy, roundIn_of_wpIn hfn (hassign _ M pre x W _ (fun b hb => by have := hM b hb; omega) (fun b hb => hb.elim (fun h => (hM b h).2) (fun h => by have := hRd b h; omega)) hlt hi hok ?_)⟩
      clear hy
      intro a' Wa hkfa hkpa hia hax
      replace hl := hkfa.same _ _ (by omega) hl rfl
      replace hk := hkfa.same _ _ (Nat.le_refl _) hk rfl
      replace hlt : w.heap.size + 1 < Wa.heap.size := (Array.getElem?_eq_some_iff.1 hl).1
      replace hM : ∀ b, M b → w.heap.size + 2 ≤ b ∧ b < Wa.heap.size := fun b hb => ⟨(hM b hb).1, by have := (hM b hb).2; have := hkfa.size; omega⟩
      replace hi := hia
      clear hia
      revert hkpa hkfa
      generalize W = Wb
      intro hkfa hkpa
      obtain ⟨W, rfl⟩ : ∃ W, W = Wa := ⟨_, rfl⟩
      refine ⟨_, run_beginRound hl (by rw [hrec]), ?_⟩
      have hl2 : (W.putObj (w.heap.size + 1) (.loop { rec .ready none with state := .busy })).heap[w.heap.size + 1]? = some (.loop { rec .ready none with state := .busy }) := World.putObj_heap_same hlt
      have hk2 : (W.putObj (w.heap.size + 1) (.loop { rec .ready none with state := .busy })).heap[w.heap.size]? = some (.deferred (some [])) := (World.putObj_heap_other (by omega)).trans hk
      have hw2 : KeepsM n₀ (fun b => M b ∨ Rd b) W (W.putObj (w.heap.size + 1) (.loop { rec .ready none with state := .busy })) := KeepsM.putObj (by omega) hlt (fun h => h.elim (fun h => by have := (hM _ h).1; omega) (fun h => by have := hRd _ h; omega))
      refine wpIn_mono (hbody _ M pre x a' _ (fun b hb => by have := hM b hb; omega) (fun b hb => by simp; exact hb.elim (fun h => (hM b h).2) (fun h => by have := hRd b h; omega)) (by simp; omega) ((hI.from M).putObj _ hi (by omega) hl rfl) ((hAx x a').putObj (s := ()) _ hax (by omega) hl rfl) hok) ?_
      have fin : ∀ (jump : Option Code) (W3 : World), KeepsFrom w.heap.size (W.putObj (w.heap.size + 1) (.loop { rec .ready none with state := .busy })) W3 →
          (Instr.endRound (w.heap.size + 1) jump).run P W3 = .ok (.bool jump.isNone) (W3.putObj (w.heap.size + 1) (.loop (rec (if jump.isNone then .ready else .done) jump))) ∧
          W3.heap[w.heap.size + 1]? = some (.loop { rec .ready none with state := .busy }) ∧
          (W3.putObj (w.heap.size + 1) (.loop (rec (if jump.isNone then .ready else .done) jump))).heap[w.heap.size + 1]? = some (.loop (rec (if jump.isNone then .ready else .done) jump)) ∧
          (W3.putObj (w.heap.size + 1) (.loop (rec (if jump.isNone then .ready else .done) jump))).heap[w.heap.size]? = some (.deferred (some [])) := fun jump W3 hk3 => by
        have hl3 := hk3.same _ _ (by omega) hl2 rfl
        have := run_endRound (P := P) jump hl3
        rw [hrec] at this ⊢
        exact ⟨this, by rw [hrec] at hl3; exact hl3, World.putObj_heap_same (Array.getElem?_eq_some_iff.1 hl3).1, (World.putObj_heap_other (by omega)).trans (hk3.same _ _ (Nat.le_refl _) hk2 rfl)⟩
      rintro e a3 W3 hp
      cases e with
      | normal =>
        obtain ⟨hk3, hkp3, hi3⟩ := hp
        obtain ⟨hr, hl3, hl4, hk4⟩ := fin none W3 hk3
        have hlt3 := (Array.getElem?_eq_some_iff.1 hl3).1
        have hsz3 := hk3.size
        simp at hsz3
        exact ⟨_, _, hr, .inl ⟨rfl, ⟨fun b hb => by have := hM b hb; simp; omega, (hI.from M).putObj _ hi3 (by omega) hl3 rfl, hl4, hk4⟩, hkpa.trans ((hw2.trans hkp3).trans (KeepsM.putObj (by omega) hlt3 (fun h => h.elim (fun h => by have := (hM _ h).1; omega) (fun h => by have := hRd _ h; omega))))⟩⟩
      | ret =>
        obtain ⟨hk3, hi3⟩ := hp
        obtain ⟨hr, hl3, hl4, hk4⟩ := fin (some .ret) W3 hk3
        exact ⟨_, _, hr, .inr ⟨rfl, .ret, (hIx _).putObj _ hi3 (by omega) hl3 rfl, hl4, hk4⟩⟩
      | exit id =>
        obtain ⟨hk3, hi3⟩ := hp
        obtain ⟨hr, hl3, hl4, hk4⟩ := fin (some (.exit id)) W3 hk3
        exact ⟨_, _, hr, .inr ⟨rfl, .exit id, (hIx _).putObj _ hi3 (by omega) hl3 rfl, hl4, hk4⟩⟩
      | goto t =>
        obtain ⟨hk3, hi3⟩ := hp
        obtain ⟨hr, hl3, hl4, hk4⟩ := fin (some (.goto t)) W3 hk3
        exact ⟨_, _, hr, .inr ⟨rfl, .goto t, (hIx _).putObj _ hi3 (by omega) hl3 rfl, hl4, hk4⟩⟩
      | panic ch => exact hp.elim
      | outgrown => exact hp.elim
    · rintro e W2 ⟨⟨v, rfl⟩, (⟨M, xs, hS, hM, hi, hl, hk⟩ | ⟨pre, c, hi, hl, hk⟩)⟩
      · exact ⟨none, _, by have := run_endLoop (P := P) hl (by rw [hrec]; simp); rw [hrec] at this; exact this, hdone _ M xs _ (Nat.le_refl _) hS ((hI.from M).putObj _ hi (by omega) hl rfl) ((World.putObj_heap_other (by omega)).trans hk)⟩
      · exact ⟨some c, _, by have := run_endLoop (P := P) hl (by rw [hrec]; simp); rw [hrec] at this; exact this, hstop _ c pre _ (Nat.le_refl _) ((hIx c).putObj _ hi (by omega) hl rfl) ((World.putObj_heap_other (by omega)).trans hk)⟩
end Go.Proofs.Ytmacnanocofoaaa
namespace Go.Proofs.Ytmacnanocofoaaa
open Go.RowKit

/-- THE ITERATOR's CONTRACT, where the body lets pass only what is Good: J and Jx are the caller's; M: the blocks that the iterator has made; Rd: those that it only reads. -/
def SeqG {α : Type} (F : Fence) (n : Nat) (P : Program) (g : Nat) (lb : Array Value) (encs : α → Array Value) (Ok : List α → α → Prop) (S : List α → Prop) (Good : α → Prop) (n₀ : Nat) (Rd : Nat → Prop) (w : World) : Prop :=
  ∀ (l : Nat) (J : (Nat → Prop) → List α → World → Prop) (Jx : List α → World → Prop) (W : World), Below w.heap.size w W →
    (∀ M s A B row, J M s A → A.grownBy B row → (∀ r, row = some r → M r) → J (fun b => M b ∨ (A.heap.size ≤ b ∧ b < B.heap.size)) s B) →
    (∀ M pre x W1, J M pre W1 → Ok pre x → YieldAt F (n - 1) P l (encs x) W1 fun e W' =>
      (e = .returned (.bool true) ∧ J M (pre ++ [x]) W' ∧ KeepsM n₀ (fun b => M b ∨ Rd b) W1 W') ∨ (e = .returned (.bool false) ∧ Jx (pre ++ [x]) W')) →
    (∀ M pre x W1, J M (pre ++ [x]) W1 → Good x) →
    J (fun _ => False) [] W →
    CallsIn F n P g (#[.func (.yield l) #[] #[]] ++ lb) W fun e W' => (∃ v, e = .returned v) ∧ ((∃ M xs, S xs ∧ J M xs W') ∨ (∃ pre, Jx pre W'))

variable {F : Fence} {n : Nat} {P : Program}

theorem wpIn_rangeFunc_ownG {α : Type} {g : Operand} {ps : Array Tmp} {assign body : Code} {Q : Exit → Act → World → Prop} {a : Act} {w : World}
    (hro : F.round = none) (h1 : 1 ≤ n) {gf : Nat} {lb : Array Value} (hg : a.eval g = .func (.func gf) #[] lb) (hFg : F.fn gf) (eg : ∀ args w, (callFunc gf args).run P w = .ok (.enter gf args) w)
    {encs : α → Array Value} {Ok : List α → α → Prop} {S : List α → Prop} {Good : α → Prop} {n₀ : Nat} {Rd : Nat → Prop} {w0 : World} (hseq : SeqG F (n - 1) P gf lb encs Ok S Good n₀ Rd w0) (hRd : ∀ b, Rd b → b < w.heap.size)
    (hb0 : Below w0.heap.size w0 w) (hn0 : n₀ ≤ w.heap.size) (hps : ∀ x, (encs x).size = ps.size)
    (I : (Nat → Prop) → List α → World → Prop) (Ix : Code → List α → World → Prop) (hI : OwnM w.heap.size I) (hG : ∀ M pre x W, I M (pre ++ [x]) W → Good x) (hIx : ∀ c, OwnFrom w.heap.size (Ix c)) (h0 : ∀ M : Nat → Prop, (∀ b, M b → w.heap.size ≤ b) → I M [] w) (Ax : α → Act → World → Prop) (hAx : ∀ x a', OwnFrom w.heap.size (fun (_ : Unit) W => Ax x a' W))
    (hassign : ∀ (l : Nat) (M : Nat → Prop) (pre : List α) (x : α) (W : World) (K : Act → World → Prop), (∀ b, M b → w.heap.size < b) → (∀ b, M b ∨ Rd b → b < W.heap.size) → w.heap.size + 1 < W.heap.size → I M pre W → Ok pre x → (∀ a' W', KeepsFrom w.heap.size W W' → KeepsM n₀ (fun b => M b ∨ Rd b) W W' → I M pre W' → Ax x a' W' → K a' W') →
      assign.wpIn (F.inRound l) (n - 1 - 1) P (Exit.then K (fun _ _ _ => False)) { tmps := (ps.zip (encs x)).foldl (fun t (p, v) => t.setIfInBounds p v) a.tmps, defers := [] } W)
    (hbody : ∀ (l : Nat) (M : Nat → Prop) (pre : List α) (x : α) (a' : Act) (W : World), (∀ b, M b → w.heap.size < b) → (∀ b, M b ∨ Rd b → b < W.heap.size) → w.heap.size + 1 < W.heap.size → I M pre W → Ax x a' W → Ok pre x → body.wpIn (F.inRound l) (n - 1 - 1) P (ownPostM w.heap.size n₀ Rd I Ix M (pre ++ [x]) W) a' W)
    (hdone : ∀ (D : Nat) (M : Nat → Prop) (xs : List α) (W : World), w.heap.size ≤ D → S xs → I M xs W → W.heap[D]? = some (.deferred (some [])) → Q .normal { a with defers := { target := .collected D, args := #[] } :: a.defers } W)
    (hstop : ∀ (D : Nat) (c : Code) (pre : List α) (W : World), w.heap.size ≤ D → Ix c pre W → W.heap[D]? = some (.deferred (some [])) → c.wpIn F n P Q { a with defers := { target := .collected D, args := #[] } :: a.defers } W) :
    (Code.rangeFunc g ps assign body).wpIn F n P Q a w := by
  refine wpIn_rangeFunc ?_
  intro fn hfn
  rw [hro]
  obtain ⟨rec, hrec⟩ : ∃ rec : LoopState → Option Code → Loop, rec = fun st pe => { state := st, pending := pe, fn, tmps := a.tmps, params := ps, assign, body, defers := w.heap.size } := ⟨_, rfl⟩
  obtain ⟨W1, hW1⟩ : ∃ W1, (w.alloc (.deferred (some []))).alloc (.loop (rec .ready none)) = W1 := ⟨_, rfl⟩
  have hsz : W1.heap.size = w.heap.size + 2 := by rw [← hW1]; simp
  have hL1 : W1.heap[w.heap.size + 1]? = some (.loop (rec .ready none)) := by
    rw [← hW1]; have := World.alloc_heap_new (w.alloc (.deferred (some []))) (.loop (rec .ready none)); rwa [World.size_alloc] at this
  have hK1 : W1.heap[w.heap.size]? = some (.deferred (some [])) := by
    rw [← hW1]; exact (Below.heap_alloc _ _ _ (by simp)).trans (World.alloc_heap_new w _)
  have hI1 : I (fun _ => False) [] W1 := by
    have h := h0 (fun _ => False) (fun _ h => h.elim)
    rw [← hW1]; exact (hI.from _).alloc _ ((hI.from _).alloc _ h)
  have hb1 : Below w0.heap.size w0 W1 := by
    rw [← hW1]; exact hb0.trans ((((Below.refl _ w).alloc (Nat.le_refl _) _).alloc (by simp) _).mono hb0.size)
  refine ⟨w.heap.size + 1, [{ target := .collected w.heap.size, args := #[] }], W1, { target := .fn (.func gf) lb, args := #[.func (.yield (w.heap.size + 1)) #[] #[]] }, W1, gf,
    #[.func (.yield (w.heap.size + 1)) #[] #[]] ++ lb, W1, ?_, ?_, ?_, ?_, fun _ => h1, ?_⟩
  · rw [← hW1, hrec]; exact run_enterLoop_outer _ _ _ _ _
  · simp only [resolve, hg]
    simp [go_sem]
  · intro f' hf'; simp [Target.leads] at hf'; subst hf'; exact hFg
  · simp [invoke, go_sem, eg]
  · refine (hseq (w.heap.size + 1)
      (fun M pre W => (∀ b, M b → w.heap.size + 2 ≤ b ∧ b < W.heap.size) ∧ I M pre W ∧ W.heap[w.heap.size + 1]? = some (.loop (rec .ready none)) ∧ W.heap[w.heap.size]? = some (.deferred (some [])))
      (fun pre W => ∃ c, Ix c pre W ∧ W.heap[w.heap.size + 1]? = some (.loop (rec .done (some c))) ∧ W.heap[w.heap.size]? = some (.deferred (some [])))
      W1 hb1 ?_ ?_ (fun M pre x W1 h => hG M pre x W1 h.2.1) ⟨fun _ h => h.elim, hI1, hL1, hK1⟩).mono ?_
    · rintro M s A B row ⟨hM, hi, hl, hk⟩ hg' hr
      have hlt : w.heap.size + 1 < A.heap.size := (Array.getElem?_eq_some_iff.1 hl).1
      have hsz' := hg'.size
      refine ⟨fun b hb => ?_, hI M _ s A B row hi hg' (fun r e => ⟨by have := (hM r (hr r e)).1; omega, .inl (hr r e)⟩) (fun b hb => hb.imp_right (fun h => h.1)), ?_, ?_⟩
      · rcases hb with hb | hb
        · have := hM b hb; omega
        · omega
      · exact (hg'.block _ hlt (fun e => by have := (hM _ (hr _ e.symm)).1; omega)).trans hl
      · exact (hg'.block _ (by omega) (fun e => by have := (hM _ (hr _ e.symm)).1; omega)).trans hk
    · rintro M pre x W ⟨hM, hi, hl, hk⟩ hok
      have hlt : w.heap.size + 1 < W.heap.size := (Array.getElem?_eq_some_iff.1 hl).1
      have hy := run_yield (P := P) (args := encs x) hl (by rw [hrec]; exact hps x)
      rw [hrec] at hy
      refine ⟨fn, _, assign, body, hy, roundIn_of_wpIn hfn (hassign _ M pre x W _ (fun b hb => by have := hM b hb; omega) (fun b hb => hb.elim (fun h => (hM b h).2) (fun h => by have := hRd b h; omega)) hlt hi hok ?_)⟩
      clear hy
      intro a' Wa hkfa hkpa hia hax
      replace hl := hkfa.same _ _ (by omega) hl rfl
      replace hk := hkfa.same _ _ (Nat.le_refl _) hk rfl
      replace hlt : w.heap.size + 1 < Wa.heap.size := (Array.getElem?_eq_some_iff.1 hl).1
      replace hM : ∀ b, M b → w.heap.size + 2 ≤ b ∧ b < Wa.heap.size := fun b hb => ⟨(hM b hb).1, by have := (hM b hb).2; have := hkfa.size; omega⟩
      replace hi := hia
      clear hia
      revert hkpa hkfa
      generalize W = Wb
      intro hkfa hkpa
      obtain ⟨W, rfl⟩ : ∃ W, W = Wa := ⟨_, rfl⟩
      refine ⟨_, run_beginRound hl (by rw [hrec]), ?_⟩
      have hl2 : (W.putObj (w.heap.size + 1) (.loop { rec .ready none with state := .busy })).heap[w.heap.size + 1]? = some (.loop { rec .ready none with state := .busy }) := World.putObj_heap_same hlt
      have hk2 : (W.putObj (w.heap.size + 1) (.loop { rec .ready none with state := .busy })).heap[w.heap.size]? = some (.deferred (some [])) := (World.putObj_heap_other (by omega)).trans hk
      have hw2 : KeepsM n₀ (fun b => M b ∨ Rd b) W (W.putObj (w.heap.size + 1) (.loop { rec .ready none with state := .busy })) := KeepsM.putObj (by omega) hlt (fun h => h.elim (fun h => by have := (hM _ h).1; omega) (fun h => by have := hRd _ h; omega))
      refine wpIn_mono (hbody _ M pre x a' _ (fun b hb => by have := hM b hb; omega) (fun b hb => by simp; exact hb.elim (fun h => (hM b h).2) (fun h => by have := hRd b h; omega)) (by simp; omega) ((hI.from M).putObj _ hi (by omega) hl rfl) ((hAx x a').putObj (s := ()) _ hax (by omega) hl rfl) hok) ?_
      have fin : ∀ (jump : Option Code) (W3 : World), KeepsFrom w.heap.size (W.putObj (w.heap.size + 1) (.loop { rec .ready none with state := .busy })) W3 →
          (Instr.endRound (w.heap.size + 1) jump).run P W3 = .ok (.bool jump.isNone) (W3.putObj (w.heap.size + 1) (.loop (rec (if jump.isNone then .ready else .done) jump))) ∧
          W3.heap[w.heap.size + 1]? = some (.loop { rec .ready none with state := .busy }) ∧
          (W3.putObj (w.heap.size + 1) (.loop (rec (if jump.isNone then .ready else .done) jump))).heap[w.heap.size + 1]? = some (.loop (rec (if jump.isNone then .ready else .done) jump)) ∧
          (W3.putObj (w.heap.size + 1) (.loop (rec (if jump.isNone then .ready else .done) jump))).heap[w.heap.size]? = some (.deferred (some [])) := fun jump W3 hk3 => by
        have hl3 := hk3.same _ _ (by omega) hl2 rfl
        have := run_endRound (P := P) jump hl3
        rw [hrec] at this ⊢
        exact ⟨this, by rw [hrec] at hl3; exact hl3, World.putObj_heap_same (Array.getElem?_eq_some_iff.1 hl3).1, (World.putObj_heap_other (by omega)).trans (hk3.same _ _ (Nat.le_refl _) hk2 rfl)⟩
      rintro e a3 W3 hp
      cases e with
      | normal =>
        obtain ⟨hk3, hkp3, hi3⟩ := hp
        obtain ⟨hr, hl3, hl4, hk4⟩ := fin none W3 hk3
        have hlt3 := (Array.getElem?_eq_some_iff.1 hl3).1
        have hsz3 := hk3.size
        simp at hsz3
        exact ⟨_, _, hr, .inl ⟨rfl, ⟨fun b hb => by have := hM b hb; simp; omega, (hI.from M).putObj _ hi3 (by omega) hl3 rfl, hl4, hk4⟩, hkpa.trans ((hw2.trans hkp3).trans (KeepsM.putObj (by omega) hlt3 (fun h => h.elim (fun h => by have := (hM _ h).1; omega) (fun h => by have := hRd _ h; omega))))⟩⟩
      | ret =>
        obtain ⟨hk3, hi3⟩ := hp
        obtain ⟨hr, hl3, hl4, hk4⟩ := fin (some .ret) W3 hk3
        exact ⟨_, _, hr, .inr ⟨rfl, .ret, (hIx _).putObj _ hi3 (by omega) hl3 rfl, hl4, hk4⟩⟩
      | exit id =>
        obtain ⟨hk3, hi3⟩ := hp
        obtain ⟨hr, hl3, hl4, hk4⟩ := fin (some (.exit id)) W3 hk3
        exact ⟨_, _, hr, .inr ⟨rfl, .exit id, (hIx _).putObj _ hi3 (by omega) hl3 rfl, hl4, hk4⟩⟩
      | goto t =>
        obtain ⟨hk3, hi3⟩ := hp
        obtain ⟨hr, hl3, hl4, hk4⟩ := fin (some (.goto t)) W3 hk3
        exact ⟨_, _, hr, .inr ⟨rfl, .goto t, (hIx _).putObj _ hi3 (by omega) hl3 rfl, hl4, hk4⟩⟩
      | panic ch => exact hp.elim
      | outgrown => exact hp.elim
    · rintro e W2 ⟨⟨v, rfl⟩, (⟨M, xs, hS, hM, hi, hl, hk⟩ | ⟨pre, c, hi, hl, hk⟩)⟩
      · exact ⟨none, _, by have := run_endLoop (P := P) hl (by rw [hrec]; simp); rw [hrec] at this; exact this, hdone _ M xs _ (Nat.le_refl _) hS ((hI.from M).putObj _ hi (by omega) hl rfl) ((World.putObj_heap_other (by omega)).trans hk)⟩
      · exact ⟨some c, _, by have := run_endLoop (P := P) hl (by rw [hrec]; simp); rw [hrec] at this; exact this, hstop _ c pre _ (Nat.le_refl _) ((hIx c).putObj _ hi (by omega) hl rfl) ((World.putObj_heap_other (by omega)).trans hk)⟩
end Go.Proofs.Ytmacnanocofoaaa
namespace Go.Proofs.Ytmacnanocofoaaa
open Go.RowKit Go.Lib

/-- What comes: a level, a pattern, a type, where their own lists lie. -/
structure PairIt where
  lvl : Nat
  p : TypeX
  t : TypeX
  A : Option Addr
  a : Nat
  C : Option Addr
  c : Nat
def PairIt.key (x : PairIt) : Nat × PairX := (x.lvl, x.p, x.t)
def PairIt.enc (x : PairIt) : Array Value := #[.int .i64 (x.lvl : Nat), .agg #[.int .i64 x.p.kind_, .string x.p.name_, .slice x.A x.p.args_.length x.a, .int .i64 x.t.kind_, .string x.t.name_, .slice x.C x.t.args_.length x.c]]

/-- The list at A: its pairs lie in blocks of R; what they lead to lies below n₀. -/
def TopPair (w : World) (n₀ : Nat) (R : Nat → Prop) (A : Option Addr) (l : List PairX) : Prop :=
  ∀ (j : Nat) (hj : j < l.length), ∃ (b o : Nat) (A2 : Option Addr) (a2 : Nat) (C2 : Option Addr) (c2 : Nat), A = some ⟨b, o, none⟩ ∧ R b ∧
    w.cell? ⟨b, o + j * 6, none⟩ = some (.int .i64 l[j].1.kind_) ∧ w.cell? ⟨b, o + j * 6 + 1, none⟩ = some (.string l[j].1.name_) ∧ w.cell? ⟨b, o + j * 6 + 2, none⟩ = some (.slice A2 l[j].1.args_.length a2) ∧
    w.cell? ⟨b, o + j * 6 + 3, none⟩ = some (.int .i64 l[j].2.kind_) ∧ w.cell? ⟨b, o + j * 6 + 4, none⟩ = some (.string l[j].2.name_) ∧ w.cell? ⟨b, o + j * 6 + 5, none⟩ = some (.slice C2 l[j].2.args_.length c2) ∧
    TypeRow w (Und n₀) A2 a2 l[j].1.args_ ∧ TypeRow w (Und n₀) C2 c2 l[j].2.args_
theorem TopPair.frame {w w' : World} {n₀ : Nat} {R R' : Nat → Prop} {A : Option Addr} {l : List PairX} (h : TopPair w n₀ R A l) (hR : ∀ b, R b → R' b) (hk : ∀ b, b < n₀ ∨ R b → w'.heap[b]? = w.heap[b]?) : TopPair w' n₀ R' A l := by
  intro j hj
  obtain ⟨b, o, A2, a2, C2, c2, hA, hb, h0, h1, h2, h3, h4, h5, hr, hs⟩ := h j hj
  have hc : ∀ b i, (b < n₀ ∨ R b) → w'.cell? ⟨b, i, none⟩ = w.cell? ⟨b, i, none⟩ := fun b i h => World.cell?_of_block (a := ⟨b, i, none⟩) (hk b h)
  exact ⟨b, o, A2, a2, C2, c2, hA, hR b hb, (hc _ _ (.inr hb)).trans h0, (hc _ _ (.inr hb)).trans h1, (hc _ _ (.inr hb)).trans h2, (hc _ _ (.inr hb)).trans h3, (hc _ _ (.inr hb)).trans h4, (hc _ _ (.inr hb)).trans h5,
    hr.frame (fun _ h => h) (fun b i h => hc b i (.inl h)), hs.frame (fun _ h => h) (fun b i h => hc b i (.inl h))⟩
theorem TopPair.tail {w : World} {n₀ b o : Nat} {R : Nat → Prop} {x : PairX} {l : List PairX} (h : TopPair w n₀ R (some ⟨b, o, none⟩) (x :: l)) : TopPair w n₀ R (some ⟨b, o + 6, none⟩) l := by
  intro j hj
  obtain ⟨b', o', A2, a2, C2, c2, hA, hb, h0, h1, h2, h3, h4, h5, k1, k2⟩ := h (j + 1) (by simpa using hj)
  injection hA with hA
  injection hA with e1 e2
  subst e1 e2
  have e : o + (j + 1) * 6 = o + 6 + j * 6 := by omega
  rw [e] at h0 h1 h2 h3 h4 h5
  exact ⟨b, o + 6, A2, a2, C2, c2, rfl, hb, h0, h1, h2, h3, h4, h5, k1, k2⟩
theorem TopPair.nil (w : World) (n₀ : Nat) (R : Nat → Prop) (A : Option Addr) : TopPair w n₀ R A [] := fun j hj => absurd hj (Nat.not_lt_zero j)

/-- The stack's slices, the top one last. -/
def TopsPair (w : World) (n₀ : Nat) (R : Nat → Prop) : List (List PairX) → List Value → Prop
  | [], vs => vs = []
  | l :: r, vs => ∃ (vs0 : List Value) (A : Option Addr) (c : Nat), vs = vs0 ++ [.slice A l.length c] ∧ l.length ≤ c ∧ c ≤ 9223372036854775807 ∧ TopPair w n₀ R A l ∧ TopsPair w n₀ R r vs0
theorem TopsPair.length {w : World} {n₀ : Nat} {R : Nat → Prop} : ∀ {rs : List (List PairX)} {vs : List Value}, TopsPair w n₀ R rs vs → vs.length = rs.length
  | [], vs, h => by rw [TopsPair] at h; rw [h]; rfl
  | l :: r, vs, h => by
    obtain ⟨vs0, A, c, rfl, _, _, _, h2⟩ := h
    rw [List.length_append, h2.length]; rfl
theorem TopsPair.frame {w w' : World} {n₀ : Nat} {R R' : Nat → Prop} (hR : ∀ b, R b → R' b) (hk : ∀ b, b < n₀ ∨ R b → w'.heap[b]? = w.heap[b]?) : ∀ {rs : List (List PairX)} {vs : List Value}, TopsPair w n₀ R rs vs → TopsPair w' n₀ R' rs vs
  | [], vs, h => h
  | l :: r, vs, h => by
    obtain ⟨vs0, A, c, rfl, h1, h2, h3, h4⟩ := h
    exact ⟨vs0, A, c, rfl, h1, h2, h3.frame hR hk, h4.frame hR hk⟩

/-- The iterator between two steps: its stack rv, in blocks of M; the rows that it points to lie in blocks of R, none of them the stack's own. -/
structure PrePairSt (J : (Nat → Prop) → List PairIt → World → Prop) (w : World) (n₀ b0 : Nat) (Rd : Nat → Prop) (M R : Nat → Prop) (pre : List PairIt) (rs : List (List PairX)) (vs : List Value) (rv : Value) (wr : World) : Prop where
  j : J M pre wr
  own : wr.ownsRow (b0 + 1) 149 1 rv rs.length vs
  mown : ∀ b, rv.ownBlock = some b → M b
  rm : ∀ b, R b → M b
  rown : ∀ b, rv.ownBlock = some b → ¬ R b
  tops : TopsPair wr n₀ R rs vs
  below : Below n₀ w wr
  rd : ∀ b, Rd b → b < w.heap.size → wr.heap[b]? = w.heap[b]?
  lt : ∀ b, M b → b0 ≤ b ∧ b < wr.heap.size
  size : b0 < wr.heap.size
section
variable {J : (Nat → Prop) → List PairIt → World → Prop} {w : World} {n₀ b0 : Nat} {Rd M R : Nat → Prop} {pre : List PairIt} {rs : List (List PairX)} {vs : List Value} {rv : Value} {wr : World}
theorem PrePairSt.grow (HJ : ∀ M s A B row, J M s A → A.grownBy B row → (∀ r, row = some r → M r) → J (fun b => M b ∨ (A.heap.size ≤ b ∧ b < B.heap.size)) s B) (hnb : n₀ ≤ b0) (hwb : w.heap.size ≤ b0)
    (h : PrePairSt J w n₀ b0 Rd M R pre rs vs rv wr) {w2 : World} (hb : Below wr.heap.size wr w2) : PrePairSt J w n₀ b0 Rd (fun b => M b ∨ (wr.heap.size ≤ b ∧ b < w2.heap.size)) R pre rs vs rv w2 where
  j := HJ _ _ _ _ none h.j (grown_none hb) (fun _ e => by cases e)
  own := own_same h.own fun b hv => hb.block b (h.own.lt b hv).2
  mown := fun b hb' => .inl (h.mown b hb')
  rm := fun b hb' => .inl (h.rm b hb')
  rown := h.rown
  tops := h.tops.frame (fun _ h => h) fun b hb' => hb.block b (by
    have := h.size
    rcases hb' with h' | h'
    · omega
    · exact (h.lt b (h.rm b h')).2)
  below := h.below.trans (hb.mono (by have := h.size; omega))
  rd := fun b hr hlt => (hb.block b (by have := h.size; omega)).trans (h.rd b hr hlt)
  lt := fun b hb' => by
    have := h.size
    rcases hb' with h' | h'
    · exact ⟨(h.lt b h').1, Nat.lt_of_lt_of_le (h.lt b h').2 hb.size⟩
    · exact ⟨by omega, h'.2⟩
  size := Nat.lt_of_lt_of_le h.size hb.size
theorem PrePairSt.round (h : PrePairSt J w n₀ b0 Rd M R pre rs vs rv wr) {w2 : World} {y : PairIt} (hk : KeepsM n₀ (fun b => M b ∨ Rd b) wr w2) (hj : J M (pre ++ [y]) w2) : PrePairSt J w n₀ b0 Rd M R (pre ++ [y]) rs vs rv w2 where
  j := hj
  own := own_same h.own fun b hv => hk.own b (.inl (h.mown b hv))
  mown := h.mown
  rm := h.rm
  rown := h.rown
  tops := h.tops.frame (fun _ h => h) fun b hb' => by
    rcases hb' with h' | h'
    · exact hk.below.block b h'
    · exact hk.own _ (.inl (h.rm b h'))
  below := h.below.trans hk.below
  rd := fun b hr hlt => (hk.own b (.inr hr)).trans (h.rd b hr hlt)
  lt := fun b hb => ⟨(h.lt b hb).1, Nat.lt_of_lt_of_le (h.lt b hb).2 hk.below.size⟩
  size := Nat.lt_of_lt_of_le h.size hk.below.size
theorem PrePairSt.store (HJ : ∀ M s A B row, J M s A → A.grownBy B row → (∀ r, row = some r → M r) → J (fun b => M b ∨ (A.heap.size ≤ b ∧ b < B.heap.size)) s B) (hnb : n₀ ≤ b0) (hwb : w.heap.size ≤ b0)
    {y : PairX} {l : List PairX} {vs0 : List Value} {v : Value} {g cap : Nat} (h : PrePairSt J w n₀ b0 Rd M R pre ((y :: l) :: rs) (vs0 ++ [v]) (.slice (some ⟨g, 0, none⟩) (rs.length + 1) cap) wr) (h0 : TopsPair wr n₀ R rs vs0)
    {A3 : Option Addr} {c3 : Nat} (hl : l.length ≤ c3) (hc : c3 ≤ 9223372036854775807) (hT : TopPair wr n₀ R A3 l) :
    PrePairSt J w n₀ b0 Rd (fun b => M b ∨ (wr.heap.size ≤ b ∧ b < (wr.setCell ⟨g, rs.length, none⟩ (.slice A3 l.length c3)).heap.size)) R pre (l :: rs) (vs0 ++ [.slice A3 l.length c3]) (.slice (some ⟨g, 0, none⟩) (rs.length + 1) cap) (wr.setCell ⟨g, rs.length, none⟩ (.slice A3 l.length c3)) := by
  have hg : b0 + 1 ≤ g := (h.own.lt g rfl).1
  have hgR : ¬ R g := h.rown g rfl
  have hfar : ∀ b, b ≠ g → (wr.setCell ⟨g, rs.length, none⟩ (.slice A3 l.length c3)).heap[b]? = wr.heap[b]? := fun b hb => Below.heap_setCell wr _ _ b hb
  have hfr : ∀ b, b < n₀ ∨ R b → (wr.setCell ⟨g, rs.length, none⟩ (.slice A3 l.length c3)).heap[b]? = wr.heap[b]? := fun b hb => hfar b (by
    rcases hb with h' | h'
    · omega
    · intro e; exact hgR (e ▸ h'))
  have hst := World.ownsRow.stored h.own rs.length (.slice A3 l.length c3)
  refine ⟨HJ _ _ _ _ (some g) h.j (grownBy_setCell'' wr g rs.length _) (fun r e => by cases e; exact h.mown g rfl), ?_, fun b hb => .inl (h.mown b hb), fun b hb => .inl (h.rm b hb), fun b hb => h.rown b hb, ?_, h.below.setCell (p := ⟨g, rs.length, none⟩) (by simp; omega) _, fun b hr hlt => (hfar b (by omega)).trans (h.rd b hr hlt), fun b hb => ?_, by simpa using h.size⟩
  · have e : (vs0 ++ [v]).set rs.length (.slice A3 l.length c3) = vs0 ++ [.slice A3 l.length c3] := by
      rw [List.set_append_right _ _ (by rw [h0.length]; exact Nat.le_refl _), h0.length, Nat.sub_self]; rfl
    rw [← e]; exact hst.1
  · exact ⟨vs0, A3, c3, rfl, hl, hc, hT.frame (fun _ h => h) hfr, h0.frame (fun _ h => h) hfr⟩
  · have := h.size
    rcases hb with h' | h'
    · exact ⟨(h.lt b h').1, by simpa using (h.lt b h').2⟩
    · exact ⟨by omega, h'.2⟩
theorem PrePairSt.push (HJ : ∀ M s A B row, J M s A → A.grownBy B row → (∀ r, row = some r → M r) → J (fun b => M b ∨ (A.heap.size ≤ b ∧ b < B.heap.size)) s B) (hnb : n₀ ≤ b0) (hwb : w.heap.size ≤ b0)
    (h : PrePairSt J w n₀ b0 Rd M R pre rs vs rv wr) {w2 : World} {v' : Value} {l : List PairX} {A : Option Addr} {c : Nat} {R' : Nat → Prop} (hRR : ∀ b, R b → R' b) (hRM : ∀ b, R' b → M b) (hRv : ∀ b, rv.ownBlock = some b → ¬ R' b)
    (hg : wr.grownBy w2 rv.ownBlock) (hown : w2.ownsRow (b0 + 1) 149 1 v' (rs.length + 1) (vs ++ [.slice A l.length c]))
    (hv : v'.ownBlock = rv.ownBlock ∨ v'.ownBlock = some wr.heap.size) (hl : l.length ≤ c) (hc : c ≤ 9223372036854775807) (hT : TopPair wr n₀ R' A l) :
    PrePairSt J w n₀ b0 Rd (fun b => M b ∨ (wr.heap.size ≤ b ∧ b < w2.heap.size)) R' pre (l :: rs) (vs ++ [.slice A l.length c]) v' w2 := by
  have hs := h.size
  have hfar : ∀ b, b < n₀ ∨ R' b → w2.heap[b]? = wr.heap[b]? := fun b hb => by
    rcases hb with h' | h'
    · exact hg.block b (by omega) (fun e => by have := (h.own.lt b e.symm).1; omega)
    · exact hg.block b (h.lt b (hRM b h')).2 (fun e => hRv b e.symm h')
  refine ⟨HJ _ _ _ _ _ h.j hg h.mown, hown, fun b hb => ?_, fun b hb => .inl (hRM b hb), fun b hb => ?_, ⟨vs, A, c, rfl, hl, hc, hT.frame (fun _ h => h) hfar, (h.tops.frame hRR (fun _ _ => rfl)).frame (fun _ h => h) hfar⟩,
    h.below.grown hg (by omega) (fun k e => by have := (h.own.lt k e).1; omega), fun b hr hlt => (hg.block b (by omega) (fun e => by have := (h.own.lt b e.symm).1; omega)).trans (h.rd b hr hlt), fun b hb => ?_, Nat.lt_of_lt_of_le hs hg.size⟩
  · rcases hv with hv | hv
    · exact .inl (h.mown b (hv ▸ hb))
    · rw [hv] at hb; injection hb with hb; subst hb
      exact .inr ⟨Nat.le_refl _, (hown.lt _ hv).2⟩
  · rcases hv with hv | hv
    · exact hRv b (hv ▸ hb)
    · rw [hv] at hb; injection hb with hb; subst hb
      intro hr
      have := (h.lt _ (hRM _ hr)).2
      omega
  · rcases hb with h' | h'
    · exact ⟨(h.lt b h').1, Nat.lt_of_lt_of_le (h.lt b h').2 hg.size⟩
    · exact ⟨by omega, h'.2⟩
end
end Go.Proofs.Ytmacnanocofoaaa
namespace Go.Proofs.Ytmacnanocofoaaa
open Go.RowKit Go.Lib

theorem infoPair : (Try.prog.info? 132).map (fun i => (i.zero, i.size, i.bytes)) = some (some (.agg #[.int .i64 0, .string ByteArray.empty, .slice none 0 0, .int .i64 0, .string ByteArray.empty, .slice none 0 0]), 6, 96) := by kernel_rfl
theorem setAt_far : ∀ (vs : List Value) (cs : Array Value) (o i : Nat), i < o ∨ o + vs.length ≤ i → (setAt cs o vs)[i]? = cs[i]?
  | [], _, _, _, _ => rfl
  | v :: r, cs, o, i, h => by
    rw [List.length_cons] at h
    rw [setAt, setAt_far r _ (o + 1) i (by omega), Array.getElem?_setIfInBounds_ne (by omega)]
theorem setAt_at : ∀ (vs : List Value) (cs : Array Value) (o i : Nat), i < vs.length → o + vs.length ≤ cs.size → (setAt cs o vs)[o + i]? = vs[i]?
  | v :: r, cs, o, 0, _, h => by
    rw [List.length_cons] at h
    rw [setAt, setAt_far r _ (o + 1) (o + 0) (by omega), Nat.add_zero, Array.getElem?_setIfInBounds_self_of_lt (by omega)]
    rfl
  | v :: r, cs, o, i + 1, hi, h => by
    rw [List.length_cons] at h hi
    rw [setAt, show o + (i + 1) = o + 1 + i by omega, setAt_at r _ (o + 1) i (by omega) (by simp; omega)]
    rfl
/-- The first k pairs lie in these cells. -/
def FilledP (w : World) (n₀ k : Nat) (L : List PairX) (cs : Array Value) : Prop := ∀ (j : Nat) (hj : j < L.length), j < k → ∃ (A2 : Option Addr) (a2 : Nat) (C2 : Option Addr) (c2 : Nat),
  cs[j * 6]? = some (.int .i64 L[j].1.kind_) ∧ cs[j * 6 + 1]? = some (.string L[j].1.name_) ∧ cs[j * 6 + 2]? = some (.slice A2 L[j].1.args_.length a2) ∧
  cs[j * 6 + 3]? = some (.int .i64 L[j].2.kind_) ∧ cs[j * 6 + 4]? = some (.string L[j].2.name_) ∧ cs[j * 6 + 5]? = some (.slice C2 L[j].2.args_.length c2) ∧
  TypeRow w (Und n₀) A2 a2 L[j].1.args_ ∧ TypeRow w (Und n₀) C2 c2 L[j].2.args_
theorem FilledP.step {w : World} {n₀ k : Nat} {L : List PairX} {cs : Array Value} (h : FilledP w n₀ k L cs) (hk : k < L.length) (hcs : cs.size = L.length * 6) {A2 C2 : Option Addr} {a2 c2 : Nat}
    (h1 : TypeRow w (Und n₀) A2 a2 L[k].1.args_) (h2 : TypeRow w (Und n₀) C2 c2 L[k].2.args_) :
    FilledP w n₀ (k + 1) L (setAt cs (k * 6) [.int .i64 L[k].1.kind_, .string L[k].1.name_, .slice A2 L[k].1.args_.length a2, .int .i64 L[k].2.kind_, .string L[k].2.name_, .slice C2 L[k].2.args_.length c2]) := by
  have hm : (k + 1) * 6 ≤ L.length * 6 := Nat.mul_le_mul_right _ hk
  intro j hj hjk
  by_cases he : j = k
  · subst he
    have hat : ∀ i, i < 6 → (setAt cs (j * 6) [.int .i64 L[j].1.kind_, .string L[j].1.name_, .slice A2 L[j].1.args_.length a2, .int .i64 L[j].2.kind_, .string L[j].2.name_, .slice C2 L[j].2.args_.length c2])[j * 6 + i]? = _ := fun i hi => setAt_at _ cs (j * 6) i hi (by simp; omega)
    exact ⟨A2, a2, C2, c2, hat 0 (by omega), hat 1 (by omega), hat 2 (by omega), hat 3 (by omega), hat 4 (by omega), hat 5 (by omega), h1, h2⟩
  · have hlt : j < k := by omega
    have hm2 : (j + 1) * 6 ≤ k * 6 := Nat.mul_le_mul_right _ hlt
    obtain ⟨A3, a3, C3, c3, e0, e1, e2, e3, e4, e5, r1, r2⟩ := h j hj hlt
    have hf : ∀ i, i < 6 → (setAt cs (k * 6) [.int .i64 L[k].1.kind_, .string L[k].1.name_, .slice A2 L[k].1.args_.length a2, .int .i64 L[k].2.kind_, .string L[k].2.name_, .slice C2 L[k].2.args_.length c2])[j * 6 + i]? = cs[j * 6 + i]? := fun i hi => setAt_far _ cs (k * 6) _ (.inl (by omega))
    exact ⟨A3, a3, C3, c3, (hf 0 (by omega)).trans e0, (hf 1 (by omega)).trans e1, (hf 2 (by omega)).trans e2, (hf 3 (by omega)).trans e3, (hf 4 (by omega)).trans e4, (hf 5 (by omega)).trans e5, r1, r2⟩
theorem FilledP.top {w w' : World} {n₀ g : Nat} {L : List PairX} {cs : Array Value} {t : TypeId} {R : Nat → Prop} (h : FilledP w n₀ L.length L cs) (hw : Whole w' g t cs) (hR : R g) (hk : ∀ b, b < n₀ → w'.heap[b]? = w.heap[b]?) : TopPair w' n₀ R (some ⟨g, 0, none⟩) L := by
  intro j hj
  obtain ⟨A3, a3, C3, c3, e0, e1, e2, e3, e4, e5, r1, r2⟩ := h j hj hj
  refine ⟨g, 0, A3, a3, C3, c3, rfl, hR, ?_, ?_, ?_, ?_, ?_, ?_, r1.frame (fun _ h => h) (fun b o h => World.cell?_of_block (a := ⟨b, o, none⟩) (hk b h)), r2.frame (fun _ h => h) (fun b o h => World.cell?_of_block (a := ⟨b, o, none⟩) (hk b h))⟩ <;> rw [hw.cell, Nat.zero_add] <;> assumption
theorem cells6 {w : World} {g : Nat} {t : TypeId} {a b c d e f : Value} (h : Whole w g t #[a, b, c, d, e, f]) : w.cell? ⟨g, 0, none⟩ = some a ∧ w.cell? ⟨g, 1, none⟩ = some b ∧ w.cell? ⟨g, 2, none⟩ = some c ∧ w.cell? ⟨g, 3, none⟩ = some d ∧ w.cell? ⟨g, 4, none⟩ = some e ∧ w.cell? ⟨g, 5, none⟩ = some f := by
  refine ⟨?_, ?_, ?_, ?_, ?_, ?_⟩ <;> rw [h.cell] <;> rfl

theorem whole_more {W : World} {g : Nat} {t : TypeId} {cs : Array Value} (h : Whole W g t cs) (o : Obj) : Whole (W.alloc o).drew g t cs := h.below ((Below.refl W.heap.size W).alloc (Nat.le_refl _) o).drew h.lt
/-- What argumentPairs leaves. -/
def PairsOut (p t : TypeX) (n₀ : Nat) (w : World) (e : Ending) (w' : World) : Prop := ∃ (A2 : Option Addr) (c2 : Nat), e = .returned (.slice A2 (pairsX p t).length c2) ∧ (pairsX p t).length ≤ c2 ∧ c2 ≤ 9223372036854775807 ∧ TopPair w' n₀ (fun b => w.heap.size ≤ b ∧ b < w'.heap.size) A2 (pairsX p t) ∧ Below w.heap.size w w'

set_option maxRecDepth 100000 in
set_option maxHeartbeats 4000000 in
theorem implArgPairs (p t : TypeX) (A C : Option Addr) (a c n₀ : Nat) (w : World) (hn : n₀ ≤ w.heap.size) (hg : GoodP p t) (hsz : p.args_.length ≤ 4294967296) (hp : TypeRow w (Und n₀) A a p.args_) (ht : TypeRow w (Und n₀) C c t.args_) :
    Calls Try.prog 116 #[.agg #[.int .i64 p.kind_, .string p.name_, .slice A p.args_.length a, .int .i64 t.kind_, .string t.name_, .slice C t.args_.length c]] w (PairsOut p t n₀ w) := by
  have hb0 : Below w.heap.size w (w.alloc (.cells #[.int .i64 p.kind_, .string p.name_, .slice A p.args_.length a, .int .i64 t.kind_, .string t.name_, .slice C t.args_.length c] 132)) := (Below.refl _ _).alloc (Nat.le_refl _) _
  have hx0 := Whole.new w 132 #[.int .i64 p.kind_, .string p.name_, .slice A p.args_.length a, .int .i64 t.kind_, .string t.name_, .slice C t.args_.length c]
  have HB0 := Lib.hid hb0
  have HX0 := Lib.hid hx0
  have HP := Lib.hid hp
  have HT := Lib.hid ht
  have hs0 : (w.alloc (.cells #[.int .i64 p.kind_, .string p.name_, .slice A p.args_.length a, .int .i64 t.kind_, .string t.name_, .slice C t.args_.length c] 132)).heap.size = w.heap.size + 1 := by simp
  have HS0 := Lib.hid hs0
  clear hb0 hx0 hp ht hs0
  by_cases hk : p.kind_ = 1
  · have hkb : (p.kind_ == 1) = true := by rw [hk]; rfl
    have hpx : pairsX p t = [] := by rw [pairsX, if_pos hk]
    unfold PairsOut
    rw [hpx]
    clear hk hpx hg
    go_enter Try.func116, Try.ntmps116
    go_wp2_with fail
    refine (implIsVar _ _ _ _ _ _).mono ?_
    rintro e w1 ⟨rfl, hb1⟩
    rw [hkb]
    have hbb := HB0.out.trans (hb1.mono HB0.out.size)
    clear hb1
    go_wp2
    go_ret
    exact ⟨none, 0, rfl, Nat.le_refl _, by decide, TopPair.nil _ _ _ _, hbb⟩
  · have hkb : (p.kind_ == 1) = false := by simpa using hk
    have hlen : p.args_.length = t.args_.length := hg.elim (fun h => absurd h hk) id
    obtain ⟨L, hL⟩ : ∃ L, L = pairsX p t := ⟨_, rfl⟩
    have hLn : L.length = p.args_.length := by rw [hL, pairsX_length hg, if_neg hk]
    have hLat : ∀ (j : Nat) (h : j < L.length) (h1 : j < p.args_.length) (h2 : j < t.args_.length), L[j] = (p.args_[j], t.args_[j]) := by subst hL; exact fun j h h1 h2 => pairsX_at hk h h1 h2
    obtain ⟨i0, hi, hz0, hz1, hz2⟩ := info_parts infoPair
    have km := fun (w : World) => run_make (P := Try.prog) w 149 132 i0 (.agg #[.int .i64 0, .string ByteArray.empty, .slice none 0 0, .int .i64 0, .string ByteArray.empty, .slice none 0 0]) Try.underlying149 hi hz0 .i64 .i64 (p.args_.length : Int) (p.args_.length : Int) (by omega) (by omega) (by rw [hz2]; omega) (by omega)
    simp only [Int.toNat_natCast, hz1] at km
    have hms : (madeCells (Value.agg #[.int .i64 0, .string ByteArray.empty, .slice none 0 0, .int .i64 0, .string ByteArray.empty, .slice none 0 0]).cells (p.args_.length * 6)).size = p.args_.length * 6 := size_madeCells _ _
    generalize madeCells (Value.agg #[.int .i64 0, .string ByteArray.empty, .slice none 0 0, .int .i64 0, .string ByteArray.empty, .slice none 0 0]).cells (p.args_.length * 6) = cs0 at *
    unfold PairsOut
    rw [← hL]
    have HM := Lib.hid hms
    have HLA := Lib.hid hLat
    have HLN := Lib.hid hLn
    have HLE := Lib.hid hlen
    clear hk hg hL hLn hLat hms hi hz0 hz1 hz2 hlen
    go_enter Try.func116, Try.ntmps116
    go_wp2_with fail
    refine (implIsVar _ _ _ _ _ _).mono ?_
    rintro e w1 ⟨rfl, hb1⟩
    rw [hkb]
    have hx1 := HX0.out.below hb1 (by have := HS0.out; omega)
    have hs1 : w.heap.size + 1 ≤ w1.heap.size := by have := hb1.size; have := HS0.out; omega
    have hbb := HB0.out.trans (hb1.mono HB0.out.size)
    have hwl1 : w.heap.size < w1.heap.size := by omega
    obtain ⟨x0, x1, x2, x3, x4, x5⟩ := cells6 hx1
    have HX1 := Lib.hid hx1
    have HB1 := Lib.hid hbb
    clear hb1 hx1 hbb HB0 HX0 HS0
    go_wp2
    clear km x0 x1 x2 x3 x4 x5
    have hbq : Below w1.heap.size w1 (w1.alloc (.cells cs0 132)) := (Below.refl _ _).alloc (Nat.le_refl _) _
    have hw0 := Whole.new w1 132 cs0
    go_loopw [18] (fun iv wr => ∃ (k : Nat) (cs : Array Value), k ≤ L.length ∧ iv = .int .i64 k ∧ Whole wr w1.heap.size 132 cs ∧ cs.size = L.length * 6 ∧ FilledP w n₀ k L cs ∧ Below w1.heap.size w1 wr) (fun iv _ => L.length - (Go.RowKit.intOf iv).toNat)
    case atStart => exact ⟨0, cs0, Nat.zero_le _, rfl, hw0, by rw [HLN.out]; exact HM.out, fun j hj h => absurd h (Nat.not_lt_zero j), hbq⟩
    case round =>
      obtain ⟨k, cs, hk, rfl, hwr, hcs, hF, hb⟩ := hrel
      clear hw0 hbq
      have hln := HLN.out
      have hle := HLE.out
      have hbw : Below w.heap.size w wr := HB1.out.trans (hb.mono HB1.out.size)
      by_cases hlt : k < L.length
      · have hlt1 : k < p.args_.length := by omega
        have hlt2 : k < t.args_.length := by omega
        have hat := HLA.out k hlt hlt1 hlt2
        obtain ⟨b, o, A3, c3, rfl, hPb, p0, p1, p2, h3⟩ := HP.out.at_ hlt1
        obtain ⟨b2, o2, C3, d3, rfl, hPb2, r0, r1, r2, h4⟩ := HT.out.at_ hlt2
        have hbn : b < w.heap.size := Nat.lt_of_lt_of_le hPb hn
        have hbn2 : b2 < w.heap.size := Nat.lt_of_lt_of_le hPb2 hn
        have hstep := hF.step hlt hcs (A2 := A3) (C2 := C3) (a2 := c3) (c2 := d3) (by rw [hat]; exact h3) (by rw [hat]; exact h4)
        rw [hat] at hstep
        have q0 := (hbw.cell (p := ⟨b, o + k * 3, none⟩) hbn).trans p0
        have q1 := (hbw.cell (p := ⟨b, o + k * 3 + 1, none⟩) hbn).trans p1
        have q2 := (hbw.cell (p := ⟨b, o + k * 3 + 2, none⟩) hbn).trans p2
        have t0 := (hbw.cell (p := ⟨b2, o2 + k * 3, none⟩) hbn2).trans r0
        have t1 := (hbw.cell (p := ⟨b2, o2 + k * 3 + 1, none⟩) hbn2).trans r1
        have t2 := (hbw.cell (p := ⟨b2, o2 + k * 3 + 2, none⟩) hbn2).trans r2
        obtain ⟨x0, x1, x2, x3, x4, x5⟩ := cells6 (HX1.out.below hb (by omega))
        have hm6 : (k + 1) * 6 ≤ L.length * 6 := Nat.mul_le_mul_right _ hlt
        have hold : ∀ i, i < 6 → ∃ v, wr.cell? ⟨w1.heap.size, k * 6 + i, none⟩ = some v := fun i hi => by rw [hwr.cell]; exact ⟨_, Array.getElem?_eq_getElem (by omega)⟩
        obtain ⟨y0, e0⟩ := hold 0 (by omega)
        obtain ⟨y1, e1⟩ := hold 1 (by omega)
        obtain ⟨y2, e2⟩ := hold 2 (by omega)
        obtain ⟨y3, e3⟩ := hold 3 (by omega)
        obtain ⟨y4, e4⟩ := hold 4 (by omega)
        obtain ⟨y5, e5⟩ := hold 5 (by omega)
        rw [Nat.add_zero] at e0
        have f0 := hwr.frozen (k * 6)
        have f1 := hwr.frozen (k * 6 + 1)
        have f2 := hwr.frozen (k * 6 + 2)
        have f3 := hwr.frozen (k * 6 + 3)
        have f4 := hwr.frozen (k * 6 + 4)
        have f5 := hwr.frozen (k * 6 + 5)
        have hwl := hwr.lt
        have hxl : w.heap.size < wr.heap.size := by omega
        have hbl : b < wr.heap.size := by omega
        have hbl2 : b2 < wr.heap.size := by omega
        have HSTEP := Lib.hid hstep
        have HWR := Lib.hid hwr
        have HBX := Lib.hid hb
        clear hstep hwr hb hbw hF p0 p1 p2 r0 r1 r2 h3 h4 hold hat hPb hPb2
        go_upto_region 7 with (fail)
        go_region
        go_wp2
        go_roundw
        case rel => exact ⟨k + 1, setAt cs (k * 6) [.int .i64 p.args_[k].kind_, .string p.args_[k].name_, .slice A3 p.args_[k].args_.length c3, .int .i64 t.args_[k].kind_, .string t.args_[k].name_, .slice C3 t.args_[k].args_.length d3], by omega, by go_num, whole_more (show Whole _ _ _ (setAt cs (k * 6) [.int .i64 p.args_[k].kind_, .string p.args_[k].name_, .slice A3 p.args_[k].args_.length c3, .int .i64 t.args_[k].kind_, .string t.args_[k].name_, .slice C3 t.args_[k].args_.length d3]) from ((((((HWR.out.set_ _ _).set_ _ _).set_ _ _).set_ _ _).set_ _ _).set_ _ _)) _, by rw [setAt_size]; exact hcs, HSTEP.out, ((((((((HBX.out.setCell (Nat.le_refl _) _).setCell (Nat.le_refl _) _).setCell (Nat.le_refl _) _).setCell (Nat.le_refl _) _).setCell (Nat.le_refl _) _).setCell (Nat.le_refl _) _).alloc (by simp; omega) _).drew)⟩
        case measure => simp [Go.RowKit.intOf]; omega
      · obtain rfl : k = L.length := by omega
        have hls : L.length ≤ 4294967296 := by omega
        have htop := hF.top (w' := wr) (R := fun b => w.heap.size ≤ b ∧ b < wr.heap.size) hwr ⟨by omega, hwr.lt⟩ (fun b h => hbw.block b (by omega))
        have HTOP := Lib.hid htop
        clear hF hwr hb htop
        go_wp2
        go_ret
        exact ⟨some ⟨w1.heap.size, 0, none⟩, p.args_.length, by rw [hln]; rfl, by omega, by omega, HTOP.out, hbw⟩
end Go.Proofs.Ytmacnanocofoaaa
namespace Go.Proofs.Ytmacnanocofoaaa
open Go.RowKit
theorem boxed_below {W W' : World} {B : Nat} {t : TypeId} {v : Value} (h : Boxed W B t v) (hb : Below W.heap.size W W') : Boxed W' B t v := (hb.block _ h.lt).trans h
theorem boxed_far {W : World} {B b o : Nat} {t : TypeId} {v u : Value} (h : Boxed W B t v) (hne : B ≠ b) : Boxed (W.setCell ⟨b, o, none⟩ u) B t v := (Below.heap_setCell W _ u B hne).trans h
theorem boxed_bool {W : World} {B : Nat} {t : TypeId} {v : Value} {z z' : Bool} (h : Boxed W B t v) (e : z = z') : Boxed (W.setCell ⟨B, 0, none⟩ (.bool z)) B t (.bool z') := e ▸ h.set _
theorem boxed_putObj {W : World} {B l : Nat} {t : TypeId} {v : Value} {o : Obj} (h : Boxed W B t v) (hne : B ≠ l) : Boxed (W.putObj l o) B t v := (World.putObj_heap_other hne).trans h
theorem below_putObj {n₀ D : Nat} {w W : World} (h : Below n₀ w W) (o : Obj) (hn : n₀ ≤ w.heap.size) (hD : n₀ ≤ D) : Below n₀ w (W.putObj D o) :=
  h.grown (grownBy_putObj' W D o) (by have := h.size; omega) (fun k e => by cases e; exact hD)
theorem keepsFrom_set {W W' : World} {B b o : Nat} {u : Value} (h : KeepsFrom B W W') : KeepsFrom B W (W'.setCell ⟨b, o, none⟩ u) := h.trans ((KeepsOthers.setCell _ _ _).from _)
theorem keepsFrom_alloc {W W' : World} {B : Nat} {o : Obj} (h : KeepsFrom B W W') : KeepsFrom B W (W'.alloc o) := h.trans ((KeepsOthers.alloc _ _).from _)
end Go.Proofs.Ytmacnanocofoaaa
namespace Go.Proofs.Ytmacnanocofoaaa
open Go.RowKit

mutual
def TypeX.walk (d : Nat) : TypeX → List (Nat × TypeX)
  | .mk a b c => (d, .mk a b c) :: TypeX.walkL (d + 1) c
def TypeX.walkL (d : Nat) : List TypeX → List (Nat × TypeX)
  | [] => []
  | x :: r => x.walk d ++ TypeX.walkL d r
end
theorem TypeX.walk_eq (d : Nat) (x : TypeX) : x.walk d = (d, x) :: TypeX.walkL (d + 1) x.args_ := by cases x with | mk a b c => rw [TypeX.walk]; rfl
/-- What the lists of a stack (the top one first) have still to give. -/
def todoType : List (List TypeX) → List (Nat × TypeX)
  | [] => []
  | l :: r => TypeX.walkL r.length l ++ todoType r
theorem todoType_pop (r : List (List TypeX)) : todoType ([] :: r) = todoType r := by rw [todoType, TypeX.walkL]; rfl
theorem todoType_step (x : TypeX) (l : List TypeX) (r : List (List TypeX)) : todoType ((x :: l) :: r) = (r.length, x) :: todoType (x.args_ :: l :: r) := by
  rw [todoType, todoType, todoType, TypeX.walkL, TypeX.walk_eq, List.length_cons]
  simp
theorem todoType_start (x : TypeX) : todoType [[x]] = x.walk 0 := by simp [todoType, TypeX.walkL]
end Go.Proofs.Ytmacnanocofoaaa
namespace Go.Proofs.Ytmacnanocofoaaa
open Go.RowKit Go.Lib

/-- What the strings of one row add to a row of the call's own. -/
theorem run_append_strs {w : World} (base : Nat) (V : Value) (d : List ByteArray) (hown : w.ownsRow base 9 1 V d.length (d.map Value.string)) (A : Option Addr) (c : Nat) (ss : List ByteArray) (hA : Strs w A ss)
    (hd : d.length ≤ 17179869184) (hs : ss.length ≤ 17179869184) (hbase : base ≤ w.heap.size) (ty : TypeId) :
    ∃ v' w', (Builtin.append_ #[33, 33] ty #[V, .slice A ss.length c]).run Try.prog w = .ok v' w' ∧ w'.ownsRow base 9 1 v' (d ++ ss).length ((d ++ ss).map Value.string) ∧ w.grownBy w' V.ownBlock := by
  obtain ⟨i0, hi, hz0, hz1, hz2⟩ := info_parts infoString
  by_cases h0 : ss = []
  · subst h0
    simp only [List.append_nil, List.length_nil]
    cases A with
    | none => exact ⟨V, w, run_append_nil base _ ty _ i0 1 Try.underlying33 hi V d.length c _ hown, hown, ⟨rfl, rfl, rfl, Nat.le_refl _, fun _ _ _ => rfl⟩⟩
    | some ad =>
      obtain ⟨v', w', hr, h2, h3, _, _⟩ := _root_.Go.run_append_own_at (P := Try.prog) (w := w) base _ ty _ i0 _ 1 16 Try.underlying33 hi hz0 hz1 hz2 rfl (by decide) V d.length _ hown ad 0 c [] (by simp) (by simp) (by simp) (by unfold maxLen; omega) (by omega) hbase
      exact ⟨v', w', hr, by simpa using h2, h3⟩
  · rcases hA with hA | ⟨g, o, rfl, hg, hc⟩
    · exact absurd hA h0
    · obtain ⟨v', w', hr, h2, h3, _, _⟩ := _root_.Go.run_append_own_at (P := Try.prog) (w := w) base _ ty _ i0 _ 1 16 Try.underlying33 hi hz0 hz1 hz2 rfl (by decide) V d.length _ hown ⟨g, o, none⟩ ss.length c (ss.map Value.string) (by simp)
        (fun j u hj => by
          rw [List.getElem?_map] at hj
          cases hs : ss[j]? with
          | none => rw [hs] at hj; cases hj
          | some s =>
            rw [hs] at hj
            simp at hj
            subst hj
            have := hc j s hs
            rw [Go.WideShapes.add_plain]
            exact this)
        (fun u hu => by
          rw [List.mem_map] at hu
          obtain ⟨s, _, rfl⟩ := hu
          rfl) (by unfold maxLen; omega) (by omega) hbase
      exact ⟨v', w', hr, by rw [List.length_append, List.map_append]; exact h2, h3⟩

set_option maxRecDepth 100000 in
set_option maxHeartbeats 1000000 in
/-- Room for n strings: an empty row of the call's own. -/
theorem slicesGrow (n : Nat) (w : World) (hn : n ≤ 17179869184) :
    Calls Try.prog 127 #[.slice none 0 0, .int .i64 n] w (RowOf [] w) := by
  by_cases h0 : n = 0
  · subst h0
    go_enter Try.func127, Try.ntmps127
    go_wp2
    go_ret
    exact ⟨_, rfl, World.ownsRow_nil _ _ _ _, Below.refl _ _⟩
  · obtain ⟨G, cs, hrun, hsz, hnG, hG⟩ : ∃ (G : Nat) (cs : Array Value), (∀ ty, (Builtin.append_ #[33, 3] ty #[.slice none 0 0, .int .i64 n]).run Try.prog w = .ok (.slice (some ⟨w.heap.size, 0, none⟩) n G) (w.drew.alloc (.cells cs 9))) ∧ cs.size = G ∧ n ≤ G ∧ G ≤ maxLen := by
      obtain ⟨i0, hi, hz0, hz1, hz2⟩ := info_parts infoString
      have hge := grownCap_ge w n 0 9
      refine ⟨grownCap w n 0 9, #[] ++ Builtin.zeroCells (Value.string ByteArray.empty).cells n ++ Builtin.zeroCells (Value.string ByteArray.empty).cells (grownCap w n 0 9 - n), fun ty => ?_, ?_, hge, grownCap_le_maxLen w n 0 _ (by unfold maxLen; omega)⟩
      · have h := run_append_grow_zeros (P := Try.prog) w 33 3 ty 9 i0 (.string ByteArray.empty) .i64 .i64 Try.underlying33 Try.underlying3 hi hz0 none 0 0 [] (run_firstCells_none w.drew i0.size 0 0 0) n (by omega) (by omega) (by omega) (by omega)
          (by rw [hz2]; omega) (by rw [Nat.zero_add]; exact growslice_fits (by omega) (by rw [hz2]; omega))
        simp only [Nat.zero_add] at h
        exact h
      · rw [Array.size_append, Array.size_append, size_zeroCells, size_zeroCells]
        simp [Value.cells]
        omega
    have hG63 : G ≤ 9223372036854775807 := by unfold maxLen at hG; omega
    have hown : (w.drew.alloc (.cells cs 9)).ownsRow w.heap.size 9 1 (.slice (some ⟨w.heap.size, 0, none⟩) 0 G) 0 [] := World.ownsRow_made w.drew cs G (Nat.le_refl _) hG (by omega)
    have hb : Below w.heap.size w (w.drew.alloc (.cells cs 9)) := ((Below.refl w.heap.size w).drew).alloc (Nat.le_refl _) _
    have HO := Lib.hid hown
    have HB := Lib.hid hb
    clear hown hb hsz
    go_enter Try.func127, Try.ntmps127
    go_wp2_with (at_builtin; refine Lib.wpList_append_run _ rfl _ _ _ _ rfl _ _ rfl rfl _ _ (hrun _) ?_)
    all_goals (
      go_ret
      exact ⟨_, rfl, HO.out, HB.out⟩)

set_option maxRecDepth 100000 in
set_option maxHeartbeats 2000000 in
/-- Two lists, one behind the other: a row of the call's own. -/
theorem slicesConcat (A B : Option Addr) (ca cb g : Nat) (a b : List ByteArray) (w : World) (hA : Strs w A a) (hB : Strs w B b) (hg : Whole w g 33 #[.slice A a.length ca, .slice B b.length cb]) (ha : a.length ≤ 4294967296) (hb : b.length ≤ 4294967296) :
    Calls Try.prog 113 #[.slice (some ⟨g, 0, none⟩) 2 2] w (RowOf (a ++ b) w) := by
  have c0 : w.cell? ⟨g, 0, none⟩ = some (.slice A a.length ca) := hg.cell 0
  have c1 : w.cell? ⟨g, 1, none⟩ = some (.slice B b.length cb) := hg.cell 1
  have HA := Lib.hid hA
  have HB := Lib.hid hB
  have HG := Lib.hid hg
  clear hA hB hg
  go_enter Try.func113, Try.ntmps113
  go_wp2
  refine wp_loop_rounds 3 ?_
  rw [rounds_succ]
  go_wp2
  rw [rounds_succ]
  go_wp2
  rw [rounds_succ]
  go_wp2_with fail
  have hgr := slicesGrow (a.length + b.length) w (by omega)
  rw [Int.natCast_add] at hgr
  refine hgr.mono ?_
  clear hgr
  rintro e w1 ⟨V, rfl, hown1, hb1⟩
  have hglt := HG.out.lt
  have c0' := (hb1.cell (p := ⟨g, 0, none⟩) hglt).trans c0
  clear c0
  obtain ⟨V1, w2, hr1, hown2, hg2⟩ := run_append_strs w.heap.size V [] hown1 A ca a (HA.out.below hb1) (by simp) (by omega) hb1.size 33
  have hb2 : Below w.heap.size w w2 := hb1.grown hg2 hb1.size (fun k hk => (hown1.lt k hk).1)
  rw [List.nil_append] at hown2
  have c1' := (hb2.cell (p := ⟨g, 1, none⟩) hglt).trans c1
  clear c1
  obtain ⟨V2, w3, hr2, hown3, hg3⟩ := run_append_strs w.heap.size V1 a hown2 B cb b (HB.out.below hb2) (by omega) (by omega) hb2.size 33
  have hb3 : Below w.heap.size w w3 := hb2.grown hg3 hb2.size (fun k hk => (hown2.lt k hk).1)
  have HO := Lib.hid hown3
  have HW := Lib.hid hb3
  clear hown1 hown2 hown3 hg2 hg3 hb1 hb2 hb3 HA HB HG
  go_wp2
  refine wp_loop_rounds 3 ?_
  rw [rounds_succ]
  go_wp2_with (at_builtin; refine Lib.wpList_append_run _ rfl _ _ _ _ rfl _ _ rfl rfl _ _ hr1 ?_)
  rw [rounds_succ]
  go_wp2_with (at_builtin; refine Lib.wpList_append_run _ rfl _ _ _ _ rfl _ _ rfl rfl _ _ hr2 ?_)
  rw [rounds_succ]
  go_wp2
  go_ret
  exact ⟨_, rfl, HO.out, HW.out⟩
end Go.Proofs.Ytmacnanocofoaaa
namespace Go.Proofs.Ytmacnanocofoaaa
open Go.RowKit Go.Lib

theorem Seen.below {P : Program} {k e : TypeId} {w w' : World} {b n : Nat} {l : List ByteArray} (h : Seen P k e w b n l) (hb : Below w.heap.size w w') : Seen P k e w' b n l :=
  h.kept (row := none) ⟨hb.os, hb.tape, hb.output, hb.size, fun j hj _ => hb.block j hj⟩ (by simp)
theorem own_wide {w : World} {B B' size n : Nat} {e : TypeId} {v : Value} {xs : List Value} (h : w.ownsRow B e size v n xs) (hB : B' ≤ B) : w.ownsRow B' e size v n xs := by
  refine ⟨h.1, ?_⟩
  rcases h.2 with hn | ⟨g, cap, cur, rfl, hbg, rest⟩
  · exact .inl hn
  · exact .inr ⟨g, cap, cur, rfl, by omega, rest⟩

set_option maxRecDepth 100000 in
set_option maxHeartbeats 2000000 in
theorem implUnion (A B : Option Addr) (c c' : Nat) (a b : List ByteArray) (w : World) (hA : Strs w A a) (hB : Strs w B b) (ha : a.length ≤ 4294967296) (hb : b.length ≤ 4294967296) (hz : ∀ x ∈ a ++ b, x.size ≤ 9223372036854775807) :
    Calls Try.prog 75 #[.slice A a.length c, .slice B b.length c'] w (RowOf (uniF [] (a ++ b)) w) := by
  obtain ⟨i0, hi, hz0, hz1, hz2⟩ := info_parts infoString
  have hmm := @run_makeMap Try.prog
  have hal : Below w.heap.size w ((w.alloc (.map #[] 0)).alloc (.cells #[.slice A a.length c, .slice B b.length c'] 33)) := ((Below.refl _ _).alloc (Nat.le_refl _) _).alloc (by simp) _
  have hs0 : Seen Try.prog 9 4 ((w.alloc (.map #[] 0)).alloc (.cells #[.slice A a.length c, .slice B b.length c'] 33)) w.heap.size 0 [] := (Seen.made w).below ((Below.refl _ _).alloc (Nat.le_refl _) _)
  have hg0 := Whole.new (w.alloc (.map #[] 0)) 33 #[.slice A a.length c, .slice B b.length c']
  rw [World.size_alloc] at hg0
  have hcc := slicesConcat A B c c' (w.heap.size + 1) a b _ (hA.below hal) (hB.below hal) hg0 ha hb
  have HC := Lib.hid hcc
  have HAL := Lib.hid hal
  have HS0 := Lib.hid hs0
  have HZ := Lib.hid hz
  clear hcc hal hs0 hg0 hA hB hz
  go_enter Try.func75, Try.ntmps75
  go_wp2_with fail
  refine HC.out.mono ?_
  rintro e w1 ⟨V, rfl, hownL, hb1⟩
  have hll : (a ++ b).length ≤ 8589934592 := by rw [List.length_append]; omega
  have hs1 := HS0.out.below hb1
  have hbw := HAL.out.trans (hb1.mono HAL.out.size)
  have hsz1 := hb1.size
  simp only [World.size_alloc] at hownL hsz1
  clear HC HAL HS0 hb1
  obtain ⟨L, hL⟩ : ∃ L, L = a ++ b := ⟨_, rfl⟩
  rw [← hL] at hownL hll HZ ⊢
  have HLQ := Lib.hid hL
  clear hL ha hb
  obtain ⟨AL, cL, rfl, hSL⟩ := strs_own hownL
  clear hSL
  go_wp2
  go_loopw [5, 15] (fun v i wr => ∃ (k : Nat) (d : List ByteArray), k ≤ L.length ∧ i = .int .i64 k ∧ d = uniF [] (L.take k) ∧ wr.ownsRow w1.heap.size 9 1 v d.length (d.map Value.string) ∧ Seen Try.prog 9 4 wr w.heap.size d.length d ∧
    wr.ownsRow (w.heap.size + 1 + 1) 9 1 (.slice AL L.length cL) L.length (L.map Value.string) ∧ w1.heap.size ≤ wr.heap.size ∧ Below w.heap.size w wr) (fun _ i _ => L.length - (Go.RowKit.intOf i).toNat)
  case atStart => exact ⟨0, [], Nat.zero_le _, rfl, rfl, World.ownsRow_nil _ _ _ _, hs1, hownL, Nat.le_refl _, hbw⟩
  case round =>
    have hlt1 : ∀ q, (Value.slice AL L.length cL).ownBlock = some q → q < w1.heap.size := fun q hq => (hownL.lt q hq).2
    have HLT1 := Lib.hid hlt1
    clear hownL hs1 hbw hlt1
    obtain ⟨k, d, hk, rfl, hd, hown, hseen, hownL, hsz, hbl⟩ := hrel
    have hdl : d.length ≤ 8589934592 := by
      have := uniF_len (L.take k) []
      rw [← hd] at this
      rw [List.length_take] at this
      simp at this
      omega
    by_cases hlt : k < L.length
    · obtain ⟨AL', cL', e, hSL⟩ := strs_own hownL
      injection e with e1 _ e3
      subst e1 e3
      obtain ⟨g, o, rfl, hc⟩ := hSL.at_ hlt
      obtain ⟨x, hx⟩ : ∃ x, x = L[k] := ⟨_, rfl⟩
      have hxs : x.size ≤ 9223372036854775807 := HZ.out x (by rw [hx]; exact List.getElem_mem hlt)
      have hst := uniF_take (acc := []) hlt
      rw [← hd, ← hx] at hst
      rw [← hx] at hc
      have hold := @addNew_old d x
      have hnew := @addNew_new d x
      rw [← hst] at hold hnew
      have HO := Lib.hid hold
      have HN := Lib.hid hnew
      clear hd hst hold hnew hx hSL
      have hlk := hseen.look Try.underlying89 Try.underlying9 Try.underlying4 (zeroBool _) x hxs
      cases hh : has d x with
      | true =>
        have h1 := HO.out hh
        have H1 := Lib.hid h1
        rw [hh] at hlk
        clear h1 hh
        go_wp2
        go_roundw
        case rel => exact ⟨k + 1, d, by omega, by go_num, H1.out.symm, hown, hseen, hownL, hsz, hbl⟩
        case measure => simp [Go.RowKit.intOf]; omega
      | false =>
        have h1 := HN.out hh
        have H1 := Lib.hid h1
        rw [hh] at hlk
        clear h1 hh
        obtain ⟨w2, e2, hs2, hg2⟩ := hseen.store Try.underlying89 Try.underlying9 Try.underlying4 (by omega) x hxs
        have hml : w.heap.size < w1.heap.size := by omega
        have hown2 := hown.kept hg2 (.inr fun e => by have := (hown.lt _ e).1; omega)
        have hownL2 := hownL.kept hg2 (.inr fun e => by have := (hownL.lt _ e).1; omega)
        have hbl2 : Below w.heap.size w w2 := hbl.grown hg2 hbl.size (fun j hj => by cases hj; exact Nat.le_refl _)
        have hsz2 : w1.heap.size ≤ w2.heap.size := Nat.le_trans hsz hg2.size

        go_wp2_with (at_builtin; refine wpList_append_own _ rfl _ _ 33 rfl w1.heap.size 9 i0 (.string ByteArray.empty) 1 16 Try.underlying33 hi hz0 hz1 hz2 rfl (by decide) _ _ _ rfl (hown2.alloc _) ⟨w2.heap.size, 0, none⟩ 1 1 [.string x] rfl rfl (news_one w2 _ _) (one_string _) (by unfold maxLen; omega) (by omega) (by simp; omega) ?_)
        intro v' w3 hown3 hgrow _
        have hall := (World.grownBy_alloc w2 _ _).trans hgrow
        have hb3 : Below w.heap.size w w3 := hbl2.grown hall hbl2.size (fun k hk => by have := (hown2.lt k hk).1; omega)
        have hs3 := hs2.kept hall (fun e => by have := (hown2.lt _ e.symm).1; omega)
        have hownL3 := hownL2.kept hall (.inr fun e => by have h1 := HLT1.out g rfl; have h2 := (hown2.lt g e.symm).1; omega)
        have hsz3 : w1.heap.size ≤ w3.heap.size := Nat.le_trans hsz2 hall.size
        rw [strs_map] at hown3
        go_wp2
        go_roundw
        case rel => exact ⟨k + 1, d ++ [x], by omega, by go_num, H1.out.symm, by simpa using hown3, by simpa using hs3, hownL3, hsz3, hb3⟩
        case measure => simp [Go.RowKit.intOf]; omega
    · have hkl : k = L.length := by omega
      subst hkl
      rw [List.take_length] at hd
      have HD := Lib.hid hd
      clear hd
      go_wp2
      go_ret
      rw [← HLQ.out, ← HD.out]
      exact ⟨_, rfl, own_wide hown (by omega), hbl⟩

end Go.Proofs.Ytmacnanocofoaaa
namespace Go.Proofs.Ytmacnanocofoaaa
open Go.RowKit

theorem name_low {s : ByteArray} {k : Nat} (h : k < s.size) (hc : goodAt k s[k] = true) : Utf8.decode s k = (s[k].toNat, 1) :=
  decode_ascii s k h (by unfold goodAt letterR digitR at hc; simp at hc; omega)
theorem name_bad {s : ByteArray} {k : Nat} (h : k < s.size) (hc : goodAt k s[k] = false) : letterR ((Utf8.decode s k).1 : Int) = false ∧ (k = 0 ∨ digitR ((Utf8.decode s k).1 : Int) = false) := by
  by_cases ha : s[k].toNat < 128
  · rw [decode_ascii s k h ha]
    simp only [goodAt, Bool.or_eq_false_iff, Bool.and_eq_false_iff] at hc
    refine ⟨hc.1, ?_⟩
    rcases hc.2 with h0 | h0
    · left; simpa using h0
    · right; exact h0
  · have := (decode_high s k h (by omega)).1
    unfold letterR digitR
    simp
    omega

set_option maxRecDepth 100000 in
set_option maxHeartbeats 2000000 in
theorem implName (s : ByteArray) (w : World) (hs : s.size ≤ 9223372036854775807) : Calls Try.prog 69 #[.string s] w fun e w' => e = .returned (.bool (okName s)) ∧ Below w.heap.size w w' := by
  by_cases h1 : 1 ≤ s.size ∧ s.size ≤ 8
  · have hall := @name_ok s h1
    have HA := Lib.hid hall
    clear hall
    obtain ⟨h2, h3⟩ := h1
    go_enter Try.func69, Try.ntmps69
    go_wp2
    go_loopw [] (fun wr => ∃ k : Nat, k ≤ s.size ∧ goods s k = true ∧ wr = w.iter s k) (fun wr => s.size - wr.iterPos w.heap.size)
    case atStart => exact ⟨0, Nat.zero_le _, rfl, rfl⟩
    case round =>
      obtain ⟨k, hk, ha, rfl⟩ := hrel
      have HT := Lib.hid ha
      clear ha
      have hb : ∀ j, Below w.heap.size w (w.iter s j) := fun j => (Below.refl _ _).alloc (Nat.le_refl _) _
      by_cases hlt : k < s.size
      · cases hc : goodAt k s[k] with
        | true =>
          have hst := goods_succ hlt
          rw [HT.out, hc] at hst
          have hd := name_low hlt hc
          have hnx := fun ty => run_next_any (P := Try.prog) w s k ty hlt
          rw [hd] at hnx
          have HS := Lib.hid hst
          clear hst hd
          cases hl : letterR (s[k].toNat : Int) with
          | true =>
            have HL := Lib.hid hl
            clear hc hl
            go_wp2_with fail
            refine (letterIs _ _).mono ?_
            rintro e w1 ⟨rfl, rfl⟩
            rw [HL.out]
            go_wp2
            go_roundw
            case rel => exact ⟨k + 1, by omega, HS.out, rfl⟩
            case measure => simp; omega
          | false =>
            rw [goodAt, hl, Bool.false_or, Bool.and_eq_true] at hc
            have q0 : ((k : Int) == 0) = false := by have := hc.1; simp at this ⊢; omega
            have HL := Lib.hid hl
            have HC := Lib.hid hc.2
            clear hc hl
            go_wp2_with fail
            refine (letterIs _ _).mono ?_
            rintro e w1 ⟨rfl, rfl⟩
            rw [HL.out]
            go_wp2_with fail
            refine (digitIs _ _).mono ?_
            rintro e w1 ⟨rfl, rfl⟩
            rw [HC.out]
            go_wp2
            go_roundw
            case rel => exact ⟨k + 1, by omega, HS.out, rfl⟩
            case measure => simp; omega
        | false =>
          have hno := goods_bad hlt hc
          have hd := name_bad hlt hc
          have hnx := fun ty => run_next_any (P := Try.prog) w s k ty hlt
          obtain ⟨hd1, hd2⟩ := hd
          have HN := Lib.hid hno
          have HD := Lib.hid hd1
          clear hno hd1 hc
          by_cases h0 : k = 0
          · clear hd2
            subst h0
            go_wp2_with fail
            refine (letterIs _ _).mono ?_
            rintro e w1 ⟨rfl, rfl⟩
            rw [HD.out]
            go_wp2
            go_ret
            exact ⟨congrArg (fun b => Ending.returned (.bool b)) HN.out.symm, hb _⟩
          · have hd3 := hd2.resolve_left h0
            have q0 : ((k : Int) == 0) = false := by simp; omega
            have HE := Lib.hid hd3
            clear hd2 hd3
            go_wp2_with fail
            refine (letterIs _ _).mono ?_
            rintro e w1 ⟨rfl, rfl⟩
            rw [HD.out]
            go_wp2_with fail
            refine (digitIs _ _).mono ?_
            rintro e w1 ⟨rfl, rfl⟩
            rw [HE.out]
            go_wp2
            go_ret
            exact ⟨congrArg (fun b => Ending.returned (.bool b)) HN.out.symm, hb _⟩
      · have hkl : k = s.size := by omega
        subst hkl
        have hok := HA.out HT.out
        have HK := Lib.hid hok
        clear hok
        have hnx := fun ty => run_next_end (P := Try.prog) w s s.size ty (Nat.lt_irrefl _)
        go_wp2_with fail
        refine (implReserved s _ hs).mono ?_
        rintro e w1 ⟨rfl, hb1⟩
        have hb2 := (hb s.size).trans (hb1.mono (hb s.size).size)
        go_wp2
        go_ret
        exact ⟨congrArg (fun b => Ending.returned (.bool b)) HK.out.symm, hb2⟩
  · have hno := name_size h1
    have HN := Lib.hid hno
    clear hno
    by_cases h2 : s.size < 1
    · go_enter Try.func69, Try.ntmps69
      go_wp2
      go_ret
      exact ⟨congrArg (fun b => Ending.returned (.bool b)) HN.out.symm, Below.refl _ _⟩
    · have h3 : 8 < s.size := by omega
      clear h1
      go_enter Try.func69, Try.ntmps69
      go_wp2
      go_ret
      exact ⟨congrArg (fun b => Ending.returned (.bool b)) HN.out.symm, Below.refl _ _⟩
end Go.Proofs.Ytmacnanocofoaaa
/-!  The laws' guard on the code's length. -/
namespace Go.Proofs.Ytmacnanocofoaaa
open Go.RowKit

theorem bigNo (A : Option Addr) (n c : Nat) (w : World) (hn : n ≤ 1048576) : Calls Try.prog 16 #[.slice A n c] w fun e w' => e = .returned (.bool false) ∧ w = w' := by
  have g : decide ((1048576 : Int) < n) = false := by simp; omega
  go_enter Try.func16, Try.ntmps16
  go_wp2
  go_ret
  exact ⟨rfl, rfl⟩
theorem bigYes (A : Option Addr) (n c : Nat) (w : World) (hn : 1048576 < n) : Calls Try.prog 16 #[.slice A n c] w fun e w' => e = .returned (.bool true) ∧ w = w' := by
  have g : decide ((1048576 : Int) < n) = true := by simp; omega
  go_enter Try.func16, Try.ntmps16
  go_wp2
  go_ret
  exact ⟨rfl, rfl⟩
end Go.Proofs.Ytmacnanocofoaaa

/-!  The laws' own helper that compares two rows of strings. -/
namespace Go.Proofs.Ytmacnanocofoaaa
open Go.RowKit

end Go.Proofs.Ytmacnanocofoaaa
namespace Go.Proofs.Ytmacnanocofoaaa
open Go.RowKit Go.Lib

/-- A row of n strings in block g that may be written. -/
def RowAt (w : World) (A : Option Addr) (g n : Nat) : Prop := n = 0 ∨ (A = some ⟨g, 0, none⟩ ∧ g < w.heap.size ∧ ∀ j, j < n → (∃ s, w.cell? ⟨g, j, none⟩ = some (.string s)) ∧ w.frozen? ⟨g, j, none⟩ = false)
/-- The row bears its marks. -/
def MarkedAt (w : World) (A : Option Addr) (g k n : Nat) : Prop := n = 0 ∨ (A = some ⟨g, 0, none⟩ ∧ g < w.heap.size ∧ ∀ j, j < n → w.cell? ⟨g, j, none⟩ = some (.string (mark (k + j))))
theorem RowAt.keep {w w' : World} {A : Option Addr} {g n : Nat} (h : RowAt w A g n) (hsz : w.heap.size ≤ w'.heap.size) (hb : g < w.heap.size → w'.heap[g]? = w.heap[g]?) : RowAt w' A g n := by
  rcases h with h | ⟨rfl, hg, hc⟩
  · exact .inl h
  · refine .inr ⟨rfl, by omega, fun j hj => ⟨?_, ?_⟩⟩
    · obtain ⟨s, hs⟩ := (hc j hj).1
      exact ⟨s, (World.cell?_of_block (a := ⟨g, j, none⟩) (hb hg)).trans hs⟩
    · have hf := (hc j hj).2
      unfold World.frozen? at hf ⊢
      rw [hb hg]
      exact hf
theorem RowAt.below {w w' : World} {A : Option Addr} {g n : Nat} (h : RowAt w A g n) (hb : Below w.heap.size w w') : RowAt w' A g n := h.keep hb.size (hb.block g)
theorem RowAt.but {w w' : World} {A : Option Addr} {g k n : Nat} (h : RowAt w A g n) (hb : But k w w') (hne : g ≠ k) : RowAt w' A g n := h.keep hb.size fun hg => hb.block g hg hne
theorem MarkedAt.keep {w w' : World} {A : Option Addr} {g k n : Nat} (h : MarkedAt w A g k n) (hsz : w.heap.size ≤ w'.heap.size) (hb : g < w.heap.size → w'.heap[g]? = w.heap[g]?) : MarkedAt w' A g k n := by
  rcases h with h | ⟨rfl, hg, hc⟩
  · exact .inl h
  · exact .inr ⟨rfl, by omega, fun j hj => (World.cell?_of_block (a := ⟨g, j, none⟩) (hb hg)).trans (hc j hj)⟩
theorem MarkedAt.below {w w' : World} {A : Option Addr} {g k n : Nat} (h : MarkedAt w A g k n) (hb : Below w.heap.size w w') : MarkedAt w' A g k n := h.keep hb.size (hb.block g)
theorem Whole.row {w : World} {g : Nat} {t : TypeId} {ss : List ByteArray} (h : Whole w g t (ss.map Value.string).toArray) : RowAt w (some ⟨g, 0, none⟩) g ss.length :=
  .inr ⟨rfl, h.lt, fun j hj => ⟨⟨ss[j], by rw [h.cell]; simp [hj]⟩, h.frozen j⟩⟩
theorem Strs.but {w w' : World} {A : Option Addr} {ss : List ByteArray} {g : Nat} (h : Strs w A ss) (hb : But g w w') (hne : ∀ ad, A = some ad → ad.block ≠ g) : Strs w' A ss := by
  rcases h with h | ⟨b, o, rfl, hg, hc⟩
  · exact .inl h
  · exact .inr ⟨b, o, rfl, Nat.lt_of_lt_of_le hg hb.size, fun j s hj => (World.cell?_of_block (a := ⟨b, o + j, none⟩) (hb.block b hg (hne _ rfl))).trans (hc j s hj)⟩
/-- What an owned row of strings is: its strings, its block. -/
theorem own_row {w : World} {B : Nat} {e : TypeId} {V : Value} {d : List ByteArray} (h : w.ownsRow B e 1 V d.length (d.map Value.string)) :
    ∃ A c g, V = .slice A d.length c ∧ Strs w A d ∧ RowAt w A g d.length ∧ B ≤ g ∧ (∀ ad, A = some ad → ad.block = g ∧ g < w.heap.size) := by
  rcases h.2 with ⟨rfl, h0⟩ | ⟨g, cap, cur, rfl, hBg, hblk, _⟩
  · exact ⟨none, 0, B, by rw [h0], .inl (List.eq_nil_of_length_eq_zero h0), .inl h0, Nat.le_refl _, fun ad e => by cases e⟩
  · have hlt := (h.lt g rfl).2
    have hc : ∀ j, j < d.length → w.cell? ⟨g, j, none⟩ = (d.map Value.string)[j]? := fun j hj => World.ownsRow.cellAt h j (by omega)
    refine ⟨_, cap, g, rfl, .inr ⟨g, 0, rfl, hlt, fun j s hj => ?_⟩, .inr ⟨rfl, hlt, fun j hj => ⟨⟨d[j], ?_⟩, ?_⟩⟩, hBg, fun ad e => by injection e with e; subst e; exact ⟨rfl, hlt⟩⟩
    · have hjl : j < d.length := by
        rcases Nat.lt_or_ge j d.length with h | h
        · exact h
        · rw [List.getElem?_eq_none h] at hj; cases hj
      rw [Nat.zero_add, hc j hjl, List.getElem?_map, hj]
      rfl
    · rw [hc j hj]; simp [hj]
    · simp [World.frozen?, hblk]

set_option maxRecDepth 100000 in
set_option maxHeartbeats 1000000 in
theorem markS (A : Option Addr) (g n k0 c : Nat) (w : World) (h : RowAt w A g n) (h0 : 0 < k0) (h1 : k0 ≤ 8589934592) (hn : n ≤ 8589934592) :
    Calls Try.prog 44 #[.slice A n c, .int .i64 k0] w fun e w' => e = .returned (.int .i64 (k0 + n : Nat)) ∧ MarkedAt w' A g k0 n ∧ But g w w' := by
  have HR := Lib.hid h
  clear h
  go_enter Try.func44, Try.ntmps44
  go_wp2
  go_loopw [1, 5] (fun q i wr => ∃ j : Nat, j ≤ n ∧ i = .int .i64 j ∧ q = .int .i64 (k0 + j : Nat) ∧ RowAt wr A g n ∧ MarkedAt wr A g k0 j ∧ But g w wr) (fun _ i _ => n - (Go.RowKit.intOf i).toNat)
  case atStart => exact ⟨0, Nat.zero_le _, rfl, rfl, HR.out, .inl rfl, But.refl _ _⟩
  case round =>
    clear HR
    obtain ⟨j, hj, rfl, rfl, hr, hm, hb⟩ := hrel
    by_cases hlt : j < n
    · have hr' := hr
      rcases hr' with h | ⟨rfl, hg, hc⟩
      · omega
      · have HM := Lib.hid hm
        have HR := Lib.hid hr
        have hc' := hc j hlt
        clear hm hr hc
        go_wp2_with fail
        refine (markText (k0 + j) _ (by omega) (by omega)).mono ?_
        rintro e w1 ⟨rfl, hb1⟩
        obtain ⟨⟨s, hs⟩, hf⟩ := hc'
        have hc1 : w1.cell? ⟨g, j, none⟩ = some (.string s) := (hb1.cell (p := ⟨g, j, none⟩) hg).trans hs
        have hf1 : w1.frozen? ⟨g, j, none⟩ = false := (hb1.frozen (p := ⟨g, j, none⟩) hg).trans hf
        have hb2 : But g w w1 := hb.trans (But.of_below hb1)
        have hr1 := HR.out.below hb1
        have hm1 := HM.out.below hb1
        have hr2 : RowAt (w1.setCell ⟨g, j, none⟩ (.string (mark (k0 + j)))) (some ⟨g, 0, none⟩) g n := by
          rcases hr1 with h | ⟨_, hg1, hc1'⟩
          · exact .inl h
          · refine .inr ⟨rfl, by simpa [World.setCell] using hg1, fun i hi => ⟨?_, by rw [World.frozen?_setCell]; exact (hc1' i hi).2⟩⟩
            by_cases hij : i = j
            · subst hij; exact ⟨_, World.cell?_setCell_same _ _ _ hc1⟩
            · obtain ⟨s', hs'⟩ := (hc1' i hi).1
              exact ⟨s', (World.cell?_setCell_other _ _ _ _ (fun e => hij (by injection e with _ e; exact e.symm))).trans hs'⟩
        have hm2 : MarkedAt (w1.setCell ⟨g, j, none⟩ (.string (mark (k0 + j)))) (some ⟨g, 0, none⟩) g k0 (j + 1) := by
          refine .inr ⟨rfl, by have := hb1.size; simp [World.setCell]; omega, fun i hi => ?_⟩
          by_cases hij : i = j
          · subst hij; exact World.cell?_setCell_same _ _ _ hc1
          · rcases hm1 with h | ⟨_, _, hcm⟩
            · omega
            · exact (World.cell?_setCell_other _ _ _ _ (fun e => hij (by injection e with _ e; exact e.symm))).trans (hcm i (by omega))
        have HR2 := Lib.hid hr2
        have HM2 := Lib.hid hm2
        clear hr1 hr2 hm1 hm2 HM HR
        go_wp2
        go_roundw
        case rel => exact ⟨j + 1, by omega, by go_num, int_of (by omega), HR2.out, HM2.out, hb2.trans (But.set_ _ _ _ _)⟩
        case measure => simp [Go.RowKit.intOf]; omega
    · have hjl : j = n := by omega
      subst hjl
      have HM := Lib.hid hm
      clear hm hr
      go_wp2
      go_ret
      exact ⟨rfl, HM.out, hb⟩

set_option maxRecDepth 100000 in
set_option maxHeartbeats 400000 in
theorem heldS (A : Option Addr) (g n k0 c : Nat) (w : World) (h : MarkedAt w A g k0 n) (h0 : 0 < k0) (h1 : k0 ≤ 8589934592) (hlen : n ≤ 8589934592) :
    Calls Try.prog 45 #[.slice A n c, .int .i64 k0] w fun e w' => e = .returned (.int .i64 (k0 + n : Nat)) ∧ Below w.heap.size w w' := by
  have HW := Lib.hid h
  clear h
  go_enter Try.func45, Try.ntmps45
  go_wp2
  go_loopw [1, 5] (fun q i wr => ∃ j : Nat, j ≤ n ∧ i = .int .i64 j ∧ q = .int .i64 (k0 + j : Nat) ∧ Below w.heap.size w wr) (fun _ i _ => n - (Go.RowKit.intOf i).toNat)
  case atStart => exact ⟨0, Nat.zero_le _, rfl, rfl, Below.refl _ _⟩
  case round =>
    obtain ⟨j, hj, rfl, rfl, hb⟩ := hrel
    by_cases hlt : j < n
    · rcases HW.out.below hb with h | ⟨rfl, hg, hcs⟩
      · omega
      · have hc := hcs j hlt
        have cM : ∀ d os, Calls Try.prog 86 #[.int .i64 (k0 + j : Nat)] (Go.Sort.grow (redrawn wr d) os) fun e w'' => e = .returned (.string (mark (k0 + j))) ∧ ∃ p : Regrown, w'' = Go.Sort.grow (redrawn wr p.d) p.os := fun d os => Calls.regrown_of (markText (k0 + j) _ (by omega) (by omega))
        have kc := cell_regrown hc
        have hj0 : (0 : Int) ≤ j := by omega
        clear hcs
        go_wp2
        refine wp_region_quiet_below (by kernel_rfl) (by kernel_rfl) ?_
        repeat (quiet_step (exact cM _ _))
        refine wpQuiet_nil ?_
        intro _ hw'
        obtain ⟨⟨dq, osq⟩, hw''⟩ := hw'
        subst hw''
        have hb3 := hb.trans ((below_regrown wr dq osq).mono hb.size)
        clear cM kc
        go_wp2
        go_roundw
        case rel => exact ⟨j + 1, by omega, by go_num, int_of (by omega), hb3⟩
        case measure => simp [Go.RowKit.intOf]; omega
    · go_wp2
      go_ret
      have hjl : j = n := by omega
      subst hjl
      exact ⟨rfl, hb⟩
end Go.Proofs.Ytmacnanocofoaaa
namespace Go.Proofs.Ytmacnanocofoaaa
open Go.ChangeShapes Go.WideShapes Go.ChangeAt Go.RowKit

theorem bytes_of {w : World} {a : Addr} {len cap : Nat} {zs : List Int} (hl : len ≤ cap) (hz : zs.length = cap) (hc : ∀ i, i < zs.length → w.cell? (a.add i) = some (.int .u8 (zs.getD i 0))) (hw : ∀ z ∈ zs, (Lit.int .u8 z).wf = true) : BytesAt w w.heap.size (some a) len := by
  intro j hj
  have hjz : j < zs.length := by omega
  obtain ⟨b, off, spot⟩ := a
  have hspot : spot = none := by simpa [Addr.add] using World.cell?_spot (hc 0 (by omega))
  subst hspot
  have h := hc j hjz
  rw [Go.WideShapes.add_plain] at h
  have hmem : zs.getD j 0 ∈ zs := by
    rw [List.getD_eq_getElem?_getD, List.getElem?_eq_getElem hjz]
    exact List.getElem_mem hjz
  have hwf := hw _ hmem
  have hx : 0 ≤ zs.getD j 0 ∧ zs.getD j 0 ≤ 255 := by simpa [Lit.wf, IntKind.min, IntKind.max, IntKind.signed, IntKind.bits] using hwf
  exact ⟨b, off, _, rfl, World.block_lt_of_cell? w _ h, hx.1, hx.2, h⟩
end Go.Proofs.Ytmacnanocofoaaa
namespace Go.Proofs.Ytmacnanocofoaaa
open Go.RowKit Go.Lib

set_option maxRecDepth 100000 in
set_option maxHeartbeats 2000000 in
theorem equalTys (l : List TypeX) (A C : Option Addr) (a c : Nat) (w : World) (hn : TypeX.sizeL l ≤ 4294967296) (hA : TypeRow w (Und w.heap.size) A a l) (hC : TypeRow w (Und w.heap.size) C c l) :
    Calls Try.prog 36 #[.slice A l.length a, .slice C l.length c] w fun e w' => e = .returned (.bool true) ∧ Below w.heap.size w w' := by
  have hll := sizeL_length l
  have HA := Lib.hid hA
  have HC := Lib.hid hC
  clear hA hC
  go_enter Try.func36, Try.ntmps36
  go_wp2
  go_loopw [5] (fun iv wr => ∃ k : Nat, k ≤ l.length ∧ iv = .int .i64 k ∧ Below w.heap.size w wr) (fun iv _ => l.length - (Go.RowKit.intOf iv).toNat)
  case atStart => exact ⟨0, Nat.zero_le _, rfl, Below.refl _ _⟩
  case round =>
    obtain ⟨k, hk, rfl, hb⟩ := hrel
    by_cases hlt : k < l.length
    · obtain ⟨b, o, A3, c3, rfl, hP, p0, p1, p2, h3⟩ := (HA.out.grow hb).at_ hlt
      obtain ⟨b2, o2, C3, d3, rfl, hP2, q0, q1, q2, h4⟩ := (HC.out.grow hb).at_ hlt
      have hbl : b < wr.heap.size := hP
      have hbl2 : b2 < wr.heap.size := hP2
      have hk0 : (0 : Int) ≤ (k : Int) := Int.natCast_nonneg _
      have hk1 : (k : Int) < (l.length : Int) := by omega
      have hcall := specSameTy l[k] l[k] (.agg #[.int .i64 l[k].kind_, .string l[k].name_, .slice A3 l[k].args_.length c3]) (.agg #[.int .i64 l[k].kind_, .string l[k].name_, .slice C3 l[k].args_.length d3]) wr.drew ⟨_, _, rfl, h3.frame (fun _ h => h) fun _ _ _ => rfl⟩ ⟨_, _, rfl, h4.frame (fun _ h => h) fun _ _ _ => rfl⟩
      rw [(TypeX.same_iff _ _).2 rfl] at hcall
      have HCALL := Lib.hid hcall
      have hcur : Below wr.heap.size wr wr.drew := (Below.refl _ wr).drew
      have HSC : Hid (∀ w2 : World, Below wr.heap.size wr w2 → w2.cell? ⟨b, o + k * 3, none⟩ = some (.int .i64 l[k].kind_) ∧ w2.cell? ⟨b, o + k * 3 + 1, none⟩ = some (.string l[k].name_) ∧ w2.cell? ⟨b, o + k * 3 + 2, none⟩ = some (.slice A3 l[k].args_.length c3) ∧ w2.cell? ⟨b2, o2 + k * 3, none⟩ = some (.int .i64 l[k].kind_) ∧ w2.cell? ⟨b2, o2 + k * 3 + 1, none⟩ = some (.string l[k].name_) ∧ w2.cell? ⟨b2, o2 + k * 3 + 2, none⟩ = some (.slice C3 l[k].args_.length d3)) := Lib.hid fun w2 h =>
        ⟨(h.cell (p := ⟨b, _, none⟩) hbl).trans p0, (h.cell (p := ⟨b, _, none⟩) hbl).trans p1, (h.cell (p := ⟨b, _, none⟩) hbl).trans p2, (h.cell (p := ⟨b2, _, none⟩) hbl2).trans q0, (h.cell (p := ⟨b2, _, none⟩) hbl2).trans q1, (h.cell (p := ⟨b2, _, none⟩) hbl2).trans q2⟩
      clear h3 h4 hcall hP hP2
      go_upto_region 6 with (fail)
      go_region_held3 (fun w2 => w2.cell? ⟨b, o + k * 3, none⟩ = some (.int .i64 l[k].kind_) ∧ w2.cell? ⟨b, o + k * 3 + 1, none⟩ = some (.string l[k].name_) ∧ w2.cell? ⟨b, o + k * 3 + 2, none⟩ = some (.slice A3 l[k].args_.length c3) ∧ w2.cell? ⟨b2, o2 + k * 3, none⟩ = some (.int .i64 l[k].kind_) ∧ w2.cell? ⟨b2, o2 + k * 3 + 1, none⟩ = some (.string l[k].name_) ∧ w2.cell? ⟨b2, o2 + k * 3 + 2, none⟩ = some (.slice C3 l[k].args_.length d3))
        (first
         | go_keep
         | exact HSC.out _ hcur)
        (first
         | (go_at_call 19
            refine HCALL.out.mono ?_
            rintro e w7 ⟨rfl, hb7⟩
            have hcur := hcur.trans hb7))
      have HB7 := Lib.hid (hb.trans (hcur.mono hb.size))
      go_wp2
      go_roundw
      case rel => exact ⟨k + 1, by omega, by go_num, HB7.out⟩
      case measure => simp [Go.RowKit.intOf]; omega
    · go_wp2
      go_ret
      exact ⟨rfl, hb⟩
end Go.Proofs.Ytmacnanocofoaaa

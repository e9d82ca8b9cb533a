/- The laws' copies of Type: the same in memory of their own. -/
import Derived.Test.YtbcfeoobhemdcaaZTypeSz
import Derived.Test.YtbcfeoobhemdcaaZDvMake
import Derived.Outline
namespace Go.Proofs.Ytbcfeoobhemdcaa
open Go.RowKit Go.Lib

theorem infoType : (Try.prog.info? 35).map (fun i => (i.zero, i.size, i.bytes)) = some (some (.agg #[.int .i64 0, .string ByteArray.empty, .slice none 0 0]), 3, 48) := by kernel_rfl
def ToType (N : Nat) : Prop := ∀ (x : TypeX) (v : Value) (w : World), DV.nodesL x.cells ≤ N → DV.wtL x.cells ≤ 1048576 → TypeAt w (Und w.heap.size) x v → Calls Try.prog 47 #[v] w (MadeV x.cells w)
def ToTypeS (N : Nat) : Prop := ∀ (l : List TypeX) (A : Option Addr) (c : Nat) (w : World), DV.nodesE (TypeX.rows l) ≤ N → DV.wtE (TypeX.rows l) ≤ 1048576 → TypeRow w (Und w.heap.size) A c l → Calls Try.prog 95 #[.slice A l.length c] w (MadeR (.row 35 3 (TypeX.rows l)) w)

set_option maxRecDepth 100000 in
set_option maxHeartbeats 2000000 in
theorem toType_step (N : Nat) (ihTypeS : ToTypeS N) : ToType N := by
  intro x v w hn hw hv
  obtain ⟨A2, c2, rfl, h2⟩ := hv
  rw [TypeX.wt_eq] at hw
  rw [TypeX.nodes_eq] at hn
  have H2 := Lib.hid h2
  have h1lt : w.heap.size + 1 < w.heap.size + 3 := by omega
  have h2lt : w.heap.size + 1 + 1 < w.heap.size + 3 := by omega
  have h1le : w.heap.size ≤ w.heap.size + 1 := by omega
  have h2le : w.heap.size ≤ w.heap.size + 1 + 1 := by omega
  have hne12 : w.heap.size + 1 ≠ w.heap.size + 1 + 1 := by omega
  clear h2
  go_enter Try.func47, Try.ntmps47
  go_wp2_with fail
  refine calls_gen (fun W => Whole W (w.heap.size + 1) 35 #[.int .i64 0, .string ⟨#[]⟩, .slice none 0 0] ∧ Whole W (w.heap.size + 1 + 1) 35 #[.int .i64 x.kind_, .string x.name_, .slice none 0 0] ∧ Below w.heap.size w W ∧ w.heap.size + 3 ≤ W.heap.size) ?_ ?_
  · refine ⟨?_, ?_, (((Below.refl _ _).alloc (Nat.le_refl _) _).alloc (by simp) _).alloc (by simp; omega) _, by simp⟩
    · have h := Whole.new (w.alloc (.cells #[.int .i64 x.kind_, .string x.name_, .slice A2 x.args_.length c2] 56)) 35 #[.int .i64 0, .string ⟨#[]⟩, .slice none 0 0]
      have h2 := h.below ((Below.refl _ _).alloc (Nat.le_refl _) (.cells #[.int .i64 x.kind_, .string x.name_, .slice none 0 0] 35)) h.lt
      simpa using h2
    · have h := Whole.new ((w.alloc (.cells #[.int .i64 x.kind_, .string x.name_, .slice A2 x.args_.length c2] 56)).alloc (.cells #[.int .i64 0, .string ⟨#[]⟩, .slice none 0 0] 35)) 35 #[.int .i64 x.kind_, .string x.name_, .slice none 0 0]
      simpa using h
  rintro W1 ⟨r1, r2, hb, hsz⟩
  have hO : OwVs W1 (w.heap.size + 3) [.pl (.int .i64 x.kind_), .pl (.string x.name_)] [.int .i64 x.kind_, .string x.name_] [] := (OwVs_plain (OwVs_plain (OwVs_start _ _) _) _)
  have hN : ([] : List Nat).Nodup := List.nodup_nil
  refine (ihTypeS x.args_ _ _ _ (by omega) (by omega) (H2.out.grow hb)).mono ?_
  rintro e w1 ⟨v2, b2, rfl, o1, n1, bel1⟩
  obtain ⟨V2, C2, rfl⟩ := OwV_shape o1 (TypeX.rows_length _)
  obtain ⟨hO, hN⟩ := OwVs_row hO hN bel1 o1 n1 hsz
  have hb := hb.trans (bel1.mono hb.size)
  have hsz : w.heap.size + 3 ≤ w1.heap.size := Nat.le_trans hsz bel1.size
  have s1 := r1.below bel1 r1.lt
  have s2 := r2.below bel1 r2.lt
  have c1_0 : w1.cell? ⟨w.heap.size + 1, 0, none⟩ = some (.int .i64 0) := by rw [s1.cell]; rfl
  have c2_0 : w1.cell? ⟨w.heap.size + 1 + 1, 0, none⟩ = some (.int .i64 x.kind_) := by rw [s2.cell]; rfl
  have f1_0 := s1.frozen 0
  have f2_0 := s2.frozen 0
  have c1_1 : w1.cell? ⟨w.heap.size + 1, 1, none⟩ = some (.string ⟨#[]⟩) := by rw [s1.cell]; rfl
  have c2_1 : w1.cell? ⟨w.heap.size + 1 + 1, 1, none⟩ = some (.string x.name_) := by rw [s2.cell]; rfl
  have f1_1 := s1.frozen 1
  have f2_1 := s2.frozen 1
  have c1_2 : w1.cell? ⟨w.heap.size + 1, 2, none⟩ = some (.slice none 0 0) := by rw [s1.cell]; rfl
  have c2_2 : w1.cell? ⟨w.heap.size + 1 + 1, 2, none⟩ = some (.slice none 0 0) := by rw [s2.cell]; rfl
  have f1_2 := s1.frozen 2
  have f2_2 := s2.frozen 2
  clear bel1
  have HO := Lib.hid hO
  have HB := Lib.hid hb
  clear hO
  go_wp2
  refine bodyPost_ret (v := .agg #[.int .i64 x.kind_, .string x.name_, .slice V2 x.args_.length C2]) (by simp [results, Try.results47, go_sem, c1_0, c1_1, c1_2]) rfl ⟨[.int .i64 x.kind_, .string x.name_, .slice V2 x.args_.length C2], _, rfl, ?_, hN, ?_⟩
  · rw [TypeX.cells_eq]
    exact OwVs_wide (show w.heap.size ≤ w.heap.size + 3 by omega) _ (OwVs_set (OwVs_set (OwVs_set (OwVs_set HO.out h2lt _ _) h1lt _ _) h1lt _ _) h1lt _ _)
  · exact ((((HB.out.setCell h2le _).setCell h1le _).setCell h1le _).setCell h1le _)

set_option maxRecDepth 100000 in
set_option maxHeartbeats 2000000 in
theorem toTypeS_step (N : Nat) (ih : ToType N) : ToTypeS (N + 1) := by
  intro l A c w hn hw hl
  have hlen := wtVE_length (TypeX.rows l)
  rw [TypeX.rows_length] at hlen
  obtain ⟨i0, hi, hz0, hz1, hz2⟩ := info_parts infoType
  have km := fun (w : World) => run_make (P := Try.prog) w 33 35 i0 (.agg #[.int .i64 0, .string ByteArray.empty, .slice none 0 0]) Try.underlying33 hi hz0 .i64 .i64 (l.length : Int) (l.length : Int) (by omega) (by omega) (by rw [hz2]; omega) (by omega)
  simp only [Int.toNat_natCast, hz1] at km
  have hms : (madeCells (Value.agg #[.int .i64 0, .string ByteArray.empty, .slice none 0 0]).cells (l.length * 3)).size = l.length * 3 := size_madeCells _ _
  generalize madeCells (Value.agg #[.int .i64 0, .string ByteArray.empty, .slice none 0 0]).cells (l.length * 3) = cs0 at *
  have HL := Lib.hid hl
  have HN := Lib.hid hn
  have HW := Lib.hid hw
  have HM := Lib.hid hms
  clear hl hn hw hms hi hz0 hz1 hz2
  go_enter Try.func95, Try.ntmps95
  go_wp2
  clear km
  have hb0 : Below w.heap.size w (w.alloc (.cells cs0 35)) := (Below.refl _ _).alloc (Nat.le_refl _) _
  have hw0 := Whole.new w 35 cs0
  go_loopw [4] (fun iv wr => ∃ (k : Nat) (cs : Array Value) (bs : List Nat), k ≤ l.length ∧ iv = .int .i64 k ∧ Whole wr w.heap.size 35 cs ∧ cs.size = l.length * 3 ∧ OwVE wr (w.heap.size + 1) 3 (TypeX.rows (l.take k)) (cs.toList.take (k * 3)) bs ∧ bs.Nodup ∧ Below w.heap.size w wr) (fun iv _ => l.length - (Go.RowKit.intOf iv).toNat)
  case atStart => exact ⟨0, cs0, [], Nat.zero_le _, rfl, hw0, HM.out, by rw [List.take_zero, TypeX.rows_map, List.map_nil, Nat.zero_mul, List.take_zero, OwVE]; exact ⟨rfl, rfl⟩, List.nodup_nil, hb0⟩
  case round =>
    obtain ⟨k, cs, bs, hk, rfl, hwr, hcs, hE, hnd, hb⟩ := hrel
    clear hw0 hb0
    by_cases hlt : k < l.length
    · obtain ⟨b, o, A2, c2, hA, hP, p0, p1, p2, h2⟩ := (HL.out.grow hb).at_ hlt
      subst hA
      have hnx := nodesVE_at (TypeX.rows l) k (by rw [TypeX.rows_length]; exact hlt)
      rw [TypeX.rows_at l k hlt] at hnx
      have HNX := Lib.hid (show DV.nodesL l[k].cells ≤ N by have := HN.out; omega)
      clear hnx
      have hwx : DV.wtL l[k].cells ≤ 1048576 := by
        have h := wtVE_at (TypeX.rows l) k (by rw [TypeX.rows_length]; exact hlt)
        rw [TypeX.rows_at l k hlt] at h
        have := HW.out
        omega
      have hX : TypeAt wr (Und wr.heap.size) l[k] (.agg #[.int .i64 l[k].kind_, .string l[k].name_, .slice A2 l[k].args_.length c2]) := ⟨A2, c2, rfl, h2⟩
      have HX := Lib.hid hX
      clear hX
      have HE := Lib.hid hE
      have HND := Lib.hid hnd
      clear h2 hE hnd
      go_wp2_with fail
      refine (ih l[k] _ _ HNX.out hwx HX.out).mono ?_
      rintro e w1 ⟨vs, b2, rfl, ho2, hn2, hb1⟩
      have hcell := TypeX.cells_length l[k]
      have hw1 := hwr.below hb1 hwr.lt
      have hfill := fun (w2 : World) (h2 : ∀ b, b ≠ w.heap.size → w2.heap[b]? = w1.heap[b]?) => OwVE_fill HE.out HND.out hb1 hwr.lt ho2 hn2 hcell (by have : (k + 1) * 3 ≤ l.length * 3 := Nat.mul_le_mul_right _ hlt; omega) h2
      have ho3 := ho2
      rw [TypeX.cells_eq] at ho3
      simp only [OwVs] at ho3
      obtain ⟨v0, _, z0, _, rfl, rfl, k0, v1, _, z1, _, rfl, rfl, k1, v2, _, z2, _, rfl, rfl, k2, rfl, rfl⟩ := ho3
      rw [OwV] at k0
      obtain ⟨rfl, rfl⟩ := k0
      rw [OwV] at k1
      obtain ⟨rfl, rfl⟩ := k1
      obtain ⟨V2, C2, rfl⟩ := OwV_shape k2 (TypeX.rows_length _)
      obtain ⟨d0, e0⟩ : ∃ v, w1.cell? ⟨w.heap.size, k * 3, none⟩ = some v := by rw [hw1.cell]; exact ⟨_, Array.getElem?_eq_getElem (by have : (k + 1) * 3 ≤ l.length * 3 := Nat.mul_le_mul_right _ hlt; omega)⟩
      have f0 := hw1.frozen (k * 3)
      obtain ⟨d1, e1⟩ : ∃ v, w1.cell? ⟨w.heap.size, k * 3 + 1, none⟩ = some v := by rw [hw1.cell]; exact ⟨_, Array.getElem?_eq_getElem (by have : (k + 1) * 3 ≤ l.length * 3 := Nat.mul_le_mul_right _ hlt; omega)⟩
      have f1 := hw1.frozen (k * 3 + 1)
      obtain ⟨d2, e2⟩ : ∃ v, w1.cell? ⟨w.heap.size, k * 3 + 2, none⟩ = some v := by rw [hw1.cell]; exact ⟨_, Array.getElem?_eq_getElem (by have : (k + 1) * 3 ≤ l.length * 3 := Nat.mul_le_mul_right _ hlt; omega)⟩
      have f2 := hw1.frozen (k * 3 + 2)
      have HF := Lib.hid hfill
      have hb2 : Below w.heap.size w w1 := hb.trans (hb1.mono hb.size)
      have hkb : (k : Int) ≤ 1048576 := by have := HW.out; omega
      clear hfill ho2 hn2 hcell k2
      go_wp2
      go_roundw
      case rel =>
        have hfin := HF.out (((w1.setCell ⟨w.heap.size, k * 3, none⟩ (.int .i64 l[k].kind_)).setCell ⟨w.heap.size, k * 3 + 1, none⟩ (.string l[k].name_)).setCell ⟨w.heap.size, k * 3 + 2, none⟩ (.slice V2 l[k].args_.length C2)) (fun b hne => by rw [Below.heap_setCell _ _ _ _ (by exact hne), Below.heap_setCell _ _ _ _ (by exact hne), Below.heap_setCell _ _ _ _ (by exact hne)])
        exact ⟨k + 1, _, _, by omega, by go_num, show Whole _ _ _ (setAt cs (k * 3) [.int .i64 l[k].kind_, .string l[k].name_, .slice V2 l[k].args_.length C2]) from (((hw1.set_ _ _).set_ _ _).set_ _ _), by rw [setAt_size]; exact hcs, by rw [List.take_succ_eq_append_getElem hlt, TypeX.rows_snoc]; exact hfin.1, hfin.2, (((hb2.setCell (Nat.le_refl _) _).setCell (Nat.le_refl _) _).setCell (Nat.le_refl _) _)⟩
      case measure => simp [Go.RowKit.intOf]; omega
    · have hkl : k = l.length := by omega
      subst hkl
      rw [List.take_length, List.take_of_length_le (by simp [hcs])] at hE
      have hfin := OwV_filled hwr hcs (by have := HW.out; unfold maxLen; omega) (TypeX.rows_length l) hE hnd
      have HF := Lib.hid hfin
      clear hE hnd hfin
      go_wp2
      go_ret
      exact ⟨_, _, rfl, HF.out.1, HF.out.2, hb⟩

set_option maxRecDepth 100000 in
set_option maxHeartbeats 2000000 in
theorem toEmpty_Type (A : Option Addr) (c : Nat) (w : World) : Calls Try.prog 95 #[.slice A 0 c] w (MadeR (.row 35 3 (TypeX.rows [])) w) := by
  obtain ⟨i0, hi, hz0, hz1, hz2⟩ := info_parts infoType
  have km := fun (w : World) => run_make (P := Try.prog) w 33 35 i0 (.agg #[.int .i64 0, .string ByteArray.empty, .slice none 0 0]) Try.underlying33 hi hz0 .i64 .i64 (0 : Int) (0 : Int) (by omega) (by omega) (by rw [hz2]; omega) (by omega)
  simp only [Int.toNat_zero, Nat.zero_mul] at km
  have hms : (madeCells (Value.agg #[.int .i64 0, .string ByteArray.empty, .slice none 0 0]).cells 0).size = 0 := size_madeCells _ _
  generalize madeCells (Value.agg #[.int .i64 0, .string ByteArray.empty, .slice none 0 0]).cells 0 = cs0 at *
  have hw0 := Whole.new w 35 cs0
  have hb0 : Below w.heap.size w (w.alloc (.cells cs0 35)) := (Below.refl _ _).alloc (Nat.le_refl _) _
  have hfin := OwV_filled hw0 (n := 0) (K := 3) (by omega) (by unfold maxLen; omega) (xs := TypeX.rows []) (TypeX.rows_length []) (bs := []) (by rw [TypeX.rows_map, List.map_nil, OwVE]; exact ⟨List.eq_nil_of_length_eq_zero (by simpa using hms), rfl⟩) List.nodup_nil
  have HF := Lib.hid hfin
  have HB := Lib.hid hb0
  clear hi hz0 hz1 hz2 hms hw0 hb0 hfin
  go_enter Try.func95, Try.ntmps95
  go_wp2
  clear km
  refine wp_loop_rounds 1 ?_
  rw [rounds_succ]
  go_wp2
  go_ret
  exact ⟨_, _, rfl, HF.out.1, HF.out.2, HB.out⟩

theorem toZero_Type : ToTypeS 0 := by
  refine fun l A c w hn hw hl => ?_
  have hc := nodesVE_count (TypeX.rows l)
  rw [TypeX.rows_length] at hc
  have hl0 : l = [] := List.eq_nil_of_length_eq_zero (by omega)
  subst hl0
  exact toEmpty_Type A c w

theorem toRows_Type : ∀ N, ToTypeS N
  | 0 => toZero_Type
  | N + 1 => toTypeS_step N (toType_step N (toRows_Type N))
theorem toType (x : TypeX) (v : Value) (w : World) (hw : DV.wtL x.cells ≤ 1048576) (hv : TypeAt w (Und w.heap.size) x v) : Calls Try.prog 47 #[v] w (MadeV x.cells w) := (toType_step (DV.nodesL x.cells) (toRows_Type (DV.nodesL x.cells))) x v w (Nat.le_refl _) hw hv
theorem toTypeS (l : List TypeX) (A : Option Addr) (c : Nat) (w : World) (hw : DV.wtE (TypeX.rows l) ≤ 1048576) (hv : TypeRow w (Und w.heap.size) A c l) : Calls Try.prog 95 #[.slice A l.length c] w (MadeR (.row 35 3 (TypeX.rows l)) w) := (toRows_Type (DV.nodesE (TypeX.rows l))) l A c w (Nat.le_refl _) hw hv
end Go.Proofs.Ytbcfeoobhemdcaa

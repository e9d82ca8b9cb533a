/- The laws' copies of SExpr: the same in memory of their own. -/
import Derived.Test.YtbnfdjhcakimhaaZSxSz
import Derived.Test.YtbnfdjhcakimhaaZDvMake
import Derived.Outline
namespace Go.Proofs.Ytbnfdjhcakimhaa
open Go.RowKit Go.Lib

theorem infoSxG : (Try.prog.info? 26).map (fun i => (i.zero, i.size, i.bytes)) = some (some (.agg #[.string ByteArray.empty, .slice none 0 0]), 2, 40) := by kernel_rfl
def ToSExpr (N : Nat) : Prop := ∀ (x : SX) (v : Value) (w : World), DV.nodesL x.cells ≤ N → DV.wtL x.cells ≤ 1048576 → SxAt w (Und w.heap.size) x v → Calls Try.prog 31 #[v] w (MadeV x.cells w)
def ToSExprS (N : Nat) : Prop := ∀ (l : List SX) (A : Option Addr) (c : Nat) (w : World), DV.nodesE (SX.rows l) ≤ N → DV.wtE (SX.rows l) ≤ 1048576 → SxRow w (Und w.heap.size) A c l → Calls Try.prog 61 #[.slice A l.length c] w (MadeR (.row 26 2 (SX.rows l)) w)

set_option maxRecDepth 100000 in
set_option maxHeartbeats 2000000 in
theorem toSExpr_step (N : Nat) (ihSExprS : ToSExprS N) : ToSExpr N := by
  intro x v w hn hw hv
  obtain ⟨A1, c1, rfl, h1⟩ := hv
  rw [SX.dwt_eq] at hw
  rw [SX.dnodes_eq] at hn
  have H1 := Lib.hid h1
  have h1lt : w.heap.size + 1 < w.heap.size + 3 := by omega
  have h2lt : w.heap.size + 1 + 1 < w.heap.size + 3 := by omega
  have h1le : w.heap.size ≤ w.heap.size + 1 := by omega
  have h2le : w.heap.size ≤ w.heap.size + 1 + 1 := by omega
  have hne12 : w.heap.size + 1 ≠ w.heap.size + 1 + 1 := by omega
  clear h1
  go_enter Try.func31, Try.ntmps31
  go_wp2_with fail
  refine calls_gen (fun W => Whole W (w.heap.size + 1) 26 #[.string ⟨#[]⟩, .slice none 0 0] ∧ Whole W (w.heap.size + 1 + 1) 26 #[.string x.atom, .slice none 0 0] ∧ Below w.heap.size w W ∧ w.heap.size + 3 ≤ W.heap.size) ?_ ?_
  · refine ⟨?_, ?_, (((Below.refl _ _).alloc (Nat.le_refl _) _).alloc (by simp) _).alloc (by simp; omega) _, by simp⟩
    · have h := Whole.new (w.alloc (.cells #[.string x.atom, .slice A1 x.list.length c1] 38)) 26 #[.string ⟨#[]⟩, .slice none 0 0]
      have h2 := h.below ((Below.refl _ _).alloc (Nat.le_refl _) (.cells #[.string x.atom, .slice none 0 0] 26)) h.lt
      simpa using h2
    · have h := Whole.new ((w.alloc (.cells #[.string x.atom, .slice A1 x.list.length c1] 38)).alloc (.cells #[.string ⟨#[]⟩, .slice none 0 0] 26)) 26 #[.string x.atom, .slice none 0 0]
      simpa using h
  rintro W1 ⟨r1, r2, hb, hsz⟩
  have hO : OwVs W1 (w.heap.size + 3) [.pl (.string x.atom)] [.string x.atom] [] := (OwVs_plain (OwVs_start _ _) _)
  have hN : ([] : List Nat).Nodup := List.nodup_nil
  refine (ihSExprS x.list _ _ _ (by omega) (by omega) (H1.out.grow hb)).mono ?_
  rintro e w1 ⟨v1, b1, rfl, o1, n1, bel1⟩
  obtain ⟨V1, C1, rfl⟩ := OwV_shape o1 (SX.rows_length _)
  obtain ⟨hO, hN⟩ := OwVs_row hO hN bel1 o1 n1 hsz
  have hb := hb.trans (bel1.mono hb.size)
  have hsz : w.heap.size + 3 ≤ w1.heap.size := Nat.le_trans hsz bel1.size
  have s1 := r1.below bel1 r1.lt
  have s2 := r2.below bel1 r2.lt
  have c1_0 : w1.cell? ⟨w.heap.size + 1, 0, none⟩ = some (.string ⟨#[]⟩) := by rw [s1.cell]; rfl
  have c2_0 : w1.cell? ⟨w.heap.size + 1 + 1, 0, none⟩ = some (.string x.atom) := by rw [s2.cell]; rfl
  have f1_0 := s1.frozen 0
  have f2_0 := s2.frozen 0
  have c1_1 : w1.cell? ⟨w.heap.size + 1, 1, none⟩ = some (.slice none 0 0) := by rw [s1.cell]; rfl
  have c2_1 : w1.cell? ⟨w.heap.size + 1 + 1, 1, none⟩ = some (.slice none 0 0) := by rw [s2.cell]; rfl
  have f1_1 := s1.frozen 1
  have f2_1 := s2.frozen 1
  clear bel1
  have HO := Lib.hid hO
  have HB := Lib.hid hb
  clear hO
  go_wp2
  refine bodyPost_ret (v := .agg #[.string x.atom, .slice V1 x.list.length C1]) (by simp [results, Try.results31, go_sem, c1_0, c1_1]) rfl ⟨[.string x.atom, .slice V1 x.list.length C1], _, rfl, ?_, hN, ?_⟩
  · rw [SX.cells_eq]
    exact OwVs_wide (show w.heap.size ≤ w.heap.size + 3 by omega) _ (OwVs_set (OwVs_set (OwVs_set HO.out h2lt _ _) h1lt _ _) h1lt _ _)
  · exact (((HB.out.setCell h2le _).setCell h1le _).setCell h1le _)

set_option maxRecDepth 100000 in
set_option maxHeartbeats 2000000 in
theorem toSExprS_step (N : Nat) (ih : ToSExpr N) : ToSExprS (N + 1) := by
  intro l A c w hn hw hl
  have hlen := wtVE_length (SX.rows l)
  rw [SX.rows_length] at hlen
  obtain ⟨i0, hi, hz0, hz1, hz2⟩ := info_parts infoSxG
  have km := fun (w : World) => run_make (P := Try.prog) w 24 26 i0 (.agg #[.string ByteArray.empty, .slice none 0 0]) Try.underlying24 hi hz0 .i64 .i64 (l.length : Int) (l.length : Int) (by omega) (by omega) (by rw [hz2]; omega) (by omega)
  simp only [Int.toNat_natCast, hz1] at km
  have hms : (madeCells (Value.agg #[.string ByteArray.empty, .slice none 0 0]).cells (l.length * 2)).size = l.length * 2 := size_madeCells _ _
  generalize madeCells (Value.agg #[.string ByteArray.empty, .slice none 0 0]).cells (l.length * 2) = cs0 at *
  have HL := Lib.hid hl
  have HN := Lib.hid hn
  have HW := Lib.hid hw
  have HM := Lib.hid hms
  clear hl hn hw hms hi hz0 hz1 hz2
  go_enter Try.func61, Try.ntmps61
  go_wp2
  clear km
  have hb0 : Below w.heap.size w (w.alloc (.cells cs0 26)) := (Below.refl _ _).alloc (Nat.le_refl _) _
  have hw0 := Whole.new w 26 cs0
  go_loopw [4] (fun iv wr => ∃ (k : Nat) (cs : Array Value) (bs : List Nat), k ≤ l.length ∧ iv = .int .i64 k ∧ Whole wr w.heap.size 26 cs ∧ cs.size = l.length * 2 ∧ OwVE wr (w.heap.size + 1) 2 (SX.rows (l.take k)) (cs.toList.take (k * 2)) bs ∧ bs.Nodup ∧ Below w.heap.size w wr) (fun iv _ => l.length - (Go.RowKit.intOf iv).toNat)
  case atStart => exact ⟨0, cs0, [], Nat.zero_le _, rfl, hw0, HM.out, by rw [List.take_zero, SX.rows_map, List.map_nil, Nat.zero_mul, List.take_zero, OwVE]; exact ⟨rfl, rfl⟩, List.nodup_nil, hb0⟩
  case round =>
    obtain ⟨k, cs, bs, hk, rfl, hwr, hcs, hE, hnd, hb⟩ := hrel
    clear hw0 hb0
    by_cases hlt : k < l.length
    · obtain ⟨b, o, A1, c1, hA, hP, p0, p1, h1⟩ := (HL.out.grow hb).at_ hlt
      subst hA
      have hnx := nodesVE_at (SX.rows l) k (by rw [SX.rows_length]; exact hlt)
      rw [SX.rows_at l k hlt] at hnx
      have HNX := Lib.hid (show DV.nodesL l[k].cells ≤ N by have := HN.out; omega)
      clear hnx
      have hwx : DV.wtL l[k].cells ≤ 1048576 := by
        have h := wtVE_at (SX.rows l) k (by rw [SX.rows_length]; exact hlt)
        rw [SX.rows_at l k hlt] at h
        have := HW.out
        omega
      have hX : SxAt wr (Und wr.heap.size) l[k] (.agg #[.string l[k].atom, .slice A1 l[k].list.length c1]) := ⟨A1, c1, rfl, h1⟩
      have HX := Lib.hid hX
      clear hX
      have HE := Lib.hid hE
      have HND := Lib.hid hnd
      clear h1 hE hnd
      go_wp2_with fail
      refine (ih l[k] _ _ HNX.out hwx HX.out).mono ?_
      rintro e w1 ⟨vs, b2, rfl, ho2, hn2, hb1⟩
      have hcell := SX.cells_length l[k]
      have hw1 := hwr.below hb1 hwr.lt
      have hfill := fun (w2 : World) (h2 : ∀ b, b ≠ w.heap.size → w2.heap[b]? = w1.heap[b]?) => OwVE_fill HE.out HND.out hb1 hwr.lt ho2 hn2 hcell (by have : (k + 1) * 2 ≤ l.length * 2 := Nat.mul_le_mul_right _ hlt; omega) h2
      have ho3 := ho2
      rw [SX.cells_eq] at ho3
      simp only [OwVs] at ho3
      obtain ⟨v0, _, z0, _, rfl, rfl, k0, v1, _, z1, _, rfl, rfl, k1, rfl, rfl⟩ := ho3
      rw [OwV] at k0
      obtain ⟨rfl, rfl⟩ := k0
      obtain ⟨V1, C1, rfl⟩ := OwV_shape k1 (SX.rows_length _)
      obtain ⟨d0, e0⟩ : ∃ v, w1.cell? ⟨w.heap.size, k * 2, none⟩ = some v := by rw [hw1.cell]; exact ⟨_, Array.getElem?_eq_getElem (by have : (k + 1) * 2 ≤ l.length * 2 := Nat.mul_le_mul_right _ hlt; omega)⟩
      have f0 := hw1.frozen (k * 2)
      obtain ⟨d1, e1⟩ : ∃ v, w1.cell? ⟨w.heap.size, k * 2 + 1, none⟩ = some v := by rw [hw1.cell]; exact ⟨_, Array.getElem?_eq_getElem (by have : (k + 1) * 2 ≤ l.length * 2 := Nat.mul_le_mul_right _ hlt; omega)⟩
      have f1 := hw1.frozen (k * 2 + 1)
      have HF := Lib.hid hfill
      have hb2 : Below w.heap.size w w1 := hb.trans (hb1.mono hb.size)
      have hkb : (k : Int) ≤ 1048576 := by have := HW.out; omega
      clear hfill ho2 hn2 hcell k1
      go_wp2
      go_roundw
      case rel =>
        have hfin := HF.out ((w1.setCell ⟨w.heap.size, k * 2, none⟩ (.string l[k].atom)).setCell ⟨w.heap.size, k * 2 + 1, none⟩ (.slice V1 l[k].list.length C1)) (fun b hne => by rw [Below.heap_setCell _ _ _ _ (by exact hne), Below.heap_setCell _ _ _ _ (by exact hne)])
        exact ⟨k + 1, _, _, by omega, by go_num, show Whole _ _ _ (setAt cs (k * 2) [.string l[k].atom, .slice V1 l[k].list.length C1]) from ((hw1.set_ _ _).set_ _ _), by rw [setAt_size]; exact hcs, by rw [List.take_succ_eq_append_getElem hlt, SX.rows_snoc]; exact hfin.1, hfin.2, ((hb2.setCell (Nat.le_refl _) _).setCell (Nat.le_refl _) _)⟩
      case measure => simp [Go.RowKit.intOf]; omega
    · have hkl : k = l.length := by omega
      subst hkl
      rw [List.take_length, List.take_of_length_le (by simp [hcs])] at hE
      have hfin := OwV_filled hwr hcs (by have := HW.out; unfold maxLen; omega) (SX.rows_length l) hE hnd
      have HF := Lib.hid hfin
      clear hE hnd hfin
      go_wp2
      go_ret
      exact ⟨_, _, rfl, HF.out.1, HF.out.2, hb⟩

set_option maxRecDepth 100000 in
set_option maxHeartbeats 2000000 in
theorem toEmpty_SExpr (A : Option Addr) (c : Nat) (w : World) : Calls Try.prog 61 #[.slice A 0 c] w (MadeR (.row 26 2 (SX.rows [])) w) := by
  obtain ⟨i0, hi, hz0, hz1, hz2⟩ := info_parts infoSxG
  have km := fun (w : World) => run_make (P := Try.prog) w 24 26 i0 (.agg #[.string ByteArray.empty, .slice none 0 0]) Try.underlying24 hi hz0 .i64 .i64 (0 : Int) (0 : Int) (by omega) (by omega) (by rw [hz2]; omega) (by omega)
  simp only [Int.toNat_zero, Nat.zero_mul] at km
  have hms : (madeCells (Value.agg #[.string ByteArray.empty, .slice none 0 0]).cells 0).size = 0 := size_madeCells _ _
  generalize madeCells (Value.agg #[.string ByteArray.empty, .slice none 0 0]).cells 0 = cs0 at *
  have hw0 := Whole.new w 26 cs0
  have hb0 : Below w.heap.size w (w.alloc (.cells cs0 26)) := (Below.refl _ _).alloc (Nat.le_refl _) _
  have hfin := OwV_filled hw0 (n := 0) (K := 2) (by omega) (by unfold maxLen; omega) (xs := SX.rows []) (SX.rows_length []) (bs := []) (by rw [SX.rows_map, List.map_nil, OwVE]; exact ⟨List.eq_nil_of_length_eq_zero (by simpa using hms), rfl⟩) List.nodup_nil
  have HF := Lib.hid hfin
  have HB := Lib.hid hb0
  clear hi hz0 hz1 hz2 hms hw0 hb0 hfin
  go_enter Try.func61, Try.ntmps61
  go_wp2
  clear km
  refine wp_loop_rounds 1 ?_
  rw [rounds_succ]
  go_wp2
  go_ret
  exact ⟨_, _, rfl, HF.out.1, HF.out.2, HB.out⟩

theorem toZero_SExpr : ToSExprS 0 := by
  refine fun l A c w hn hw hl => ?_
  have hc := nodesVE_count (SX.rows l)
  rw [SX.rows_length] at hc
  have hl0 : l = [] := List.eq_nil_of_length_eq_zero (by omega)
  subst hl0
  exact toEmpty_SExpr A c w

theorem toRows_SExpr : ∀ N, ToSExprS N
  | 0 => toZero_SExpr
  | N + 1 => toSExprS_step N (toSExpr_step N (toRows_SExpr N))
theorem toSExpr (x : SX) (v : Value) (w : World) (hw : DV.wtL x.cells ≤ 1048576) (hv : SxAt w (Und w.heap.size) x v) : Calls Try.prog 31 #[v] w (MadeV x.cells w) := (toSExpr_step (DV.nodesL x.cells) (toRows_SExpr (DV.nodesL x.cells))) x v w (Nat.le_refl _) hw hv
theorem toSExprS (l : List SX) (A : Option Addr) (c : Nat) (w : World) (hw : DV.wtE (SX.rows l) ≤ 1048576) (hv : SxRow w (Und w.heap.size) A c l) : Calls Try.prog 61 #[.slice A l.length c] w (MadeR (.row 26 2 (SX.rows l)) w) := (toRows_SExpr (DV.nodesE (SX.rows l))) l A c w (Nat.le_refl _) hw hv
end Go.Proofs.Ytbnfdjhcakimhaa

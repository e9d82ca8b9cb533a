/- Joining strings: what the reference model's Join returns. -/
import Derived.Test.YtbnfdjhcakimhaaBase
import Derived.Test.YtbnfdjhcakimhaaJoinFacts
import Derived.Test.YtbnfdjhcakimhaaProg
import Derived.Lib.AppendStr
import Derived.Laws.IdiomStrings
import Derived.Laws.MakeOwn
import Derived.Laws.BytesArg
import Derived.BigQuiet
import Derived.Outline
namespace Go.Proofs.Ytbnfdjhcakimhaa
open Go.RowKit Go.Lib

theorem infoByte : (Try.prog.info? 5).map (fun i => (i.zero, i.size, i.bytes)) = some (some (.int .u8 0), 1, 1) := by kernel_rfl
def bv (b : UInt8) : Value := .int .u8 b.toNat
theorem strCells_bv (s : ByteArray) : strCells s = s.data.toList.map bv := rfl

set_option maxRecDepth 100000 in
set_option maxHeartbeats 2000000 in
theorem specJoin (A : Option Addr) (c : Nat) (ss : List ByteArray) (sep : ByteArray) (w : World) (hA : Strs w A ss) (h1 : ss.length + sizes ss ≤ 1048576) (h2 : sep.size ≤ 1048576) :
    Calls Try.prog 72 #[.slice A ss.length c, .string sep] w fun e w' => e = .returned (.string ⟨(join (ss.map (·.data.toList)) sep.data.toList).toArray⟩) ∧ Below w.heap.size w w' := by
  obtain ⟨i0, hi, hz0, hz1, hz2⟩ := info_parts infoByte
  have HA := Lib.hid hA
  have hbl := fun k => joined_le ss sep k h1 h2
  have HBL := Lib.hid hbl
  have hml : (ss.map (·.data.toList)).length = ss.length := by simp
  have HML := Lib.hid hml
  clear hA hbl hml
  go_enter Try.func72, Try.ntmps72
  go_wp2
  go_loopw [5, 6] (fun v iv wr => ∃ k : Nat, k ≤ ss.length ∧ iv = .int .i64 k ∧ wr.ownsRow w.heap.size 5 1 v (join ((ss.map (·.data.toList)).take k) sep.data.toList).length ((join ((ss.map (·.data.toList)).take k) sep.data.toList).map bv) ∧ Below w.heap.size w wr) (fun _ iv _ => ss.length - (Go.RowKit.intOf iv).toNat)
  case atStart => exact ⟨0, Nat.zero_le _, rfl, World.ownsRow_made w #[] 0 (Nat.le_refl _) (by decide) rfl, (Below.refl _ _).alloc (Nat.le_refl _) _⟩
  case round =>
    obtain ⟨k, hk, rfl, hown, hb⟩ := hrel
    by_cases hlt : k < ss.length
    · have hkm : k < (ss.map (·.data.toList)).length := by rw [HML.out]; exact hlt
      have hkd : (ss.map (·.data.toList))[k] = ss[k].data.toList := by simp
      have hz : ss[k].size ≤ 1048576 := by have := sizes_take ss k hlt; have := sizes_le ss (k + 1); omega
      by_cases h0 : 0 < k
      · have hst := join_take_succ (ss.map (·.data.toList)) sep.data.toList k h0 hkm
        rw [hkd] at hst
        have HS := Lib.hid hst
        have hb0 := HBL.out k
        have hb1 := HBL.out (k + 1)
        have hk1 : (join ((ss.map (·.data.toList)).take k) sep.data.toList).length ≤ 1099512676352 := hb0
        clear hst hkd hkm hb0 hb1
        generalize hJ : join ((ss.map (·.data.toList)).take k) sep.data.toList = J at *
        have HJ := Lib.hid hJ
        clear hJ
        go_wp2_with (at_builtin; refine wpList_append_own_string _ rfl _ _ 22 9 rfl w.heap.size 5 i0 Try.underlying22 Try.underlying9 hi hz0 hz1 hz2 _ _ _ rfl hown sep rfl (by unfold maxLen; omega) (by omega) hb.size ?_)
        intro v1 w1 hown1 hgrow1 _
        have hbe1 : Below w.heap.size w w1 := hb.grown hgrow1 hb.size (fun q hq => (hown.lt q hq).1)
        obtain ⟨g, o, rfl, hc⟩ := (HA.out.below hbe1).at_ hlt
        go_wp2_with (at_builtin; refine wpList_append_own_string _ rfl _ _ 22 9 rfl w.heap.size 5 i0 Try.underlying22 Try.underlying9 hi hz0 hz1 hz2 _ _ _ rfl hown1 ss[k] rfl (by unfold maxLen; omega) (by omega) hbe1.size ?_)
        intro v2 w2 hown2 hgrow2 _
        have hbe2 : Below w.heap.size w w2 := hbe1.grown hgrow2 hbe1.size (fun q hq => (hown1.lt q hq).1)
        have e1 : (J ++ sep.data.toList ++ ss[k].data.toList).length = J.length + sep.size + ss[k].size := by simp [List.length_append]; omega
        have e2 : (J ++ sep.data.toList ++ ss[k].data.toList).map bv = J.map bv ++ (strCells sep ++ strCells ss[k]) := by simp [strCells_bv]
        rw [← e1, ← e2, ← HS.out] at hown2
        have HO := Lib.hid hown2
        clear e1 e2 hown hown1 hown2 hgrow1 hgrow2
        go_wp2
        go_roundw
        case rel => exact ⟨k + 1, by omega, by go_num, HO.out, hbe2⟩
        case measure => simp [Go.RowKit.intOf]; omega
      · have hk0 : k = 0 := by omega
        subst hk0
        obtain ⟨g, o, rfl, hc⟩ := (HA.out.below hb).at_ hlt
        rw [Nat.add_zero] at hc
        have hst := join_take_one (ss.map (·.data.toList)) sep.data.toList hkm
        rw [hkd] at hst
        have HS := Lib.hid hst
        have hown0 := hown
        simp only [List.take_zero, join_nil, List.length_nil, List.map_nil] at hown0
        clear hst hkd hkm
        go_wp2_with (at_builtin; refine wpList_append_own_string _ rfl _ _ 22 9 rfl w.heap.size 5 i0 Try.underlying22 Try.underlying9 hi hz0 hz1 hz2 _ _ _ rfl hown0 ss[0] rfl (by unfold maxLen; omega) (by omega) hb.size ?_)
        intro v2 w2 hown2 hgrow2 _
        have hbe2 : Below w.heap.size w w2 := hb.grown hgrow2 hb.size (fun q hq => (hown.lt q hq).1)
        have hown3 : w2.ownsRow w.heap.size 5 1 v2 (join ((ss.map (·.data.toList)).take 1) sep.data.toList).length ((join ((ss.map (·.data.toList)).take 1) sep.data.toList).map bv) := by
          rw [HS.out]
          simpa [join_nil, strCells_bv] using hown2
        have HO := Lib.hid hown3
        clear hown hown0 hown2 hown3 hgrow2
        go_wp2
        go_roundw
        case rel => exact ⟨1, by omega, rfl, HO.out, hbe2⟩
        case measure => simp [Go.RowKit.intOf]; omega
    · have hkl : k = ss.length := by omega
      subst hkl
      have hall : (ss.map (·.data.toList)).take ss.length = ss.map (·.data.toList) := List.take_of_length_le (by rw [HML.out]; exact Nat.le_refl _)
      rw [hall] at hown
      clear hall
      generalize hJ : join (ss.map (·.data.toList)) sep.data.toList = J at *
      have HJ := Lib.hid hJ
      clear hJ
      rcases hown.2 with ⟨rfl, hj0⟩ | ⟨g, cap, cur, rfl, _⟩
      · have hJ0 : J = [] := List.eq_nil_of_length_eq_zero hj0
        subst hJ0
        have kc := run_convert_bytes_nil (P := Try.prog) wr 22 5 Try.underlying22 Try.underlying5 0 0 9 Try.underlying9
        go_wp2
        go_ret
        exact ⟨ret_str (by rw [HJ.out]; rfl), hb⟩
      · have kc := run_convert_bytes_back (P := Try.prog) wr 22 9 5 ⟨g, 0, none⟩ cap J Try.underlying22 Try.underlying5 Try.underlying9 (fun j hj => by
          have h := hown.cells (g := g) rfl j (bv J[j]) (by rw [List.getElem?_map, List.getElem?_eq_getElem hj]; rfl)
          exact h)
        go_wp2
        go_ret
        exact ⟨ret_str (by rw [HJ.out]), hb⟩
end Go.Proofs.Ytbnfdjhcakimhaa

/- Joining strings: what the laws' helpers, the program's Join and the reference model's return. -/
import Derived.Test.YtkhpfmgclnhggaaEq
import Derived.Test.YtkhpfmgclnhggaaShelfJoin
import Derived.Lib.AppendStr
import Derived.Lib.Join
import Derived.Laws.IdiomStrings
import Derived.Laws.MakeOwn
import Derived.Laws.BytesArg
import Derived.Outline
namespace Go.Proofs.Ytkhpfmgclnhggaa
open Go.RowKit Go.Lib

def sizes (ss : List ByteArray) : Nat := (ss.map (·.size)).sum
theorem sizes_take (ss : List ByteArray) (k : Nat) (h : k < ss.length) : sizes (ss.take (k + 1)) = sizes (ss.take k) + ss[k].size := by
  rw [List.take_succ_eq_append_getElem h, sizes, List.map_append, List.sum_append]
  simp [sizes]
theorem sizes_le (ss : List ByteArray) (k : Nat) : sizes (ss.take k) ≤ sizes ss := by
  have h : ss = ss.take k ++ ss.drop k := (List.take_append_drop k ss).symm
  have h2 : sizes ss = sizes (ss.take k) + sizes (ss.drop k) := by
    conv => lhs; rw [h]
    simp only [sizes, List.map_append, List.sum_append]
  omega

set_option maxRecDepth 100000 in
set_option maxHeartbeats 400000 in
theorem szYes (A : Option Addr) (c : Nat) (ss : List ByteArray) (L : Nat) (w : World) (hA : Strs w A ss) (hL : ss.length + sizes ss ≤ L) (h1 : L ≤ 4294967296) :
    Calls Try.prog 4 #[.slice A ss.length c, .int .i64 L] w fun e w' => e = .returned (.int .i64 ((L : Int) - ss.length - (sizes ss : Nat))) ∧ w = w' := by
  have HA := Lib.hid hA
  clear hA
  go_enter Try.func4, Try.ntmps4
  go_wp2
  go_loop [1, 5] (fun q i => ∃ k : Nat, k ≤ ss.length ∧ i = .int .i64 k ∧ q = .int .i64 ((L : Int) - ss.length - (sizes (ss.take k) : Nat))) (fun _ i => ss.length - (Go.RowKit.intOf i).toNat)
  case atStart => exact ⟨0, Nat.zero_le _, rfl, int_of (by simp [sizes])⟩
  case round =>
    obtain ⟨k, hk, rfl, rfl⟩ := hrel
    have hs1 := sizes_le ss k
    by_cases hlt : k < ss.length
    · obtain ⟨g, o, rfl, hc⟩ := HA.out.at_ hlt
      have hs2 := sizes_le ss (k + 1)
      have hst := sizes_take ss k hlt
      have HS := Lib.hid hst
      have hz : ss[k].size ≤ 4294967296 := by omega
      have hnn : ¬ (L : Int) - ss.length - (sizes (ss.take k) : Nat) - (ss[k].size : Nat) < 0 := by omega
      clear hst
      go_wp2
      go_round
      case rel => exact ⟨k + 1, by omega, by go_num, int_of (by rw [HS.out]; omega)⟩
      case measure => simp [Go.RowKit.intOf]; omega
    · have hkl : k = ss.length := by omega
      subst hkl
      rw [List.take_length]
      go_wp2
      go_ret
      exact ⟨rfl, rfl⟩

set_option maxRecDepth 100000 in
set_option maxHeartbeats 400000 in
theorem szNo (A : Option Addr) (c : Nat) (ss : List ByteArray) (L : Nat) (w : World) (hA : Strs w A ss) (hL : L < ss.length + sizes ss) (h1 : L ≤ 4294967296) (hn : ss.length ≤ 9223372036854775807) (hz : ∀ x ∈ ss, x.size ≤ 9223372036854775807) :
    Calls Try.prog 4 #[.slice A ss.length c, .int .i64 L] w fun e w' => e = .returned (.int .i64 (-1)) ∧ w = w' := by
  have HA := Lib.hid hA
  have HZ := Lib.hid hz
  clear hA hz
  by_cases hfst : L < ss.length
  · have hnn : (L : Int) - ss.length < 0 := by omega
    go_enter Try.func4, Try.ntmps4
    go_wp2
    go_ret
    exact ⟨rfl, rfl⟩
  · go_enter Try.func4, Try.ntmps4
    go_wp2
    go_loop [1, 5] (fun q i => ∃ k : Nat, k ≤ ss.length ∧ i = .int .i64 k ∧ sizes (ss.take k) + ss.length ≤ L ∧ q = .int .i64 ((L : Int) - ss.length - (sizes (ss.take k) : Nat))) (fun _ i => ss.length - (Go.RowKit.intOf i).toNat)
    case atStart => exact ⟨0, Nat.zero_le _, rfl, by simp [sizes]; omega, int_of (by simp [sizes])⟩
    case round =>
      obtain ⟨k, hk, rfl, hle, rfl⟩ := hrel
      by_cases hlt : k < ss.length
      · obtain ⟨g, o, rfl, hc⟩ := HA.out.at_ hlt
        have hst := sizes_take ss k hlt
        have hz := HZ.out ss[k] (List.getElem_mem hlt)
        by_cases hnx : sizes (ss.take (k + 1)) + ss.length ≤ L
        · have HS := Lib.hid hst
          have hnn : ¬ (L : Int) - ss.length - (sizes (ss.take k) : Nat) - (ss[k].size : Nat) < 0 := by omega
          clear hst
          go_wp2
          go_round
          case rel => exact ⟨k + 1, by omega, by go_num, hnx, int_of (by rw [HS.out]; omega)⟩
          case measure => simp [Go.RowKit.intOf]; omega
        · have hnn : (L : Int) - ss.length - (sizes (ss.take k) : Nat) - (ss[k].size : Nat) < 0 := by omega
          clear hst
          go_wp2
          go_ret
          exact ⟨rfl, rfl⟩
      · have hkl : k = ss.length := by omega
        subst hkl
        rw [List.take_length] at hle
        omega

/-- The cells of a row of which the first k are written. -/
def filled (xs : List Value) (k : Nat) (z : Value) : Array Value := (xs.take k ++ List.replicate (xs.length - k) z).toArray
theorem filled_zero (xs : List Value) (z : Value) : filled xs 0 z = madeCells #[z] xs.length := by
  apply Array.ext'
  rw [toList_madeCells_one]
  simp [filled]
theorem filled_step (xs : List Value) (k : Nat) (z : Value) (h : k < xs.length) : (filled xs k z).setIfInBounds k xs[k] = filled xs (k + 1) z := by
  unfold filled
  rw [List.setIfInBounds_toArray, List.set_append_right _ _ (by simp; omega)]
  have e : k - (xs.take k).length = 0 := by simp; omega
  rw [e, show xs.length - k = (xs.length - (k + 1)) + 1 by omega, List.replicate_succ, List.set_cons_zero, List.take_succ_eq_append_getElem h, List.append_assoc]
  rfl
theorem filled_full (xs : List Value) (z : Value) : filled xs xs.length z = xs.toArray := by simp [filled]
theorem filled_at (xs : List Value) (k : Nat) (z : Value) (h : k < xs.length) : (filled xs k z)[k]? = some z := by
  unfold filled
  rw [List.getElem?_toArray, List.getElem?_append_right (by simp; omega)]
  have e : k - (xs.take k).length = 0 := by simp; omega
  rw [e, List.getElem?_replicate]
  simp; omega

theorem infoStr : (Try.prog.info? 9).map (fun i => (i.zero, i.size, i.bytes)) = some (some (.string ByteArray.empty), 1, 16) := by kernel_rfl
theorem infoByte : (Try.prog.info? 5).map (fun i => (i.zero, i.size, i.bytes)) = some (some (.int .u8 0), 1, 1) := by kernel_rfl

/-- A COPY: a new row of the same strings. -/
def CopyOf (ss : List ByteArray) (w : World) (e : Ending) (w' : World) : Prop :=
  ∃ g : Nat, e = .returned (.slice (some ⟨g, 0, none⟩) ss.length ss.length) ∧ w.heap.size ≤ g ∧ Whole w' g 9 (ss.map Value.string).toArray ∧ Below w.heap.size w w'

set_option maxRecDepth 100000 in
set_option maxHeartbeats 400000 in
theorem toStrings (A : Option Addr) (c : Nat) (ss : List ByteArray) (w : World) (hA : Strs w A ss) (hn : ss.length ≤ 4294967296) :
    Calls Try.prog 6 #[.slice A ss.length c] w (CopyOf ss w) := by
  obtain ⟨i0, hi, hz0, hz1, hz2⟩ := info_parts infoStr
  have hlen : (ss.map Value.string).length = ss.length := by simp
  have km := fun (w : World) => run_make (P := Try.prog) w 22 9 i0 (.string ByteArray.empty) Try.underlying22 hi hz0 .i64 .i64 (ss.length : Int) (ss.length : Int) (by omega) (by omega) (by rw [hz2]; omega) (by omega)
  simp only [Int.toNat_natCast, hz1, Nat.mul_one] at km
  have e0 : madeCells (Value.string ByteArray.empty).cells ss.length = filled (ss.map Value.string) 0 (.string ByteArray.empty) := by rw [filled_zero, hlen]; rfl
  rw [e0] at km
  have HA := Lib.hid hA
  have HL := Lib.hid hlen
  clear hA hlen e0 hi hz0 hz1 hz2
  go_enter Try.func6, Try.ntmps6
  go_wp2
  clear km
  have hb0 : Below w.heap.size w (w.alloc (.cells (filled (ss.map Value.string) 0 (.string ByteArray.empty)) 9)) := (Below.refl _ _).alloc (Nat.le_refl _) _
  have hw0 := Whole.new w 9 (filled (ss.map Value.string) 0 (.string ByteArray.empty))
  go_loopw [4] (fun i wr => ∃ k : Nat, k ≤ ss.length ∧ i = .int .i64 k ∧ Whole wr w.heap.size 9 (filled (ss.map Value.string) k (.string ByteArray.empty)) ∧ Below w.heap.size w wr) (fun i _ => ss.length - (Go.RowKit.intOf i).toNat)
  case atStart => exact ⟨0, Nat.zero_le _, rfl, hw0, hb0⟩
  case round =>
    obtain ⟨k, hk, rfl, hw, hb⟩ := hrel
    clear hw0 hb0
    by_cases hlt : k < ss.length
    · obtain ⟨g, o, rfl, hc⟩ := (HA.out.below hb).at_ hlt
      have hfl : k < (ss.map Value.string).length := by rw [HL.out]; exact hlt
      have hcw : wr.cell? ⟨w.heap.size, k, none⟩ = some (.string ByteArray.empty) := by rw [hw.cell, filled_at _ _ _ hfl]
      have hfz : wr.frozen? ⟨w.heap.size, k, none⟩ = false := hw.frozen k
      have hst := filled_step (ss.map Value.string) k (.string ByteArray.empty) hfl
      rw [List.getElem_map] at hst
      have HS := Lib.hid hst
      clear hst
      go_wp2
      go_roundw
      case rel => exact ⟨k + 1, by omega, by go_num, by rw [← HS.out]; exact hw.set_ _ _, hb.setCell (by simp) _⟩
      case measure => simp [Go.RowKit.intOf]; omega
    · have hkl : k = ss.length := by omega
      subst hkl
      have hfull : filled (ss.map Value.string) ss.length (.string ByteArray.empty) = (ss.map Value.string).toArray := by rw [← HL.out]; exact filled_full _ _
      rw [hfull] at hw
      clear hfull
      go_wp2
      go_ret
      exact ⟨_, rfl, Nat.le_refl _, hw, hb⟩

theorem join_take_one (d : List (List UInt8)) (sep : List UInt8) (h : 0 < d.length) : join (d.take 1) sep = d[0] := by
  match d, h with
  | x :: r, _ => rw [List.take_succ_cons, List.take_zero, join_one]; rfl
theorem join_take_succ (d : List (List UInt8)) (sep : List UInt8) (k : Nat) (h0 : 0 < k) (h : k < d.length) : join (d.take (k + 1)) sep = join (d.take k) sep ++ sep ++ d[k] := by
  match d, k, h0, h with
  | x :: r, k + 1, _, h =>
    have hr : k < r.length := by simp at h; omega
    rw [List.take_succ_cons, List.take_succ_cons, join_cons, join_cons, joinTail_take_succ sep r k r[k] (List.getElem?_eq_getElem hr)]
    simp [List.append_assoc]
theorem join_length_le (d : List (List UInt8)) (sep : List UInt8) : (join d sep).length ≤ sep.length * d.length + lens d := by
  cases d with
  | nil => simp [join_nil]
  | cons x r =>
    rw [join_length, List.length_cons, Nat.mul_add]
    omega
theorem lens_sizes (ss : List ByteArray) : lens (ss.map (·.data.toList)) = sizes ss := by
  simp [lens, sizes, Function.comp_def]
/-- How long what is joined may become. -/
theorem joined_le (ss : List ByteArray) (sep : ByteArray) (k : Nat) (h1 : ss.length + sizes ss ≤ 1048576) (h2 : sep.size ≤ 1048576) : (join ((ss.map (·.data.toList)).take k) sep.data.toList).length ≤ 1099512676352 := by
  have h := join_length_le ((ss.map (·.data.toList)).take k) sep.data.toList
  have hl := lens_take_le (ss.map (·.data.toList)) k
  rw [lens_sizes] at hl
  have hn : ((ss.map (·.data.toList)).take k).length ≤ 1048576 := by
    have := List.length_take_le k (ss.map (·.data.toList))
    rw [List.length_take, List.length_map]
    omega
  have hs : sep.data.toList.length ≤ 1048576 := by simpa using h2
  have hm := Nat.mul_le_mul hs hn
  omega

def bv (b : UInt8) : Value := .int .u8 b.toNat
theorem strCells_bv (s : ByteArray) : strCells s = s.data.toList.map bv := rfl

set_option maxRecDepth 100000 in
set_option maxHeartbeats 2000000 in
theorem specJoin (A : Option Addr) (c : Nat) (ss : List ByteArray) (sep : ByteArray) (w : World) (hA : Strs w A ss) (h1 : ss.length + sizes ss ≤ 1048576) (h2 : sep.size ≤ 1048576) :
    Calls Try.prog 5 #[.slice A ss.length c, .string sep] w fun e w' => e = .returned (.string ⟨(join (ss.map (·.data.toList)) sep.data.toList).toArray⟩) ∧ Below w.heap.size w w' := by
  obtain ⟨i0, hi, hz0, hz1, hz2⟩ := info_parts infoByte
  have HA := Lib.hid hA
  have hbl := fun k => joined_le ss sep k h1 h2
  have HBL := Lib.hid hbl
  have hml : (ss.map (·.data.toList)).length = ss.length := by simp
  have HML := Lib.hid hml
  clear hA hbl hml
  go_enter Try.func5, Try.ntmps5
  go_wp2
  go_loopw [5, 6] (fun v iv wr => ∃ k : Nat, k ≤ ss.length ∧ iv = .int .i64 k ∧ wr.ownsRow w.heap.size 5 1 v (join ((ss.map (·.data.toList)).take k) sep.data.toList).length ((join ((ss.map (·.data.toList)).take k) sep.data.toList).map bv) ∧ Below w.heap.size w wr) (fun _ iv _ => ss.length - (Go.RowKit.intOf iv).toNat)
  case atStart => exact ⟨0, Nat.zero_le _, rfl, World.ownsRow_made w #[] 0 (Nat.le_refl _) (by decide) rfl, (Below.refl _ _).alloc (Nat.le_refl _) _⟩
  case round =>
    obtain ⟨k, hk, rfl, hown, hb⟩ := hrel
    by_cases hlt : k < ss.length
    · have hkm : k < (ss.map (·.data.toList)).length := by rw [HML.out]; exact hlt
      have hkd : (ss.map (·.data.toList))[k] = ss[k].data.toList := by simp
      have hz : ss[k].size ≤ 1048576 := by have := sizes_take ss k hlt; have := sizes_le ss (k + 1); omega
      by_cases h0 : 0 < k
      · have hst := join_take_succ (ss.map (·.data.toList)) sep.data.toList k h0 hkm
        rw [hkd] at hst
        have HS := Lib.hid hst
        have hb0 := HBL.out k
        have hb1 := HBL.out (k + 1)
        have hk1 : (join ((ss.map (·.data.toList)).take k) sep.data.toList).length ≤ 1099512676352 := hb0
        clear hst hkd hkm hb0 hb1
        generalize hJ : join ((ss.map (·.data.toList)).take k) sep.data.toList = J at *
        have HJ := Lib.hid hJ
        clear hJ
        go_wp2_with (at_builtin; refine wpList_append_own_string _ rfl _ _ 28 9 rfl w.heap.size 5 i0 Try.underlying28 Try.underlying9 hi hz0 hz1 hz2 _ _ _ rfl hown sep rfl (by unfold maxLen; omega) (by omega) hb.size ?_)
        intro v1 w1 hown1 hgrow1 _
        have hbe1 : Below w.heap.size w w1 := hb.grown hgrow1 hb.size (fun q hq => (hown.lt q hq).1)
        obtain ⟨g, o, rfl, hc⟩ := (HA.out.below hbe1).at_ hlt
        go_wp2_with (at_builtin; refine wpList_append_own_string _ rfl _ _ 28 9 rfl w.heap.size 5 i0 Try.underlying28 Try.underlying9 hi hz0 hz1 hz2 _ _ _ rfl hown1 ss[k] rfl (by unfold maxLen; omega) (by omega) hbe1.size ?_)
        intro v2 w2 hown2 hgrow2 _
        have hbe2 : Below w.heap.size w w2 := hbe1.grown hgrow2 hbe1.size (fun q hq => (hown1.lt q hq).1)
        have e1 : (J ++ sep.data.toList ++ ss[k].data.toList).length = J.length + sep.size + ss[k].size := by simp [List.length_append]; omega
        have e2 : (J ++ sep.data.toList ++ ss[k].data.toList).map bv = J.map bv ++ (strCells sep ++ strCells ss[k]) := by simp [strCells_bv]
        rw [← e1, ← e2, ← HS.out] at hown2
        have HO := Lib.hid hown2
        clear e1 e2 hown hown1 hown2 hgrow1 hgrow2
        go_wp2
        go_roundw
        case rel => exact ⟨k + 1, by omega, by go_num, HO.out, hbe2⟩
        case measure => simp [Go.RowKit.intOf]; omega
      · have hk0 : k = 0 := by omega
        subst hk0
        obtain ⟨g, o, rfl, hc⟩ := (HA.out.below hb).at_ hlt
        rw [Nat.add_zero] at hc
        have hst := join_take_one (ss.map (·.data.toList)) sep.data.toList hkm
        rw [hkd] at hst
        have HS := Lib.hid hst
        have hown0 := hown
        simp only [List.take_zero, join_nil, List.length_nil, List.map_nil] at hown0
        clear hst hkd hkm
        go_wp2_with (at_builtin; refine wpList_append_own_string _ rfl _ _ 28 9 rfl w.heap.size 5 i0 Try.underlying28 Try.underlying9 hi hz0 hz1 hz2 _ _ _ rfl hown0 ss[0] rfl (by unfold maxLen; omega) (by omega) hb.size ?_)
        intro v2 w2 hown2 hgrow2 _
        have hbe2 : Below w.heap.size w w2 := hb.grown hgrow2 hb.size (fun q hq => (hown.lt q hq).1)
        have hown3 : w2.ownsRow w.heap.size 5 1 v2 (join ((ss.map (·.data.toList)).take 1) sep.data.toList).length ((join ((ss.map (·.data.toList)).take 1) sep.data.toList).map bv) := by
          rw [HS.out]
          simpa [join_nil, strCells_bv] using hown2
        have HO := Lib.hid hown3
        clear hown hown0 hown2 hown3 hgrow2
        go_wp2
        go_roundw
        case rel => exact ⟨1, by omega, rfl, HO.out, hbe2⟩
        case measure => simp [Go.RowKit.intOf]; omega
    · have hkl : k = ss.length := by omega
      subst hkl
      have hall : (ss.map (·.data.toList)).take ss.length = ss.map (·.data.toList) := List.take_of_length_le (by rw [HML.out]; exact Nat.le_refl _)
      rw [hall] at hown
      clear hall
      generalize hJ : join (ss.map (·.data.toList)) sep.data.toList = J at *
      have HJ := Lib.hid hJ
      clear hJ
      rcases hown.2 with ⟨rfl, hj0⟩ | ⟨g, cap, cur, rfl, _⟩
      · have hJ0 : J = [] := List.eq_nil_of_length_eq_zero hj0
        subst hJ0
        have kc := run_convert_bytes_nil (P := Try.prog) wr 28 5 Try.underlying28 Try.underlying5 0 0 9 Try.underlying9
        go_wp2
        go_ret
        exact ⟨ret_str (by rw [HJ.out]; rfl), hb⟩
      · have kc := run_convert_bytes_back (P := Try.prog) wr 28 9 5 ⟨g, 0, none⟩ cap J Try.underlying28 Try.underlying5 Try.underlying9 (fun j hj => by
          have h := hown.cells (g := g) rfl j (bv J[j]) (by rw [List.getElem?_map, List.getElem?_eq_getElem hj]; rfl)
          exact h)
        go_wp2
        go_ret
        exact ⟨ret_str (by rw [HJ.out]), hb⟩

theorem implJoin (g : Nat) (ss : List ByteArray) (sep : ByteArray) (w : World) (hw : Whole w g 9 (ss.map Value.string).toArray) (h1 : ss.length + sizes ss ≤ 1048576) (h2 : sep.size ≤ 1048576) :
    Calls Try.prog 7 #[.slice (some ⟨g, 0, none⟩) ss.length ss.length, .string sep] w fun e w' => e = .returned (.string ⟨(join (ss.map (·.data.toList)) sep.data.toList).toArray⟩) ∧ Below w.heap.size w w' := by
  have hl := joined_le ss sep ss.length h1 h2
  rw [List.take_of_length_le (by simp)] at hl
  have hc : ∀ (j : Nat) x, ss[j]? = some x → w.cell? ⟨g, 0 + j, none⟩ = some (.string x) := fun j x hj => by rw [hw.cell, Nat.zero_add]; simp [hj]
  have HC := Lib.hid hc
  clear hc
  go_enter Try.func7, Try.ntmps7
  go_wp2_with fail
  refine (Try.strings_Join g 0 ss.length ss sep _ HC.out hw.lt (by omega) (Nat.le_refl _) (by omega)).mono ?_
  rintro e w1 ⟨rfl, hb⟩
  go_wp2
  go_ret
  exact ⟨rfl, hb⟩

set_option maxRecDepth 100000 in
set_option maxHeartbeats 1000000 in
theorem lawJoin (A : Option Addr) (c : Nat) (ss : List ByteArray) (sep : ByteArray) (w : World) (hA : Strs w A ss) (hn : ss.length ≤ 9223372036854775807) (hz : ∀ x ∈ ss, x.size ≤ 9223372036854775807) (hs : sep.size ≤ 9223372036854775807) :
    Calls Try.prog 3 #[.slice A ss.length c, .string sep] w fun e w' => e = .returned (.bool true) ∧ Below w.heap.size w w' := by
  have HA := Lib.hid hA
  have HZ := Lib.hid hz
  clear hA hz
  by_cases hlong : 1048576 < sep.size
  · have g : decide ((1048576 : Int) < sep.size) = true := by simp; omega
    go_enter Try.func3, Try.ntmps3
    go_wp2
    go_ret
    exact ⟨rfl, Below.refl _ _⟩
  · have g : decide ((1048576 : Int) < sep.size) = false := by simp; omega
    by_cases hsum : ss.length + sizes ss ≤ 1048576
    · go_enter Try.func3, Try.ntmps3
      go_wp2_with fail
      refine (szYes A c ss 1048576 _ HA.out hsum (by omega)).mono ?_
      rintro e w1 ⟨rfl, rfl⟩
      have hnn : ¬ ((1048576 : Nat) : Int) - ss.length - (sizes ss : Nat) < 0 := by omega
      go_wp2_with fail
      refine (toStrings A c ss _ HA.out (by omega)).mono ?_
      rintro e w1 ⟨g1, rfl, hg1, hw1, hb1⟩
      go_wp2_with fail
      refine (specJoin _ _ ss sep _ hw1.strs hsum (by omega)).mono ?_
      rintro e w2 ⟨rfl, hb2⟩
      have h2 : Below w.heap.size w w2 := hb1.trans (hb2.mono hb1.size)
      go_wp2_with fail
      refine (toStrings A c ss _ (HA.out.below h2) (by omega)).mono ?_
      rintro e w3 ⟨g3, rfl, hg3, hw3, hb3⟩
      have h3 : Below w.heap.size w w3 := h2.trans (hb3.mono h2.size)
      go_wp2_with fail
      refine (implJoin g3 ss sep _ hw3 hsum (by omega)).mono ?_
      rintro e w4 ⟨rfl, hb4⟩
      have h4 : Below w.heap.size w w4 := h3.trans (hb4.mono h3.size)
      have hw4 := hw3.below hb4 hw3.lt
      go_wp2_with fail
      refine (toStrings A c ss _ (HA.out.below h4) (by omega)).mono ?_
      rintro e w5 ⟨g5, rfl, hg5, hw5, hb5⟩
      have h5 : Below w.heap.size w w5 := h4.trans (hb5.mono h4.size)
      go_wp2_with fail
      refine (eqStrings _ _ _ _ ss _ (hw4.below hb5 hw4.lt).strs hw5.strs (by omega)).mono ?_
      rintro e w6 ⟨rfl, hb6⟩
      have h6 : Below w.heap.size w w6 := h5.trans (hb6.mono h5.size)
      go_wp2
      go_ret
      exact ⟨rfl, h6⟩
    · go_enter Try.func3, Try.ntmps3
      go_wp2_with fail
      refine (szNo A c ss 1048576 _ HA.out (by omega) (by omega) hn HZ.out).mono ?_
      rintro e w1 ⟨rfl, rfl⟩
      go_wp2
      go_ret
      exact ⟨rfl, Below.refl _ _⟩
end Go.Proofs.Ytkhpfmgclnhggaa

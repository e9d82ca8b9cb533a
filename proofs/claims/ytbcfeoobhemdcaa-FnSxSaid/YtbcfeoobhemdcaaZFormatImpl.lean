/- The program's FormatSExpr: the text of a valid expression. -/
import Derived.Test.YtbcfeoobhemdcaaZImplValid
import Derived.Test.YtbcfeoobhemdcaaQ1
import Derived.Laws.MakeOwn
namespace Go.Proofs.Ytbcfeoobhemdcaa
open Go.RowKit Go.Lib

/-- The first k strings lie in the row. -/
def FilledTo (cs : Array Value) (ss : List ByteArray) : Prop := ∀ (j : Nat) (s : ByteArray), ss[j]? = some s → cs[j]? = some (Value.string s)
theorem FilledTo.snoc {cs : Array Value} {ss : List ByteArray} {k : Nat} {s : ByteArray} (h : FilledTo cs ss) (hk : ss.length = k) (hc : k < cs.size) : FilledTo (cs.setIfInBounds k (.string s)) (ss ++ [s]) := by
  intro j t hj
  by_cases he : j = k
  · subst he
    rw [← hk, List.getElem?_append_right (Nat.le_refl _), Nat.sub_self] at hj
    simp at hj
    subst hj
    rw [Array.getElem?_setIfInBounds_self_of_lt hc]
  · have hl : j < (ss ++ [s]).length := (List.getElem?_eq_some_iff.1 hj).1
    rw [List.length_append, List.length_singleton] at hl
    rw [List.getElem?_append_left (by omega)] at hj
    rw [Array.getElem?_setIfInBounds_ne (Ne.symm he)]
    exact h j t hj
theorem FilledTo.full {cs : Array Value} {ss : List ByteArray} (h : FilledTo cs ss) (hc : cs.size = ss.length) : cs = (ss.map Value.string).toArray := by
  apply Array.ext_getElem?
  intro j
  by_cases hj : j < ss.length
  · rw [h j ss[j] (List.getElem?_eq_getElem hj)]
    simp [hj]
  · rw [Array.getElem?_eq_none (by omega), Array.getElem?_eq_none (by simp; omega)]

def FmtX (N : Nat) : Prop := ∀ (x : SX) (A : Option Addr) (c : Nat) (w : World), x.nodes ≤ N → x.wt + 3 * x.nodes ≤ 1048576 → ListAt w (Lt w.heap.size) A x.list →
  Calls Try.prog 61 #[.agg #[.string x.atom, .slice A x.list.length c]] w fun e w' => e = .returned (.string x.text) ∧ Below w.heap.size w w'

set_option maxRecDepth 100000 in
set_option maxHeartbeats 2000000 in
theorem fmtX : ∀ N, FmtX N
  | 0 => fun x A c w hn => by rw [SX.nodes_eq] at hn; omega
  | N + 1 => by
    intro x A c w hn hm hl
    have ih := fmtX N
    obtain ⟨i0, hi, hz0, hz1, hz2⟩ := info_parts infoString
    have hne := SX.nodes_eq x
    have hwe := SX.wt_eq x
    have hll := SX.wtL_length x.list
    have hlen : x.list.length ≤ 1048576 := by omega
    have hte := SX.text_eq x
    by_cases ha : x.atom.size = 0
    · rw [if_pos ha] at hte
      have htl := SX.textL_length x.list
      have hjl : (join ((SX.textL x.list).map (·.data.toList)) [32]).length ≤ 1048576 := by
        have h1 := SX.text_le x
        have h2 : x.text.size = 1 + (join ((SX.textL x.list).map (·.data.toList)) [32]).length + 1 := by rw [hte]; simp only [ByteArray.size_append]; rw [show (⟨(join ((SX.textL x.list).map (·.data.toList)) [32]).toArray⟩ : ByteArray).size = (join ((SX.textL x.list).map (·.data.toList)) [32]).length by simp [ByteArray.size]]; rfl
        omega
      have hm2 : SX.wtL x.list + 3 * SX.nodesL x.list ≤ 1048576 := by omega
      have hn2 : SX.nodesL x.list ≤ N := by omega
      have km := fun (w : World) => run_make (P := Try.prog) w 39 9 i0 (.string ByteArray.empty) Try.underlying39 hi hz0 .i64 .i64 (x.list.length : Int) (x.list.length : Int) (by omega) (by omega) (by rw [hz2]; omega) (by omega)
      simp only [Int.toNat_natCast, hz1] at km
      have hms : (madeCells (Value.string ByteArray.empty).cells (x.list.length * 1)).size = x.list.length * 1 := size_madeCells _ _
      rw [Nat.mul_one] at hms km
      generalize madeCells (Value.string ByteArray.empty).cells x.list.length = cs0 at *
      have HL := Lib.hid hl
      have HT := Lib.hid hte
      have HTL := Lib.hid htl
      have HM := Lib.hid hms
      clear hl hne hwe hll hte htl hm hn hi hz0 hz1 hz2 hms
      rw [empty_of ha]
      clear ha
      have hb0 : Below w.heap.size w ((w.alloc (.cells #[.string ByteArray.empty, .slice A x.list.length c] 26)).alloc (.cells cs0 9)) := ((Below.refl _ _).alloc (Nat.le_refl _) _).alloc (by simp) _
      have hw0 : Whole ((w.alloc (.cells #[.string ByteArray.empty, .slice A x.list.length c] 26)).alloc (.cells cs0 9)) (w.heap.size + 1) 9 cs0 := by
        have h := Whole.new (w.alloc (.cells #[.string ByteArray.empty, .slice A x.list.length c] 26)) 9 cs0
        simpa using h
      go_enter Try.func61, Try.ntmps61
      go_wp2
      clear km
      go_loopw [18] (fun iv wr => ∃ (k : Nat) (cs : Array Value), k ≤ x.list.length ∧ iv = .int .i64 k ∧ Whole wr (w.heap.size + 1) 9 cs ∧ cs.size = x.list.length ∧ FilledTo cs (SX.textL (x.list.take k)) ∧ Below (w.heap.size + 1) (w.alloc (.cells #[.string ByteArray.empty, .slice A x.list.length c] 26)) wr) (fun iv _ => x.list.length - (Go.RowKit.intOf iv).toNat)
      case atStart => exact ⟨0, cs0, Nat.zero_le _, rfl, hw0, HM.out, (by intro j s hj; simp [SX.textL] at hj), (Below.refl (w.heap.size + 1) (w.alloc (.cells #[.string ByteArray.empty, .slice A x.list.length c] 26))).alloc (by simp) _⟩
      case round =>
        obtain ⟨k, cs, hk, rfl, hwr, hcs, hfk, hb⟩ := hrel
        clear hw0 hb0
        have hbs : w.heap.size + 1 ≤ wr.heap.size := by simpa using hb.size
        obtain ⟨b0, b1, hbw⟩ := boxed (hb.mono (by simp))
        have HK := Lib.hid hfk
        have HC := Lib.hid hcs
        clear hfk hcs
        by_cases hlt : k < x.list.length
        · obtain ⟨b, o, A', c', rfl, hP, hc0, hc1, hl'⟩ := (boxedList HL.out (hb.mono (by simp))).at_ hlt
          have hst := SX.textL_take x.list k hlt
          have hx : x.list[k].nodes ≤ N := by have := SX.nodesL_at x.list k hlt; omega
          have hsm : x.list[k].wt + 3 * x.list[k].nodes ≤ 1048576 := by have := wt_nodes_at x.list k hlt; omega
          have hbe : Below wr.heap.size wr (wr.alloc (.cells #[.string x.list[k].atom, .slice A' x.list[k].list.length c'] 26)) := (Below.refl _ _).alloc (Nat.le_refl _) _
          have HG := Lib.hid (hl'.grow hbe)
          have HS := Lib.hid hst
          clear hst hl'
          go_wp2_with fail
          refine (ih x.list[k] A' c' _ hx hsm HG.out).mono ?_
          rintro e w1 ⟨rfl, hb1⟩
          have hbr := hbe.trans (hb1.mono hbe.size)
          have hw1 := hwr.below hbr hwr.lt
          have hb2 := hb.trans (hbr.mono hbs)
          have d0 : ∃ v, w1.cell? ⟨w.heap.size + 1, k, none⟩ = some v := by rw [hw1.cell]; exact ⟨_, Array.getElem?_eq_getElem (by rw [HC.out]; exact hlt)⟩
          obtain ⟨v0, d0⟩ := d0
          have f0 := hw1.frozen k
          have hk0 : (0 : Int) ≤ k := by omega
          have hfill : FilledTo (cs.setIfInBounds k (.string x.list[k].text)) (SX.textL (x.list.take (k + 1))) := by
            rw [HS.out]
            exact HK.out.snoc (by rw [SX.textL_length, List.length_take]; omega) (by rw [HC.out]; exact hlt)
          have HFI := Lib.hid hfill
          clear hfill
          go_wp2
          go_roundw
          case rel => exact ⟨k + 1, _, by omega, by go_num, hw1.set_ _ _, by rw [Array.size_setIfInBounds]; exact HC.out, HFI.out, hb2.setCell (by simp) _⟩
          case measure => simp [Go.RowKit.intOf]; omega
        · have hkl : k = x.list.length := by omega
          subst hkl
          have hf := HK.out
          rw [List.take_length] at hf
          have hfull := hf.full (by rw [HC.out, HTL.out])
          have hwf : Whole wr (w.heap.size + 1) 9 ((SX.textL x.list).map Value.string).toArray := by rw [← hfull]; exact hwr
          have hIJ := implJoin (w.heap.size + 1) (SX.textL x.list) ⟨#[32]⟩ wr hwf (by rw [HTL.out]; omega) (by have : (⟨#[32]⟩ : ByteArray).data.toList = [32] := rfl; rw [this]; omega)
          rw [HTL.out] at hIJ
          have HJ := Lib.hid hIJ
          clear hf hfull hwf hIJ hwr
          go_wp2_with fail
          refine HJ.out.mono ?_
          rintro e w1 ⟨rfl, hb1⟩
          have hb2 := hbw.trans (hb1.mono hbw.size)
          go_wp2
          go_ret
          exact ⟨ret_str (by rw [HT.out]), hb2⟩
    · rw [if_neg ha] at hte
      have HT := Lib.hid hte
      have hnem := nonempty_of ha
      clear hte hl
      go_enter Try.func61, Try.ntmps61
      go_wp2
      go_ret
      exact ⟨ret_str (by rw [HT.out]), (Below.refl _ _).alloc (Nat.le_refl _) _⟩

set_option maxRecDepth 100000 in
set_option maxHeartbeats 1000000 in
theorem implFormat (x : SX) (A : Option Addr) (c : Nat) (w : World) (_hm : x.nodes ≤ 4294967296) (hok : x.ok) (hl : ListAt w (Lt w.heap.size) A x.list) :
    Calls Try.prog 16 #[.agg #[.string x.atom, .slice A x.list.length c]] w fun e w' => e = .returned (.string x.said) ∧ Below w.heap.size w w' := by
  have hl0 := @boxed_grow w 26 x.atom A x.list.length c x.list hl
  have hb0 : Below w.heap.size w (w.alloc (.cells #[.string x.atom, .slice A x.list.length c] 26)) := (Below.refl _ _).alloc (Nat.le_refl _) _
  have HL := Lib.hid hl0
  clear hl hl0
  go_enter Try.func16, Try.ntmps16
  go_wp2_with fail
  refine (implValid x A c _ hok HL.out).mono ?_
  rintro e w1 ⟨rfl, hb1⟩
  have hb2 := hb0.trans (hb1.mono hb0.size)
  have hl1 := HL.out.grow hb1
  have hc0 := (boxed hb1).1
  have hc1 := (boxed hb1).2.1
  have HL1 := Lib.hid hl1
  clear hl1
  cases hv : x.valid with
  | true =>
    have hs : x.said = x.text := by rw [SX.said, if_pos hv]
    have hwt := SX.valid_wt hv
    have HS := Lib.hid hs
    clear hv hs
    go_wp2_with fail
    refine (fmtX _ x A c _ (Nat.le_refl _) hwt HL1.out).mono ?_
    rintro e w2 ⟨rfl, hb3⟩
    have hb4 := hb2.trans (hb3.mono hb2.size)
    go_wp2
    go_ret
    exact ⟨ret_str (by rw [HS.out]), hb4⟩
  | false =>
    have hs : x.said = ByteArray.empty := by rw [SX.said, if_neg (by rw [hv]; decide)]
    have HS := Lib.hid hs
    clear hv hs
    go_wp2
    go_ret
    exact ⟨ret_str (by rw [HS.out]; rfl), hb2⟩
end Go.Proofs.Ytbcfeoobhemdcaa

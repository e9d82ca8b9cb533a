/- The reference model: the text of an S-expression. -/
import Derived.Test.YtbnfdjhcakimhaaSpecForm
import Derived.Test.YtbnfdjhcakimhaaSpecJoin
import Derived.Test.YtbnfdjhcakimhaaGrow
namespace Go.Proofs.Ytbnfdjhcakimhaa
open Go.RowKit Go.Lib

mutual
def SX.text : SX → ByteArray
  | .mk a l => if a.size = 0 then (⟨#[40]⟩ : ByteArray) ++ ⟨(join ((SX.textL l).map (·.data.toList)) [32]).toArray⟩ ++ ⟨#[41]⟩ else a
def SX.textL : List SX → List ByteArray
  | [] => []
  | x :: r => x.text :: SX.textL r
end
theorem SX.text_eq (x : SX) : x.text = if x.atom.size = 0 then (⟨#[40]⟩ : ByteArray) ++ ⟨(join ((SX.textL x.list).map (·.data.toList)) [32]).toArray⟩ ++ ⟨#[41]⟩ else x.atom := by cases x; rw [SX.text]; rfl
theorem SX.textL_length : ∀ (l : List SX), (SX.textL l).length = l.length
  | [] => rfl
  | x :: r => by rw [SX.textL, List.length_cons, List.length_cons, SX.textL_length r]
theorem SX.textL_take : ∀ (l : List SX) (j : Nat) (h : j < l.length), SX.textL (l.take (j + 1)) = SX.textL (l.take j) ++ [l[j].text]
  | x :: r, 0, _ => by simp [SX.textL]
  | x :: r, j + 1, h => by
    have := SX.textL_take r j (by simpa using h)
    rw [List.take_succ_cons, List.take_succ_cons, SX.textL, SX.textL, this]
    simp
mutual
/-- How long a text may be. -/
theorem SX.text_le : ∀ (x : SX), x.text.size ≤ x.wt + 3 * x.nodes
  | .mk a l => by
    rw [SX.text, SX.wt, SX.nodes]
    split
    · have h := SX.textL_le l
      have hj := join_length_le ((SX.textL l).map (·.data.toList)) [32]
      rw [lens_sizes] at hj
      have hn := SX.textL_length l
      simp only [List.length_map, hn, List.length_singleton, Nat.one_mul] at hj
      simp only [ByteArray.size_append]
      have e1 : (⟨(join ((SX.textL l).map (·.data.toList)) [32]).toArray⟩ : ByteArray).size = (join ((SX.textL l).map (·.data.toList)) [32]).length := by simp [ByteArray.size]
      have e2 : (⟨#[40]⟩ : ByteArray).size = 1 := rfl
      have e3 : (⟨#[41]⟩ : ByteArray).size = 1 := rfl
      omega
    · omega
theorem SX.textL_le : ∀ (l : List SX), l.length + sizes (SX.textL l) ≤ SX.wtL l + 3 * SX.nodesL l
  | [] => by simp [SX.textL, sizes]
  | x :: r => by
    have h1 := SX.text_le x
    have h2 := SX.textL_le r
    have h3 : sizes (SX.textL (x :: r)) = x.text.size + sizes (SX.textL r) := by rw [SX.textL]; simp [sizes]
    rw [h3, SX.wtL, SX.nodesL, List.length_cons]
    omega
end

def TextX (N : Nat) : Prop := ∀ (x : SX) (A : Option Addr) (c : Nat) (w : World), x.nodes ≤ N → x.wt + 3 * x.nodes ≤ 1048576 → ListAt w (Lt w.heap.size) A x.list →
  Calls Try.prog 42 #[.agg #[.string x.atom, .slice A x.list.length c]] w fun e w' => e = .returned (.string x.text) ∧ Below w.heap.size w w'

theorem wt_nodes_at (l : List SX) (j : Nat) (h : j < l.length) : l[j].wt + 3 * l[j].nodes ≤ SX.wtL l + 3 * SX.nodesL l := by
  have := SX.wtL_at l j h
  have := SX.nodesL_at l j h
  omega

set_option maxRecDepth 100000 in
set_option maxHeartbeats 2000000 in
theorem textX : ∀ N, TextX N
  | 0 => fun x A c w hn => by rw [SX.nodes_eq] at hn; omega
  | N + 1 => by
    intro x A c w hn hm hl
    have ih := textX N
    obtain ⟨i0, hi, hz0, hz1, hz2⟩ := info_parts infoString
    have hne := SX.nodes_eq x
    have hwe := SX.wt_eq x
    have hll := SX.wtL_length x.list
    have hlen : x.list.length ≤ 1048576 := by omega
    have hte := SX.text_eq x
    by_cases ha : x.atom.size = 0
    · rw [if_pos ha] at hte
      have htl := SX.textL_length x.list
      have hsz := SX.textL_le x.list
      have hjl : (join ((SX.textL x.list).map (·.data.toList)) [32]).length ≤ 1048576 := by
        have h1 := SX.text_le x
        have h2 : x.text.size = 1 + (join ((SX.textL x.list).map (·.data.toList)) [32]).length + 1 := by rw [hte]; simp only [ByteArray.size_append]; rw [show (⟨(join ((SX.textL x.list).map (·.data.toList)) [32]).toArray⟩ : ByteArray).size = (join ((SX.textL x.list).map (·.data.toList)) [32]).length by simp [ByteArray.size]]; rfl
        omega
      have hm2 : SX.wtL x.list + 3 * SX.nodesL x.list ≤ 1048576 := by omega
      have hn2 : SX.nodesL x.list ≤ N := by omega
      have HL := Lib.hid hl
      have HT := Lib.hid hte
      have HTL := Lib.hid htl
      have HSZ := Lib.hid hsz
      clear hl hne hwe hll hte htl hsz hm hn
      rw [empty_of ha]
      clear ha
      have hb0 : Below w.heap.size w ((w.alloc (.cells #[.string ByteArray.empty, .slice A x.list.length c] 26)).alloc (.cells #[] 9)) := ((Below.refl _ _).alloc (Nat.le_refl _) _).alloc (by simp) _
      go_enter Try.func42, Try.ntmps42
      go_wp2
      go_loopw [3, 4] (fun v iv wr => ∃ k : Nat, k ≤ x.list.length ∧ iv = .int .i64 k ∧ wr.ownsRow (w.heap.size + 1) 9 1 v k ((SX.textL (x.list.take k)).map Value.string) ∧ Below (w.heap.size + 1) (w.alloc (.cells #[.string ByteArray.empty, .slice A x.list.length c] 26)) wr) (fun _ iv _ => x.list.length - (intOf iv).toNat)
      case atStart => exact ⟨0, Nat.zero_le _, rfl, (by have h := World.ownsRow_made (base := w.heap.size + 1) (size := 1) (e := 9) (w.alloc (.cells #[.string ByteArray.empty, .slice A x.list.length c] 26)) #[] 0 (by simp) (by decide) rfl; rw [World.size_alloc] at h; exact h), (Below.refl (w.heap.size + 1) (w.alloc (.cells #[.string ByteArray.empty, .slice A x.list.length c] 26))).alloc (by simp) _⟩
      case round =>
        obtain ⟨k, hk, rfl, hown, hb⟩ := hrel
        have hbs : w.heap.size + 1 ≤ wr.heap.size := by simpa using hb.size
        obtain ⟨b0, b1, hbw⟩ := boxed (hb.mono (by simp))
        by_cases hlt : k < x.list.length
        · obtain ⟨b, o, A', c', rfl, hP, hc0, hc1, hl'⟩ := (boxedList HL.out (hb.mono (by simp))).at_ hlt
          have hst := SX.textL_take x.list k hlt
          have hx : x.list[k].nodes ≤ N := by have := SX.nodesL_at x.list k hlt; omega
          have hsm : x.list[k].wt + 3 * x.list[k].nodes ≤ 1048576 := by have := wt_nodes_at x.list k hlt; omega
          have HS := Lib.hid hst
          have HX := Lib.hid hl'
          clear hst hl'
          go_wp2_with fail
          refine (ih x.list[k] A' c' _ hx hsm HX.out).mono ?_
          rintro e w1 ⟨rfl, hb1⟩
          have hown1 := owns_below hown hb1
          have hb2 := hb.trans (hb1.mono hbs)
          have hbs2 := Nat.le_trans hbs hb1.size
          go_wp2_with (at_builtin; refine wpList_append_own _ rfl _ _ 57 rfl (w.heap.size + 1) 9 i0 (.string ByteArray.empty) 1 16 Try.underlying57 hi hz0 hz1 hz2 rfl (by decide) _ _ _ rfl (hown1.alloc _) ⟨w1.heap.size, 0, none⟩ 1 1 [.string x.list[k].text] rfl rfl (news_one w1 _ _) (one_string _) (by unfold maxLen; omega) (by omega) (by simp; omega) ?_)
          intro v' w2 hown2 hgrow _
          have hb3 := (hb2.alloc hbs2 _).grown hgrow (by simp; omega) (fun k hk => (hown1.lt k hk).1)
          rw [strs_map, ← HS.out] at hown2
          have HO := Lib.hid hown2
          clear hown2 hown1 hown
          go_wp2
          go_roundw
          case rel => exact ⟨k + 1, by omega, by go_num, HO.out, hb3⟩
          case measure => simp [intOf]; omega
        · have hkl : k = x.list.length := by omega
          subst hkl
          rw [List.take_length] at hown
          conv at hown => arg 6; rw [← HTL.out]
          obtain ⟨B, d, rfl, hS⟩ := strs_own hown
          have HS := Lib.hid hS
          clear hS hown
          go_wp2_with fail
          refine (specJoin B d _ ⟨#[32]⟩ _ HS.out (by have := HSZ.out; have := HTL.out; omega) (by decide)).mono ?_
          rintro e w1 ⟨rfl, hb1⟩
          have hb2 := hbw.trans (hb1.mono hbw.size)
          go_wp2
          go_ret
          exact ⟨ret_str (by rw [HT.out]), hb2⟩
    · rw [if_neg ha] at hte
      have HT := Lib.hid hte
      have hnem := nonempty_of ha
      clear hte hl
      go_enter Try.func42, Try.ntmps42
      go_wp2
      go_ret
      exact ⟨ret_str (by rw [HT.out]), (Below.refl _ _).alloc (Nat.le_refl _) _⟩
end Go.Proofs.Ytbnfdjhcakimhaa

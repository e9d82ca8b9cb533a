/- The law on unions: the program's agrees with the reference model's, its elements are distinct, all elements of both lists are among them, and it is no longer than both. -/
import Derived.Test.YtoncigfjgneecaaDrawUnion
import Derived.Test.YtoncigfjgneecaaUnion
import Derived.Test.YtoncigfjgneecaaIndex
import Derived.Test.YtoncigfjgneecaaMarkS
import Derived.Test.YtoncigfjgneecaaEqual
import Derived.Test.YtoncigfjgneecaaBig
namespace Go.Proofs.Ytoncigfjgneecaa
open Go.RowKit Go.Lib

/-- TWO LISTS DRAWN. -/
def DrawnTwo (w : World) (e : Ending) (w' : World) : Prop :=
  ∃ (A1 A2 : Option Addr) (c1 c2 : Nat) (a b : List ByteArray), e = .returned (.tuple #[.slice A1 a.length c1, .slice A2 b.length c2]) ∧ a.length ≤ 4 ∧ b.length ≤ 4 ∧ (∀ x ∈ a ++ b, x.size ≤ 1) ∧ Strs w' A1 a ∧ Strs w' A2 b ∧ Below w.heap.size w w'

set_option maxRecDepth 100000 in
set_option maxHeartbeats 1000000 in
theorem drawUnion (A : Option Addr) (n c : Nat) (w : World) (hA : BytesAt w w.heap.size A n) (hn : n ≤ 140737488355328) :
    Calls Try.prog 10 #[.slice A n c] w (DrawnTwo w) := by
  have HA := Lib.hid hA
  clear hA
  go_enter Try.func10, Try.ntmps10
  go_wp2_with fail
  refine (drawNew A n c _ HA.out hn).mono ?_
  rintro e w1 ⟨g, rfl, hc1, hb1⟩
  have hown := hc1.own
  go_wp2_with fail
  refine (drawList _ g _ hc1).mono ?_
  rintro e w2 ⟨V1, a, rfl, ha, hza, hown1, hc2, hb2⟩
  obtain ⟨A1, c1, q1, rfl, hS1, _, hq1, hb1'⟩ := own_row hown1
  have hgl := hc1.lt
  have HZA := Lib.hid hza
  clear hc1 hza
  go_wp2_with fail
  refine (drawList _ g _ hc2).mono ?_
  rintro e w3 ⟨V2, b, rfl, hbl, hzb, hown2, hc3, hb3⟩
  obtain ⟨A2, c2, q2, rfl, hS2, _, hq2, _⟩ := own_row hown2
  have hS1' := hS1.but hb3 (fun ad e => by have := hb1' ad e; omega)
  have hbb := hb1.trans ((hb2.to_below hown hb1.size).trans (hb3.to_below hown (Nat.le_trans hb1.size hb2.size)))
  have hz : ∀ x ∈ a ++ b, x.size ≤ 1 := fun x hx => by
    rcases List.mem_append.1 hx with h | h
    · exact HZA.out x h
    · exact hzb x h
  have HZ := Lib.hid hz
  clear hz hzb HZA hown1 hown2 hc2 hc3 hb2 hb3 hS1 hb1
  go_wp2
  go_ret2
  exact ⟨A1, A2, c1, c2, a, b, rfl, ha, hbl, HZ.out, hS1', hS2, hbb⟩

theorem containsIs (A : Option Addr) (c : Nat) (ss : List ByteArray) (s : ByteArray) (w : World) (hA : Strs w A ss) (hn : ss.length ≤ 1000000) :
    Calls Try.prog 15 #[.slice A ss.length c, .string s] w fun e w' => e = .returned (.bool (has ss s)) ∧ w = w' := by
  have HA := Lib.hid hA
  have hi := indexOf_has ss s
  have HI := Lib.hid hi
  clear hA hi
  go_enter Try.func15, Try.ntmps15
  go_wp2_with fail
  refine (specIndex A c ss s _ HA.out (by omega)).mono ?_
  rintro e w1 ⟨rfl, rfl⟩
  obtain ⟨q, hq⟩ : ∃ q, q = indexOf ss s := ⟨_, rfl⟩
  have HQ := HI.out
  rw [← hq] at HQ ⊢
  have HQ := Lib.hid HQ
  clear hq HI
  go_wp2
  go_ret
  exact ⟨rfl, rfl⟩

set_option maxRecDepth 100000 in
set_option maxHeartbeats 4000000 in
theorem lawUnionF (A : Option Addr) (n c : Nat) (w : World) (hA : BytesAt w w.heap.size A n) (hn : n ≤ 9223372036854775807) :
    Calls Try.prog 3 #[.slice A n c] w fun e w' => e = .returned (.bool true) ∧ Below w.heap.size w w' := by
  have HA := Lib.hid hA
  clear hA
  by_cases hbig : n ≤ 1048576
  · go_enter Try.func3, Try.ntmps3
    go_wp2_with fail
    refine (bigNo A n c _ hbig).mono ?_
    rintro e w1 ⟨rfl, rfl⟩
    go_wp2_with fail
    refine (drawUnion A n c _ HA.out (by omega)).mono ?_
    rintro e w1 ⟨A1, A2, c1, c2, a, b, rfl, ha, hb, hz, hS1, hS2, hb1⟩
    have hz2 : ∀ x ∈ a ++ b, x.size ≤ 9223372036854775807 := fun x hx => by have := hz x hx; omega
    have hdl := uniF_len (a ++ b) []
    rw [List.length_append, List.length_nil] at hdl
    have hall : ∀ s, has (uniF [] (a ++ b)) s = (has a s || has b s) := fun s => by rw [has_uniF, has_append]; rfl
    have hdis := distinct_uni (a ++ b)
    have hmem : ∀ x ∈ uniF [] (a ++ b), x.size ≤ 9223372036854775807 := fun x hx => hz2 x (uniF_mem hx)
    have HU := Lib.hid (implUnion A1 A2 c1 c2 a b w1 hS1 hS2 (by omega) (by omega) hz2)
    obtain ⟨d, hd⟩ : ∃ d, d = uniF [] (a ++ b) := ⟨_, rfl⟩
    have HSU := fun (w2 : World) (h : Below w1.heap.size w1 w2) => specUnion A1 A2 c1 c2 a b w2 (hS1.below h) (hS2.below h) (by omega) (by omega)
    rw [← hd] at hdl hall hdis hmem HU HSU
    have HL := Lib.hid hall
    have HD := Lib.hid hdis
    have HM := Lib.hid hmem
    have HSS := Lib.hid HSU
    clear hd hall hdis hmem hz hz2 HSU
    go_wp2_with fail
    refine HU.out.mono ?_
    rintro e w2 ⟨V, rfl, hown, hb2⟩
    obtain ⟨A3, c3, q3, rfl, hS3, _, _, _⟩ := own_row hown
    have h2 := hb1.trans (hb2.mono hb1.size)
    clear hown HU
    go_wp2_with fail
    refine (HSS.out _ hb2).mono ?_
    rintro e w3 ⟨V, rfl, hown, hb3⟩
    obtain ⟨A4, c4, q4, rfl, hS4, _, _, _⟩ := own_row hown
    have h3 := h2.trans (hb3.mono h2.size)
    have hS3 := hS3.below hb3
    clear hown HSS
    go_wp2_with fail
    refine (equalStrings _ _ _ _ d _ hS3 hS4 (by omega)).mono ?_
    rintro e w4 ⟨rfl, hb4⟩
    have h4 := h3.trans (hb4.mono h3.size)
    have hS3 := hS3.below hb4
    clear hS4
    go_wp2_with fail
    refine (implDistinct _ _ d _ hS3 (by omega) HM.out).mono ?_
    rw [HD.out]
    rintro e w5 ⟨rfl, hb5⟩
    have h5 := h4.trans (hb5.mono h4.size)
    have hS3 := hS3.below hb5
    have hS1 := (((hS1.below hb2).below hb3).below hb4).below hb5
    have hS2 := (((hS2.below hb2).below hb3).below hb4).below hb5
    have HS1 := Lib.hid hS1
    have HS2 := Lib.hid hS2
    have HS3 := Lib.hid hS3
    have H5 := Lib.hid h5
    clear hb1 hb2 hb3 hb4 hb5 h2 h3 h4 h5 hS1 hS2 hS3 HM HD
    go_wp2
    go_loopw [6] (fun i wr => ∃ k : Nat, k ≤ a.length ∧ i = .int .i64 k ∧ w5 = wr) (fun i _ => a.length - (Go.RowKit.intOf i).toNat)
    case atStart => exact ⟨0, Nat.zero_le _, rfl, rfl⟩
    case round =>
      obtain ⟨k, hk, rfl, rfl⟩ := hrel
      by_cases hlt : k < a.length
      · obtain ⟨g, o, rfl, hc⟩ := HS1.out.at_ hlt
        have hy := HL.out a[k]
        rw [has_iff.2 (List.getElem_mem hlt), Bool.true_or] at hy
        have HY := Lib.hid hy
        clear hy
        go_wp2_with fail
        refine (containsIs _ _ d a[k] _ HS3.out (by omega)).mono ?_
        rw [HY.out]
        rintro e w6 ⟨rfl, rfl⟩
        go_wp2
        go_roundw
        case rel => exact ⟨k + 1, by omega, by go_num, trivial⟩
        case measure => simp [Go.RowKit.intOf]; omega
      · go_wp2
        go_loopw [7] (fun i wr => ∃ k : Nat, k ≤ b.length ∧ i = .int .i64 k ∧ w5 = wr) (fun i _ => b.length - (Go.RowKit.intOf i).toNat)
        case atStart => exact ⟨0, Nat.zero_le _, rfl, rfl⟩
        case round =>
          obtain ⟨j, hj, rfl, rfl⟩ := hrel
          by_cases hlt : j < b.length
          · obtain ⟨g, o, rfl, hc⟩ := HS2.out.at_ hlt
            have hy := HL.out b[j]
            rw [has_iff.2 (List.getElem_mem hlt), Bool.or_true, ← indexOf_has] at hy
            have hy2 := indexOf_lt d b[j]
            obtain ⟨q, hq⟩ : ∃ q, q = indexOf d b[j] := ⟨_, rfl⟩
            rw [← hq] at hy hy2
            have HQ := Lib.hid hq
            have hy1 : 0 ≤ q := by simpa using hy
            clear hy hq
            go_wp2_with fail
            refine (implIndex _ _ d b[j] _ HS3.out (by omega)).mono ?_
            rw [← HQ.out]
            rintro e w6 ⟨rfl, rfl⟩
            go_wp2
            go_roundw
            case rel => exact ⟨j + 1, by omega, by go_num, trivial⟩
            case measure => simp [Go.RowKit.intOf]; omega
          · go_wp2
            go_ret
            refine ⟨congrArg (fun b => Ending.returned (.bool b)) ?_, H5.out⟩
            simp
            omega
  · go_enter Try.func3, Try.ntmps3
    go_wp2_with fail
    refine (bigYes A n c _ (by omega)).mono ?_
    rintro e w1 ⟨rfl, rfl⟩
    go_wp2
    go_ret
    exact ⟨rfl, Below.refl _ _⟩
end Go.Proofs.Ytoncigfjgneecaa

/- The union of two lists without repetitions: what it is; the reference model's Union and AllDistinct. -/
import Derived.Test.YtoncigfjgneecaaHas
import Derived.Test.YtoncigfjgneecaaGrow
import Derived.Lib.QuietBelow
namespace Go.Proofs.Ytoncigfjgneecaa
open Go.RowKit Go.Lib

def addNew (acc : List ByteArray) (x : ByteArray) : List ByteArray := if has acc x then acc else acc ++ [x]
/-- The elements of the second list that are new, each once, behind the first. -/
def uniF (acc l : List ByteArray) : List ByteArray := l.foldl addNew acc
theorem uniF_take {acc l : List ByteArray} {k : Nat} (h : k < l.length) : uniF acc (l.take (k + 1)) = addNew (uniF acc (l.take k)) l[k] := by
  rw [List.take_succ_eq_append_getElem h, uniF, List.foldl_append]
  rfl
theorem uniF_append (acc a b : List ByteArray) : uniF acc (a ++ b) = uniF (uniF acc a) b := by simp [uniF]
theorem addNew_old {acc : List ByteArray} {x : ByteArray} (h : has acc x = true) : addNew acc x = acc := by rw [addNew, h]; rfl
theorem addNew_new {acc : List ByteArray} {x : ByteArray} (h : has acc x = false) : addNew acc x = acc ++ [x] := by rw [addNew, h]; rfl
theorem uniF_len : ∀ (l acc : List ByteArray), (uniF acc l).length ≤ acc.length + l.length
  | [], acc => by simp [uniF]
  | x :: r, acc => by
    have h := uniF_len r (addNew acc x)
    have e : uniF acc (x :: r) = uniF (addNew acc x) r := rfl
    rw [e]
    have : (addNew acc x).length ≤ acc.length + 1 := by
      unfold addNew
      split <;> simp
    simp only [List.length_cons]
    omega
theorem uniF_eq : ∀ (l acc : List ByteArray), (uniF acc l).length = acc.length + l.length → uniF acc l = acc ++ l
  | [], acc, _ => by simp [uniF]
  | x :: r, acc, h => by
    have e : uniF acc (x :: r) = uniF (addNew acc x) r := rfl
    rw [e] at h ⊢
    cases hx : has acc x with
    | true =>
      rw [addNew_old hx] at h
      have := uniF_len r acc
      simp only [List.length_cons] at h
      omega
    | false =>
      rw [addNew_new hx] at h ⊢
      rw [uniF_eq r (acc ++ [x]) (by rw [h]; simp; omega), List.append_assoc]
      rfl
theorem has_addNew (acc : List ByteArray) (x s : ByteArray) : has (addNew acc x) s = (has acc s || x.data.toList == s.data.toList) := by
  cases h : has acc x with
  | true =>
    rw [addNew_old h]
    cases he : x.data.toList == s.data.toList with
    | true => rw [← data_inj (eq_of_beq he), h]; rfl
    | false => rw [Bool.or_false]
  | false => rw [addNew_new h, has_snoc]
theorem has_uniF (s : ByteArray) : ∀ (l acc : List ByteArray), has (uniF acc l) s = (has acc s || has l s)
  | [], acc => by simp [uniF, has]
  | x :: r, acc => by
    have e : uniF acc (x :: r) = uniF (addNew acc x) r := rfl
    rw [e, has_uniF s r, has_addNew, Bool.or_assoc]
    rfl
theorem uniF_mem {x : ByteArray} {l : List ByteArray} (h : x ∈ uniF [] l) : x ∈ l := by
  rw [← has_iff] at h ⊢
  rw [has_uniF] at h
  exact h
/-- No two elements are equal. -/
def distinct (ss : List ByteArray) : Bool := decide ((uniF [] ss).length = ss.length)
theorem distinct_yes {ss : List ByteArray} (h : uniF [] ss = ss) : distinct ss = true := by rw [distinct, h]; simp
theorem distinct_no {ss : List ByteArray} {k : Nat} (hk : k < ss.length) (he : uniF [] (ss.take k) = ss.take k) (hh : has (ss.take k) ss[k] = true) : distinct ss = false := by
  have e : uniF [] ss = uniF (ss.take k) (ss.drop (k + 1)) := by
    have h1 : uniF [] ss = uniF (uniF [] (ss.take (k + 1))) (ss.drop (k + 1)) := by rw [← uniF_append, List.take_append_drop]
    rw [h1, uniF_take hk, he, addNew_old hh]
  have h2 := uniF_len (ss.drop (k + 1)) (ss.take k)
  rw [← e] at h2
  simp only [List.length_take, List.length_drop] at h2
  rw [distinct, decide_eq_false_iff_not]
  omega
theorem distinct_step {ss : List ByteArray} {k : Nat} (hk : k < ss.length) (he : uniF [] (ss.take k) = ss.take k) (hh : has (ss.take k) ss[k] = false) : uniF [] (ss.take (k + 1)) = ss.take (k + 1) := by
  rw [uniF_take hk, he, addNew_new hh, ← List.take_succ_eq_append_getElem hk]

theorem uniF_uniF : ∀ (l acc : List ByteArray), uniF [] acc = acc → uniF [] (uniF acc l) = uniF acc l
  | [], acc, h => h
  | x :: r, acc, h => by
    have e : uniF acc (x :: r) = uniF (addNew acc x) r := rfl
    rw [e]
    refine uniF_uniF r _ ?_
    cases hx : has acc x with
    | true => rw [addNew_old hx]; exact h
    | false =>
      rw [addNew_new hx, uniF_append, h]
      exact addNew_new hx
theorem distinct_uni (l : List ByteArray) : distinct (uniF [] l) = true := distinct_yes (uniF_uniF l [] rfl)

theorem Strs.take {w : World} {A : Option Addr} {ss : List ByteArray} (h : Strs w A ss) (k : Nat) : Strs w A (ss.take k) := by
  rcases h with h | ⟨g, o, hA, hg, hc⟩
  · exact .inl (by rw [h]; simp)
  · refine .inr ⟨g, o, hA, hg, fun j s hj => hc j s ?_⟩
    rw [List.getElem?_take] at hj
    split at hj
    · exact hj
    · cases hj

set_option maxRecDepth 100000 in
set_option maxHeartbeats 1000000 in
theorem specDistinct (A : Option Addr) (c : Nat) (ss : List ByteArray) (w : World) (hA : Strs w A ss) (hn : ss.length ≤ c) (hc63 : c ≤ 9223372036854775807) :
    Calls Try.prog 22 #[.slice A ss.length c] w fun e w' => e = .returned (.bool (distinct ss)) ∧ Below w.heap.size w w' := by
  have HA := Lib.hid hA
  clear hA
  go_enter Try.func22, Try.ntmps22
  go_wp2
  go_loopw [3] (fun i wr => ∃ k : Nat, k ≤ ss.length ∧ i = .int .i64 k ∧ uniF [] (ss.take k) = ss.take k ∧ Below w.heap.size w wr) (fun i _ => ss.length - (Go.RowKit.intOf i).toNat)
  case atStart => exact ⟨0, Nat.zero_le _, rfl, rfl, Below.refl _ _⟩
  case round =>
    obtain ⟨k, hk, rfl, hu, hb⟩ := hrel
    by_cases hlt : k < ss.length
    · obtain ⟨g, o, rfl, hc⟩ := (HA.out.below hb).at_ hlt
      have hno := distinct_no hlt hu
      have hst := distinct_step hlt hu
      have hlen : (ss.take k).length = k := by rw [List.length_take]; omega
      have cH : ∀ d os, Calls Try.prog 31 #[.slice (some ⟨g, o, none⟩) k c, .string ss[k]] (Go.Sort.grow (redrawn wr d) os) fun e w'' => e = .returned (.bool (has (ss.take k) ss[k])) ∧ ∃ p : Regrown, w'' = Go.Sort.grow (redrawn wr p.d) p.os := fun d os => by
        have h := specHas (some ⟨g, o, none⟩) c (ss.take k) ss[k] (Go.Sort.grow (redrawn wr d) os) (((HA.out.below hb).below (below_regrown wr d os)).take k) (by omega)
        rw [hlen] at h
        exact Calls.regrown_of (h.mono fun e w' hh => ⟨hh.1, hh.2 ▸ Below.refl _ _⟩)
      have kc := cell_regrown hc
      have HN := Lib.hid hno
      have HS := Lib.hid hst
      have hk0 : (0 : Int) ≤ k := by omega
      have hk1 : k ≤ c := by omega
      clear hu hno hst hlen
      go_wp2
      refine wp_region_quiet_below (by kernel_rfl) (by kernel_rfl) ?_
      repeat (go_big_quiet_step (first | (go_at_call 31; exact cH _ _)))
      refine wpQuiet_nil ?_
      intro _ hw'
      obtain ⟨⟨dq, osq⟩, hw''⟩ := hw'
      subst hw''
      have hb3 := hb.trans ((below_regrown wr dq osq).mono hb.size)
      clear cH kc
      cases hh : has (ss.take k) ss[k] with
      | true =>
        have h1 := HN.out hh
        have H1 := Lib.hid h1
        clear h1 hh
        go_wp2
        go_ret
        exact ⟨congrArg (fun b => Ending.returned (.bool b)) H1.out.symm, hb3⟩
      | false =>
        have h1 := HS.out hh
        have H1 := Lib.hid h1
        clear h1 hh
        go_wp2
        go_roundw
        case rel => exact ⟨k + 1, by omega, by go_num, H1.out, hb3⟩
        case measure => simp [Go.RowKit.intOf]; omega
    · have hkl : k = ss.length := by omega
      subst hkl
      rw [List.take_length] at hu
      have hy := distinct_yes hu
      have HY := Lib.hid hy
      clear hu hy
      go_wp2
      go_ret
      exact ⟨congrArg (fun b => Ending.returned (.bool b)) HY.out.symm, hb⟩

/-- A NEW ROW of these strings, owned. -/
def RowOf (d : List ByteArray) (w : World) (e : Ending) (w' : World) : Prop :=
  ∃ V, e = .returned V ∧ w'.ownsRow w.heap.size 9 1 V d.length (d.map Value.string) ∧ Below w.heap.size w w'

set_option maxRecDepth 100000 in
set_option maxHeartbeats 2000000 in
theorem specUnion (A B : Option Addr) (c c' : Nat) (a b : List ByteArray) (w : World) (hA : Strs w A a) (hB : Strs w B b) (ha : a.length ≤ 4294967296) (hb : b.length ≤ 4294967296) :
    Calls Try.prog 13 #[.slice A a.length c, .slice B b.length c'] w (RowOf (uniF [] (a ++ b)) w) := by
  obtain ⟨i0, hi, hz0, hz1, hz2⟩ := info_parts infoString
  have HA := Lib.hid hA
  have HB := Lib.hid hB
  clear hA hB
  go_enter Try.func13, Try.ntmps13
  go_wp2
  go_loopw [5, 6] (fun v i wr => ∃ (k : Nat) (d : List ByteArray), k ≤ a.length ∧ i = .int .i64 k ∧ d = uniF [] (a.take k) ∧ wr.ownsRow w.heap.size 9 1 v d.length (d.map Value.string) ∧ Below w.heap.size w wr) (fun _ i _ => a.length - (Go.RowKit.intOf i).toNat)
  case atStart => exact ⟨0, [], Nat.zero_le _, rfl, rfl, World.ownsRow_made w #[] 0 (Nat.le_refl _) (by decide) rfl, (Below.refl _ _).alloc (Nat.le_refl _) _⟩
  case round =>
    obtain ⟨k, d, hk, rfl, hd, hown, hbl⟩ := hrel
    obtain ⟨V, c1, rfl, hS⟩ := strs_own hown
    have hdl : d.length ≤ 4294967296 := by
      have := uniF_len (a.take k) []
      rw [← hd] at this
      rw [List.length_take] at this
      simp at this
      omega
    by_cases hlt : k < a.length
    · obtain ⟨g, o, rfl, hc⟩ := (HA.out.below hbl).at_ hlt
      have hst := uniF_take (acc := []) hlt
      rw [← hd] at hst
      have HD := Lib.hid hd
      have hold := @addNew_old d a[k]
      have hnew := @addNew_new d a[k]
      rw [← hst] at hold hnew
      have HO := Lib.hid hold
      have HN := Lib.hid hnew
      clear hd hst hold hnew
      go_wp2_with fail
      refine (specHas V c1 d a[k] _ hS (by omega)).mono ?_
      rintro e w1 ⟨rfl, rfl⟩
      cases hh : has d a[k] with
      | true =>
        have h1 := HO.out hh
        have H1 := Lib.hid h1
        clear h1 hh
        go_wp2
        go_roundw
        case rel => exact ⟨k + 1, d, by omega, by go_num, H1.out.symm, hown, hbl⟩
        case measure => simp [Go.RowKit.intOf]; omega
      | false =>
        have h1 := HN.out hh
        have H1 := Lib.hid h1
        clear h1 hh
        go_wp2_with (at_builtin; refine wpList_append_own _ rfl _ _ 24 rfl w.heap.size 9 i0 (.string ByteArray.empty) 1 16 Try.underlying24 hi hz0 hz1 hz2 rfl (by decide) _ _ _ rfl (hown.alloc _) ⟨wr.heap.size, 0, none⟩ 1 1 [.string a[k]] rfl rfl (news_one wr _ _) (one_string _) (by unfold maxLen; omega) (by omega) (by have := hbl.size; simp; omega) ?_)
        intro v' w1 hown1 hgrow _
        have hb1 : Below w.heap.size w w1 := (hbl.alloc hbl.size _).grown hgrow (by have := hbl.size; simp; omega) (fun k hk => (hown.lt k hk).1)
        rw [strs_map] at hown1
        go_wp2
        go_roundw
        case rel => exact ⟨k + 1, d ++ [a[k]], by omega, by go_num, H1.out.symm, by simpa using hown1, hb1⟩
        case measure => simp [Go.RowKit.intOf]; omega
    · have hkl : k = a.length := by omega
      subst hkl
      rw [List.take_length] at hd
      have HD := Lib.hid hd
      clear hd hS
      go_wp2
      go_loopw [5, 7] (fun v i w2 => ∃ (j : Nat) (d : List ByteArray), j ≤ b.length ∧ i = .int .i64 j ∧ d = uniF (uniF [] a) (b.take j) ∧ w2.ownsRow w.heap.size 9 1 v d.length (d.map Value.string) ∧ Below w.heap.size w w2) (fun _ i _ => b.length - (Go.RowKit.intOf i).toNat)
      case atStart => exact ⟨0, d, Nat.zero_le _, rfl, HD.out, hown, hbl⟩
      case round =>
        clear HD hown hbl hdl hk hlt
        obtain ⟨j, d, hj, rfl, hd, hown, hbl⟩ := hrel
        obtain ⟨V, c1, rfl, hS⟩ := strs_own hown
        have hdl : d.length ≤ 8589934592 := by
          have h1 := uniF_len (b.take j) (uniF [] a)
          have h2 := uniF_len a []
          rw [← hd] at h1
          rw [List.length_take] at h1
          simp at h2
          omega
        by_cases hlt : j < b.length
        · obtain ⟨g, o, rfl, hc⟩ := (HB.out.below hbl).at_ hlt
          have hst := uniF_take (acc := uniF [] a) hlt
          rw [← hd] at hst
          have HD := Lib.hid hd
          have hold := @addNew_old d b[j]
          have hnew := @addNew_new d b[j]
          rw [← hst] at hold hnew
          have HO := Lib.hid hold
          have HN := Lib.hid hnew
          clear hd hst hold hnew
          go_wp2_with fail
          refine (specHas V c1 d b[j] _ hS (by omega)).mono ?_
          rintro e w1 ⟨rfl, rfl⟩
          cases hh : has d b[j] with
          | true =>
            have h1 := HO.out hh
            have H1 := Lib.hid h1
            clear h1 hh
            go_wp2
            go_roundw
            case rel => exact ⟨j + 1, d, by omega, by go_num, H1.out.symm, hown, hbl⟩
            case measure => simp [Go.RowKit.intOf]; omega
          | false =>
            have h1 := HN.out hh
            have H1 := Lib.hid h1
            clear h1 hh
            rename_i w2
            go_wp2_with (at_builtin; refine wpList_append_own _ rfl _ _ 24 rfl w.heap.size 9 i0 (.string ByteArray.empty) 1 16 Try.underlying24 hi hz0 hz1 hz2 rfl (by decide) _ _ _ rfl (hown.alloc _) ⟨_, 0, none⟩ 1 1 [.string b[j]] rfl rfl (news_one _ _ _) (one_string _) (by unfold maxLen; omega) (by omega) (by have := hbl.size; simp; omega) ?_)
            intro v' w1 hown1 hgrow _
            have hb1 : Below w.heap.size w w1 := (hbl.alloc hbl.size _).grown hgrow (by have := hbl.size; simp; omega) (fun k hk => (hown.lt k hk).1)
            rw [strs_map] at hown1
            go_wp2
            go_roundw
            case rel => exact ⟨j + 1, d ++ [b[j]], by omega, by go_num, H1.out.symm, by simpa using hown1, hb1⟩
            case measure => simp [Go.RowKit.intOf]; omega
        · have hkl : j = b.length := by omega
          subst hkl
          rw [List.take_length, ← uniF_append] at hd
          have HD := Lib.hid hd
          clear hd hS
          go_wp2
          go_ret
          rw [← HD.out]
          exact ⟨_, rfl, hown, hbl⟩
end Go.Proofs.Ytoncigfjgneecaa

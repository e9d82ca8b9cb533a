/- What the reference model's 'l1Read', ParseNumber and ParseInt answer. -/
import Derived.Test.YtkhpfmgclnhggaaDoorRead
import Derived.Test.YtkhpfmgclnhggaaDoorFmt
import Derived.Outline
import Derived.Lib.CutLaws
import Derived.Lib.IndexEntry
namespace Go.Proofs.YtkhpfmgclnhggaaDoor
open Go.RowKit Go.Lib

/-- What a reading is as a pair of results: the number and true; 0 and false. -/
def rdv (o : Option Int) : Value := .tuple #[.int .i64 (o.getD 0), .bool o.isSome]
theorem rdv_none {o : Option Int} (h : o = none) : .tuple #[.int .i64 0, .bool false] = rdv o := by rw [h]; rfl
theorem ret_val {a b : Value} (h : a = b) : Ending.returned a = .returned b := by rw [h]

theorem head_of (s : ByteArray) (hs : 0 < s.size) : s.data.toList.head? = some s[0] := by
  rw [List.head?_eq_getElem?, List.getElem?_eq_getElem (by simpa using hs)]; rfl
theorem head_is {s : ByteArray} (hs : 0 < s.size) (hh : s.data.toList.head? = some 45) : ((s[0].toNat : Int) == 45) = true := by
  rw [head_of s hs] at hh
  injection hh with hh
  rw [hh]; rfl
theorem head_isnt {s : ByteArray} (hs : 0 < s.size) (hh : s.data.toList.head? ≠ some 45) : ((s[0].toNat : Int) == 45) = false := by
  rw [head_of s hs] at hh
  rw [beq_eq_false_iff_ne]
  intro e
  exact hh (congrArg some (UInt8.toNat_inj.1 (by have e2 : (45 : UInt8).toNat = 45 := rfl; omega)))
theorem tail_length (s : ByteArray) : s.data.toList.tail.length = s.size - 1 := by simp

set_option maxRecDepth 100000 in
set_option maxHeartbeats 400000 in
theorem shortA (s : ByteArray) (most : Nat) (w : World) (hmax : s.size ≤ 2097152) (hm : most ≤ 12) (hs : s.size = 0) :
    Calls Tryd.prog 34 #[.string s, .int .i64 most] w fun e w' => e = .returned (.tuple #[.int .i64 0, .bool false]) ∧ Below w.heap.size w w' := by
  go_enter Tryd.func34, Tryd.ntmps34
  go_wp2
  go_ret2
  exact ⟨rfl, Below.refl _ _⟩

set_option maxRecDepth 100000 in
set_option maxHeartbeats 400000 in
theorem shortB (s : ByteArray) (most : Nat) (w : World) (hmax : s.size ≤ 2097152) (hm : most ≤ 12) (hs : s.size = 1) (hh : ((s[0].toNat : Int) == 45) = true) :
    Calls Tryd.prog 34 #[.string s, .int .i64 most] w fun e w' => e = .returned (.tuple #[.int .i64 0, .bool false]) ∧ Below w.heap.size w w' := by
  have g : decide (((s.size - 1 : Nat) : Int) < 1) = true := by simp; omega
  go_enter Tryd.func34, Tryd.ntmps34
  go_wp2
  go_ret2
  exact ⟨rfl, Below.refl _ _⟩

set_option maxRecDepth 100000 in
set_option maxHeartbeats 400000 in
theorem shortC (s : ByteArray) (most : Nat) (w : World) (hmax : s.size ≤ 2097152) (hm : most ≤ 12) (hs : 2 ≤ s.size) (hh : ((s[0].toNat : Int) == 45) = true) (hl : most < s.size - 1) :
    Calls Tryd.prog 34 #[.string s, .int .i64 most] w fun e w' => e = .returned (.tuple #[.int .i64 0, .bool false]) ∧ Below w.heap.size w w' := by
  have g : decide (((s.size - 1 : Nat) : Int) < 1) = false := by simp; omega
  have g2 : decide (most < s.size - 1) = true := by simpa using hl
  go_enter Tryd.func34, Tryd.ntmps34
  go_wp2
  go_ret2
  exact ⟨rfl, Below.refl _ _⟩

set_option maxRecDepth 100000 in
set_option maxHeartbeats 400000 in
theorem shortD (s : ByteArray) (most : Nat) (w : World) (hmax : s.size ≤ 2097152) (hm : most ≤ 12) (hs : 1 ≤ s.size) (hh : ((s[0].toNat : Int) == 45) = false) (hl : most < s.size) :
    Calls Tryd.prog 34 #[.string s, .int .i64 most] w fun e w' => e = .returned (.tuple #[.int .i64 0, .bool false]) ∧ Below w.heap.size w w' := by
  have g : decide ((s.size : Int) < 1) = false := by simp; omega
  have g2 : decide (most < s.size) = true := by simpa using hl
  go_enter Tryd.func34, Tryd.ntmps34
  go_wp2
  go_ret2
  exact ⟨rfl, Below.refl _ _⟩

set_option maxRecDepth 100000 in
set_option maxHeartbeats 1000000 in
theorem readPlain (s : ByteArray) (most : Nat) (w : World) (hs : 0 < s.size) (hmax : s.size ≤ 2097152) (hm : most ≤ 12) (hh : s.data.toList.head? ≠ some 45) (hsz : s.size ≤ most) :
    Calls Tryd.prog 34 #[.string s, .int .i64 most] w fun e w' => e = .returned (rdv (readAs most s.data.toList)) ∧ Below w.heap.size w w' := by
  obtain ⟨eb, es⟩ := body_plain hh
  have h0 : ((s[0].toNat : Int) == 45) = false := head_isnt hs hh
  have g1 : decide ((s.size : Int) < 1) = false := by simp; omega
  have g2 : decide (most < s.size) = false := by simp; omega
  obtain ⟨t, rfl⟩ : ∃ t, t = s := ⟨s, rfl⟩
  have ht : t.data.toList = body t.data.toList := eb.symm
  have ES := Lib.hid es
  clear eb es hh
  go_enter Tryd.func34, Tryd.ntmps34
  go_wp2

  have HT := Lib.hid ht
  clear ht
  go_loop [8, 9] (fun nv i => ∃ k : Nat, k ≤ t.size ∧ i = .int .i64 k ∧ nv = .int .i64 (valN 0 (t.data.toList.take k)) ∧ ∀ c ∈ t.data.toList.take k, isDig c) (fun _ i => t.size - (intOf i).toNat)
  case atStart => exact ⟨0, Nat.zero_le _, rfl, rfl, by simp⟩
  case round =>
    obtain ⟨k, hk, rfl, rfl, hd⟩ := hrel
    have hlen : (t.data.toList.take k).length ≤ 12 := by have := List.length_take_le k t.data.toList; omega
    have hv : ((valN 0 (t.data.toList.take k) : Nat) : Int) ≤ 1000000000000 := by have := valN_bound hd hlen; omega
    have HD := Lib.hid hd
    clear hd hlen
    by_cases hlt : k < t.size
    · by_cases hc : isDig t[k]
      · have h48 : 48 ≤ (t[k].toNat : Int) := by have := hc.1; omega
        have h57 : (t[k].toNat : Int) ≤ 57 := by have := hc.2; omega
        have hts := take_one_more t k hlt
        have HS : Hid (t.data.toList.take (k + 1) = t.data.toList.take k ++ [t[k]]) := hts
        have HC := Lib.hid hc
        clear hts hc
        go_wp2
        go_round
        case rel =>
          refine ⟨k + 1, by omega, by go_num, ?_, ?_⟩
          · rw [HS.out, valN_snoc]; exact int_of (by omega)
          · rw [HS.out]; intro c hc
            rcases List.mem_append.1 hc with h | h
            · exact HD.out c h
            · rw [List.mem_singleton.1 h]; exact HC.out
        case measure => simp [intOf]; omega
      · have hno : (t[k].toNat : Int) < 48 ∨ 57 < (t[k].toNat : Int) := by unfold isDig at hc; omega
        have HC := Lib.hid hc
        clear hc
        rcases hno with hno | hno
        all_goals
          go_wp2
          go_ret2
          refine ⟨ret_val (rdv_none (readAs_other (c := t[k]) ?_ HC.out)), Below.refl _ _⟩
          rw [← HT.out]
          exact Array.getElem_mem_toList hlt
    · have hkt : k = t.size := by omega
      subst hkt
      have hall : t.data.toList.take t.size = t.data.toList := List.take_of_length_le (by simp)
      rw [hall] at HD hv ⊢
      clear hall

      have hdig : ∀ c ∈ body t.data.toList, isDig c := by rw [← HT.out]; exact HD.out
      have hne : body t.data.toList ≠ [] := by
        rw [← HT.out]; intro e
        have := congrArg List.length e
        rw [Array.length_toList] at this
        have e2 : t.data.size = t.size := rfl
        have e3 : ([] : List UInt8).length = 0 := rfl
        omega
      have hle : (body t.data.toList).length ≤ most := by rw [← HT.out]; simp; have e2 : t.data.size = t.size := rfl; omega
      have HG := Lib.hid hdig
      have HN := Lib.hid hne
      have HL := Lib.hid hle
      clear hdig hne hle
      by_cases hi : itoa (spelt t.data.toList) = t.data.toList
      · have hstr : (⟨(itoa (spelt t.data.toList)).toArray⟩ : ByteArray) = t := by rw [hi]
        have HI := Lib.hid hi
        have HR := Lib.hid hstr
        clear hi hstr
        go_wp2_with fail
        rw [← ES.out]
        refine (fmt_any _ _ ?_ ?_).mono ?_
        · rw [ES.out]; omega
        · rw [ES.out]; omega
        rintro e w1 ⟨rfl, hb1⟩
        rw [HR.out]
        go_wp2
        go_ret2
        refine ⟨ret_val (by rw [readAs_if HN.out HL.out HG.out HI.out]; rfl), hb1⟩
      · have hi' : (itoa (spelt t.data.toList) == t.toList) = false := by rw [ByteArray.toList_eq]; simpa using hi
        have HI := Lib.hid hi
        clear hi
        go_wp2_with fail
        rw [← ES.out]
        refine (fmt_any _ _ ?_ ?_).mono ?_
        · rw [ES.out]; omega
        · rw [ES.out]; omega
        rintro e w1 ⟨rfl, hb1⟩
        go_wp2
        go_ret2
        exact ⟨ret_val (rdv_none (readAs_spelt HI.out)), hb1⟩
set_option maxRecDepth 100000 in
set_option maxHeartbeats 1000000 in
theorem readMinus (s : ByteArray) (most : Nat) (w : World) (hs : 2 ≤ s.size) (hmax : s.size ≤ 2097152) (hm : most ≤ 12) (hh : s.data.toList.head? = some 45) (hsz : s.size - 1 ≤ most) :
    Calls Tryd.prog 34 #[.string s, .int .i64 most] w fun e w' => e = .returned (rdv (readAs most s.data.toList)) ∧ Below w.heap.size w w' := by
  obtain ⟨eb, es⟩ := body_minus hh
  have h0 : ((s[0].toNat : Int) == 45) = true := head_is (by omega) hh
  have g1 : decide (((s.size - 1 : Nat) : Int) < 1) = false := by simp; omega
  have g2 : decide (most < s.size - 1) = false := by simp; omega
  have ht : (s.extract 1 s.size).data.toList = body s.data.toList := by rw [eb, extract_to_end]; simp
  have htz : (s.extract 1 s.size).size = s.size - 1 := by rw [ByteArray.size_extract]; omega
  rw [← eb, ← ht] at es
  have ES := Lib.hid es
  have HZ := Lib.hid htz
  have HT0 := Lib.hid ht
  clear eb hh ht es htz
  go_enter Tryd.func34, Tryd.ntmps34
  go_wp2
  generalize s.extract 1 s.size = t at *
  have ht := HT0.out
  have hsm : t.size ≤ most ∧ 1 ≤ t.size ∧ t.size ≤ 2097152 := by have := HZ.out; omega
  obtain ⟨hsz', hs1, hmax'⟩ := hsm
  clear HT0 HZ h0 g1 g2

  have HT := Lib.hid ht
  clear ht
  go_loop [8, 9] (fun nv i => ∃ k : Nat, k ≤ t.size ∧ i = .int .i64 k ∧ nv = .int .i64 (valN 0 (t.data.toList.take k)) ∧ ∀ c ∈ t.data.toList.take k, isDig c) (fun _ i => t.size - (intOf i).toNat)
  case atStart => exact ⟨0, Nat.zero_le _, rfl, rfl, by simp⟩
  case round =>
    obtain ⟨k, hk, rfl, rfl, hd⟩ := hrel
    have hlen : (t.data.toList.take k).length ≤ 12 := by have := List.length_take_le k t.data.toList; omega
    have hv : ((valN 0 (t.data.toList.take k) : Nat) : Int) ≤ 1000000000000 := by have := valN_bound hd hlen; omega
    have HD := Lib.hid hd
    clear hd hlen
    by_cases hlt : k < t.size
    · by_cases hc : isDig t[k]
      · have h48 : 48 ≤ (t[k].toNat : Int) := by have := hc.1; omega
        have h57 : (t[k].toNat : Int) ≤ 57 := by have := hc.2; omega
        have hts := take_one_more t k hlt
        have HS : Hid (t.data.toList.take (k + 1) = t.data.toList.take k ++ [t[k]]) := hts
        have HC := Lib.hid hc
        clear hts hc
        go_wp2
        go_round
        case rel =>
          refine ⟨k + 1, by omega, by go_num, ?_, ?_⟩
          · rw [HS.out, valN_snoc]; exact int_of (by omega)
          · rw [HS.out]; intro c hc
            rcases List.mem_append.1 hc with h | h
            · exact HD.out c h
            · rw [List.mem_singleton.1 h]; exact HC.out
        case measure => simp [intOf]; omega
      · have hno : (t[k].toNat : Int) < 48 ∨ 57 < (t[k].toNat : Int) := by unfold isDig at hc; omega
        have HC := Lib.hid hc
        clear hc
        rcases hno with hno | hno
        all_goals
          go_wp2
          go_ret2
          refine ⟨ret_val (rdv_none (readAs_other (c := t[k]) ?_ HC.out)), Below.refl _ _⟩
          rw [← HT.out]
          exact Array.getElem_mem_toList hlt
    · have hkt : k = t.size := by omega
      subst hkt
      have hall : t.data.toList.take t.size = t.data.toList := List.take_of_length_le (by simp)
      rw [hall] at HD hv ⊢
      clear hall

      have hdig : ∀ c ∈ body s.data.toList, isDig c := by rw [← HT.out]; exact HD.out
      have hne : body s.data.toList ≠ [] := by
        rw [← HT.out]; intro e
        have := congrArg List.length e
        rw [Array.length_toList] at this
        have e2 : t.data.size = t.size := rfl
        have e3 : ([] : List UInt8).length = 0 := rfl
        omega
      have hle : (body s.data.toList).length ≤ most := by rw [← HT.out]; simp; have e2 : t.data.size = t.size := rfl; omega
      have HG := Lib.hid hdig
      have HN := Lib.hid hne
      have HL := Lib.hid hle
      clear hdig hne hle
      by_cases hi : itoa (spelt s.data.toList) = s.data.toList
      · have hstr : (⟨(itoa (spelt s.data.toList)).toArray⟩ : ByteArray) = s := by rw [hi]
        have HI := Lib.hid hi
        have HR := Lib.hid hstr
        clear hi hstr
        go_wp2_with fail
        rw [← ES.out]
        refine (fmt_any _ _ ?_ ?_).mono ?_
        · rw [ES.out]; omega
        · rw [ES.out]; omega
        rintro e w1 ⟨rfl, hb1⟩
        rw [HR.out]
        go_wp2
        go_ret2
        refine ⟨ret_val (by rw [readAs_if HN.out HL.out HG.out HI.out]; rfl), hb1⟩
      · have hi' : (itoa (spelt s.data.toList) == s.toList) = false := by rw [ByteArray.toList_eq]; simpa using hi
        have HI := Lib.hid hi
        clear hi
        go_wp2_with fail
        rw [← ES.out]
        refine (fmt_any _ _ ?_ ?_).mono ?_
        · rw [ES.out]; omega
        · rw [ES.out]; omega
        rintro e w1 ⟨rfl, hb1⟩
        go_wp2
        go_ret2
        exact ⟨ret_val (rdv_none (readAs_spelt HI.out)), hb1⟩

/-- THE REFERENCE MODEL's 'l1Read', AT EVERY TEXT. -/
theorem readAny (s : ByteArray) (most : Nat) (w : World) (hmax : s.size ≤ 2097152) (hm : most ≤ 12) :
    Calls Tryd.prog 34 #[.string s, .int .i64 most] w fun e w' => e = .returned (rdv (readAs most s.data.toList)) ∧ Below w.heap.size w w' := by
  have short : readAs most s.data.toList = none → (∀ (e : Ending) w', e = .returned (.tuple #[.int .i64 0, .bool false]) ∧ Below w.heap.size w w' → e = .returned (rdv (readAs most s.data.toList)) ∧ Below w.heap.size w w') := fun h e w' ⟨he, hb⟩ => ⟨he.trans (ret_val (rdv_none h)), hb⟩
  have e2 : s.data.size = s.size := rfl
  rcases Nat.eq_zero_or_pos s.size with h0 | h0
  · refine (shortA s most w hmax hm h0).mono fun e w' h => short (readAs_empty ?_) e w' h
    have : s.data.toList = [] := List.eq_nil_of_length_eq_zero (by rw [Array.length_toList]; exact h0)
    rw [this]; rfl
  · by_cases hh : s.data.toList.head? = some 45
    · obtain ⟨eb, _⟩ := body_minus hh
      have hl := tail_length s
      by_cases h1 : s.size = 1
      · refine (shortB s most w hmax hm h1 (head_is h0 hh)).mono fun e w' h => short (readAs_empty ?_) e w' h
        rw [eb]; exact List.eq_nil_of_length_eq_zero (by omega)
      · by_cases h2 : most < s.size - 1
        · refine (shortC s most w hmax hm (by omega) (head_is h0 hh) h2).mono fun e w' h => short (readAs_long ?_) e w' h
          rw [eb, hl]; exact h2
        · exact readMinus s most w (by omega) hmax hm hh (by omega)
    · obtain ⟨eb, _⟩ := body_plain hh
      by_cases h2 : most < s.size
      · refine (shortD s most w hmax hm h0 (head_isnt h0 hh) h2).mono fun e w' h => short (readAs_long ?_) e w' h
        rw [eb]; simp; exact h2
      · exact readPlain s most w h0 hmax hm hh (by omega)
#print axioms readAny
end Go.Proofs.YtkhpfmgclnhggaaDoor

/- Reading a decimal numeral, as the reference model does it and as the library does it. No program in this text. -/
import Derived.Test.YtkhpfmgclnhggaaDoorDigits
import Derived.Lib.AtoiAll
namespace Go.Proofs.YtkhpfmgclnhggaaDoor
open Go.Lib

def stepN (a : Nat) (c : UInt8) : Nat := 10 * a + (c.toNat - 48)
theorem stepN_eq (a : Nat) (c : UInt8) : stepN a c = 10 * a + (c.toNat - 48) := rfl
/-- What digits spell, from what the digits before spelt. -/
def valN (a : Nat) (l : List UInt8) : Nat := l.foldl stepN a
theorem valN_nil (a : Nat) : valN a [] = a := rfl
theorem valN_cons (a : Nat) (c : UInt8) (r : List UInt8) : valN a (c :: r) = valN (stepN a c) r := List.foldl_cons ..
def isDig (c : UInt8) : Prop := 48 ≤ c.toNat ∧ c.toNat ≤ 57

theorem valN_append (a : Nat) (l m : List UInt8) : valN a (l ++ m) = valN (valN a l) m := List.foldl_append ..
theorem valN_snoc (l : List UInt8) (c : UInt8) : valN 0 (l ++ [c]) = 10 * valN 0 l + (c.toNat - 48) := by rw [valN_append, valN_cons, valN_nil, stepN_eq]

theorem dig_byte (u : Nat) : (UInt8.ofNat (48 + u % 10)).toNat = 48 + u % 10 := by
  rw [UInt8.toNat_ofNat']; omega
/-- The digits of a number: digits, and they spell it. -/
theorem digs_spec : ∀ (k u : Nat), u < 10 ^ k → (∀ c ∈ digs u, isDig c) ∧ valN 0 (digs u) = u
  | 0, u, h => by
    have : u = 0 := by simp at h; omega
    subst this
    exact ⟨by simp [digs_zero], rfl⟩
  | k + 1, u, h => by
    by_cases h0 : u = 0
    · subst h0; exact ⟨by simp [digs_zero], rfl⟩
    · obtain ⟨h1, h2⟩ := digs_spec k (u / 10) (by rw [Nat.pow_succ] at h; omega)
      rw [digs_step h0]
      refine ⟨fun c hc => ?_, ?_⟩
      · rcases List.mem_append.1 hc with hc | hc
        · exact h1 c hc
        · simp only [List.mem_singleton] at hc
          subst hc
          unfold isDig
          rw [dig_byte]
          omega
      · rw [valN_snoc, h2, dig_byte]
        omega
theorem lt_pow : ∀ u : Nat, u < 10 ^ u
  | 0 => by simp
  | u + 1 => by have := lt_pow u; rw [Nat.pow_succ]; omega
theorem digs_dig {u : Nat} {c : UInt8} (h : c ∈ digs u) : isDig c := (digs_spec u u (lt_pow u)).1 c h
theorem digs_val (u : Nat) : valN 0 (digs u) = u := (digs_spec u u (lt_pow u)).2
theorem valN_lt : ∀ (l : List UInt8) (a k : Nat), a < 10 ^ k → (∀ c ∈ l, isDig c) → valN a l < 10 ^ (k + l.length)
  | [], a, k, h, _ => by simpa [valN_nil] using h
  | c :: l, a, k, h, hd => by
    have hc := hd c (by simp)
    unfold isDig at hc
    have := valN_lt l (stepN a c) (k + 1) (by rw [Nat.pow_succ, stepN_eq]; omega) (fun x hx => hd x (by simp [hx]))
    rw [valN_cons, List.length_cons, show k + (l.length + 1) = k + 1 + l.length by omega]
    exact this
theorem valN_bound {l : List UInt8} {m : Nat} (hd : ∀ c ∈ l, isDig c) (hm : l.length ≤ m) : valN 0 l < 10 ^ m := by
  have := valN_lt l 0 0 (by simp) hd
  rw [Nat.zero_add] at this
  exact Nat.lt_of_lt_of_le this (Nat.pow_le_pow_right (by omega) hm)
theorem digs_ne {u : Nat} (h : u ≠ 0) : digs u ≠ [] := by rw [digs_step h]; simp

/-- What stands behind the sign. -/
def body (l : List UInt8) : List UInt8 := if l.head? = some 45 then l.tail else l
/-- The number that a text spells. -/
def spelt (l : List UInt8) : Int := if l.head? = some 45 then -(valN 0 (body l) : Int) else valN 0 (body l)

theorem itoa_cases (n : Int) : (n = 0 ∧ itoa n = [48]) ∨ (0 < n ∧ itoa n = digs n.natAbs) ∨ (n < 0 ∧ itoa n = 45 :: digs n.natAbs) := by
  rcases Int.lt_trichotomy n 0 with h | rfl | h
  · exact .inr (.inr ⟨h, itoa_of_neg h⟩)
  · exact .inl ⟨rfl, itoa_zero⟩
  · exact .inr (.inl ⟨h, itoa_of_pos h⟩)
theorem head_digs {u : Nat} : (digs u).head? ≠ some 45 := fun h => by
  have := digs_dig (List.mem_of_head? h)
  unfold isDig at this
  simp at this
/-- A numeral's own body: digits, at least one, no more than m where the number is below 10^m; and it spells the number. -/
theorem itoa_body (n : Int) : (∀ c ∈ body (itoa n), isDig c) ∧ body (itoa n) ≠ [] ∧ spelt (itoa n) = n ∧ (∀ m, 0 < m → n.natAbs < 10 ^ m → (body (itoa n)).length ≤ m) := by
  rcases itoa_cases n with ⟨rfl, e⟩ | ⟨h, e⟩ | ⟨h, e⟩
  · rw [e]
    refine ⟨?_, by decide, by decide, fun m hm _ => by simp [body]; omega⟩
    intro c hc
    simp [body] at hc
    subst hc
    unfold isDig
    decide
  · have eb : body (itoa n) = digs n.natAbs := by rw [e, body, if_neg head_digs]
    refine ⟨?_, ?_, ?_, ?_⟩
    · rw [eb]; exact fun c hc => digs_dig hc
    · rw [eb]; exact digs_ne (by omega)
    · rw [spelt, eb, e, if_neg head_digs, digs_val]; omega
    · rw [eb]; exact fun m _ hm => digs_length_le m _ hm
  · have eb : body (itoa n) = digs n.natAbs := by rw [e, body, if_pos (by simp)]; rfl
    refine ⟨?_, ?_, ?_, ?_⟩
    · rw [eb]; exact fun c hc => digs_dig hc
    · rw [eb]; exact digs_ne (by omega)
    · rw [spelt, eb, e, if_pos (by simp), digs_val]; omega
    · rw [eb]; exact fun m _ hm => digs_length_le m _ hm
theorem itoa_inj {a b : Int} (h : itoa a = itoa b) : a = b := by rw [← (itoa_body a).2.2.1, h, (itoa_body b).2.2.1]

/- THE LIBRARY's Atoi, AT A NUMERAL. -/
theorem parse_digs : ∀ (l : List UInt8) (a : Nat), (∀ c ∈ l, isDig c) → valN a l < 9223372036854775809 → parseUint10 a l = .ok (valN a l)
  | [], a, _, _ => rfl
  | c :: l, a, hd, hv => by
    have hc := hd c (by simp)
    unfold isDig at hc
    have hmono : ∀ (l : List UInt8) (a : Nat), a ≤ valN a l := by
      intro l
      induction l with
      | nil => intro a; exact Nat.le_refl _
      | cons c l ih => intro a; rw [valN_cons]; exact Nat.le_trans (by rw [stepN_eq]; omega) (ih _)
    rw [valN_cons] at hv ⊢
    have := hmono l (stepN a c)
    rw [stepN_eq] at *
    rw [parseUint10, if_pos hc, if_neg (by omega), if_neg (by omega), show a * 10 + (c.toNat - 48) = 10 * a + (c.toNat - 48) by omega]
    exact parse_digs l _ (fun x hx => hd x (by simp [hx])) hv
theorem atoi_itoa (n : Int) (h0 : -9223372036854775808 ≤ n) (h1 : n ≤ 9223372036854775807) : atoiAll (itoa n) = .ok n := by
  rcases itoa_cases n with ⟨rfl, e⟩ | ⟨h, e⟩ | ⟨h, e⟩
  · rw [e]; decide
  · have hne := digs_ne (show n.natAbs ≠ 0 by omega)
    have hd : ∀ c ∈ digs n.natAbs, isDig c := fun c hc => digs_dig hc
    have hp : parseMag (digs n.natAbs) = .ok n.natAbs := by
      rw [parseMag, if_neg hne, parse_digs _ 0 hd (by rw [digs_val]; omega), digs_val]
    rw [e]
    cases hl : digs n.natAbs with
    | nil => exact absurd hl hne
    | cons c r =>
      have hc := hd c (by rw [hl]; simp)
      unfold isDig at hc
      rw [hl] at hp
      unfold atoiAll
      have e43 : ¬ c.toNat = 43 := by omega
      have e45 : ¬ c.toNat = 45 := by omega
      simp only [e43, e45, or_self, if_false, hp, not_false_iff, true_and, false_and]
      rw [if_neg (by omega)]
      congr 1
      omega
  · have hne := digs_ne (show n.natAbs ≠ 0 by omega)
    have hp : parseMag (digs n.natAbs) = .ok n.natAbs := by
      rw [parseMag, if_neg hne, parse_digs _ 0 (fun c hc => digs_dig hc) (by rw [digs_val]; omega), digs_val]
    rw [e]
    unfold atoiAll
    have e45 : (45 : UInt8).toNat = 45 := rfl
    simp only [e45, or_true, if_true, hp, not_true, false_and, true_and, if_false]
    rw [if_neg (by omega)]
    congr 1
    omega

/- THE REFERENCE MODEL's READING: what 'l1Read' answers. -/
open Classical in
noncomputable def readAs (most : Nat) (l : List UInt8) : Option Int :=
  if body l ≠ [] ∧ (body l).length ≤ most ∧ (∀ c ∈ body l, isDig c) ∧ itoa (spelt l) = l then some (spelt l) else none
theorem readAs_if {most : Nat} {l : List UInt8} (h1 : body l ≠ []) (h2 : (body l).length ≤ most) (h3 : ∀ c ∈ body l, isDig c) (h4 : itoa (spelt l) = l) : readAs most l = some (spelt l) := by
  unfold readAs
  rw [if_pos ⟨h1, h2, h3, h4⟩]
theorem readAs_empty {most : Nat} {l : List UInt8} (h : body l = []) : readAs most l = none := by
  unfold readAs
  rw [if_neg fun e => e.1 h]
theorem readAs_long {most : Nat} {l : List UInt8} (h : most < (body l).length) : readAs most l = none := by
  unfold readAs
  rw [if_neg fun e => by have := e.2.1; omega]
theorem readAs_other {most : Nat} {l : List UInt8} {c : UInt8} (hc : c ∈ body l) (h : ¬ isDig c) : readAs most l = none := by
  unfold readAs
  rw [if_neg fun e => h (e.2.2.1 c hc)]
theorem readAs_spelt {most : Nat} {l : List UInt8} (h : itoa (spelt l) ≠ l) : readAs most l = none := by
  unfold readAs
  rw [if_neg fun e => h e.2.2.2]
theorem body_minus {l : List UInt8} (h : l.head? = some 45) : body l = l.tail ∧ spelt l = -(valN 0 l.tail : Int) := by
  have e : body l = l.tail := by rw [body, if_pos h]
  rw [spelt, if_pos h, e]
  exact ⟨rfl, rfl⟩
theorem body_plain {l : List UInt8} (h : l.head? ≠ some 45) : body l = l ∧ spelt l = valN 0 l := by
  have e : body l = l := by rw [body, if_neg h]
  rw [spelt, if_neg h, e]
  exact ⟨rfl, rfl⟩
theorem take_one_more (t : ByteArray) (k : Nat) (h : k < t.size) : t.data.toList.take (k + 1) = t.data.toList.take k ++ [t[k]] := by
  rw [List.take_succ_eq_append_getElem (by simpa using h)]; rfl
theorem readAs_yes {most : Nat} {n : Int} (hm : 0 < most) (h : n.natAbs < 10 ^ most) : readAs most (itoa n) = some n := by
  obtain ⟨h1, h2, h3, h4⟩ := itoa_body n
  unfold readAs
  rw [if_pos ⟨h2, h4 most hm h, h1, by rw [h3]⟩, h3]
theorem readAs_some {most : Nat} {l : List UInt8} {n : Int} (h : readAs most l = some n) : itoa n = l ∧ n.natAbs < 10 ^ most := by
  unfold readAs at h
  split at h
  · rename_i hc
    injection h with h
    subst h
    refine ⟨hc.2.2.2, ?_⟩
    have := valN_bound hc.2.2.1 hc.2.1
    unfold spelt
    split <;> omega
  · cases h
theorem readAs_none {most : Nat} {l : List UInt8} (hm : 0 < most) (h : readAs most l = none) {n : Int} (hn : n.natAbs < 10 ^ most) : itoa n ≠ l := fun e => by
  subst e
  rw [readAs_yes hm hn] at h
  cases h
end Go.Proofs.YtkhpfmgclnhggaaDoor

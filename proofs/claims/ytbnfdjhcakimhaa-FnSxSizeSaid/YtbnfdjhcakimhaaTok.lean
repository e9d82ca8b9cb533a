/- Texts as tokens: what the reader answers, said by the tokens alone. -/
import Derived.Test.YtbnfdjhcakimhaaReadX
namespace Go.Proofs.Ytbnfdjhcakimhaa
open Go.RowKit Go.Lib

inductive Tok where
  | lp | rp | bad
  | word (l : List UInt8)
/-- A word that has ended; a byte that is none of a word. -/
def fl (l : List UInt8) : List Tok := if l = [] then [] else [.word l]
def mk1 (c : UInt8) : List Tok := if isW c then [] else if c = 40 then [.lp] else if c = 41 then [.rp] else [.bad]
/-- The tokens, a word under way. -/
def tk : List UInt8 → List UInt8 → List Tok
  | pend, [] => fl pend
  | pend, c :: r => if okByte c then tk (pend ++ [c]) r else fl pend ++ (mk1 c ++ tk [] r)
def tok (l : List UInt8) : List Tok := tk [] l
theorem fl_nil : fl [] = [] := rfl
theorem fl_some {l : List UInt8} (h : l ≠ []) : fl l = [.word l] := if_neg h
theorem tk_ok {pend r : List UInt8} {c : UInt8} (h : okByte c = true) : tk pend (c :: r) = tk (pend ++ [c]) r := by rw [tk, if_pos h]
theorem tk_no {pend r : List UInt8} {c : UInt8} (h : okByte c = false) : tk pend (c :: r) = fl pend ++ (mk1 c ++ tk [] r) := by rw [tk, if_neg (by rw [h]; decide)]
theorem tok_nil : tok [] = [] := rfl
theorem tk_word : ∀ (l pend : List UInt8), tk pend l = fl (pend ++ l.takeWhile okByte) ++ tok (l.dropWhile okByte)
  | [], pend => by simp [tk, tok, fl]
  | c :: r, pend => by
    cases h : okByte c with
    | true => rw [tk_ok h, tk_word r (pend ++ [c]), List.takeWhile_cons, if_pos h, List.dropWhile_cons, if_pos h]; simp
    | false => rw [List.takeWhile_cons, if_neg (by rw [h]; decide), List.dropWhile_cons, if_neg (by rw [h]; decide), tok, tk_no h, tk_no h]; simp [fl_nil]
/-- Cut at a byte that is none of a word. -/
theorem tk_cut {c : UInt8} (h : okByte c = false) : ∀ (l pend r : List UInt8), tk pend (l ++ c :: r) = tk pend l ++ (mk1 c ++ tok r)
  | [], pend, r => by rw [List.nil_append, tk_no h]; rfl
  | d :: l, pend, r => by
    cases hd : okByte d with
    | true => rw [List.cons_append, tk_ok hd, tk_ok hd, tk_cut h l _ r]
    | false => rw [List.cons_append, tk_no hd, tk_no hd, tk_cut h l [] r]; simp
theorem white_no {c : UInt8} (h : isW c = true) : okByte c = false := by
  rw [isW, Bool.or_eq_true, beq_iff_eq, beq_iff_eq] at h
  rcases h with rfl | rfl <;> rfl
theorem mk1_white {c : UInt8} (h : isW c = true) : mk1 c = [] := if_pos h
theorem tok_skip : ∀ (l : List UInt8), tok (skipW l) = tok l
  | [] => rfl
  | c :: r => by
    cases h : isW c with
    | true => rw [skipW_yes h, tok_skip r]; conv => rhs; rw [tok, tk_no (white_no h), mk1_white h]
              rfl
    | false => rw [skipW_no h]
theorem mk1_not {c : UInt8} (h : isW c = false) : mk1 c ≠ [] := by
  rw [mk1, if_neg (by rw [h]; decide)]
  split
  · simp
  · split <;> simp
theorem tok_end {l : List UInt8} (h : tok l = []) : skipW l = [] := by
  rw [← tok_skip] at h
  cases hs : skipW l with
  | nil => rfl
  | cons c r =>
    have hw := skipW_head (l := l) (c := c) (by rw [hs]; rfl)
    rw [hs] at h
    cases hc : okByte c with
    | true =>
      rw [tok, tk_ok hc, tk_word] at h
      rw [fl_some (by simp)] at h
      simp at h
    | false =>
      rw [tok, tk_no hc, fl_nil] at h
      simp at h
      exact absurd h.1 (mk1_not hw)

mutual
/-- An expression's tokens. -/
def xt : SX → List Tok
  | .mk a l => if a.size = 0 then .lp :: (xtL l ++ [.rp]) else [.word a.data.toList]
def xtL : List SX → List Tok
  | [] => []
  | x :: r => xt x ++ xtL r
end
theorem xt_list {a : ByteArray} {l : List SX} (h : a.size = 0) : xt (.mk a l) = .lp :: (xtL l ++ [.rp]) := by rw [xt, if_pos h]
theorem xt_word {a : ByteArray} {l : List SX} (h : ¬ a.size = 0) : xt (.mk a l) = [.word a.data.toList] := by rw [xt, if_neg h]
theorem xtL_snoc : ∀ (l : List SX) (x : SX), xtL (l ++ [x]) = xtL l ++ xt x
  | [], x => by simp [xtL]
  | y :: r, x => by rw [List.cons_append, xtL, xtL, xtL_snoc r x, List.append_assoc]
theorem xt_head (x : SX) : ∃ t ts, xt x = t :: ts ∧ t ≠ .rp := by
  cases x with
  | mk a l =>
    by_cases h : a.size = 0
    · exact ⟨.lp, _, xt_list h, by simp⟩
    · exact ⟨_, [], xt_word h, by simp⟩
/-- What a first token says of the text. -/
theorem tok_lp {l : List UInt8} {ts : List Tok} (h : tok l = .lp :: ts) : ∃ r, skipW l = 40 :: r ∧ tok r = ts := by
  rw [← tok_skip] at h
  cases hs : skipW l with
  | nil => rw [hs] at h; simp [tok_nil] at h
  | cons c r =>
    have hw := skipW_head (l := l) (c := c) (by rw [hs]; rfl)
    rw [hs] at h
    cases hc : okByte c with
    | true =>
      rw [tok, tk_ok hc, tk_word, fl_some (by simp)] at h
      simp at h
    | false =>
      rw [tok, tk_no hc, fl_nil, List.nil_append, mk1, if_neg (by rw [hw]; decide)] at h
      by_cases h40 : c = 40
      · subst h40
        simp at h
        exact ⟨r, rfl, h⟩
      · rw [if_neg h40] at h
        split at h <;> simp at h
theorem tok_rp {l : List UInt8} {ts : List Tok} (h : tok l = .rp :: ts) : ∃ r, skipW l = 41 :: r ∧ tok r = ts := by
  rw [← tok_skip] at h
  cases hs : skipW l with
  | nil => rw [hs] at h; simp [tok_nil] at h
  | cons c r =>
    have hw := skipW_head (l := l) (c := c) (by rw [hs]; rfl)
    rw [hs] at h
    cases hc : okByte c with
    | true =>
      rw [tok, tk_ok hc, tk_word, fl_some (by simp)] at h
      simp at h
    | false =>
      rw [tok, tk_no hc, fl_nil, List.nil_append, mk1, if_neg (by rw [hw]; decide)] at h
      by_cases h40 : c = 40
      · subst h40
        simp at h
      · rw [if_neg h40] at h
        by_cases h41 : c = 41
        · subst h41
          simp at h
          exact ⟨r, rfl, h⟩
        · rw [if_neg h41] at h
          simp at h
theorem tok_word {l a : List UInt8} {ts : List Tok} (h : tok l = .word a :: ts) : (skipW l).takeWhile okByte = a ∧ a ≠ [] ∧ tok ((skipW l).dropWhile okByte) = ts := by
  rw [← tok_skip, tok, tk_word, List.nil_append] at h
  by_cases he : (skipW l).takeWhile okByte = []
  · rw [he, fl_nil, List.nil_append] at h
    cases hs : skipW l with
    | nil => rw [hs] at h; simp [tok_nil] at h
    | cons c r =>
      have hw := skipW_head (l := l) (c := c) (by rw [hs]; rfl)
      have hc : okByte c = false := by
        cases hc : okByte c with
        | false => rfl
        | true => rw [hs, List.takeWhile_cons, if_pos hc] at he; simp at he
      rw [hs, List.dropWhile_cons, if_neg (by rw [hc]; decide), tok, tk_no hc, fl_nil, List.nil_append, mk1, if_neg (by rw [hw]; decide)] at h
      split at h
      · simp at h
      · split at h <;> simp at h
  · rw [fl_some he] at h
    simp at h
    exact ⟨h.1, by rw [← h.1]; exact he, h.2⟩
theorem tok_of_lp {l r : List UInt8} (h : skipW l = 40 :: r) : tok l = .lp :: tok r := by
  rw [← tok_skip, h, tok, tk_no (by rfl), fl_nil]; rfl
theorem tok_of_rp {l r : List UInt8} (h : skipW l = 41 :: r) : tok l = .rp :: tok r := by
  rw [← tok_skip, h, tok, tk_no (by rfl), fl_nil]; rfl
theorem tok_of_word {l : List UInt8} (h : (skipW l).takeWhile okByte ≠ []) : tok l = .word ((skipW l).takeWhile okByte) :: tok ((skipW l).dropWhile okByte) := by
  rw [← tok_skip, tok, tk_word, List.nil_append, fl_some h]; rfl
end Go.Proofs.Ytbnfdjhcakimhaa

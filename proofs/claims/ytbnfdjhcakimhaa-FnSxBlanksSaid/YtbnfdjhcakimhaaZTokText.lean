/- The tokens of a formatted expression are the expression's; blanks around a text change none. -/
import Derived.Test.YtbnfdjhcakimhaaZSpecP
import Derived.Test.YtbnfdjhcakimhaaQ1
import Derived.Lib.Join
namespace Go.Proofs.Ytbnfdjhcakimhaa
open Go.RowKit Go.Lib

theorem tok_cut {c : UInt8} (h : okByte c = false) (l r : List UInt8) : tok (l ++ c :: r) = tok l ++ (mk1 c ++ tok r) := tk_cut h l [] r
theorem all_while : ∀ (l : List UInt8), l.all okByte = true → l.takeWhile okByte = l ∧ l.dropWhile okByte = []
  | [], _ => ⟨rfl, rfl⟩
  | c :: r, h => by
    rw [List.all_cons, Bool.and_eq_true] at h
    obtain ⟨h1, h2⟩ := all_while r h.2
    rw [List.takeWhile_cons, if_pos h.1, List.dropWhile_cons, if_pos h.1, h1]
    exact ⟨rfl, h2⟩
theorem tok_all {l : List UInt8} (h : l.all okByte = true) (hne : l ≠ []) : tok l = [.word l] := by
  rw [tok, tk_word, (all_while l h).1, (all_while l h).2, List.nil_append, fl_some hne]; rfl
mutual
theorem tok_text : ∀ (x : SX), x.form = true → tok x.text.data.toList = xt x
  | .mk a l, h => by
    rw [SX.form] at h
    rw [SX.text]
    by_cases h0 : a.size = 0
    · rw [if_pos h0] at h
      rw [if_pos h0, xt_list h0]
      have e : ((⟨#[40]⟩ : ByteArray) ++ ⟨(join ((SX.textL l).map (·.data.toList)) [32]).toArray⟩ ++ ⟨#[41]⟩).data.toList = 40 :: (join ((SX.textL l).map (·.data.toList)) [32] ++ 41 :: []) := by simp
      rw [e]
      have h1 := tok_cut (c := 40) rfl [] (join ((SX.textL l).map (·.data.toList)) [32] ++ 41 :: [])
      rw [List.nil_append] at h1
      rw [h1, tok_cut (c := 41) rfl, tok_join l h]
      rfl
    · rw [if_neg h0, Bool.and_eq_true, okAtom, Bool.and_eq_true] at h
      rw [if_neg h0, xt_word h0]
      refine tok_all h.1.1 fun e => h0 ?_
      have := congrArg List.length e
      simpa using this
theorem tok_join : ∀ (l : List SX), SX.formL l = true → tok (join ((SX.textL l).map (·.data.toList)) [32]) = xtL l
  | [], _ => rfl
  | x :: r, h => by
    rw [SX.formL, Bool.and_eq_true] at h
    rw [SX.textL, List.map_cons, join_cons, tok_tail r x.text.data.toList h.2, tok_text x h.1, xtL]
theorem tok_tail : ∀ (l : List SX) (A : List UInt8), SX.formL l = true → tok (A ++ joinTail [32] ((SX.textL l).map (·.data.toList))) = tok A ++ xtL l
  | [], A, _ => by simp [SX.textL, joinTail, xtL]
  | x :: r, A, h => by
    rw [SX.formL, Bool.and_eq_true] at h
    have e : joinTail [32] ((SX.textL (x :: r)).map (·.data.toList)) = 32 :: (x.text.data.toList ++ joinTail [32] ((SX.textL r).map (·.data.toList))) := by
      rw [SX.textL]; simp [joinTail]
    rw [e, tok_cut (c := 32) rfl, tok_tail r _ h.2, tok_text x h.1, xtL]
    rfl
end
theorem specP_text (x : SX) (h : x.valid = true) : specP x.text.data.toList = some x := by
  rw [specP_iff]
  exact ⟨tok_text x (SX.valid_iff.1 h).2.1, h⟩
theorem specP_nil : specP [] = none := by
  cases h : specP [] with
  | none => rfl
  | some x =>
    have h1 := ((specP_iff _ _).1 h).1
    obtain ⟨t, ts, e, _⟩ := xt_head x
    rw [e] at h1
    cases h1
theorem specP_tok {a b : List UInt8} (h : tok a = tok b) : specP a = specP b := by
  apply Option.ext
  intro x
  rw [specP_iff, specP_iff, h]
theorem tok_blanks (l : List UInt8) : tok (10 :: 32 :: (l ++ [32, 10])) = tok l := by
  have h1 := tok_cut (c := 10) rfl [] (32 :: (l ++ [32, 10]))
  have h2 := tok_cut (c := 32) rfl [] (l ++ [32, 10])
  have h3 := tok_cut (c := 32) rfl l [10]
  rw [List.nil_append] at h1 h2
  rw [h1, h2, h3, mk1_white rfl, mk1_white rfl]
  have h4 : tok [10] = [] := rfl
  rw [h4]
  simp [tok_nil]
end Go.Proofs.Ytbnfdjhcakimhaa

/- The reference model's reader, said by the tokens. -/
import Derived.Test.YtbnfdjhcakimhaaQ1
import Derived.Test.YtbnfdjhcakimhaaZReadD
namespace Go.Proofs.Ytbnfdjhcakimhaa
open Go.RowKit Go.Lib

mutual
/-- In form, but for the words' lengths. -/
def SX.wf : SX → Bool
  | .mk a l => if a.size = 0 then SX.wfL l else a.data.toList.all okByte && decide (l.length = 0)
def SX.wfL : List SX → Bool
  | [] => true
  | x :: r => x.wf && SX.wfL r
end
mutual
theorem SX.form_wf : ∀ (x : SX), x.form = true → x.wf = true
  | .mk a l => fun h => by
    rw [SX.form] at h
    rw [SX.wf]
    split at h
    · rename_i h0; rw [if_pos h0]; exact SX.formL_wf l h
    · rename_i h0
      rw [if_neg h0]
      rw [Bool.and_eq_true, okAtom, Bool.and_eq_true] at h
      rw [h.1.1, h.2]; rfl
theorem SX.formL_wf : ∀ (l : List SX), SX.formL l = true → SX.wfL l = true
  | [], _ => rfl
  | x :: r, h => by
    rw [SX.formL, Bool.and_eq_true] at h
    rw [SX.wfL, SX.form_wf x h.1, SX.formL_wf r h.2]; rfl
end
theorem wfL_snoc : ∀ (l : List SX) (x : SX), SX.wfL (l ++ [x]) = (SX.wfL l && x.wf)
  | [], x => by simp [SX.wfL]
  | y :: r, x => by rw [List.cons_append, SX.wfL, SX.wfL, wfL_snoc r x, Bool.and_assoc]

mutual
theorem readX_sound : ∀ (n : Nat) (l : List UInt8) (d z : Nat) {x : SX} {r : List UInt8} {z' : Nat}, d ≤ 14 → readX n l d z = some (x, r, z') → tok l = xt x ++ tok r ∧ z' = z + x.nodes ∧ d + x.depth ≤ 14 ∧ x.wf = true
  | 0, _, _, _, _, _, _, _, h => by rw [readX] at h; cases h
  | n + 1, l, d, z, x, r, z', hd, h => by
    rw [readX] at h
    split at h
    · cases h
    · split at h
      · rename_i h1 h2
        injection h with h; injection h with h h'; injection h' with h' h''
        subst h h' h''
        have hsz : ¬ (⟨((skipW l).takeWhile okByte).toArray⟩ : ByteArray).size = 0 := by
          show ¬ ((skipW l).takeWhile okByte).toArray.size = 0
          have := List.length_pos_iff.2 h2
          simp at this ⊢
          intro e
          exact h2 (List.eq_nil_of_length_eq_zero (by simp [e]))
        refine ⟨?_, ?_, ?_, ?_⟩
        · rw [tok_of_word h2, xt_word hsz]; rfl
        · rw [SX.nodes, SX.nodesL]
        · rw [SX.depth, if_neg hsz]; omega
        · rw [SX.wf, if_neg hsz]
          simp
      · split at h
        · cases h
        · rename_i h1 h2 h3
          have hne : skipW l ≠ [] := fun e => h1 (.inl e)
          have h40 : (skipW l).head? = some 40 := Decidable.not_not.1 fun e => h3 (.inl e)
          have h14 : d ≠ 14 := fun e => h3 (.inr e)
          obtain ⟨c, t, hs⟩ := List.exists_cons_of_ne_nil hne
          rw [hs] at h40 h
          injection h40 with h40
          subst h40
          obtain ⟨es, rfl, e1, e2, e3, e4⟩ := readL_sound n _ (d + 1) (z + 1) [] (by omega) h
          rw [List.tail_cons] at e1
          refine ⟨?_, ?_, ?_, ?_⟩
          · rw [tok_of_lp hs, e1, List.nil_append, xt_list (by rfl)]; simp
          · rw [e2, List.nil_append, SX.nodes]; omega
          · rw [List.nil_append, SX.depth, if_pos (by rfl)]; omega
          · rw [List.nil_append, SX.wf, if_pos (by rfl)]; exact e4
theorem readL_sound : ∀ (n : Nat) (l : List UInt8) (d z : Nat) (acc : List SX) {x : SX} {r : List UInt8} {z' : Nat}, d ≤ 14 → readL n l d z acc = some (x, r, z') →
    ∃ es, x = .mk ByteArray.empty (acc ++ es) ∧ tok l = xtL es ++ .rp :: tok r ∧ z' = z + SX.nodesL es ∧ d + SX.depthL es ≤ 14 ∧ SX.wfL es = true
  | 0, _, _, _, _, _, _, _, _, h => by rw [readL] at h; cases h
  | n + 1, l, d, z, acc, x, r, z', hd, h => by
    rw [readL] at h
    split at h
    · rename_i h1
      injection h with h; injection h with h h'; injection h' with h' h''
      subst h h' h''
      have hne : skipW l ≠ [] := fun e => by rw [e] at h1; cases h1
      obtain ⟨c, t, hs⟩ := List.exists_cons_of_ne_nil hne
      rw [hs] at h1 ⊢
      injection h1 with h1
      subst h1
      exact ⟨[], by rw [List.append_nil], by rw [tok_of_rp hs]; rfl, by rw [SX.nodesL]; rfl, by rw [SX.depthL]; omega, rfl⟩
    · split at h
      · cases h
      · rename_i y rest' z1 h1
        obtain ⟨a1, a2, a3, a4⟩ := readX_sound n _ d z hd h1
        obtain ⟨es, rfl, e1, e2, e3, e4⟩ := readL_sound n _ d _ _ hd h
        rw [tok_skip] at a1
        refine ⟨y :: es, by simp, ?_, ?_, ?_, ?_⟩
        · rw [a1, e1, xtL]; simp
        · rw [e2, a2, SX.nodesL]; omega
        · rw [SX.depthL]; omega
        · rw [SX.wfL, a4, e4]; rfl
end

theorem wf_word {a : ByteArray} {l : List SX} (h : ¬ a.size = 0) (hw : (SX.mk a l).wf = true) : l = [] ∧ a.data.toList.all okByte = true := by
  rw [SX.wf, if_neg h, Bool.and_eq_true, decide_eq_true_eq] at hw
  exact ⟨List.eq_nil_of_length_eq_zero hw.2, hw.1⟩
theorem skip_len (l : List UInt8) : (skipW l).length ≤ l.length := skipW_le l

mutual
theorem readX_full : ∀ (n : Nat) (l : List UInt8) (d z : Nat) (x : SX) (ts : List Tok), 2 * l.length + 1 ≤ n → d + x.depth ≤ 14 → z + x.nodes ≤ 900 → x.wf = true → tok l = xt x ++ ts → ∃ r, readX n l d z = some (x, r, z + x.nodes) ∧ tok r = ts
  | 0, _, _, _, _, _, hn, _, _, _, _ => by omega
  | n + 1, l, d, z, .mk a es, ts, hn, hd, hz, hw, ht => by
    have hnod := SX.nodes_eq (.mk a es)
    simp only [SX.list] at hnod
    have hl := skip_len l
    by_cases ha : a.size = 0
    · obtain rfl := empty_of ha
      rw [xt_list ha, List.cons_append] at ht
      obtain ⟨r, hs, hr⟩ := tok_lp ht
      rw [SX.depth, if_pos ha] at hd
      rw [SX.wf, if_pos ha] at hw
      rw [hs, List.length_cons] at hl
      obtain ⟨r', h1, h2⟩ := readL_full n r (d + 1) (z + 1) [] es ts (by omega) (by omega) (by omega) hw (by rw [hr]; simp)
      refine ⟨r', ?_, h2⟩
      rw [readX, hs, if_neg (by simp; omega), if_neg (by simp [show okByte 40 = false from rfl]), if_neg (by simp; omega), List.tail_cons, h1, hnod]
      simp
      omega
    · obtain ⟨rfl, hall⟩ := wf_word ha hw
      rw [xt_word ha] at ht
      obtain ⟨h1, h2, h3⟩ := tok_word ht
      refine ⟨_, ?_, h3⟩
      have hne : skipW l ≠ [] := fun e => by rw [e] at h1; exact h2 h1.symm
      rw [readX, if_neg (by rintro (e | e); exact hne e; rw [hnod, SX.nodesL] at hz; omega), if_pos (by rw [h1]; exact h2), h1, hnod, SX.nodesL]
theorem readL_full : ∀ (n : Nat) (l : List UInt8) (d z : Nat) (acc es : List SX) (ts : List Tok), 2 * l.length + 2 ≤ n → d + SX.depthL es ≤ 14 → z + SX.nodesL es ≤ 900 → SX.wfL es = true → tok l = xtL es ++ .rp :: ts →
    ∃ r, readL n l d z acc = some (.mk ByteArray.empty (acc ++ es), r, z + SX.nodesL es) ∧ tok r = ts
  | 0, _, _, _, _, _, _, hn, _, _, _, _ => by omega
  | n + 1, l, d, z, acc, [], ts, hn, hd, hz, hw, ht => by
    rw [xtL, List.nil_append] at ht
    obtain ⟨r, hs, hr⟩ := tok_rp ht
    refine ⟨r, ?_, hr⟩
    rw [readL, hs, if_pos (by rfl), List.append_nil, SX.nodesL]; rfl
  | n + 1, l, d, z, acc, y :: es, ts, hn, hd, hz, hw, ht => by
    have hl := skip_len l
    rw [SX.depthL] at hd
    rw [SX.nodesL] at hz
    rw [SX.wfL, Bool.and_eq_true] at hw
    rw [xtL, List.append_assoc] at ht
    obtain ⟨r, h1, h2⟩ := readX_full n (skipW l) d z y (xtL es ++ .rp :: ts) (by omega) (by omega) (by omega) hw.1 (by rw [tok_skip]; exact ht)
    have hless := readX_less n _ _ _ h1
    obtain ⟨r', h3, h4⟩ := readL_full n r d (z + y.nodes) (acc ++ [y]) es ts (by omega) (by omega) (by omega) hw.2 h2
    refine ⟨r', ?_, h4⟩
    have hno : ¬ (skipW l).head? = some 41 := by
      intro e
      have hne : skipW l ≠ [] := fun e0 => by rw [e0] at e; cases e
      obtain ⟨c, t, hs⟩ := List.exists_cons_of_ne_nil hne
      rw [hs] at e
      injection e with e
      subst e
      rw [tok_of_rp hs] at ht
      obtain ⟨t0, ts0, hx, hne2⟩ := xt_head y
      rw [hx] at ht
      injection ht with ht _
      exact hne2 ht.symm
    rw [readL, if_neg hno, h1]
    simp only
    rw [h3, SX.nodesL]
    simp
    omega
end

/-- What the reference model's reader answers. -/
def specP (l : List UInt8) : Option SX :=
  match readX (2 * l.length + 1) l 0 0 with
  | none => none
  | some (x, r, _) => if skipW r = [] ∧ x.valid = true then some x else none
theorem specP_iff (l : List UInt8) (x : SX) : specP l = some x ↔ tok l = xt x ∧ x.valid = true := by
  rw [specP]
  constructor
  · intro h
    split at h
    · cases h
    · rename_i y r z' h1
      split at h
      · rename_i h2
        injection h with h
        subst h
        obtain ⟨a1, _, _, _⟩ := readX_sound _ _ _ _ (by omega) h1
        refine ⟨?_, h2.2⟩
        rw [a1, ← tok_skip r, h2.1, tok_nil, List.append_nil]
      · cases h
  · rintro ⟨h1, h2⟩
    obtain ⟨v1, v2, v3⟩ := SX.valid_iff.1 h2
    obtain ⟨r, h3, h4⟩ := readX_full (2 * l.length + 1) l 0 0 x [] (Nat.le_refl _) (by omega) (by omega) (SX.form_wf x v2) (by rw [List.append_nil]; exact h1)
    rw [h3]
    simp only
    rw [if_pos ⟨tok_end h4, h2⟩]
end Go.Proofs.Ytbnfdjhcakimhaa

/- Cutting a list of bytes at a byte, as the reference model's loop does it and as the library does it: the same pieces. No program in this text. -/
import Derived.Lib.SplitLaws
namespace Go.Proofs.YtkhpfmgclnhggaaDoor
open Go.Lib

def consHead (c : UInt8) : List (List UInt8) → List (List UInt8)
  | [] => [[c]]
  | p :: ps => (c :: p) :: ps
/-- The pieces between the bytes b. -/
def parts (b : UInt8) : List UInt8 → List (List UInt8)
  | [] => [[]]
  | c :: r => if c = b then [] :: parts b r else consHead c (parts b r)

theorem parts_ne (b : UInt8) (l : List UInt8) : parts b l ≠ [] := by
  cases l with
  | nil => simp [parts]
  | cons c r =>
    unfold parts
    split
    · simp
    · cases parts b r <;> simp [consHead]
theorem parts_none (b : UInt8) : ∀ l : List UInt8, (∀ x ∈ l, x ≠ b) → parts b l = [l]
  | [], _ => rfl
  | c :: r, h => by
    unfold parts
    rw [if_neg (h c (by simp)), parts_none b r (fun x hx => h x (by simp [hx]))]
    rfl
theorem parts_hit (b : UInt8) (r : List UInt8) : ∀ p : List UInt8, (∀ x ∈ p, x ≠ b) → parts b (p ++ b :: r) = p :: parts b r
  | [], _ => by simp [parts]
  | c :: p, h => by
    rw [List.cons_append, parts, if_neg (h c (by simp)), parts_hit b r p (fun x hx => h x (by simp [hx]))]
    rfl
theorem parts_length_le (b : UInt8) : ∀ l : List UInt8, (parts b l).length ≤ l.length + 1
  | [] => by simp [parts]
  | c :: r => by
    have ih := parts_length_le b r
    unfold parts
    split
    · simp; omega
    · cases h : parts b r with
      | nil => exact absurd h (parts_ne b r)
      | cons p ps => rw [h] at ih; simp [consHead] at ih ⊢; omega

theorem prefix_one (c b : UInt8) (r : List UInt8) : [b].isPrefixOf (c :: r) = (b == c) := by simp [List.isPrefixOf]
theorem splitK_cons {b c : UInt8} (h : c ≠ b) : ∀ (k : Nat) (r : List UInt8), splitK [b] 0 k (c :: r) = consHead c (splitK [b] 0 k r)
  | 0, r => rfl
  | k + 1, r => by
    have hi : index (c :: r) [b] = if index r [b] == -1 then -1 else index r [b] + 1 := by
      rw [index, prefix_one, if_neg (by simpa using fun e => h e.symm)]
    have hg := index_ge r [b]
    rw [splitK, splitK, hi]
    by_cases h1 : index r [b] = -1
    · rw [h1]; rfl
    · rw [if_neg (show ¬ (index r [b] == -1) = true by simpa using h1), if_neg (by simp; omega), if_neg (by simp; omega)]
      have e : (index r [b] + 1).toNat = (index r [b]).toNat + 1 := by omega
      rw [e]
      simp [consHead, Nat.add_right_comm]
/-- THE LIBRARY's PIECES. -/
theorem splitK_parts (b : UInt8) : ∀ s : List UInt8, splitK [b] 0 (count s [b]) s = parts b s
  | [] => by rw [count_one]; rfl
  | c :: r => by
    have ih := splitK_parts b r
    unfold parts
    by_cases h : c = b
    · subst h
      rw [if_pos rfl, count_cons_eq, Nat.add_comm, splitK]
      have hi : index (c :: r) [c] = 0 := by rw [index, prefix_one, if_pos (by simp)]
      rw [hi, ← ih]
      rfl
    · rw [if_neg h, count_cons_ne c b r h, splitK_cons h, ih]

theorem splitB_parts (s : ByteArray) (b : UInt8) : (splitB ⟨#[b]⟩ 0 (countB s ⟨#[b]⟩) s).map (·.data.toList) = parts b s.data.toList := by
  rw [splitB_data]
  exact splitK_parts b s.data.toList

/- THE MODEL's LOOP: what it has laid by, and what is still to cut. -/
theorem parts_last {b : UInt8} {l : List UInt8} {f : Nat} {done : List (List UInt8)} (h : done ++ parts b (l.drop f) = parts b l) (hno : ∀ j, f ≤ j → j < l.length → l[j]? ≠ some b) : done ++ [(l.drop f)] = parts b l := by
  rw [← h, parts_none b (l.drop f) (fun x hx e => by
    obtain ⟨j, hj, hjx⟩ := List.getElem_of_mem hx
    have hj' : f + j < l.length := by simp at hj; omega
    refine hno (f + j) (by omega) hj' ?_
    rw [List.getElem?_eq_getElem hj', ← e, ← hjx]
    simp)]
theorem parts_cut {b : UInt8} {l : List UInt8} {f i : Nat} {done : List (List UInt8)} (h : done ++ parts b (l.drop f) = parts b l) (hfi : f ≤ i) (hi : l[i]? = some b) (hno : ∀ j, f ≤ j → j < i → l[j]? ≠ some b) :
    (done ++ [(l.drop f).take (i - f)]) ++ parts b (l.drop (i + 1)) = parts b l := by
  have hil : i < l.length := by
    rcases Nat.lt_or_ge i l.length with h1 | h1
    · exact h1
    · rw [List.getElem?_eq_none h1] at hi; cases hi
  have e : l.drop f = (l.drop f).take (i - f) ++ b :: l.drop (i + 1) := by
    have h2 : (l.drop f).drop (i - f) = b :: l.drop (i + 1) := by
      rw [List.drop_drop, show f + (i - f) = i by omega, List.drop_eq_getElem_cons hil]
      rw [List.getElem?_eq_getElem hil] at hi
      injection hi with hi
      rw [hi]
    rw [← h2, List.take_append_drop]
  rw [← h, List.append_assoc]
  congr 1
  rw [e]
  rw [parts_hit b _ _ (fun x hx e2 => by
    obtain ⟨j, hj, hjx⟩ := List.getElem_of_mem hx
    have hj1 : j < i - f := by simp at hj; omega
    refine hno (f + j) (by omega) (by omega) ?_
    rw [List.getElem?_eq_getElem (by omega), ← e2, ← hjx]
    simp)]
  rw [← e]
  rfl

/-- WHERE THE MODEL's LOOP STANDS: at i, the piece under way began at f, these are laid by. -/
def SplitAt (b : UInt8) (l : List UInt8) (i f : Nat) (done : List ByteArray) : Prop :=
  (i ≤ l.length ∧ f ≤ i ∧ done.map (·.data.toList) ++ parts b (l.drop f) = parts b l ∧ ∀ j, f ≤ j → j < i → l[j]? ≠ some b) ∨ (i = l.length + 1 ∧ f ≤ i ∧ done.map (·.data.toList) = parts b l)
theorem SplitAt.start (b : UInt8) (l : List UInt8) : SplitAt b l 0 0 [] := .inl ⟨Nat.zero_le _, Nat.le_refl _, by simp, fun j _ h => absurd h (Nat.not_lt_zero j)⟩
theorem SplitAt.le {b : UInt8} {l : List UInt8} {i f : Nat} {d : List ByteArray} (h : SplitAt b l i f d) : i ≤ l.length + 1 ∧ f ≤ i := by
  rcases h with ⟨h, h2, _⟩ | ⟨h, h2, _⟩ <;> omega
theorem SplitAt.skip {b : UInt8} {l : List UInt8} {i f : Nat} {d : List ByteArray} (h : SplitAt b l i f d) (hi : i < l.length) (hb : l[i]? ≠ some b) : SplitAt b l (i + 1) f d := by
  rcases h with ⟨_, h2, h3, h4⟩ | ⟨h, _⟩
  · refine .inl ⟨by omega, by omega, h3, fun j hf hj => ?_⟩
    by_cases e : j = i
    · subst e; exact hb
    · exact h4 j hf (by omega)
  · omega
theorem SplitAt.cut {b : UInt8} {l : List UInt8} {i f : Nat} {d : List ByteArray} {p : ByteArray} (h : SplitAt b l i f d) (hi : i < l.length) (hb : l[i]? = some b) (hp : p.data.toList = (l.drop f).take (i - f)) : SplitAt b l (i + 1) (i + 1) (d ++ [p]) := by
  rcases h with ⟨_, h2, h3, h4⟩ | ⟨h, _⟩
  · refine .inl ⟨by omega, by omega, ?_, fun j hf hj => by omega⟩
    rw [List.map_append, List.map_cons, List.map_nil, hp]
    exact parts_cut h3 h2 hb h4
  · omega
theorem SplitAt.last {b : UInt8} {l : List UInt8} {i f : Nat} {d : List ByteArray} {p : ByteArray} (h : SplitAt b l i f d) (hi : i = l.length) (hp : p.data.toList = l.drop f) : SplitAt b l (i + 1) (i + 1) (d ++ [p]) := by
  rcases h with ⟨_, h2, h3, h4⟩ | ⟨h, _⟩
  · refine .inr ⟨by omega, by omega, ?_⟩
    rw [List.map_append, List.map_cons, List.map_nil, hp]
    exact parts_last h3 (fun j hf hj => h4 j hf (by omega))
  · omega
theorem SplitAt.length {b : UInt8} {l : List UInt8} {i f : Nat} {d : List ByteArray} (h : SplitAt b l i f d) : d.length ≤ l.length + 1 := by
  have hp := parts_length_le b l
  rcases h with ⟨_, _, h3, _⟩ | ⟨_, _, h3⟩
  · rw [← h3] at hp; simp at hp; omega
  · rw [← h3] at hp; simp at hp; omega
theorem SplitAt.done {b : UInt8} {l : List UInt8} {i f : Nat} {d : List ByteArray} (h : SplitAt b l i f d) (hi : l.length < i) : d.map (·.data.toList) = parts b l := by
  rcases h with ⟨h, _⟩ | ⟨_, _, h3⟩
  · omega
  · exact h3
theorem same_strings : ∀ {a c : List ByteArray}, a.map (·.data.toList) = c.map (·.data.toList) → a = c
  | [], [], _ => rfl
  | [], y :: c, h => by simp at h
  | x :: a, [], h => by simp at h
  | x :: a, y :: c, h => by
    simp only [List.map_cons, List.cons.injEq] at h
    rw [same_strings h.2, show x = y from ByteArray.ext (Array.toList_inj.1 h.1)]
end Go.Proofs.YtkhpfmgclnhggaaDoor

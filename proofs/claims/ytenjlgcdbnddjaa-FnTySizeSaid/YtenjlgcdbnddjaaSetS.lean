/- Sets of strings: a list without repetitions; a map of strings to bools that a call makes. -/
import Derived.Test.YtenjlgcdbnddjaaMem
import Derived.Test.YtenjlgcdbnddjaaProg
import Derived.Maps.OwnOps
import Derived.Maps.Views
import Derived.Outline
namespace Go.Proofs.Ytenjlgcdbnddjaa
open Go.RowKit

/-- The list holds the string. -/
def has (l : List ByteArray) (s : ByteArray) : Bool := l.any fun x => x.data.toList == s.data.toList
theorem data_inj {x s : ByteArray} (h : x.data.toList = s.data.toList) : x = s := ByteArray.ext (Array.toList_inj.1 h)
theorem has_snoc (l : List ByteArray) (x s : ByteArray) : has (l ++ [x]) s = (has l s || x.data.toList == s.data.toList) := by simp [has]
theorem has_append (l m : List ByteArray) (s : ByteArray) : has (l ++ m) s = (has l s || has m s) := by simp [has]
theorem has_iff {l : List ByteArray} {s : ByteArray} : has l s = true ↔ s ∈ l := by
  rw [has, List.any_eq_true]
  constructor
  · rintro ⟨x, hx, h⟩
    rw [beq_iff_eq] at h
    rw [← data_inj h]; exact hx
  · intro h
    exact ⟨s, h, by simp⟩

/-- What a map of strings to bools reads as: true just at these. -/
def SetIs (D : DataW Unit) (l : List ByteArray) : Prop := Maps.IsMap D ∧ ∀ s : ByteArray, D.atKey (.string s.data.toList) (.lit (.bool false)) = .lit (.bool (has l s))
theorem SetIs.nil : SetIs (.map []) [] := ⟨Maps.isMap_empty, fun _ => rfl⟩
theorem SetIs.put {D : DataW Unit} {l : List ByteArray} (h : SetIs D l) (x : ByteArray) : SetIs (D.put (.string x.data.toList) (.lit (.bool true))) (l ++ [x]) := by
  refine ⟨h.1.put _ _, fun s => ?_⟩
  rw [has_snoc]
  by_cases e : s.data.toList = x.data.toList
  · rw [e, Maps.atKey_put_same h.1 (k := .string x.data.toList) (show WideAt.IsKeyLit (.string x.data.toList) from trivial)]
    simp
  · rw [Maps.atKey_put_other (fun he => e (by injection he)), h.2 s]
    have : (x.data.toList == s.data.toList) = false := by rw [beq_eq_false_iff_ne]; exact fun he => e he.symm
    rw [this, Bool.or_false]
theorem boolElem_inv {H : Type} {P : Program} {e : TypeId} (he : P.underlying e = some .bool) {v : Value} {z : DataW H × List MemPlace} (h : plainElem P e v = some z) : ∃ x, v = .bool x ∧ z = (.lit (.bool x), []) := by
  unfold plainElem at h
  rw [he] at h
  cases v <;> simp at h
  exact ⟨_, rfl, h.symm⟩

/-- Block b is a map of at most n entries that holds true just at these strings. -/
def Seen (P : Program) (k e : TypeId) (w : World) (b n : Nat) (l : List ByteArray) : Prop := ∃ D : DataW Unit, w.ownsMap P k (plainElem P e) b n D ∧ SetIs D l
theorem Seen.made {P : Program} {k e : TypeId} (w : World) : Seen P k e (w.alloc (.map #[] 0)) w.heap.size 0 [] := ⟨_, World.ownsMap_made _ _ _ _, SetIs.nil⟩
theorem Seen.kept {P : Program} {k e : TypeId} {w w' : World} {b n : Nat} {l : List ByteArray} {row : Option Nat} (h : Seen P k e w b n l) (hg : w.grownBy w' row) (hne : some b ≠ row) : Seen P k e w' b n l := by
  obtain ⟨D, h1, h2⟩ := h
  exact ⟨D, h1.kept hg hne, h2⟩
theorem Seen.lt {P : Program} {k e : TypeId} {w : World} {b n : Nat} {l : List ByteArray} (h : Seen P k e w b n l) : b < w.heap.size := by
  obtain ⟨D, h1, _⟩ := h
  exact h1.lt
theorem Seen.look {P : Program} {t k e : TypeId} {w : World} {b n : Nat} {l : List ByteArray} (h : Seen P k e w b n l) (ht : P.underlying t = some (.map k e)) (hk : P.underlying k = some .string) (he : P.underlying e = some .bool) (hz : (zeroValue e).run P w = .ok (.bool false) w) (s : ByteArray) (hs : s.size ≤ 9223372036854775807) :
    (Instr.lookup t (.map (some b)) (.string s) false).run P w = .ok (.bool (has l s)) w := by
  obtain ⟨D, h1, h2⟩ := h
  obtain ⟨v, ps, hrun, hv⟩ := h1.lookup (Maps.string_keyed hk) ht hz (plainElem_bool he false) (WideMaps.keyOf_string_mk hk (by unfold maxLen; omega))
  obtain ⟨x, rfl, hx⟩ := boolElem_inv he hv
  rw [h2.2 s] at hx
  simp only [Prod.mk.injEq, DataW.lit.injEq, Lit.bool.injEq] at hx
  rw [hrun, hx.1]
theorem Seen.store {P : Program} {t k e : TypeId} {w : World} {b n : Nat} {l : List ByteArray} (h : Seen P k e w b n l) (ht : P.underlying t = some (.map k e)) (hk : P.underlying k = some .string) (he : P.underlying e = some .bool) (hn : n ≤ 17179869184) (s : ByteArray) (hs : s.size ≤ 9223372036854775807) :
    ∃ w', (Instr.mapUpdate t (.map (some b)) (.string s) (.bool true)).run P w = .ok () w' ∧ Seen P k e w' b (n + 1) (l ++ [s]) ∧ w.grownBy w' (some b) := by
  obtain ⟨D, h1, h2⟩ := h
  obtain ⟨w', hrun, hown, hg⟩ := h1.update (Maps.string_keyed hk) ht (by unfold maxLen; omega) (WideMaps.keyOf_string_mk hk (by unfold maxLen; omega)) (plainElem_bool he true)
  exact ⟨w', hrun, ⟨_, hown, h2.put s⟩, hg⟩

section
variable {P : Program} (w : World) {ops : Array Oper} {rest : List Oper} {o : Oper} {a : Act} {Q : Exit → Act → World → Prop}
/-- 'm[s]', for the walk. -/
theorem wp_seen_look (hg : o.guard = none) (m x : Operand) (t : TypeId) (hop : o.op = Op.lookup t m x false) (k e : TypeId) (ht : P.underlying t = some (.map k e)) (hk : P.underlying k = some .string) (he : P.underlying e = some .bool) (hz : (zeroValue e).run P w = .ok (.bool false) w)
    (b n : Nat) (l : List ByteArray) (hm : a.eval m = .map (some b)) (h : Seen P k e w b n l) (key : Value) (hx : a.eval x = key) (s : ByteArray) (hk2 : key = .string s) (hs : s.size ≤ 9223372036854775807)
    (hK : wpList P ops Q rest (a.put o.dst (.bool (has l s))) w) : wpList P ops Q (o :: rest) a w := by
  subst hk2
  refine wpList_plain hg fun K' hK' => ?_
  have hrun := h.look ht hk he hz s hs
  unfold Oper.wp
  simp [execOp, hop, hm, hx, hrun, Result.andThen]
  exact hK' _ _ hK
/-- 'm[s] = true', for the walk. -/
theorem wp_seen_store (hg : o.guard = none) (m x v : Operand) (t : TypeId) (hop : o.op = Op.mapUpdate t m x v) (k e : TypeId) (ht : P.underlying t = some (.map k e)) (hk : P.underlying k = some .string) (he : P.underlying e = some .bool)
    (b n : Nat) (l : List ByteArray) (hm : a.eval m = .map (some b)) (h : Seen P k e w b n l) (hn : n ≤ 17179869184) (key val : Value) (hx : a.eval x = key) (hv : a.eval v = val) (s : ByteArray) (hk2 : key = .string s) (hv2 : val = .bool true) (hs : s.size ≤ 9223372036854775807)
    (hK : ∀ w', Seen P k e w' b (n + 1) (l ++ [s]) → w.grownBy w' (some b) → wpList P ops Q rest (a.put o.dst undef) w') : wpList P ops Q (o :: rest) a w := by
  subst hk2 hv2
  refine wpList_plain hg fun K' hK' => ?_
  obtain ⟨w', hrun, r1, r2⟩ := h.store ht hk he hn s hs
  unfold Oper.wp
  simp [execOp, hop, hm, hx, hv, hrun, Result.andThen]
  exact hK' _ _ (hK w' r1 r2)
/-- An entry of a map's literal, for the walk. -/
theorem wp_seen_insert (hg : o.guard = none) (m x v : Operand) (t : TypeId) (hop : o.op = Op.insert t m x v) (k e : TypeId) (ht : P.underlying t = some (.map k e)) (hk : P.underlying k = some .string) (he : P.underlying e = some .bool)
    (b n : Nat) (l : List ByteArray) (hm : a.eval m = .map (some b)) (h : Seen P k e w b n l) (hn : n ≤ 17179869184) (key val : Value) (hx : a.eval x = key) (hv : a.eval v = val) (s : ByteArray) (hk2 : key = .string s) (hv2 : val = .bool true) (hs : s.size ≤ 9223372036854775807)
    (hK : ∀ w', Seen P k e w' b (n + 1) (l ++ [s]) → w.grownBy w' (some b) → wpList P ops Q rest (a.put o.dst undef) w') : wpList P ops Q (o :: rest) a w := by
  subst hk2 hv2
  refine wpList_plain hg fun K' hK' => ?_
  obtain ⟨w', hrun, r1, r2⟩ := h.store ht hk he hn s hs
  unfold Oper.wp
  simp [execOp, hop, hm, hx, hv, hrun, Result.andThen]
  exact hK' _ _ (hK w' r1 r2)
end
end Go.Proofs.Ytenjlgcdbnddjaa

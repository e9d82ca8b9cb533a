/- When a substitution is valid: plain facts; len of a map. -/
import Derived.Test.YtkiofeiinecpiaaQ1
import Derived.Test.YtkiofeiinecpiaaZTyValid
namespace Go.Proofs.Ytkiofeiinecpiaa
open Go.RowKit Go.Lib

/-- A binding is valid by itself. -/
def BindingX.good (b : BindingX) : Bool := okName b.var_ && b.type_.valid
/-- A valid substitution. -/
def okBs (l : List BindingX) : Bool := l.all BindingX.good && decide ((firstX l).length = l.length)
theorem lookX_take_fold (s : ByteArray) (m : List BindingX) : lookX s (m.foldl putX []) = lookX s m := lookX_first s m
theorem first_step {l : List BindingX} {k : Nat} (h : k < l.length) : (firstX (l.take (k + 1))).length = (firstX (l.take k)).length + if (lookX l[k].var_ (l.take k)).isSome then 0 else 1 := by
  rw [firstX, List.take_succ_eq_append_getElem h, List.foldl_append]
  show (putX (firstX (l.take k)) l[k]).length = _
  rw [putX, firstX, lookX_take_fold]
  split <;> simp
theorem first_all {l : List BindingX} (k : Nat) (hk : k ≤ l.length) : (∀ j (h : j < l.length), j < k → lookX l[j].var_ (l.take j) = none) → (firstX (l.take k)).length = k := by
  intro ha
  induction k with
  | zero => rfl
  | succ k ih =>
    rw [first_step (by omega), ih (by omega) (fun j h hj => ha j h (by omega)), ha k (by omega) (by omega)]
    rfl
theorem first_le {l : List BindingX} (k : Nat) (hk : k ≤ l.length) : (firstX (l.take k)).length ≤ k := by
  have := foldX_length (l.take k) []
  rw [List.length_take, List.length_nil] at this
  show (List.foldl putX [] (l.take k)).length ≤ k
  omega
theorem first_some {l : List BindingX} {j : Nat} (h : j < l.length) (hs : (lookX l[j].var_ (l.take j)).isSome = true) : ∀ k, j < k → k ≤ l.length → (firstX (l.take k)).length < k := by
  intro k hjk hk
  induction k with
  | zero => omega
  | succ k ih =>
    rw [first_step (by omega)]
    by_cases e : j = k
    · subst e
      rw [if_pos hs]
      have := first_le j (by omega : j ≤ l.length)
      omega
    · have := ih (by omega) (by omega)
      split <;> omega
theorem okBs_yes {l : List BindingX} (hg : ∀ j (h : j < l.length), l[j].good = true) (hd : ∀ j (h : j < l.length), lookX l[j].var_ (l.take j) = none) : okBs l = true := by
  have h1 : l.all BindingX.good = true := List.all_eq_true.2 fun b hb => by
    obtain ⟨j, h, rfl⟩ := List.getElem_of_mem hb
    exact hg j h
  have h2 := first_all l.length (Nat.le_refl _) (fun j h _ => hd j h)
  rw [List.take_length] at h2
  rw [okBs, h1, h2]
  simp
theorem okBs_bad {l : List BindingX} {j : Nat} (h : j < l.length) (hg : l[j].good = false) : okBs l = false := by
  have : l.all BindingX.good = false := by
    rw [List.all_eq_false]
    exact ⟨l[j], List.getElem_mem h, by rw [hg]; simp⟩
  rw [okBs, this, Bool.false_and]
theorem okBs_twice {l : List BindingX} {j : Nat} (h : j < l.length) (hs : (lookX l[j].var_ (l.take j)).isSome = true) : okBs l = false := by
  have h2 := first_some h hs l.length h (Nat.le_refl _)
  rw [List.take_length] at h2
  rw [okBs, decide_eq_false (by omega), Bool.and_false]
theorem okBs_all {l : List BindingX} (hg : ∀ j (h : j < l.length), l[j].good = true) : okBs l = decide ((firstX l).length = l.length) := by
  have h1 : l.all BindingX.good = true := List.all_eq_true.2 fun b hb => by
    obtain ⟨j, h, rfl⟩ := List.getElem_of_mem hb
    exact hg j h
  rw [okBs, h1, Bool.true_and]
/-- Is the name among the first i. -/
theorem look_mem {v : ByteArray} : ∀ (l : List BindingX), (lookX v l).isSome = true ↔ ∃ b ∈ l, b.var_ = v
  | [] => by simp [lookX]
  | b :: r => by
    rw [lookX]
    split
    · rename_i h
      simp only [Option.isSome_some, List.mem_cons, true_iff]
      exact ⟨b, .inl rfl, data_inj (beq_iff_eq.1 h)⟩
    · rename_i h
      rw [look_mem r]
      constructor
      · rintro ⟨c, hc, e⟩; exact ⟨c, List.mem_cons_of_mem _ hc, e⟩
      · rintro ⟨c, hc, e⟩
        rcases List.mem_cons.1 hc with rfl | hc
        · exact absurd (by rw [e]; simp) h
        · exact ⟨c, hc, e⟩

section
variable {P : Program} {w : World} {ops : Array Oper} {rest : List Oper} {o : Oper} {a : Act} {Q : Exit → Act → World → Prop}
theorem run_len_map {t k e : TypeId} {b : Nat} {l : List (ByteArray × Value)} (h : MapAt w b l) (ht : P.underlying t = some (.map k e)) (ty : TypeId) : (Builtin.len_ #[t] ty #[.map (some b)]).run P w = .ok (.int .i64 (l.length : Nat)) w := by
  obtain ⟨es, clk, hb, hs⟩ := h.length
  simp [Builtin.len_, run_underlying ht, MapKept.run_getObj_map hb, Result.andThen, goInt, hs]
/-- 'len(m)', for the walk. -/
theorem wpList_len_map (hg : o.guard = none) (m : Operand) (t : TypeId) (hop : o.op = Op.call { callee := Callee.builtin Builtin.len, args := #[m], argTypes := #[t] })
    (k e : TypeId) (ht : P.underlying t = some (.map k e)) (b : Nat) (l : List (ByteArray × Value)) (hm : a.eval m = .map (some b)) (h : MapAt w b l) (hK : wpList P ops Q rest (a.put o.dst (.int .i64 (l.length : Nat))) w) :
    wpList P ops Q (o :: rest) a w := by
  refine wpList_plain hg fun K' hK' => ?_
  unfold Oper.wp
  simp [execOp, hop, resolve, invoke, builtin, hm, run_len_map h ht o.type, Result.andThen]
  exact hK' _ _ hK
end
end Go.Proofs.Ytkiofeiinecpiaa

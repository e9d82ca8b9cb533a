/- The union of two lists without repetitions: what it is. -/
import Derived.Test.YtenjlgcdbnddjaaSetS
import Derived.Test.YtenjlgcdbnddjaaGrow
namespace Go.Proofs.Ytenjlgcdbnddjaa
open Go.RowKit

def addNew (acc : List ByteArray) (x : ByteArray) : List ByteArray := if has acc x then acc else acc ++ [x]
/-- The elements of the second list that are new, each once, behind the first. -/
def uniF (acc l : List ByteArray) : List ByteArray := l.foldl addNew acc
theorem uniF_take {acc l : List ByteArray} {k : Nat} (h : k < l.length) : uniF acc (l.take (k + 1)) = addNew (uniF acc (l.take k)) l[k] := by
  rw [List.take_succ_eq_append_getElem h, uniF, List.foldl_append]
  rfl
theorem uniF_append (acc a b : List ByteArray) : uniF acc (a ++ b) = uniF (uniF acc a) b := by simp [uniF]
theorem addNew_old {acc : List ByteArray} {x : ByteArray} (h : has acc x = true) : addNew acc x = acc := by rw [addNew, h]; rfl
theorem addNew_new {acc : List ByteArray} {x : ByteArray} (h : has acc x = false) : addNew acc x = acc ++ [x] := by rw [addNew, h]; rfl
theorem uniF_len : ∀ (l acc : List ByteArray), (uniF acc l).length ≤ acc.length + l.length
  | [], acc => by simp [uniF]
  | x :: r, acc => by
    have h := uniF_len r (addNew acc x)
    have e : uniF acc (x :: r) = uniF (addNew acc x) r := rfl
    rw [e]
    have : (addNew acc x).length ≤ acc.length + 1 := by
      unfold addNew
      split <;> simp
    simp only [List.length_cons]
    omega
theorem uniF_eq : ∀ (l acc : List ByteArray), (uniF acc l).length = acc.length + l.length → uniF acc l = acc ++ l
  | [], acc, _ => by simp [uniF]
  | x :: r, acc, h => by
    have e : uniF acc (x :: r) = uniF (addNew acc x) r := rfl
    rw [e] at h ⊢
    cases hx : has acc x with
    | true =>
      rw [addNew_old hx] at h
      have := uniF_len r acc
      simp only [List.length_cons] at h
      omega
    | false =>
      rw [addNew_new hx] at h ⊢
      rw [uniF_eq r (acc ++ [x]) (by rw [h]; simp; omega), List.append_assoc]
      rfl
theorem has_addNew (acc : List ByteArray) (x s : ByteArray) : has (addNew acc x) s = (has acc s || x.data.toList == s.data.toList) := by
  cases h : has acc x with
  | true =>
    rw [addNew_old h]
    cases he : x.data.toList == s.data.toList with
    | true => rw [← data_inj (eq_of_beq he), h]; rfl
    | false => rw [Bool.or_false]
  | false => rw [addNew_new h, has_snoc]
theorem has_uniF (s : ByteArray) : ∀ (l acc : List ByteArray), has (uniF acc l) s = (has acc s || has l s)
  | [], acc => by simp [uniF, has]
  | x :: r, acc => by
    have e : uniF acc (x :: r) = uniF (addNew acc x) r := rfl
    rw [e, has_uniF s r, has_addNew, Bool.or_assoc]
    rfl
theorem uniF_mem {x : ByteArray} {l : List ByteArray} (h : x ∈ uniF [] l) : x ∈ l := by
  rw [← has_iff] at h ⊢
  rw [has_uniF] at h
  exact h
/-- No two elements are equal. -/
def distinct (ss : List ByteArray) : Bool := decide ((uniF [] ss).length = ss.length)
theorem distinct_yes {ss : List ByteArray} (h : uniF [] ss = ss) : distinct ss = true := by rw [distinct, h]; simp
theorem distinct_no {ss : List ByteArray} {k : Nat} (hk : k < ss.length) (he : uniF [] (ss.take k) = ss.take k) (hh : has (ss.take k) ss[k] = true) : distinct ss = false := by
  have e : uniF [] ss = uniF (ss.take k) (ss.drop (k + 1)) := by
    have h1 : uniF [] ss = uniF (uniF [] (ss.take (k + 1))) (ss.drop (k + 1)) := by rw [← uniF_append, List.take_append_drop]
    rw [h1, uniF_take hk, he, addNew_old hh]
  have h2 := uniF_len (ss.drop (k + 1)) (ss.take k)
  rw [← e] at h2
  simp only [List.length_take, List.length_drop] at h2
  rw [distinct, decide_eq_false_iff_not]
  omega
theorem distinct_step {ss : List ByteArray} {k : Nat} (hk : k < ss.length) (he : uniF [] (ss.take k) = ss.take k) (hh : has (ss.take k) ss[k] = false) : uniF [] (ss.take (k + 1)) = ss.take (k + 1) := by
  rw [uniF_take hk, he, addNew_new hh, ← List.take_succ_eq_append_getElem hk]

theorem uniF_uniF : ∀ (l acc : List ByteArray), uniF [] acc = acc → uniF [] (uniF acc l) = uniF acc l
  | [], acc, h => h
  | x :: r, acc, h => by
    have e : uniF acc (x :: r) = uniF (addNew acc x) r := rfl
    rw [e]
    refine uniF_uniF r _ ?_
    cases hx : has acc x with
    | true => rw [addNew_old hx]; exact h
    | false =>
      rw [addNew_new hx, uniF_append, h]
      exact addNew_new hx
theorem distinct_uni (l : List ByteArray) : distinct (uniF [] l) = true := distinct_yes (uniF_uniF l [] rfl)

theorem Strs.take {w : World} {A : Option Addr} {ss : List ByteArray} (h : Strs w A ss) (k : Nat) : Strs w A (ss.take k) := by
  rcases h with h | ⟨g, o, hA, hg, hc⟩
  · exact .inl (by rw [h]; simp)
  · refine .inr ⟨g, o, hA, hg, fun j s hj => hc j s ?_⟩
    rw [List.getElem?_take] at hj
    split at hj
    · exact hj
    · cases hj
/-- A NEW ROW of these strings, owned. -/
def RowOf (d : List ByteArray) (w : World) (e : Ending) (w' : World) : Prop :=
  ∃ V, e = .returned V ∧ w'.ownsRow w.heap.size 9 1 V d.length (d.map Value.string) ∧ Below w.heap.size w w'
end Go.Proofs.Ytenjlgcdbnddjaa

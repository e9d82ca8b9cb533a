/- Texts that the claims share, joined. -/
import Derived.Test.YtngbilblddngcaaDoorQ1
import Derived.Test.YtngbilblddngcaaDoorProg
import Derived.Outline
import Derived.Laws.RangeAny
import Derived.Maps.RangeWalk
import Derived.RangeFuncNested
import Derived.RangeFuncBound
import Derived.Lib.Hide
import Derived.RangeFuncCalls
import Derived.Lib.AppendZeros
import Derived.Lib.AppendZerosOnto
import Derived.Lib.SliceRun
import Derived.WalkKit
import Derived.Shelf.Strconv.Itoa0
import Derived.Shelf.Strconv.Itoa1
import Derived.Shelf.LaysM
import Derived.Shelf.Strconv.Itoa2
import Derived.Shelf.Strconv.Itoa3
import Derived.Test.YtngbilblddngcaaDoorRows
import Derived.Lib.LaidTab
import Derived.Lib.AppendIntMem
import Derived.Stop.LaidErr
import Derived.WalkSmall
import Derived.Lib.AtoiAll
import Derived.RegionTactic
import Derived.Deep.QuietTactic
import Derived.BigQuiet
import Derived.Deep.CutRange
import Derived.ProofKit
import Derived.OpenShut
import Derived.ChangeOld
namespace Go.Proofs.YtngbilblddngcaaDoor
open Go.RowKit Go.Lib

set_option maxRecDepth 100000 in
set_option maxHeartbeats 2000000 in
theorem heldVType (x : TypeX) (A : Option Addr) (c k : Nat) (w : World) (hl : RdV w (Und w.heap.size) (.row 26 3 (vmkE k (TypeX.rows x.args_))) (.slice A x.args_.length c)) (hk0 : 0 < k) (hk : k + DV.cntE (TypeX.rows x.args_) ≤ 4398046511104) :
    Calls Tryd.prog 30 #[.agg #[.int .i64 x.kind_, .string x.name_, .slice A x.args_.length c], .int .i64 k] w fun e w' => e = .returned (.int .i64 (k + DV.cntE (TypeX.rows x.args_) : Nat)) ∧ Below w.heap.size w w' := by
  have hb0 : Below w.heap.size w (w.alloc (.cells #[.int .i64 x.kind_, .string x.name_, .slice A x.args_.length c] 26)) := (Below.refl _ _).alloc (Nat.le_refl _) _
  have HL := Lib.hid (RdV.grow hl hb0)
  have hnn : ¬ ((k + DV.cntE (TypeX.rows x.args_) : Nat) : Int) < 0 := by omega
  clear hl
  go_enter Tryd.func30, Tryd.ntmps30
  go_wp2_with fail
  refine (heldTypeS x.args_ A c k _ HL.out hk0 hk).mono ?_
  rintro e w1 ⟨rfl, hb⟩
  have hb1 := hb0.trans (hb.mono hb0.size)
  go_wp2
  go_ret
  exact ⟨rfl, hb1⟩
/-- The row of what has been marked. -/
theorem marked_row {x : TypeX} {w : World} {B k : Nat} {P : Nat → Prop} {A : Option Addr} {c : Nat} {bs : List Nat} (hP : ∀ b ∈ bs, P b) (h : OwVs w B (tmkL k x.cells) [.int .i64 x.kind_, .string x.name_, .slice A x.args_.length c] bs) :
    RdV w P (.row 26 3 (vmkE k (TypeX.rows x.args_))) (.slice A x.args_.length c) := by
  have h2 := OwVs_read _ hP h
  rw [TypeX.tmk_eq] at h2
  simp only [RdVs] at h2
  obtain ⟨v0, _, e0, h0, v1, _, e1, h1, v2, _, e2, h3, e3⟩ := h2
  subst e3
  simp only [List.cons.injEq] at e0
  obtain ⟨rfl, rfl⟩ := e0
  simp only [List.cons.injEq] at e1
  obtain ⟨rfl, rfl⟩ := e1
  simp only [List.cons.injEq, and_true] at e2
  rw [← e2] at h3
  exact h3
end Go.Proofs.YtngbilblddngcaaDoor
namespace Go.Proofs.YtngbilblddngcaaDoor
open Go.RowKit

/-- The keywords. -/
def keywords : List ByteArray := [⟨#[105, 110, 116]⟩, ⟨#[98, 111, 111, 108]⟩, ⟨#[97, 115, 115, 111, 99]⟩, ⟨#[100, 121, 110]⟩, ⟨#[105, 102]⟩, ⟨#[108, 101, 116]⟩, ⟨#[99, 97, 115, 101]⟩, ⟨#[110, 101, 119]⟩, ⟨#[109, 101, 116, 104, 111, 100]⟩, ⟨#[112, 97, 99, 107]⟩, ⟨#[116, 114, 117, 101]⟩, ⟨#[102, 97, 108, 115, 101]⟩]
/-- A keyword. -/
def isKey (s : ByteArray) : Bool := has keywords s

theorem zeroBool (w : World) : (zeroValue 4).run Tryd.prog w = .ok (.bool false) w := by kernel_rfl
end Go.Proofs.YtngbilblddngcaaDoor
namespace Go.Proofs.YtngbilblddngcaaDoor
open Go.RowKit

def letterR (r : Int) : Bool := decide (97 ≤ r) && decide (r ≤ 122)
def digitR (r : Int) : Bool := decide (48 ≤ r) && decide (r ≤ 57)

end Go.Proofs.YtngbilblddngcaaDoor
namespace Go.Proofs.YtngbilblddngcaaDoor
open Go.RowKit

/-- A byte that may stand at place i of a name. -/
def goodAt (i : Nat) (c : UInt8) : Bool := letterR c.toNat || (i != 0 && digitR c.toNat)
def goods (s : ByteArray) (k : Nat) : Bool := (List.range k).all fun i => goodAt i (s.data.toList.getD i 0)
/-- A name. -/
def okName (s : ByteArray) : Bool := decide (1 ≤ s.size ∧ s.size ≤ 8) && (!isKey s && goods s s.size)
theorem goods_succ {s : ByteArray} {k : Nat} (h : k < s.size) : goods s (k + 1) = (goods s k && goodAt k s[k]) := by
  unfold goods
  rw [List.range_succ, List.all_append]
  simp
  congr 2
  have : s.data[k]? = some s[k] := by simp [h]; rfl
  rw [this]
  rfl
theorem goods_bad {s : ByteArray} {k : Nat} (h : k < s.size) (hb : goodAt k s[k] = false) : okName s = false := by
  have h1 := goods_succ h
  rw [hb, Bool.and_false] at h1
  have : goods s s.size = false := by
    unfold goods at h1 ⊢
    rw [List.all_eq_false] at h1 ⊢
    obtain ⟨x, hx, hf⟩ := h1
    exact ⟨x, by simp at hx ⊢; omega, hf⟩
  rw [okName, this, Bool.and_false, Bool.and_false]
theorem name_size {s : ByteArray} (h : ¬ (1 ≤ s.size ∧ s.size ≤ 8)) : okName s = false := by rw [okName, decide_eq_false h, Bool.false_and]
theorem name_key {s : ByteArray} (h : isKey s = true) : okName s = false := by rw [okName, h]; simp
theorem name_ok {s : ByteArray} (h : 1 ≤ s.size ∧ s.size ≤ 8) (hg : goods s s.size = true) : okName s = !isKey s := by rw [okName, decide_eq_true h, hg]; simp

end Go.Proofs.YtngbilblddngcaaDoor
namespace Go.Proofs.YtngbilblddngcaaDoor
open Go.RowKit Go.Lib

/-- int or bool. -/
def isBase (s : ByteArray) : Bool := decide (s = ⟨#[105, 110, 116]⟩ ∨ s = ⟨#[98, 111, 111, 108]⟩)
/-- The rule of a kind. -/
def headOk (k : Int) (s : ByteArray) (n : Nat) : Bool :=
  if k = 1 ∨ k = 4 then okName s && n == 0 else if k = 3 then okName s && n == 1 else if k = 2 then (okName s && decide (n ≤ 3)) || (isBase s && n == 0) else false
mutual
def TypeX.form : TypeX → Bool
  | .mk k s l => headOk k s l.length && TypeX.formL l
def TypeX.formL : List TypeX → Bool
  | [] => true
  | x :: r => x.form && TypeX.formL r
end
theorem TypeX.form_eq (x : TypeX) : x.form = (headOk x.kind_ x.name_ x.args_.length && TypeX.formL x.args_) := by cases x with | mk a b c => rw [TypeX.form]; rfl
theorem TypeX.formL_take : ∀ (l : List TypeX) (j : Nat) (h : j < l.length), TypeX.formL (l.take (j + 1)) = (TypeX.formL (l.take j) && l[j].form)
  | x :: r, 0, _ => by simp [TypeX.formL]
  | x :: r, j + 1, h => by
    have := TypeX.formL_take r j (by simpa using h)
    rw [List.take_succ_cons, List.take_succ_cons, TypeX.formL, TypeX.formL, this]
    simp [Bool.and_assoc]

end Go.Proofs.YtngbilblddngcaaDoor
namespace Go.Proofs.YtngbilblddngcaaDoor
open Go.RowKit Go.Lib

end Go.Proofs.YtngbilblddngcaaDoor
namespace Go.Proofs.YtngbilblddngcaaDoor
open Go.RowKit

end Go.Proofs.YtngbilblddngcaaDoor
namespace Go.Proofs.YtngbilblddngcaaDoor
open Go.RowKit Go.Lib

mutual
def TypeX.depth : TypeX → Nat
  | .mk _ _ l => TypeX.depthL l
def TypeX.depthL : List TypeX → Nat
  | [] => 0
  | x :: r => max (1 + x.depth) (TypeX.depthL r)
end
theorem TypeX.depth_eq (x : TypeX) : x.depth = TypeX.depthL x.args_ := by cases x with | mk a b c => rw [TypeX.depth]; rfl
theorem TypeX.depthL_take : ∀ (l : List TypeX) (j : Nat) (h : j < l.length), TypeX.depthL (l.take (j + 1)) = max (TypeX.depthL (l.take j)) (1 + l[j].depth)
  | x :: r, 0, _ => by simp [TypeX.depthL]
  | x :: r, j + 1, h => by
    have := TypeX.depthL_take r j (by simpa using h)
    rw [List.take_succ_cons, List.take_succ_cons, TypeX.depthL, TypeX.depthL, this]
    simp [Nat.max_assoc]
theorem TypeX.depthL_le : ∀ (l : List TypeX) (j : Nat), TypeX.depthL (l.take j) ≤ TypeX.depthL l
  | [], j => by simp
  | x :: r, 0 => by simp [TypeX.depthL]
  | x :: r, j + 1 => by
    have := TypeX.depthL_le r j
    rw [List.take_succ_cons, TypeX.depthL, TypeX.depthL]; omega

end Go.Proofs.YtngbilblddngcaaDoor
namespace Go.Proofs.YtngbilblddngcaaDoor
open Go.RowKit Go.Lib

mutual
theorem TypeX.depth_size : ∀ x : TypeX, x.depth + 1 ≤ x.size
  | .mk k s l => by
    rw [TypeX.depth, TypeX.size]
    have := TypeX.depthL_size l
    omega
theorem TypeX.depthL_size : ∀ l : List TypeX, TypeX.depthL l ≤ TypeX.sizeL l
  | [] => by rw [TypeX.depthL, TypeX.sizeL]; omega
  | x :: r => by
    rw [TypeX.depthL, TypeX.sizeL]
    have h1 := TypeX.depth_size x
    have h2 := TypeX.depthL_size r
    omega
end
/-- A valid type. -/
def TypeX.valid (x : TypeX) : Bool := decide (x.size ≤ 60) && (decide (x.depth ≤ 6) && x.form)

end Go.Proofs.YtngbilblddngcaaDoor
namespace Go.Proofs.YtngbilblddngcaaDoor
open Go.RowKit Go.Lib

/-- A binding is valid by itself. -/
def BindingX.good (b : BindingX) : Bool := okName b.var_ && b.type_.valid
/-- A valid substitution. -/
def okBs (l : List BindingX) : Bool := l.all BindingX.good && decide ((firstX l).length = l.length)
theorem lookX_take_fold (s : ByteArray) (m : List BindingX) : lookX s (m.foldl putX []) = lookX s m := lookX_first s m
theorem first_step {l : List BindingX} {k : Nat} (h : k < l.length) : (firstX (l.take (k + 1))).length = (firstX (l.take k)).length + if (lookX l[k].var_ (l.take k)).isSome then 0 else 1 := by
  rw [firstX, List.take_succ_eq_append_getElem h, List.foldl_append]
  show (putX (firstX (l.take k)) l[k]).length = _
  rw [putX, firstX, lookX_take_fold]
  split <;> simp
theorem first_all {l : List BindingX} (k : Nat) (hk : k ≤ l.length) : (∀ j (h : j < l.length), j < k → lookX l[j].var_ (l.take j) = none) → (firstX (l.take k)).length = k := by
  intro ha
  induction k with
  | zero => rfl
  | succ k ih =>
    rw [first_step (by omega), ih (by omega) (fun j h hj => ha j h (by omega)), ha k (by omega) (by omega)]
    rfl
theorem first_le {l : List BindingX} (k : Nat) (hk : k ≤ l.length) : (firstX (l.take k)).length ≤ k := by
  have := foldX_length (l.take k) []
  rw [List.length_take, List.length_nil] at this
  show (List.foldl putX [] (l.take k)).length ≤ k
  omega
theorem first_some {l : List BindingX} {j : Nat} (h : j < l.length) (hs : (lookX l[j].var_ (l.take j)).isSome = true) : ∀ k, j < k → k ≤ l.length → (firstX (l.take k)).length < k := by
  intro k hjk hk
  induction k with
  | zero => omega
  | succ k ih =>
    rw [first_step (by omega)]
    by_cases e : j = k
    · subst e
      rw [if_pos hs]
      have := first_le j (by omega : j ≤ l.length)
      omega
    · have := ih (by omega) (by omega)
      split <;> omega
theorem okBs_yes {l : List BindingX} (hg : ∀ j (h : j < l.length), l[j].good = true) (hd : ∀ j (h : j < l.length), lookX l[j].var_ (l.take j) = none) : okBs l = true := by
  have h1 : l.all BindingX.good = true := List.all_eq_true.2 fun b hb => by
    obtain ⟨j, h, rfl⟩ := List.getElem_of_mem hb
    exact hg j h
  have h2 := first_all l.length (Nat.le_refl _) (fun j h _ => hd j h)
  rw [List.take_length] at h2
  rw [okBs, h1, h2]
  simp
theorem okBs_bad {l : List BindingX} {j : Nat} (h : j < l.length) (hg : l[j].good = false) : okBs l = false := by
  have : l.all BindingX.good = false := by
    rw [List.all_eq_false]
    exact ⟨l[j], List.getElem_mem h, by rw [hg]; simp⟩
  rw [okBs, this, Bool.false_and]
theorem okBs_twice {l : List BindingX} {j : Nat} (h : j < l.length) (hs : (lookX l[j].var_ (l.take j)).isSome = true) : okBs l = false := by
  have h2 := first_some h hs l.length h (Nat.le_refl _)
  rw [List.take_length] at h2
  rw [okBs, decide_eq_false (by omega), Bool.and_false]
theorem okBs_all {l : List BindingX} (hg : ∀ j (h : j < l.length), l[j].good = true) : okBs l = decide ((firstX l).length = l.length) := by
  have h1 : l.all BindingX.good = true := List.all_eq_true.2 fun b hb => by
    obtain ⟨j, h, rfl⟩ := List.getElem_of_mem hb
    exact hg j h
  rw [okBs, h1, Bool.true_and]
/-- Is the name among the first i. -/
theorem look_mem {v : ByteArray} : ∀ (l : List BindingX), (lookX v l).isSome = true ↔ ∃ b ∈ l, b.var_ = v
  | [] => by simp [lookX]
  | b :: r => by
    rw [lookX]
    split
    · rename_i h
      simp only [Option.isSome_some, List.mem_cons, true_iff]
      exact ⟨b, .inl rfl, data_inj (beq_iff_eq.1 h)⟩
    · rename_i h
      rw [look_mem r]
      constructor
      · rintro ⟨c, hc, e⟩; exact ⟨c, List.mem_cons_of_mem _ hc, e⟩
      · rintro ⟨c, hc, e⟩
        rcases List.mem_cons.1 hc with rfl | hc
        · exact absurd (by rw [e]; simp) h
        · exact ⟨c, hc, e⟩

section
variable {P : Program} {w : World} {ops : Array Oper} {rest : List Oper} {o : Oper} {a : Act} {Q : Exit → Act → World → Prop}
theorem run_len_map {t k e : TypeId} {b : Nat} {l : List (ByteArray × Value)} (h : MapAt w b l) (ht : P.underlying t = some (.map k e)) (ty : TypeId) : (Builtin.len_ #[t] ty #[.map (some b)]).run P w = .ok (.int .i64 (l.length : Nat)) w := by
  obtain ⟨es, clk, hb, hs⟩ := h.length
  simp [Builtin.len_, run_underlying ht, MapKept.run_getObj_map hb, Result.andThen, goInt, hs]
/-- 'len(m)', for the walk. -/
theorem wpList_len_map (hg : o.guard = none) (m : Operand) (t : TypeId) (hop : o.op = Op.call { callee := Callee.builtin Builtin.len, args := #[m], argTypes := #[t] })
    (k e : TypeId) (ht : P.underlying t = some (.map k e)) (b : Nat) (l : List (ByteArray × Value)) (hm : a.eval m = .map (some b)) (h : MapAt w b l) (hK : wpList P ops Q rest (a.put o.dst (.int .i64 (l.length : Nat))) w) :
    wpList P ops Q (o :: rest) a w := by
  refine wpList_plain hg fun K' hK' => ?_
  unfold Oper.wp
  simp [execOp, hop, resolve, invoke, builtin, hm, run_len_map h ht o.type, Result.andThen]
  exact hK' _ _ hK
end
end Go.Proofs.YtngbilblddngcaaDoor
namespace Go.Proofs.YtngbilblddngcaaDoor
open Go.RowKit

def IsBool (v : Value) : Prop := ∃ x : Bool, v = .bool x
theorem drawOnce (B g : Nat) (n : Int) (w : World) (hw : Cur w B g) (h0 : 0 < n) (h1 : n ≤ 9223372036854775807) :
    Calls Tryd.prog 38 #[.pointer (some ⟨g, 0, none⟩), .int .i64 n] w (Drawn IsBool B g w) := by
  go_enter Tryd.func38, Tryd.ntmps38
  go_wp2_with fail
  refine (drawBelow B g n _ hw h0 h1).mono ?_
  rintro e w1 ⟨v, rfl, ⟨x, rfl, x0, x1⟩, hc1, hb1⟩
  go_wp2
  go_ret
  exact ⟨_, rfl, ⟨_, rfl⟩, hc1, hb1⟩
end Go.Proofs.YtngbilblddngcaaDoor
namespace Go.Proofs.YtngbilblddngcaaDoor
open Go.RowKit

def addNew (acc : List ByteArray) (x : ByteArray) : List ByteArray := if has acc x then acc else acc ++ [x]
/-- The elements of the second list that are new, each once, behind the first. -/
def uniF (acc l : List ByteArray) : List ByteArray := l.foldl addNew acc
theorem uniF_take {acc l : List ByteArray} {k : Nat} (h : k < l.length) : uniF acc (l.take (k + 1)) = addNew (uniF acc (l.take k)) l[k] := by
  rw [List.take_succ_eq_append_getElem h, uniF, List.foldl_append]
  rfl
theorem uniF_append (acc a b : List ByteArray) : uniF acc (a ++ b) = uniF (uniF acc a) b := by simp [uniF]
theorem addNew_old {acc : List ByteArray} {x : ByteArray} (h : has acc x = true) : addNew acc x = acc := by rw [addNew, h]; rfl
theorem addNew_new {acc : List ByteArray} {x : ByteArray} (h : has acc x = false) : addNew acc x = acc ++ [x] := by rw [addNew, h]; rfl
theorem uniF_len : ∀ (l acc : List ByteArray), (uniF acc l).length ≤ acc.length + l.length
  | [], acc => by simp [uniF]
  | x :: r, acc => by
    have h := uniF_len r (addNew acc x)
    have e : uniF acc (x :: r) = uniF (addNew acc x) r := rfl
    rw [e]
    have : (addNew acc x).length ≤ acc.length + 1 := by
      unfold addNew
      split <;> simp
    simp only [List.length_cons]
    omega
theorem uniF_eq : ∀ (l acc : List ByteArray), (uniF acc l).length = acc.length + l.length → uniF acc l = acc ++ l
  | [], acc, _ => by simp [uniF]
  | x :: r, acc, h => by
    have e : uniF acc (x :: r) = uniF (addNew acc x) r := rfl
    rw [e] at h ⊢
    cases hx : has acc x with
    | true =>
      rw [addNew_old hx] at h
      have := uniF_len r acc
      simp only [List.length_cons] at h
      omega
    | false =>
      rw [addNew_new hx] at h ⊢
      rw [uniF_eq r (acc ++ [x]) (by rw [h]; simp; omega), List.append_assoc]
      rfl
theorem has_addNew (acc : List ByteArray) (x s : ByteArray) : has (addNew acc x) s = (has acc s || x.data.toList == s.data.toList) := by
  cases h : has acc x with
  | true =>
    rw [addNew_old h]
    cases he : x.data.toList == s.data.toList with
    | true => rw [← data_inj (eq_of_beq he), h]; rfl
    | false => rw [Bool.or_false]
  | false => rw [addNew_new h, has_snoc]
theorem has_uniF (s : ByteArray) : ∀ (l acc : List ByteArray), has (uniF acc l) s = (has acc s || has l s)
  | [], acc => by simp [uniF, has]
  | x :: r, acc => by
    have e : uniF acc (x :: r) = uniF (addNew acc x) r := rfl
    rw [e, has_uniF s r, has_addNew, Bool.or_assoc]
    rfl
theorem uniF_mem {x : ByteArray} {l : List ByteArray} (h : x ∈ uniF [] l) : x ∈ l := by
  rw [← has_iff] at h ⊢
  rw [has_uniF] at h
  exact h
/-- No two elements are equal. -/
def distinct (ss : List ByteArray) : Bool := decide ((uniF [] ss).length = ss.length)
theorem distinct_yes {ss : List ByteArray} (h : uniF [] ss = ss) : distinct ss = true := by rw [distinct, h]; simp
theorem distinct_no {ss : List ByteArray} {k : Nat} (hk : k < ss.length) (he : uniF [] (ss.take k) = ss.take k) (hh : has (ss.take k) ss[k] = true) : distinct ss = false := by
  have e : uniF [] ss = uniF (ss.take k) (ss.drop (k + 1)) := by
    have h1 : uniF [] ss = uniF (uniF [] (ss.take (k + 1))) (ss.drop (k + 1)) := by rw [← uniF_append, List.take_append_drop]
    rw [h1, uniF_take hk, he, addNew_old hh]
  have h2 := uniF_len (ss.drop (k + 1)) (ss.take k)
  rw [← e] at h2
  simp only [List.length_take, List.length_drop] at h2
  rw [distinct, decide_eq_false_iff_not]
  omega
theorem distinct_step {ss : List ByteArray} {k : Nat} (hk : k < ss.length) (he : uniF [] (ss.take k) = ss.take k) (hh : has (ss.take k) ss[k] = false) : uniF [] (ss.take (k + 1)) = ss.take (k + 1) := by
  rw [uniF_take hk, he, addNew_new hh, ← List.take_succ_eq_append_getElem hk]

theorem uniF_uniF : ∀ (l acc : List ByteArray), uniF [] acc = acc → uniF [] (uniF acc l) = uniF acc l
  | [], acc, h => h
  | x :: r, acc, h => by
    have e : uniF acc (x :: r) = uniF (addNew acc x) r := rfl
    rw [e]
    refine uniF_uniF r _ ?_
    cases hx : has acc x with
    | true => rw [addNew_old hx]; exact h
    | false =>
      rw [addNew_new hx, uniF_append, h]
      exact addNew_new hx
theorem distinct_uni (l : List ByteArray) : distinct (uniF [] l) = true := distinct_yes (uniF_uniF l [] rfl)

theorem Strs.take {w : World} {A : Option Addr} {ss : List ByteArray} (h : Strs w A ss) (k : Nat) : Strs w A (ss.take k) := by
  rcases h with h | ⟨g, o, hA, hg, hc⟩
  · exact .inl (by rw [h]; simp)
  · refine .inr ⟨g, o, hA, hg, fun j s hj => hc j s ?_⟩
    rw [List.getElem?_take] at hj
    split at hj
    · exact hj
    · cases hj
/-- A NEW ROW of these strings, owned. -/
def RowOf (d : List ByteArray) (w : World) (e : Ending) (w' : World) : Prop :=
  ∃ V, e = .returned V ∧ w'.ownsRow w.heap.size 9 1 V d.length (d.map Value.string) ∧ Below w.heap.size w w'
end Go.Proofs.YtngbilblddngcaaDoor
namespace Go.Proofs.YtngbilblddngcaaDoor
open Go.RowKit Go.Lib

/-- Is it the variable itself? -/
def TypeX.isV (u : ByteArray) (k : Int) (s : ByteArray) : Nat := if k = 1 ∧ s = u then 1 else 0
mutual
def TypeX.cntV (u : ByteArray) : TypeX → Nat
  | .mk k s l => TypeX.isV u k s + TypeX.cntVL u l
def TypeX.cntVL (u : ByteArray) : List TypeX → Nat
  | [] => 0
  | x :: r => x.cntV u + TypeX.cntVL u r
end
theorem TypeX.cntV_eq (u : ByteArray) (x : TypeX) : x.cntV u = TypeX.isV u x.kind_ x.name_ + TypeX.cntVL u x.args_ := by cases x with | mk a b c => rw [TypeX.cntV]; rfl
theorem TypeX.cntVL_take (u : ByteArray) : ∀ (l : List TypeX) (j : Nat) (h : j < l.length), TypeX.cntVL u (l.take (j + 1)) = TypeX.cntVL u (l.take j) + l[j].cntV u
  | x :: r, 0, _ => by simp [TypeX.cntVL]
  | x :: r, j + 1, h => by
    have := TypeX.cntVL_take u r j (by simpa using h)
    rw [List.take_succ_cons, List.take_succ_cons, TypeX.cntVL, TypeX.cntVL, this]
    simp; omega
theorem TypeX.cntVL_le (u : ByteArray) : ∀ (l : List TypeX) (j : Nat), TypeX.cntVL u (l.take j) ≤ TypeX.cntVL u l
  | [], j => by simp
  | x :: r, 0 => by simp [TypeX.cntVL]
  | x :: r, j + 1 => by
    have := TypeX.cntVL_le u r j
    rw [List.take_succ_cons, TypeX.cntVL, TypeX.cntVL]; omega

end Go.Proofs.YtngbilblddngcaaDoor
namespace Go.Proofs.YtngbilblddngcaaDoor
open Go.RowKit Go.Lib

end Go.Proofs.YtngbilblddngcaaDoor
namespace Go.Proofs.YtngbilblddngcaaDoor
open Go.RowKit

/-- The index of the first element that is the string; -1 where there is none. -/
def indexOf (ss : List ByteArray) (s : ByteArray) : Int := if has ss s then ((ss.takeWhile fun x => !(x.data.toList == s.data.toList)).length : Int) else -1
theorem indexOf_miss {ss : List ByteArray} {s : ByteArray} (h : has ss s = false) : indexOf ss s = -1 := by rw [indexOf, h]; rfl
theorem indexOf_hit {ss : List ByteArray} {s : ByteArray} {k : Nat} (hk : k < ss.length) (hno : has (ss.take k) s = false) (he : (ss[k].data.toList == s.data.toList) = true) : indexOf ss s = k := by
  have hy : has ss s = true := has_of_take (k := k + 1) (by rw [has_take hk, he, Bool.or_true])
  have e : ss = ss.take k ++ ss[k] :: ss.drop (k + 1) := by rw [← List.drop_eq_getElem_cons hk, List.take_append_drop]
  have hl : (ss.takeWhile fun x => !(x.data.toList == s.data.toList)) = ss.take k := by
    conv => lhs; rw [e]
    rw [List.takeWhile_append_of_pos, List.takeWhile_cons_of_neg, List.append_nil]
    · rw [he]; decide
    · intro x hx
      rw [has, List.any_eq_false] at hno
      simpa using hno x hx
  rw [indexOf, hy, hl, List.length_take]
  simp
  omega
theorem indexOf_has (ss : List ByteArray) (s : ByteArray) : decide (0 ≤ indexOf ss s) = has ss s := by
  cases h : has ss s with
  | true => rw [indexOf, h]; simp
  | false => rw [indexOf_miss h]; decide
theorem indexOf_lt (ss : List ByteArray) (s : ByteArray) : -1 ≤ indexOf ss s ∧ indexOf ss s < ss.length + 1 := by
  unfold indexOf
  have := (List.takeWhile_sublist (fun x : ByteArray => !(x.data.toList == s.data.toList)) (l := ss)).length_le
  split <;> omega

end Go.Proofs.YtngbilblddngcaaDoor
namespace Go.Proofs.YtngbilblddngcaaDoor
open Go.RowKit Go.Lib

mutual
/-- What the bindings become when the pattern is matched; nothing where it doesn't. -/
def TypeX.mat : TypeX → TypeX → List BindingX → Option (List BindingX)
  | .mk k n a, t, acc =>
    if k = 1 then
      match lookX n acc with
      | some y => if y.same t = true then some acc else none
      | none => some (acc ++ [.mk n t])
    else if k = t.kind_ ∧ n = t.name_ ∧ a.length = t.args_.length then TypeX.matL a t.args_ acc else none
def TypeX.matL : List TypeX → List TypeX → List BindingX → Option (List BindingX)
  | [], _, acc => some acc
  | _ :: _, [], _ => none
  | x :: r, y :: s, acc =>
    match x.mat y acc with
    | some acc2 => TypeX.matL r s acc2
    | none => none
end
/-- Matching at all positions. -/
def matAll (ps ts : List TypeX) : Option (List BindingX) := if ps.length = ts.length then TypeX.matL ps ts [] else none
theorem TypeX.mat_met {p t y : TypeX} {acc : List BindingX} (hk : p.kind_ = 1) (hl : lookX p.name_ acc = some y) : p.mat t acc = if y.same t = true then some acc else none := by
  cases p with | mk k n a =>
  simp only [TypeX.kind_, TypeX.name_] at hk hl
  rw [TypeX.mat, if_pos hk, hl]
theorem TypeX.mat_new {p t : TypeX} {acc : List BindingX} (hk : p.kind_ = 1) (hl : lookX p.name_ acc = none) : p.mat t acc = some (acc ++ [.mk p.name_ t]) := by
  cases p with | mk k n a =>
  simp only [TypeX.kind_, TypeX.name_] at hk hl
  rw [TypeX.mat, if_pos hk, hl]
  rfl
theorem TypeX.mat_no {p t : TypeX} {acc : List BindingX} (hk : p.kind_ ≠ 1) (h : ¬ (p.kind_ = t.kind_ ∧ p.name_ = t.name_ ∧ p.args_.length = t.args_.length)) : p.mat t acc = none := by
  cases p with | mk k n a =>
  have hk : k ≠ 1 := hk
  have h : ¬ (k = t.kind_ ∧ n = t.name_ ∧ a.length = t.args_.length) := h
  rw [TypeX.mat, if_neg hk, if_neg h]
theorem TypeX.mat_args {p t : TypeX} {acc : List BindingX} (hk : p.kind_ ≠ 1) (h : p.kind_ = t.kind_ ∧ p.name_ = t.name_ ∧ p.args_.length = t.args_.length) : p.mat t acc = TypeX.matL p.args_ t.args_ acc := by
  cases p with | mk k n a =>
  have hk : k ≠ 1 := hk
  have h : k = t.kind_ ∧ n = t.name_ ∧ a.length = t.args_.length := h
  rw [TypeX.mat, if_neg hk, if_pos h]
  rfl
/-- One position more. -/
theorem TypeX.matL_step : ∀ (ps ts : List TypeX) (acc : List BindingX) (k : Nat) (hp : k < ps.length) (ht : k < ts.length), TypeX.matL (ps.take (k + 1)) (ts.take (k + 1)) acc = (TypeX.matL (ps.take k) (ts.take k) acc).bind fun a2 => ps[k].mat ts[k] a2
  | x :: r, y :: s, acc, 0, _, _ => by
    simp only [Nat.zero_add, List.take_succ_cons, List.take_zero, TypeX.matL, Option.bind_some, List.getElem_cons_zero]
    cases x.mat y acc <;> rfl
  | x :: r, y :: s, acc, k + 1, hp, ht => by
    rw [List.take_succ_cons, List.take_succ_cons, List.take_succ_cons, List.take_succ_cons, TypeX.matL, TypeX.matL]
    cases x.mat y acc with
    | none => rfl
    | some a2 =>
      simp only [List.getElem_cons_succ]
      exact TypeX.matL_step r s a2 k (by simpa using hp) (by simpa using ht)
/-- Once it fails it fails. -/
theorem TypeX.matL_none : ∀ (ps ts : List TypeX) (acc : List BindingX) (k : Nat), ps.length = ts.length → TypeX.matL (ps.take k) (ts.take k) acc = none → TypeX.matL ps ts acc = none
  | [], _, acc, k, _, h => by rw [List.take_nil, TypeX.matL] at h; cases h
  | x :: r, [], acc, k, hl, h => by simp at hl
  | x :: r, y :: s, acc, 0, hl, h => by rw [List.take_zero, List.take_zero, TypeX.matL] at h; cases h
  | x :: r, y :: s, acc, k + 1, hl, h => by
    rw [List.take_succ_cons, List.take_succ_cons, TypeX.matL] at h
    rw [TypeX.matL]
    cases hm : x.mat y acc with
    | none => rfl
    | some a2 =>
      rw [hm] at h
      exact TypeX.matL_none r s a2 k (by simpa using hl) h
mutual
/-- What is bound is small, and there is no more of it than the pattern is large. -/
theorem TypeX.mat_small {M : Nat} : ∀ (p t : TypeX) (acc a2 : List BindingX), (∀ b ∈ acc, b.type_.size ≤ M) → t.size ≤ M → p.mat t acc = some a2 → (∀ b ∈ a2, b.type_.size ≤ M) ∧ a2.length ≤ acc.length + p.size
  | .mk k n a, t, acc, a2, ha, ht, h => by
    rw [TypeX.mat] at h
    rw [TypeX.size]
    by_cases hk : k = 1
    · rw [if_pos hk] at h
      cases hl : lookX n acc with
      | some y =>
        rw [hl] at h
        by_cases hs : y.same t = true
        · simp only [hs, if_true, Option.some.injEq] at h
          subst h; exact ⟨ha, by omega⟩
        · simp [hs] at h
      | none =>
        rw [hl] at h
        simp only [Option.some.injEq] at h
        subst h
        refine ⟨fun b hb => ?_, by rw [List.length_append, List.length_singleton]; omega⟩
        rcases List.mem_append.1 hb with hb | hb
        · exact ha b hb
        · rw [List.mem_singleton.1 hb]; exact ht
    · rw [if_neg hk] at h
      by_cases hc : k = t.kind_ ∧ n = t.name_ ∧ a.length = t.args_.length
      · rw [if_pos hc] at h
        have := TypeX.matL_small a t.args_ acc a2 ha (by rw [TypeX.size_eq] at ht; omega) h
        exact ⟨this.1, by omega⟩
      · rw [if_neg hc] at h; cases h
theorem TypeX.matL_small {M : Nat} : ∀ (ps ts : List TypeX) (acc a2 : List BindingX), (∀ b ∈ acc, b.type_.size ≤ M) → TypeX.sizeL ts ≤ M → TypeX.matL ps ts acc = some a2 → (∀ b ∈ a2, b.type_.size ≤ M) ∧ a2.length ≤ acc.length + TypeX.sizeL ps
  | [], ts, acc, a2, ha, ht, h => by
    rw [TypeX.matL] at h
    injection h with h
    subst h; exact ⟨ha, by omega⟩
  | x :: r, [], acc, a2, ha, ht, h => by rw [TypeX.matL] at h; cases h
  | x :: r, y :: s, acc, a2, ha, ht, h => by
    rw [TypeX.matL] at h
    rw [TypeX.sizeL] at ht
    rw [TypeX.sizeL]
    cases hm : x.mat y acc with
    | none => rw [hm] at h; cases h
    | some a1 =>
      rw [hm] at h
      have h1 := TypeX.mat_small x y acc a1 ha (by omega) hm
      have h2 := TypeX.matL_small r s a1 a2 h1.1 (by omega) h
      exact ⟨h2.1, by omega⟩
end
end Go.Proofs.YtngbilblddngcaaDoor
namespace Go.Proofs.YtngbilblddngcaaDoor
open Go.RowKit Go.Lib
open Go.ChangeMaps (setBlock)

section
def Ents (es : List MapEntry) (l : List (ByteArray × Value)) : Prop := es.map (fun e => (e.key, e.val)) = l.map fun p => (Value.string p.1, p.2)
def isN (s : ByteArray) (p : ByteArray × Value) : Bool := decide (p.1 = s)
def isK (s : ByteArray) (e : MapEntry) : Bool := match e.key with
  | .string t => decide (t = s)
  | _ => false
theorem isK_of {s : ByteArray} {e : MapEntry} {t : ByteArray} (h : e.key = .string t) : isK s e = decide (t = s) := by rw [isK, h]
theorem isK_key {s : ByteArray} {e : MapEntry} (h : isK s e = true) : e.key = .string s := by
  unfold isK at h
  split at h
  · rename_i t ht; rw [ht, of_decide_eq_true h]
  · cases h
theorem Ents.cons {e : MapEntry} {es : List MapEntry} {p : ByteArray × Value} {l : List (ByteArray × Value)} (h : Ents (e :: es) (p :: l)) : e.key = .string p.1 ∧ e.val = p.2 ∧ Ents es l := by
  unfold Ents at h
  rw [List.map_cons, List.map_cons, List.cons.injEq, Prod.mk.injEq] at h
  exact ⟨h.1.1, h.1.2, h.2⟩
theorem Ents.mk_cons {e : MapEntry} {es : List MapEntry} {p : ByteArray × Value} {l : List (ByteArray × Value)} (h1 : e.key = .string p.1) (h2 : e.val = p.2) (h : Ents es l) : Ents (e :: es) (p :: l) := by
  unfold Ents at h ⊢
  rw [List.map_cons, List.map_cons, h, h1, h2]
theorem Ents.filter (s : ByteArray) : ∀ {es : List MapEntry} {l : List (ByteArray × Value)}, Ents es l → Ents (es.filter fun e => !isK s e) (l.filter fun p => !isN s p)
  | [], [], _ => rfl
  | [], p :: l, h => by simp [Ents] at h
  | e :: es, [], h => by simp [Ents] at h
  | e :: es, p :: l, h => by
    obtain ⟨h1, h2, h3⟩ := h.cons
    have ih := Ents.filter s h3
    rw [List.filter_cons, List.filter_cons, isK_of h1, show decide (p.1 = s) = isN s p from rfl]
    cases isN s p with
    | true => simpa using ih
    | false => simpa using Ents.mk_cons h1 h2 ih
theorem Ents.mem : ∀ {es : List MapEntry} {l : List (ByteArray × Value)}, Ents es l → ∀ {e : MapEntry}, e ∈ es → ∃ p ∈ l, e.key = .string p.1 ∧ e.val = p.2
  | [], _, _, _, he => by simp at he
  | _ :: _, [], h, _, _ => by simp [Ents] at h
  | x :: es, p :: l, h, e, he => by
    obtain ⟨h1, h2, h3⟩ := h.cons
    rcases List.mem_cons.1 he with rfl | he
    · exact ⟨p, List.mem_cons_self, h1, h2⟩
    · obtain ⟨q, hq, k⟩ := Ents.mem h3 he
      exact ⟨q, List.mem_cons_of_mem _ hq, k⟩
theorem Ents.length {es : List MapEntry} {l : List (ByteArray × Value)} (h : Ents es l) : es.length = l.length := by
  have := congrArg List.length h
  simpa using this
theorem Ents.snoc {es : List MapEntry} {l : List (ByteArray × Value)} (h : Ents es l) {e : MapEntry} {p : ByteArray × Value} (h1 : e.key = .string p.1) (h2 : e.val = p.2) : Ents (es ++ [e]) (l ++ [p]) := by
  unfold Ents at h ⊢
  rw [List.map_append, List.map_append, h, List.map_cons, List.map_cons, h1, h2]; rfl
theorem find_none {s : ByteArray} : ∀ {l : List (ByteArray × Value)}, findV s l = none → ∀ p ∈ l, p.1 ≠ s
  | p :: l, h, q, hq => by
    rw [findV] at h
    by_cases hs : s = p.1
    · rw [if_pos hs] at h; cases h
    · rw [if_neg hs] at h
      rcases List.mem_cons.1 hq with rfl | hq
      · exact fun e => hs e.symm
      · exact find_none h q hq
theorem find_j (s : ByteArray) : ∀ (es : List MapEntry) (l : List (ByteArray × Value)) (i : Nat) (v : Value), Ents es l → findV s l = some v →
    ∃ j e, Instr.findNow .string (.string s) es i = some (some (i + j, v)) ∧ es[j]? = some e ∧ e.key = .string s
  | [], [], i, v, _, hf => by simp [findV] at hf
  | e :: es, p :: l, i, v, h, hf => by
    obtain ⟨h1, h3, h2⟩ := h.cons
    rw [Instr.findNow, h1, sameNow_str]
    rw [findV] at hf
    by_cases hs : s = p.1
    · rw [if_pos hs] at hf
      injection hf with hf
      refine ⟨0, e, ?_, rfl, by rw [h1, hs]⟩
      rw [decide_eq_true hs]; simp only []; rw [h3, hf, Nat.add_zero]
    · rw [if_neg hs] at hf
      obtain ⟨j, e', k1, k2, k3⟩ := find_j s es l (i + 1) v h2 hf
      refine ⟨j + 1, e', ?_, k2, k3⟩
      rw [decide_eq_false hs]; simp only []; rw [k1]; congr 3; omega
  | [], p :: l, i, v, h, _ => by simp [Ents] at h
  | e :: es, [], i, v, h, _ => by simp [Ents] at h

/-- Block b is a map with these entries, each under a stamp of its own. -/
def MapS (w : World) (b : Nat) (l : List (ByteArray × Value)) : Prop := ∃ (es : Array MapEntry) (clk : Nat), w.heap[b]? = some (.map es clk) ∧ MapKept.Stamped es clk ∧ Ents es.toList l
theorem MapS.at_ {w : World} {b : Nat} {l : List (ByteArray × Value)} (h : MapS w b l) : MapAt w b l := by
  obtain ⟨es, clk, hb, _, he⟩ := h
  exact ⟨es, clk, hb, he⟩
theorem MapS.made (w : World) : MapS (w.alloc (.map #[] 0)) w.heap.size [] := ⟨#[], 0, by show (w.heap.push _)[w.heap.size]? = _; simp, MapKept.stamped_empty 0, rfl⟩
theorem MapS.lt {w : World} {b : Nat} {l : List (ByteArray × Value)} (h : MapS w b l) : b < w.heap.size := h.at_.lt
theorem MapS.same {w w' : World} {b : Nat} {l : List (ByteArray × Value)} (h : MapS w b l) (hb : w'.heap[b]? = w.heap[b]?) : MapS w' b l := by
  obtain ⟨es, clk, h1, h2, h3⟩ := h
  exact ⟨es, clk, hb.trans h1, h2, h3⟩
variable {P : Program} {t k e : TypeId} {w : World} {b r : Nat} {l todo : List (ByteArray × Value)}
theorem MapS.store (h : MapS w b l) (ht : P.underlying t = some (.map k e)) (hk : P.underlying k = some .string) (s : ByteArray) (v : Value) (hn : findV s l = none) :
    ∃ w', (Instr.mapUpdate t (.map (some b)) (.string s) v).run P w = .ok () w' ∧ MapS w' b (l ++ [(s, v)]) ∧ w.grownBy w' (some b) ∧ w'.heap.size = w.heap.size := by
  obtain ⟨es, clk, hb, hst, he⟩ := h
  rcases find_list s es.toList l 0 he with ⟨h1, h2⟩ | ⟨j, v, h1, h2⟩
  · refine ⟨{ w with heap := w.heap.setIfInBounds b (.map (es.push { key := .string s, val := v, born := clk }) (clk + 1)) }, ?_, ⟨_, _, (MapKept.heap_set hb).1, ?_, ?_⟩, ⟨rfl, rfl, rfl, by simp, fun k' _ hne => (MapKept.heap_set hb).2 k' fun e => hne (by rw [e])⟩, by simp⟩
    · simp [Instr.mapUpdate, run_underlying ht, MapKept.run_getObj_map hb, MapKept.run_checkKey (k := .string s) hk trivial, MapKept.run_findKey hk h2, MapKept.run_setObj_map _ hb, Result.andThen]
    · refine MapKept.stamped_push hst fun x hx ex => ?_
      obtain ⟨p, hp, hpk, _⟩ := he.mem hx
      rw [ex] at hpk
      injection hpk with hpk
      exact find_none hn p hp hpk.symm
    · rw [Array.toList_push]; exact he.snoc rfl rfl
  · rw [hn] at h1; cases h1

/-- A range over the map of block b under way: todo: what is still to come. -/
def RngS (w : World) (b r : Nat) (l todo : List (ByteArray × Value)) : Prop :=
  ∃ es clk since seen c0, w.heap[b]? = some (.map es clk) ∧ MapKept.Stamped es clk ∧ Ents es.toList l ∧ w.heap[r]? = some (.mapIter (some b) since seen c0) ∧ (∀ x ∈ es.toList, x.born < since) ∧ since ≤ c0 ∧ since ≤ clk ∧
    Ents (es.toList.filter fun e => !seen.contains e.born) todo
theorem RngS.map_ (h : RngS w b r l todo) : MapS w b l := by
  obtain ⟨es, clk, _, _, _, hb, hs, he, _⟩ := h
  exact ⟨es, clk, hb, hs, he⟩
theorem RngS.lt (h : RngS w b r l todo) : r < w.heap.size := by
  obtain ⟨es, clk, since, seen, c0, _, _, _, hr, _⟩ := h
  exact (Array.getElem?_eq_some_iff.1 hr).1
theorem RngS.ne (h : RngS w b r l todo) : r ≠ b := by
  obtain ⟨es, clk, since, seen, c0, hb, _, _, hr, _⟩ := h
  intro e
  rw [e, hb] at hr
  cases hr
theorem RngS.same {w' : World} (h : RngS w b r l todo) (hb' : w'.heap[b]? = w.heap[b]?) (hr' : w'.heap[r]? = w.heap[r]?) : RngS w' b r l todo := by
  obtain ⟨es, clk, since, seen, c0, hb, hs, he, hr, rest⟩ := h
  exact ⟨es, clk, since, seen, c0, hb'.trans hb, hs, he, hr'.trans hr, rest⟩
theorem MapS.range (h : MapS w b l) (ht : P.underlying t = some (.map k e)) :
    ∃ w', (Instr.range t (.map (some b))).run P w = .ok (.pointer (some ⟨w.heap.size, 0, none⟩)) w' ∧ RngS w' b w.heap.size l l ∧ w.grownBy w' none ∧ w'.heap.size = w.heap.size + 1 := by
  have hlt := h.lt
  obtain ⟨es, clk, hb, hs, he⟩ := h
  refine ⟨_, run_range_map w t k e b es clk ht hb, ⟨es, clk, clk, #[], clk, ((MapKept.heap_alloc w _).2 b hlt).trans hb, hs, he, (MapKept.heap_alloc w _).1, ((MapKept.stamped_iff es clk).1 hs).1, Nat.le_refl _, Nat.le_refl _, by rw [List.filter_eq_self.2 (fun x _ => by simp)]; exact he⟩, World.grownBy_alloc w _ none, by simp⟩
theorem left_list (es : Array MapEntry) (seen : Array Nat) : (leftOf es seen).toList = es.toList.filter fun e => !seen.contains e.born := by
  unfold leftOf
  rw [← Array.toList_filter]
theorem born_iff {es : Array MapEntry} {clk : Nat} (hs : MapKept.Stamped es clk) {s : ByteArray} {e0 x : MapEntry} (he : e0 ∈ es.toList) (hx : x ∈ es.toList) (hk : e0.key = .string s) : (x.born == e0.born) = isK s x := by
  have hst := (MapKept.stamped_iff es clk).1 hs
  by_cases hbe : x.born = e0.born
  · obtain rfl := born_inj hst.2.1 hx he hbe
    rw [isK_of hk, beq_self_eq_true, decide_eq_true rfl]
  · rw [show (x.born == e0.born) = false by simp [hbe]]
    cases hi : isK s x with
    | false => rfl
    | true => exact absurd (congrArg MapEntry.born (entry_eq_of_key hst.2.2 hx he ((isK_key hi).trans hk.symm))) hbe
theorem filter_same {α : Type} {f g : α → Bool} : ∀ {l : List α}, (∀ x ∈ l, f x = g x) → l.filter f = l.filter g := fun h => List.filter_congr h
theorem RngS.next (h : RngS w b r l todo) (ty : TypeId) :
    (todo = [] ∧ (Instr.next (.pointer (some ⟨r, 0, none⟩)) false ty).run P w = .ok (.tuple #[.bool false]) w) ∨
    ∃ p w', p ∈ todo ∧ (Instr.next (.pointer (some ⟨r, 0, none⟩)) false ty).run P w = .ok (.tuple #[.bool true, .string p.1, p.2]) w' ∧
      RngS w' b r l (todo.filter fun q => !isN p.1 q) ∧ w.grownBy w' (some r) ∧ w'.heap.size = w.heap.size ∧ (Instr.entry (.pointer (some ⟨r, 0, none⟩))).run P w' = .ok (.tuple #[.string p.1, p.2]) w' := by
  have hne := h.ne
  obtain ⟨es, clk, since, seen, c0, hb, hs, he, hr, hold, hsc, hsk, hto⟩ := h
  rcases run_next_at (P := P) w ty r b since c0 seen es clk hr hb hold hsc with ⟨h0, hrun⟩ | ⟨e0, he0, w1, hal, hrun⟩
  · refine .inl ⟨?_, hrun⟩
    have hl := hto.length
    rw [← left_list, Array.length_toList, h0] at hl
    exact List.eq_nil_of_length_eq_zero hl.symm
  · rw [left_list] at he0
    obtain ⟨p, hp, hpk, hpv⟩ := hto.mem he0
    have hem : e0 ∈ es.toList := (List.mem_filter.1 he0).1
    have hr1 : w1.heap[r]? = some (.mapIter (some b) since seen c0) := by rcases hal with rfl | rfl <;> exact hr
    have hb1 : w1.heap[b]? = some (.map es clk) := by rcases hal with rfl | rfl <;> exact hb
    have hset := MapKept.heap_set (o' := .mapIter (some b) since (seen.push e0.born) clk) hr1
    have hb' : (setBlock w1 r (.mapIter (some b) since (seen.push e0.born) clk)).heap[b]? = some (.map es clk) := (hset.2 b (fun e1 => hne e1.symm)).trans hb1
    have hent := run_entry_at (P := P) _ r b since seen es clk e0 hset.1 hb' hem ((MapKept.stamped_iff es clk).1 hs).2.1
    rw [hpk, hpv] at hrun hent
    refine .inr ⟨p, _, hp, hrun, ⟨es, clk, since, seen.push e0.born, clk, hb', hs, he, hset.1, hold, hsk, hsk, ?_⟩, ?_, ?_, hent⟩
    · have hf := hto.filter p.1
      rw [List.filter_filter] at hf
      rw [show (es.toList.filter fun e => !(seen.push e0.born).contains e.born) = es.toList.filter fun a => (!isK p.1 a && !seen.contains a.born) from filter_same fun x hx => by
        rw [← born_iff hs hem hx hpk, contains_push]
        cases seen.contains x.born <;> cases (x.born == e0.born) <;> rfl]
      exact hf
    · rcases hal with rfl | rfl <;> exact ⟨rfl, rfl, rfl, by simp [setBlock], fun i _ hi => hset.2 i (fun e1 => hi (by rw [e1]))⟩
    · rcases hal with rfl | rfl <;> simp [setBlock]
theorem RngS.drop (h : RngS w b r l todo) (ht : P.underlying t = some (.map k e)) (hk : P.underlying k = some .string) (s : ByteArray) (ty : TypeId) :
    ∃ w', (Builtin.delete_ #[t, k] ty #[.map (some b), .string s]).run P w = .ok (.tuple #[]) w' ∧ RngS w' b r (l.filter fun q => !isN s q) (todo.filter fun q => !isN s q) ∧ w.grownBy w' (some b) ∧ w'.heap.size = w.heap.size := by
  have hne := h.ne
  obtain ⟨es, clk, since, seen, c0, hb, hs, he, hr, hold, hsc, hsk, hto⟩ := h
  have hst := (MapKept.stamped_iff es clk).1 hs
  obtain ⟨es', hrun, hs', hel⟩ : ∃ es', (Builtin.delete_ #[t, k] ty #[.map (some b), .string s]).run P w = .ok (.tuple #[]) (setBlock w b (.map es' clk)) ∧ MapKept.Stamped es' clk ∧ es'.toList = es.toList.filter fun x => !isK s x := by
    cases hf : findV s l with
    | none =>
      rcases find_list s es.toList l 0 he with ⟨h1, h2⟩ | ⟨j, v, h1, h2⟩
      · refine ⟨es, ?_, hs, ?_⟩
        · simp [Builtin.delete_, run_underlying ht, MapKept.run_getObj_map hb, MapKept.run_checkKey (k := .string s) hk trivial, MapKept.run_findKey hk h2, MapKept.run_setObj_map _ hb, Result.andThen, setBlock]
        · refine (List.filter_eq_self.2 fun x hx => ?_).symm
          obtain ⟨p, hp, hpk, _⟩ := he.mem hx
          rw [isK_of hpk, decide_eq_false (find_none hf p hp)]; rfl
      · rw [hf] at h1; cases h1
    | some v =>
      obtain ⟨j, e0, h1, h2, h3⟩ := find_j s es.toList l 0 v he hf
      have hjl : j < es.toList.length := (List.getElem?_eq_some_iff.1 h2).1
      have hjs : j < es.size := by simpa using hjl
      rw [Nat.zero_add] at h1
      have hsub : (es.eraseIdxIfInBounds j).toList = es.toList.eraseIdx j := by
        unfold Array.eraseIdxIfInBounds
        rw [dif_pos hjs]
        simp
      refine ⟨es.eraseIdxIfInBounds j, ?_, MapKept.stamped_erase hs j, ?_⟩
      · simp [Builtin.delete_, run_underlying ht, MapKept.run_getObj_map hb, MapKept.run_checkKey (k := .string s) hk trivial, MapKept.run_findKey hk h1, MapKept.run_setObj_map _ hb, Result.andThen, setBlock]
      · rw [hsub]
        exact (Go.ChangeMaps.filter_eq_eraseIdx (isK s) es.toList j e0 h2 (by rw [isK_of h3, decide_eq_true rfl]) (hst.2.2.imp fun hkk ⟨a1, a2⟩ => hkk ((isK_key a1).trans (isK_key a2).symm))).symm
  have hset := MapKept.heap_set (o' := .map es' clk) hb
  refine ⟨_, hrun, ⟨es', clk, since, seen, c0, hset.1, hs', by rw [hel]; exact he.filter s, (hset.2 r hne).trans hr, fun x hx => hold x (by rw [hel] at hx; exact (List.mem_filter.1 hx).1), hsc, hsk, ?_⟩, ⟨rfl, rfl, rfl, by simp [setBlock], fun i _ hi => hset.2 i (fun e1 => hi (by rw [e1]))⟩, by simp [setBlock]⟩
  have hf := hto.filter s
  rw [List.filter_filter] at hf
  rw [hel, List.filter_filter, show (es.toList.filter fun a => (!seen.contains a.born && !isK s a)) = es.toList.filter fun a => (!isK s a && !seen.contains a.born) from filter_same fun x _ => Bool.and_comm _ _]
  exact hf
end

section
variable {P : Program} (w : World) {ops : Array Oper} {rest : List Oper} {o : Oper} {a : Act} {Q : Exit → Act → World → Prop}
/-- 'range m'. -/
theorem wpList_range_s (hg : o.guard = none) (m : Operand) (t : TypeId) (hop : o.op = Op.range t m) (k e : TypeId) (ht : P.underlying t = some (.map k e)) (b : Nat) (l : List (ByteArray × Value))
    (hm : a.eval m = .map (some b)) (h : MapS w b l) (r : Nat) (hr : w.heap.size = r)
    (hK : ∀ w', RngS w' b r l l → w.grownBy w' none → w'.heap.size = r + 1 → wpList P ops Q rest (a.put o.dst (.pointer (some ⟨r, 0, none⟩))) w') :
    wpList P ops Q (o :: rest) a w := by
  subst hr
  refine wpList_plain hg fun K' hK' => ?_
  obtain ⟨w', hrun, r1, r2, r3⟩ := h.range (P := P) ht
  unfold Oper.wp
  simp [execOp, hop, hm, hrun, Result.andThen]
  exact hK' _ _ (hK w' r1 r2 r3)
/-- The step. -/
theorem wpList_next_s (hg : o.guard = none) (it : Operand) (hop : o.op = Op.next it false) (b r : Nat) (l todo : List (ByteArray × Value)) (hit : a.eval it = .pointer (some ⟨r, 0, none⟩)) (h : RngS w b r l todo)
    (hDone : todo = [] → wpList P ops Q rest (a.put o.dst (.tuple #[.bool false])) w)
    (hMore : ∀ (s : ByteArray) (v : Value) (w' : World), (s, v) ∈ todo → RngS w' b r l (todo.filter fun q => !isN s q) → w.grownBy w' (some r) → w'.heap.size = w.heap.size →
      (Instr.entry (.pointer (some ⟨r, 0, none⟩))).run P w' = .ok (.tuple #[.string s, v]) w' → wpList P ops Q rest (a.put o.dst (.tuple #[.bool true, .string s, v])) w') :
    wpList P ops Q (o :: rest) a w := by
  refine wpList_plain hg fun K' hK' => ?_
  unfold Oper.wp
  rcases h.next (P := P) o.type with ⟨h0, hrun⟩ | ⟨p, w', hp, hrun, hrg, hgr, hsz, hen⟩
  · simp [execOp, hop, hit, hrun, Result.andThen]
    exact hK' _ _ (hDone h0)
  · simp [execOp, hop, hit, hrun, Result.andThen]
    exact hK' _ _ (hMore p.1 p.2 w' hp hrg hgr hsz hen)
/-- 'delete(m, k)' in the round. -/
theorem wpList_delete_s (hg : o.guard = none) (m x : Operand) (t k : TypeId) (hop : o.op = Op.call { callee := Callee.builtin Builtin.delete, args := #[m, x], argTypes := #[t, k] })
    (e : TypeId) (ht : P.underlying t = some (.map k e)) (hk : P.underlying k = some .string) (b r : Nat) (l todo : List (ByteArray × Value)) (hm : a.eval m = .map (some b)) (h : RngS w b r l todo) (s : ByteArray) (hx : a.eval x = .string s)
    (hK : ∀ w', RngS w' b r (l.filter fun q => !isN s q) (todo.filter fun q => !isN s q) → w.grownBy w' (some b) → w'.heap.size = w.heap.size → wpList P ops Q rest (a.put o.dst (.tuple #[])) w') :
    wpList P ops Q (o :: rest) a w := by
  refine wpList_plain hg fun K' hK' => ?_
  obtain ⟨w', hrun, r1, r2, r3⟩ := h.drop (P := P) ht hk s o.type
  unfold Oper.wp
  simp [execOp, hop, resolve, invoke, builtin, hm, hx, hrun, Result.andThen]
  exact hK' _ _ (hK w' r1 r2 r3)
end
end Go.Proofs.YtngbilblddngcaaDoor
namespace Go.Proofs.YtngbilblddngcaaDoor
open Go.RowKit

/-- What a round keeps: what lay below n₀, and the iterator's own blocks. -/
structure KeepsM (n₀ : Nat) (M : Nat → Prop) (W W' : World) : Prop where
  below : Below n₀ W W'
  own : ∀ b, M b → W'.heap[b]? = W.heap[b]?
theorem KeepsM.refl (n₀ : Nat) (M : Nat → Prop) (W : World) : KeepsM n₀ M W W := ⟨Below.refl _ _, fun _ _ => rfl⟩
theorem KeepsM.trans {n₀ : Nat} {M : Nat → Prop} {A B C : World} (h : KeepsM n₀ M A B) (k : KeepsM n₀ M B C) : KeepsM n₀ M A C := ⟨h.below.trans k.below, fun b hb => (k.own b hb).trans (h.own b hb)⟩
theorem KeepsM.putObj {n₀ : Nat} {M : Nat → Prop} {W : World} {l : Nat} {o' : Obj} (hn : n₀ ≤ l) (hl : l < W.heap.size) (hM : ¬ M l) : KeepsM n₀ M W (W.putObj l o') :=
  ⟨(Below.refl n₀ W).grown (grownBy_putObj' W l o') (by omega) (fun k e => by cases e; exact hn), fun b hb => World.putObj_heap_other (fun e => hM (e ▸ hb))⟩
theorem KeepsM.alloc {n₀ : Nat} {M : Nat → Prop} {W : World} (hn : n₀ ≤ W.heap.size) (hM : ∀ b, M b → b < W.heap.size) (o : Obj) : KeepsM n₀ M W (W.alloc o) :=
  ⟨(Below.refl n₀ W).alloc hn o, fun b hb => Below.heap_alloc W o b (hM b hb)⟩
theorem KeepsM.setCell {n₀ : Nat} {M : Nat → Prop} {W : World} {b : Nat} {o : Nat} (hn : n₀ ≤ b) (hM : ¬ M b) (v : Value) : KeepsM n₀ M W (W.setCell ⟨b, o, none⟩ v) :=
  ⟨(Below.refl n₀ W).setCell (p := ⟨b, o, none⟩) hn v, fun k hk => Below.heap_setCell W _ v k (fun e => hM (by rw [← show k = b from e]; exact hk))⟩
theorem KeepsM.grown {n₀ : Nat} {M : Nat → Prop} {W W' : World} {row : Option Nat} (hg : W.grownBy W' row) (hn : n₀ ≤ W.heap.size) (hM : ∀ b, M b → b < W.heap.size) (hr : ∀ k, row = some k → n₀ ≤ k ∧ ¬ M k) : KeepsM n₀ M W W' :=
  ⟨(Below.refl n₀ W).grown hg hn (fun k e => (hr k e).1), fun b hb => hg.block b (hM b hb) (fun e => (hr b e.symm).2 hb)⟩
theorem KeepsM.of_below {n₀ : Nat} {M : Nat → Prop} {W W' : World} (hb : Below W.heap.size W W') (hn : n₀ ≤ W.heap.size) (hM : ∀ b, M b → b < W.heap.size) : KeepsM n₀ M W W' :=
  ⟨hb.mono hn, fun b hb' => hb.block b (hM b hb')⟩
theorem grown_none {A B : World} (h : Below A.heap.size A B) : A.grownBy B none := ⟨h.os, h.tape, h.output, h.size, fun k hk _ => h.block k hk⟩
theorem grownBy_setCell'' (W : World) (b o : Nat) (v : Value) : W.grownBy (W.setCell ⟨b, o, none⟩ v) (some b) :=
  ⟨rfl, rfl, rfl, by simp, fun k _ hk => Below.heap_setCell _ _ _ k (fun e => hk (by rw [e]))⟩
theorem KeepsFrom.of_below {B : Nat} {W W' : World} (hb : Below W.heap.size W W') : KeepsFrom B W W' :=
  ⟨hb.size, fun k _ _ hk _ => (hb.block k (Array.getElem?_eq_some_iff.1 hk).1).trans hk⟩

/-- THE ITERATOR's CONTRACT: J and Jx are the caller's; M: the blocks that the iterator has made; Rd: those that it only reads. -/
def SeqM {α : Type} (F : Fence) (n : Nat) (P : Program) (g : Nat) (lb : Array Value) (encs : α → Array Value) (Ok : List α → α → Prop) (S : List α → Prop) (n₀ : Nat) (Rd : Nat → Prop) (w : World) : Prop :=
  ∀ (l : Nat) (J : (Nat → Prop) → List α → World → Prop) (Jx : List α → World → Prop) (W : World), Below w.heap.size w W →
    (∀ M s A B row, J M s A → A.grownBy B row → (∀ r, row = some r → M r) → J (fun b => M b ∨ (A.heap.size ≤ b ∧ b < B.heap.size)) s B) →
    (∀ M pre x W1, J M pre W1 → Ok pre x → YieldAt F (n - 1) P l (encs x) W1 fun e W' =>
      (e = .returned (.bool true) ∧ J M (pre ++ [x]) W' ∧ KeepsM n₀ (fun b => M b ∨ Rd b) W1 W') ∨ (e = .returned (.bool false) ∧ Jx (pre ++ [x]) W')) →
    J (fun _ => False) [] W →
    CallsIn F n P g (#[.func (.yield l) #[] #[]] ++ lb) W fun e W' => (∃ v, e = .returned v) ∧ ((∃ M xs, S xs ∧ J M xs W') ∨ (∃ pre, Jx pre W'))

/-- THE CALLER's INVARIANT abides the iterator's steps, and the turns of what is no cells, from B on. -/
def OwnM {β : Type} (B : Nat) (I : (Nat → Prop) → β → World → Prop) : Prop :=
  ∀ M M' s A A' row, I M s A → A.grownBy A' row → (∀ r, row = some r → B ≤ r ∧ (M r ∨ ∃ o : Obj, A.heap[r]? = some o ∧ o.isCells = false)) → (∀ b, M' b → M b ∨ A.heap.size ≤ b) → I M' s A'
theorem OwnM.and {β : Type} {B : Nat} {I I' : (Nat → Prop) → β → World → Prop} (h : OwnM B I) (h' : OwnM B I') : OwnM B (fun M s W => I M s W ∧ I' M s W) :=
  fun M M' s A A' row hs hg hr hM => ⟨h M M' s A A' row hs.1 hg hr hM, h' M M' s A A' row hs.2 hg hr hM⟩
theorem OwnM.from {β : Type} {B : Nat} {I : (Nat → Prop) → β → World → Prop} (h : OwnM B I) (M : Nat → Prop) : OwnFrom B (I M) :=
  fun s A A' row hs hg hr => h M M s A A' row hs hg (fun r e => ⟨(hr r e).1, .inr (hr r e).2⟩) (fun _ hb => .inl hb)
theorem ownM_pure {β : Type} (B : Nat) (p : β → Prop) : OwnM B (fun _ s (_ : World) => p s) := fun _ _ _ _ _ _ hs _ _ _ => hs
theorem ownM_below {β : Type} {B n₀ : Nat} {w : World} (hn : n₀ ≤ B) (hs : n₀ ≤ w.heap.size) : OwnM B (fun _ (_ : β) W => Below n₀ w W) :=
  fun _ _ _ A A' row h hg hr _ => h.grown hg (by have := h.size; omega) (fun k e => by have := (hr k e).1; omega)
theorem ownM_boxed {β : Type} {B Bx : Nat} (t : TypeId) (f : β → Value) (hx : Bx < B) : OwnM B (fun _ s W => Boxed W Bx t (f s)) :=
  fun _ _ _ _ _ _ hs hg hr _ => hs.kept hg (fun e => by have := (hr _ e.symm).1; omega)
/-- A box that holds a slice with memory of its own, none of it the iterator's. -/
theorem ownM_row {β : Type} (n₀ : Nat) {B Bx : Nat} (t e : TypeId) (size : Nat) (k : β → Nat) (f : β → List Value) (G : β → Value → Prop) (hx : Bx < B) :
    OwnM B (fun M s W => ∃ v, Boxed W Bx t v ∧ W.ownsRow n₀ e size v (k s) (f s) ∧ (∀ b, v.ownBlock = some b → ¬ M b) ∧ G s v) := by
  rintro M M' s A A' row ⟨v, hv, hr, hn, hG⟩ hg hrow hM
  refine ⟨v, hv.kept hg (fun e' => by have := (hrow _ e'.symm).1; omega), hr.kept hg ?_, fun b hb h' => ?_, hG⟩
  · rcases hr.2 with ⟨rfl, _⟩ | ⟨g, cap, cur, rfl, _, hgb, _⟩
    · exact .inl rfl
    · refine .inr fun e' => ?_
      have e2 : row = some g := by simpa [Value.ownBlock] using e'.symm
      rcases (hrow g e2).2 with h | ⟨o, ho, hc⟩
      · exact hn g rfl h
      · rw [hgb] at ho; cases ho; cases hc
  · rcases hM b h' with h | h
    · exact hn b hb h
    · have := (hr.lt b hb).2; omega

theorem boxed_set_int {W : World} {B : Nat} {t : TypeId} {v : Value} {z z' : Int} (h : Boxed W B t v) (e : z = z') : Boxed (W.setCell ⟨B, 0, none⟩ (.int .i64 z)) B t (.int .i64 z') := e ▸ h.set _
theorem whole_kept {W W' : World} {row : Option Nat} {B : Nat} {t : TypeId} {cs : Array Value} (h : Whole W B t cs) (hg : W.grownBy W' row) (hr : ∀ r, row = some r → ∃ o : Obj, W.heap[r]? = some o ∧ o.isCells = false) : Whole W' B t cs :=
  (hg.block B h.lt (fun e => by obtain ⟨o, ho, hc⟩ := hr B e.symm; rw [show W.heap[B]? = _ from h] at ho; cases ho; cases hc)).trans h
/-- A new block of the round's. -/
theorem OwnM.alloc_ {β : Type} {B : Nat} {I : (Nat → Prop) → β → World → Prop} (h : OwnM B I) {M : Nat → Prop} {s : β} {W : World} {o : Obj} (hs : I M s W) (_hM : ∀ b, M b → B < b) : I M s (W.alloc o) :=
  h M M s W _ none hs (World.grownBy_alloc W o none) (fun r e => by cases e) (fun _ hb => .inl hb)

/-- HOW THE BODY OF A ROUND MAY BE LEFT. -/
def ownPostM {α : Type} (B n₀ : Nat) (Rd : Nat → Prop) (I : (Nat → Prop) → List α → World → Prop) (Ix : Code → List α → World → Prop) (M : Nat → Prop) (xs : List α) (W : World) : Exit → Act → World → Prop
  | .normal, _, W' => KeepsFrom B W W' ∧ KeepsM n₀ (fun b => M b ∨ Rd b) W W' ∧ I M xs W'
  | .ret, _, W' => KeepsFrom B W W' ∧ Ix .ret xs W'
  | .exit id, _, W' => KeepsFrom B W W' ∧ Ix (.exit id) xs W'
  | .goto t, _, W' => KeepsFrom B W W' ∧ Ix (.goto t) xs W'
  | .panic _, _, _ => False
  | .outgrown, _, _ => False

variable {F : Fence} {n : Nat} {P : Program}

theorem wpIn_rangeFunc_ownM {α : Type} {g : Operand} {ps : Array Tmp} {assign body : Code} {Q : Exit → Act → World → Prop} {a : Act} {w : World}
    (hro : F.round = none) (h1 : 1 ≤ n) {gf : Nat} {lb : Array Value} (hg : a.eval g = .func (.func gf) #[] lb) (hFg : F.fn gf) (eg : ∀ args w, (callFunc gf args).run P w = .ok (.enter gf args) w)
    {encs : α → Array Value} {Ok : List α → α → Prop} {S : List α → Prop} {n₀ : Nat} {Rd : Nat → Prop} {w0 : World} (hseq : SeqM F (n - 1) P gf lb encs Ok S n₀ Rd w0) (hRd : ∀ b, Rd b → b < w.heap.size)
    (hb0 : Below w0.heap.size w0 w) (hn0 : n₀ ≤ w.heap.size) (hps : ∀ x, (encs x).size = ps.size)
    (I : (Nat → Prop) → List α → World → Prop) (Ix : Code → List α → World → Prop) (hI : OwnM w.heap.size I) (hIx : ∀ c, OwnFrom w.heap.size (Ix c)) (h0 : ∀ M : Nat → Prop, (∀ b, M b → w.heap.size ≤ b) → I M [] w) (Ax : α → Act → World → Prop) (hAx : ∀ x a', OwnFrom w.heap.size (fun (_ : Unit) W => Ax x a' W))
    (hassign : ∀ (l : Nat) (M : Nat → Prop) (pre : List α) (x : α) (W : World) (K : Act → World → Prop), (∀ b, M b → w.heap.size < b) → (∀ b, M b ∨ Rd b → b < W.heap.size) → w.heap.size + 1 < W.heap.size → I M pre W → Ok pre x → (∀ a' W', KeepsFrom w.heap.size W W' → KeepsM n₀ (fun b => M b ∨ Rd b) W W' → I M pre W' → Ax x a' W' → K a' W') →
      assign.wpIn (F.inRound l) (n - 1 - 1) P (Exit.then K (fun _ _ _ => False)) { tmps := (ps.zip (encs x)).foldl (fun t (p, v) => t.setIfInBounds p v) a.tmps, defers := [] } W)
    (hbody : ∀ (l : Nat) (M : Nat → Prop) (pre : List α) (x : α) (a' : Act) (W : World), (∀ b, M b → w.heap.size < b) → (∀ b, M b ∨ Rd b → b < W.heap.size) → w.heap.size + 1 < W.heap.size → I M pre W → Ax x a' W → Ok pre x → body.wpIn (F.inRound l) (n - 1 - 1) P (ownPostM w.heap.size n₀ Rd I Ix M (pre ++ [x]) W) a' W)
    (hdone : ∀ (D : Nat) (M : Nat → Prop) (xs : List α) (W : World), w.heap.size ≤ D → S xs → I M xs W → W.heap[D]? = some (.deferred (some [])) → Q .normal { a with defers := { target := .collected D, args := #[] } :: a.defers } W)
    (hstop : ∀ (D : Nat) (c : Code) (pre : List α) (W : World), w.heap.size ≤ D → Ix c pre W → W.heap[D]? = some (.deferred (some [])) → c.wpIn F n P Q { a with defers := { target := .collected D, args := #[] } :: a.defers } W) :
    (Code.rangeFunc g ps assign body).wpIn F n P Q a w := by
  refine wpIn_rangeFunc ?_
  intro fn hfn
  rw [hro]
  obtain ⟨rec, hrec⟩ : ∃ rec : LoopState → Option Code → Loop, rec = fun st pe => { state := st, pending := pe, fn, tmps := a.tmps, params := ps, assign, body, defers := w.heap.size } := ⟨_, rfl⟩
  obtain ⟨W1, hW1⟩ : ∃ W1, (w.alloc (.deferred (some []))).alloc (.loop (rec .ready none)) = W1 := ⟨_, rfl⟩
  have hsz : W1.heap.size = w.heap.size + 2 := by rw [← hW1]; simp
  have hL1 : W1.heap[w.heap.size + 1]? = some (.loop (rec .ready none)) := by
    rw [← hW1]; have := World.alloc_heap_new (w.alloc (.deferred (some []))) (.loop (rec .ready none)); rwa [World.size_alloc] at this
  have hK1 : W1.heap[w.heap.size]? = some (.deferred (some [])) := by
    rw [← hW1]; exact (Below.heap_alloc _ _ _ (by simp)).trans (World.alloc_heap_new w _)
  have hI1 : I (fun _ => False) [] W1 := by
    have h := h0 (fun _ => False) (fun _ h => h.elim)
    rw [← hW1]; exact (hI.from _).alloc _ ((hI.from _).alloc _ h)
  have hb1 : Below w0.heap.size w0 W1 := by
    rw [← hW1]; exact hb0.trans ((((Below.refl _ w).alloc (Nat.le_refl _) _).alloc (by simp) _).mono hb0.size)
  refine ⟨w.heap.size + 1, [{ target := .collected w.heap.size, args := #[] }], W1, { target := .fn (.func gf) lb, args := #[.func (.yield (w.heap.size + 1)) #[] #[]] }, W1, gf,
    #[.func (.yield (w.heap.size + 1)) #[] #[]] ++ lb, W1, ?_, ?_, ?_, ?_, fun _ => h1, ?_⟩
  · rw [← hW1, hrec]; exact run_enterLoop_outer _ _ _ _ _
  · simp only [resolve, hg]
    simp [go_sem]
  · intro f' hf'; simp [Target.leads] at hf'; subst hf'; exact hFg
  · simp [invoke, go_sem, eg]
  · refine (hseq (w.heap.size + 1)
      (fun M pre W => (∀ b, M b → w.heap.size + 2 ≤ b ∧ b < W.heap.size) ∧ I M pre W ∧ W.heap[w.heap.size + 1]? = some (.loop (rec .ready none)) ∧ W.heap[w.heap.size]? = some (.deferred (some [])))
      (fun pre W => ∃ c, Ix c pre W ∧ W.heap[w.heap.size + 1]? = some (.loop (rec .done (some c))) ∧ W.heap[w.heap.size]? = some (.deferred (some [])))
      W1 hb1 ?_ ?_ ⟨fun _ h => h.elim, hI1, hL1, hK1⟩).mono ?_
    · rintro M s A B row ⟨hM, hi, hl, hk⟩ hg' hr
      have hlt : w.heap.size + 1 < A.heap.size := (Array.getElem?_eq_some_iff.1 hl).1
      have hsz' := hg'.size
      refine ⟨fun b hb => ?_, hI M _ s A B row hi hg' (fun r e => ⟨by have := (hM r (hr r e)).1; omega, .inl (hr r e)⟩) (fun b hb => hb.imp_right (fun h => h.1)), ?_, ?_⟩
      · rcases hb with hb | hb
        · have := hM b hb; omega
        · omega
      · exact (hg'.block _ hlt (fun e => by have := (hM _ (hr _ e.symm)).1; omega)).trans hl
      · exact (hg'.block _ (by omega) (fun e => by have := (hM _ (hr _ e.symm)).1; omega)).trans hk
    · rintro M pre x W ⟨hM, hi, hl, hk⟩ hok
      have hlt : w.heap.size + 1 < W.heap.size := (Array.getElem?_eq_some_iff.1 hl).1
      have hy := run_yield (P := P) (args := encs x) hl (by rw [hrec]; exact hps x)
      rw [hrec] at hy
      refine ⟨fn, _, assign, body, hy, roundIn_of_wpIn hfn (hassign _ M pre x W _ (fun b hb => by have := hM b hb; omega) (fun b hb => hb.elim (fun h => (hM b h).2) (fun h => by have := hRd b h; omega)) hlt hi hok ?_)⟩
      clear hy
      intro a' Wa hkfa hkpa hia hax
      replace hl := hkfa.same _ _ (by omega) hl rfl
      replace hk := hkfa.same _ _ (Nat.le_refl _) hk rfl
      replace hlt : w.heap.size + 1 < Wa.heap.size := (Array.getElem?_eq_some_iff.1 hl).1
      replace hM : ∀ b, M b → w.heap.size + 2 ≤ b ∧ b < Wa.heap.size := fun b hb => ⟨(hM b hb).1, by have := (hM b hb).2; have := hkfa.size; omega⟩
      replace hi := hia
      clear hia
      revert hkpa hkfa
      generalize W = Wb
      intro hkfa hkpa
      obtain ⟨W, rfl⟩ : ∃ W, W = Wa := ⟨_, rfl⟩
      refine ⟨_, run_beginRound hl (by rw [hrec]), ?_⟩
      have hl2 : (W.putObj (w.heap.size + 1) (.loop { rec .ready none with state := .busy })).heap[w.heap.size + 1]? = some (.loop { rec .ready none with state := .busy }) := World.putObj_heap_same hlt
      have hk2 : (W.putObj (w.heap.size + 1) (.loop { rec .ready none with state := .busy })).heap[w.heap.size]? = some (.deferred (some [])) := (World.putObj_heap_other (by omega)).trans hk
      have hw2 : KeepsM n₀ (fun b => M b ∨ Rd b) W (W.putObj (w.heap.size + 1) (.loop { rec .ready none with state := .busy })) := KeepsM.putObj (by omega) hlt (fun h => h.elim (fun h => by have := (hM _ h).1; omega) (fun h => by have := hRd _ h; omega))
      refine wpIn_mono (hbody _ M pre x a' _ (fun b hb => by have := hM b hb; omega) (fun b hb => by simp; exact hb.elim (fun h => (hM b h).2) (fun h => by have := hRd b h; omega)) (by simp; omega) ((hI.from M).putObj _ hi (by omega) hl rfl) ((hAx x a').putObj (s := ()) _ hax (by omega) hl rfl) hok) ?_
      have fin : ∀ (jump : Option Code) (W3 : World), KeepsFrom w.heap.size (W.putObj (w.heap.size + 1) (.loop { rec .ready none with state := .busy })) W3 →
          (Instr.endRound (w.heap.size + 1) jump).run P W3 = .ok (.bool jump.isNone) (W3.putObj (w.heap.size + 1) (.loop (rec (if jump.isNone then .ready else .done) jump))) ∧
          W3.heap[w.heap.size + 1]? = some (.loop { rec .ready none with state := .busy }) ∧
          (W3.putObj (w.heap.size + 1) (.loop (rec (if jump.isNone then .ready else .done) jump))).heap[w.heap.size + 1]? = some (.loop (rec (if jump.isNone then .ready else .done) jump)) ∧
          (W3.putObj (w.heap.size + 1) (.loop (rec (if jump.isNone then .ready else .done) jump))).heap[w.heap.size]? = some (.deferred (some [])) := fun jump W3 hk3 => by
        have hl3 := hk3.same _ _ (by omega) hl2 rfl
        have := run_endRound (P := P) jump hl3
        rw [hrec] at this ⊢
        exact ⟨this, by rw [hrec] at hl3; exact hl3, World.putObj_heap_same (Array.getElem?_eq_some_iff.1 hl3).1, (World.putObj_heap_other (by omega)).trans (hk3.same _ _ (Nat.le_refl _) hk2 rfl)⟩
      rintro e a3 W3 hp
      cases e with
      | normal =>
        obtain ⟨hk3, hkp3, hi3⟩ := hp
        obtain ⟨hr, hl3, hl4, hk4⟩ := fin none W3 hk3
        have hlt3 := (Array.getElem?_eq_some_iff.1 hl3).1
        have hsz3 := hk3.size
        simp at hsz3
        exact ⟨_, _, hr, .inl ⟨rfl, ⟨fun b hb => by have := hM b hb; simp; omega, (hI.from M).putObj _ hi3 (by omega) hl3 rfl, hl4, hk4⟩, hkpa.trans ((hw2.trans hkp3).trans (KeepsM.putObj (by omega) hlt3 (fun h => h.elim (fun h => by have := (hM _ h).1; omega) (fun h => by have := hRd _ h; omega))))⟩⟩
      | ret =>
        obtain ⟨hk3, hi3⟩ := hp
        obtain ⟨hr, hl3, hl4, hk4⟩ := fin (some .ret) W3 hk3
        exact ⟨_, _, hr, .inr ⟨rfl, .ret, (hIx _).putObj _ hi3 (by omega) hl3 rfl, hl4, hk4⟩⟩
      | exit id =>
        obtain ⟨hk3, hi3⟩ := hp
        obtain ⟨hr, hl3, hl4, hk4⟩ := fin (some (.exit id)) W3 hk3
        exact ⟨_, _, hr, .inr ⟨rfl, .exit id, (hIx _).putObj _ hi3 (by omega) hl3 rfl, hl4, hk4⟩⟩
      | goto t =>
        obtain ⟨hk3, hi3⟩ := hp
        obtain ⟨hr, hl3, hl4, hk4⟩ := fin (some (.goto t)) W3 hk3
        exact ⟨_, _, hr, .inr ⟨rfl, .goto t, (hIx _).putObj _ hi3 (by omega) hl3 rfl, hl4, hk4⟩⟩
      | panic ch => exact hp.elim
      | outgrown => exact hp.elim
    · rintro e W2 ⟨⟨v, rfl⟩, (⟨M, xs, hS, hM, hi, hl, hk⟩ | ⟨pre, c, hi, hl, hk⟩)⟩
      · exact ⟨none, _, by have := run_endLoop (P := P) hl (by rw [hrec]; simp); rw [hrec] at this; exact this, hdone _ M xs _ (Nat.le_refl _) hS ((hI.from M).putObj _ hi (by omega) hl rfl) ((World.putObj_heap_other (by omega)).trans hk)⟩
      · exact ⟨some c, _, by have := run_endLoop (P := P) hl (by rw [hrec]; simp); rw [hrec] at this; exact this, hstop _ c pre _ (Nat.le_refl _) ((hIx c).putObj _ hi (by omega) hl rfl) ((World.putObj_heap_other (by omega)).trans hk)⟩
end Go.Proofs.YtngbilblddngcaaDoor
namespace Go.Proofs.YtngbilblddngcaaDoor
open Go.RowKit

mutual
def TypeX.walk (d : Nat) : TypeX → List (Nat × TypeX)
  | .mk a b c => (d, .mk a b c) :: TypeX.walkL (d + 1) c
def TypeX.walkL (d : Nat) : List TypeX → List (Nat × TypeX)
  | [] => []
  | x :: r => x.walk d ++ TypeX.walkL d r
end
theorem TypeX.walk_eq (d : Nat) (x : TypeX) : x.walk d = (d, x) :: TypeX.walkL (d + 1) x.args_ := by cases x with | mk a b c => rw [TypeX.walk]; rfl
/-- What the lists of a stack (the top one first) have still to give. -/
def todoType : List (List TypeX) → List (Nat × TypeX)
  | [] => []
  | l :: r => TypeX.walkL r.length l ++ todoType r
theorem todoType_pop (r : List (List TypeX)) : todoType ([] :: r) = todoType r := by rw [todoType, TypeX.walkL]; rfl
theorem todoType_step (x : TypeX) (l : List TypeX) (r : List (List TypeX)) : todoType ((x :: l) :: r) = (r.length, x) :: todoType (x.args_ :: l :: r) := by
  rw [todoType, todoType, todoType, TypeX.walkL, TypeX.walk_eq, List.length_cons]
  simp
theorem todoType_start (x : TypeX) : todoType [[x]] = x.walk 0 := by simp [todoType, TypeX.walkL]
end Go.Proofs.YtngbilblddngcaaDoor
namespace Go.Proofs.YtngbilblddngcaaDoor
open Go.RowKit
theorem boxed_below {W W' : World} {B : Nat} {t : TypeId} {v : Value} (h : Boxed W B t v) (hb : Below W.heap.size W W') : Boxed W' B t v := (hb.block _ h.lt).trans h
theorem boxed_far {W : World} {B b o : Nat} {t : TypeId} {v u : Value} (h : Boxed W B t v) (hne : B ≠ b) : Boxed (W.setCell ⟨b, o, none⟩ u) B t v := (Below.heap_setCell W _ u B hne).trans h
theorem boxed_bool {W : World} {B : Nat} {t : TypeId} {v : Value} {z z' : Bool} (h : Boxed W B t v) (e : z = z') : Boxed (W.setCell ⟨B, 0, none⟩ (.bool z)) B t (.bool z') := e ▸ h.set _
theorem boxed_putObj {W : World} {B l : Nat} {t : TypeId} {v : Value} {o : Obj} (h : Boxed W B t v) (hne : B ≠ l) : Boxed (W.putObj l o) B t v := (World.putObj_heap_other hne).trans h
theorem below_putObj {n₀ D : Nat} {w W : World} (h : Below n₀ w W) (o : Obj) (hn : n₀ ≤ w.heap.size) (hD : n₀ ≤ D) : Below n₀ w (W.putObj D o) :=
  h.grown (grownBy_putObj' W D o) (by have := h.size; omega) (fun k e => by cases e; exact hD)
theorem keepsFrom_set {W W' : World} {B b o : Nat} {u : Value} (h : KeepsFrom B W W') : KeepsFrom B W (W'.setCell ⟨b, o, none⟩ u) := h.trans ((KeepsOthers.setCell _ _ _).from _)
theorem keepsFrom_alloc {W W' : World} {B : Nat} {o : Obj} (h : KeepsFrom B W W') : KeepsFrom B W (W'.alloc o) := h.trans ((KeepsOthers.alloc _ _).from _)
end Go.Proofs.YtngbilblddngcaaDoor
namespace Go.Proofs.YtngbilblddngcaaDoor
open Go.RowKit

theorem name_low {s : ByteArray} {k : Nat} (h : k < s.size) (hc : goodAt k s[k] = true) : Utf8.decode s k = (s[k].toNat, 1) :=
  decode_ascii s k h (by unfold goodAt letterR digitR at hc; simp at hc; omega)
theorem name_bad {s : ByteArray} {k : Nat} (h : k < s.size) (hc : goodAt k s[k] = false) : letterR ((Utf8.decode s k).1 : Int) = false ∧ (k = 0 ∨ digitR ((Utf8.decode s k).1 : Int) = false) := by
  by_cases ha : s[k].toNat < 128
  · rw [decode_ascii s k h ha]
    simp only [goodAt, Bool.or_eq_false_iff, Bool.and_eq_false_iff] at hc
    refine ⟨hc.1, ?_⟩
    rcases hc.2 with h0 | h0
    · left; simpa using h0
    · right; exact h0
  · have := (decode_high s k h (by omega)).1
    unfold letterR digitR
    simp
    omega

end Go.Proofs.YtngbilblddngcaaDoor
namespace Go.Proofs.YtngbilblddngcaaDoor
open Go.RowKit Go.Lib

theorem base_name {s : ByteArray} (h : isBase s = true) : okName s = false := by
  rw [isBase, decide_eq_true_eq] at h
  rcases h with rfl | rfl <;> rfl
theorem asC1 (v : Value) (w : World) : (Instr.typeAssert (.iface 108 v) 111 118 true).run Tryd.prog w = .ok (.tuple #[zeroTy, .bool false]) w := by kernel_rfl
theorem asC2 (v : Value) (w : World) : (Instr.typeAssert (.iface 118 v) 111 118 true).run Tryd.prog w = .ok (.tuple #[v, .bool true]) w := by kernel_rfl
theorem asC3 (v : Value) (w : World) : (Instr.typeAssert (.iface 119 v) 111 118 true).run Tryd.prog w = .ok (.tuple #[zeroTy, .bool false]) w := by kernel_rfl
theorem asC4 (v : Value) (w : World) : (Instr.typeAssert (.iface 120 v) 111 118 true).run Tryd.prog w = .ok (.tuple #[zeroTy, .bool false]) w := by kernel_rfl
theorem asC0 (w : World) : (Instr.typeAssert .nilIface 111 118 true).run Tryd.prog w = .ok (.tuple #[zeroTy, .bool false]) w := by kernel_rfl
theorem as_con {k : Int} (v : Value) (h : (k == 2) = false) (w : World) : (Instr.typeAssert (tyForm k v) 111 118 true).run Tryd.prog w = .ok (.tuple #[zeroTy, .bool false]) w := by
  unfold tyForm
  rw [h]
  simp only [Bool.false_eq_true, if_false]
  split
  · exact asC1 v w
  · skip
    split
    · exact asC3 v w
    · skip
      split
      · exact asC4 v w
      · exact asC0 w
theorem asD1 (v : Value) (w : World) : (Instr.typeAssert (.iface 108 v) 111 120 true).run Tryd.prog w = .ok (.tuple #[zeroTy, .bool false]) w := by kernel_rfl
theorem asD2 (v : Value) (w : World) : (Instr.typeAssert (.iface 118 v) 111 120 true).run Tryd.prog w = .ok (.tuple #[zeroTy, .bool false]) w := by kernel_rfl
theorem asD3 (v : Value) (w : World) : (Instr.typeAssert (.iface 119 v) 111 120 true).run Tryd.prog w = .ok (.tuple #[zeroTy, .bool false]) w := by kernel_rfl
theorem asD4 (v : Value) (w : World) : (Instr.typeAssert (.iface 120 v) 111 120 true).run Tryd.prog w = .ok (.tuple #[v, .bool true]) w := by kernel_rfl
theorem asD0 (w : World) : (Instr.typeAssert .nilIface 111 120 true).run Tryd.prog w = .ok (.tuple #[zeroTy, .bool false]) w := by kernel_rfl
theorem as_dyn {k : Int} (v : Value) (h : (k == 4) = false) (w : World) : (Instr.typeAssert (tyForm k v) 111 120 true).run Tryd.prog w = .ok (.tuple #[zeroTy, .bool false]) w := by
  unfold tyForm
  rw [h]
  simp only [Bool.false_eq_true, if_false]
  split
  · exact asD1 v w
  · skip
    split
    · exact asD2 v w
    · skip
      split
      · exact asD3 v w
      · exact asD0 w
theorem isV {k : Int} (v : Value) (h : (k == 1) = true) (w : World) : (Instr.typeAssert (tyForm k v) 111 108 true).run Tryd.prog w = .ok (.tuple #[v, .bool true]) w := by rw [tyForm1 v h]; exact asV1 v w
theorem isC {k : Int} (v : Value) (h : (k == 2) = true) (w : World) : (Instr.typeAssert (tyForm k v) 111 118 true).run Tryd.prog w = .ok (.tuple #[v, .bool true]) w := by rw [tyForm2 v h]; exact asC2 v w
theorem isP {k : Int} (v : Value) (h : (k == 3) = true) (w : World) : (Instr.typeAssert (tyForm k v) 111 119 true).run Tryd.prog w = .ok (.tuple #[v, .bool true]) w := by rw [tyForm3 v h]; exact asP3 v w
theorem isD {k : Int} (v : Value) (h : (k == 4) = true) (w : World) : (Instr.typeAssert (tyForm k v) 111 120 true).run Tryd.prog w = .ok (.tuple #[v, .bool true]) w := by rw [tyForm4 v h]; exact asD4 v w
end Go.Proofs.YtngbilblddngcaaDoor
namespace Go.Proofs.YtngbilblddngcaaDoor
open Go.RowKit Go.Lib

/-- What the strings of one row add to a row of the call's own. -/
theorem run_append_strs {w : World} (base : Nat) (V : Value) (d : List ByteArray) (hown : w.ownsRow base 9 1 V d.length (d.map Value.string)) (A : Option Addr) (c : Nat) (ss : List ByteArray) (hA : Strs w A ss)
    (hd : d.length ≤ 17179869184) (hs : ss.length ≤ 17179869184) (hbase : base ≤ w.heap.size) (ty : TypeId) :
    ∃ v' w', (Builtin.append_ #[60, 60] ty #[V, .slice A ss.length c]).run Tryd.prog w = .ok v' w' ∧ w'.ownsRow base 9 1 v' (d ++ ss).length ((d ++ ss).map Value.string) ∧ w.grownBy w' V.ownBlock := by
  obtain ⟨i0, hi, hz0, hz1, hz2⟩ := info_parts infoString
  by_cases h0 : ss = []
  · subst h0
    simp only [List.append_nil, List.length_nil]
    cases A with
    | none => exact ⟨V, w, run_append_nil base _ ty _ i0 1 Tryd.underlying60 hi V d.length c _ hown, hown, ⟨rfl, rfl, rfl, Nat.le_refl _, fun _ _ _ => rfl⟩⟩
    | some ad =>
      obtain ⟨v', w', hr, h2, h3, _, _⟩ := _root_.Go.run_append_own_at (P := Tryd.prog) (w := w) base _ ty _ i0 _ 1 16 Tryd.underlying60 hi hz0 hz1 hz2 rfl (by decide) V d.length _ hown ad 0 c [] (by simp) (by simp) (by simp) (by unfold maxLen; omega) (by omega) hbase
      exact ⟨v', w', hr, by simpa using h2, h3⟩
  · rcases hA with hA | ⟨g, o, rfl, hg, hc⟩
    · exact absurd hA h0
    · obtain ⟨v', w', hr, h2, h3, _, _⟩ := _root_.Go.run_append_own_at (P := Tryd.prog) (w := w) base _ ty _ i0 _ 1 16 Tryd.underlying60 hi hz0 hz1 hz2 rfl (by decide) V d.length _ hown ⟨g, o, none⟩ ss.length c (ss.map Value.string) (by simp)
        (fun j u hj => by
          rw [List.getElem?_map] at hj
          cases hs : ss[j]? with
          | none => rw [hs] at hj; cases hj
          | some s =>
            rw [hs] at hj
            simp at hj
            subst hj
            have := hc j s hs
            rw [Go.WideShapes.add_plain]
            exact this)
        (fun u hu => by
          rw [List.mem_map] at hu
          obtain ⟨s, _, rfl⟩ := hu
          rfl) (by unfold maxLen; omega) (by omega) hbase
      exact ⟨v', w', hr, by rw [List.length_append, List.map_append]; exact h2, h3⟩

end Go.Proofs.YtngbilblddngcaaDoor
namespace Go.Proofs.YtngbilblddngcaaDoor
open Go.RowKit Go.Lib

theorem Seen.below {P : Program} {k e : TypeId} {w w' : World} {b n : Nat} {l : List ByteArray} (h : Seen P k e w b n l) (hb : Below w.heap.size w w') : Seen P k e w' b n l :=
  h.kept (row := none) ⟨hb.os, hb.tape, hb.output, hb.size, fun j hj _ => hb.block j hj⟩ (by simp)
theorem own_wide {w : World} {B B' size n : Nat} {e : TypeId} {v : Value} {xs : List Value} (h : w.ownsRow B e size v n xs) (hB : B' ≤ B) : w.ownsRow B' e size v n xs := by
  refine ⟨h.1, ?_⟩
  rcases h.2 with hn | ⟨g, cap, cur, rfl, hbg, rest⟩
  · exact .inl hn
  · exact .inr ⟨g, cap, cur, rfl, by omega, rest⟩

end Go.Proofs.YtngbilblddngcaaDoor
namespace Go.Proofs.YtngbilblddngcaaDoor
open Go.RowKit Go.Lib

theorem digs_pos_step (m : Int) (l : List UInt8) (h : 0 < m) : digs (m / 10).natAbs ++ UInt8.ofNat (48 + m % 10).toNat :: l = digs m.natAbs ++ l := by
  rw [digs_step (show m.natAbs ≠ 0 by omega), show (m / 10).natAbs = m.natAbs / 10 by omega, show (48 + m % 10).toNat = 48 + m.natAbs % 10 by omega]
  simp
theorem digs_neg_step (m : Nat) (l : List UInt8) (h : 0 < m) (b : UInt8) (hb : b = UInt8.ofNat (48 + m % 10)) : digs (m / 10) ++ b :: l = digs m ++ l := by
  rw [digs_step (show m ≠ 0 by omega), hb]
  simp

set_option maxRecDepth 100000 in
set_option maxHeartbeats 400000 in
theorem fmt_pos (n : Int) (w : World) (h0 : 0 < n) (h1 : n ≤ 9223372036854775807) :
    Calls Tryd.prog 34 #[.int .i64 n] w fun e w' => e = .returned (.string ⟨(digs n.natAbs).toArray⟩) ∧ Below w.heap.size w w' := by
  have kc := fun (w : World) (z : Int) => conv_one (P := Tryd.prog) Tryd.underlying22 Tryd.underlying5 Tryd.underlying9 w z
  go_enter Tryd.func34, Tryd.ntmps34
  go_wp2
  go_loopw [0, 4] (fun a s wr => ∃ (m : Int) (l : List UInt8), 0 ≤ m ∧ m ≤ n ∧ a = .int .i64 m ∧ s = .string ⟨l.toArray⟩ ∧ digs m.natAbs ++ l = digs n.natAbs ∧ Below w.heap.size w wr) (fun a _ _ => (Go.RowKit.intOf a).toNat)
  case atStart => exact ⟨n, [], by omega, by omega, rfl, rfl, by simp, Below.refl _ _⟩
  case round =>
    obtain ⟨m, l, hm0, hm1, rfl, rfl, hl, hb⟩ := hrel
    have hll : (l.length : Int) ≤ 20 := by
      have := congrArg List.length hl
      have := digs_length_le 20 n.natAbs (by omega)
      rw [List.length_append] at *
      omega
    have HL := Lib.hid hl; clear hl
    by_cases hz : 0 < m
    · go_wp2
      go_roundw
      case rel => exact ⟨m / 10, UInt8.ofNat (48 + m % 10).toNat :: l, by omega, by omega, rfl, str_of (append_byte _ _), by rw [← HL.out]; exact digs_pos_step m l hz, hb.alloc hb.size _⟩
      case measure => simp [Go.RowKit.intOf]; omega
    · go_wp2
      go_ret
      refine ⟨ret_str ?_, hb⟩
      have := HL.out
      rw [show m.natAbs = 0 by omega, digs_zero, List.nil_append] at this
      rw [this]

set_option maxRecDepth 100000 in
set_option maxHeartbeats 400000 in
theorem fmt_neg (n : Int) (w : World) (h0 : n < 0) (h1 : -9223372036854775808 ≤ n) :
    Calls Tryd.prog 34 #[.int .i64 n] w fun e w' => e = .returned (.string ⟨(45 :: digs n.natAbs).toArray⟩) ∧ Below w.heap.size w w' := by
  have kc := fun (w : World) (z : Int) => conv_one (P := Tryd.prog) Tryd.underlying22 Tryd.underlying5 Tryd.underlying9 w z
  go_enter Tryd.func34, Tryd.ntmps34
  go_wp2
  go_loopw [0, 4] (fun a s wr => ∃ (m : Nat) (l : List UInt8), (m : Int) ≤ 9223372036854775808 ∧ a = .int .i64 (-(m : Int)) ∧ s = .string ⟨l.toArray⟩ ∧ digs m ++ l = digs n.natAbs ∧ Below w.heap.size w wr) (fun a _ _ => (Go.RowKit.intOf a).natAbs)
  case atStart => exact ⟨n.natAbs, [], by omega, by rw [show -(n.natAbs : Int) = n by omega], rfl, by simp, Below.refl _ _⟩
  case round =>
    obtain ⟨m, l, hm1, rfl, rfl, hl, hb⟩ := hrel
    have hll : (l.length : Int) ≤ 20 := by
      have := congrArg List.length hl
      have := digs_length_le 20 n.natAbs (by omega)
      rw [List.length_append] at *
      omega
    have HL := Lib.hid hl; clear hl
    by_cases hz : 0 < m
    · have e1 : (-(m : Int)).tmod 10 = -((m % 10 : Nat) : Int) := by rw [Int.neg_tmod]; rfl
      have e2 : (-(m : Int)).tdiv 10 = -((m / 10 : Nat) : Int) := by rw [Int.neg_tdiv]; rfl
      have hd : (m % 10 : Nat) < 10 := by omega
      have E1 := Lib.hid e1; clear e1
      have E2 := Lib.hid e2; clear e2
      go_wp2
      all_goals go_roundw
      case rel => exact ⟨m / 10, (48 + UInt8.ofNat (m % 10)) :: l, by omega, int_of (by omega), str_of (append_byte _ _), by rw [← HL.out]; exact digs_neg_step m l hz _ (by rw [show (48 : UInt8) = UInt8.ofNat 48 from rfl, ← UInt8.ofNat_add]), hb.alloc hb.size _⟩
      case measure => simp [Go.RowKit.intOf]; omega
      case rel => exact ⟨m / 10, UInt8.ofNat (48 + -((m : Int) % 10)).toNat :: l, by omega, int_of (by omega), str_of (append_byte _ _), by rw [← HL.out]; exact digs_neg_step m l hz _ (congrArg UInt8.ofNat (by omega)), hb.alloc hb.size _⟩
      case measure => simp [Go.RowKit.intOf]; omega
    · go_wp2
      go_ret
      refine ⟨ret_str ?_, hb⟩
      have := HL.out
      rw [show m = 0 by omega, digs_zero, List.nil_append] at this
      rw [← this]
      exact append_byte 45 l

set_option maxRecDepth 100000 in
theorem fmt_zero (w : World) : Calls Tryd.prog 34 #[.int .i64 0] w fun e w' => e = .returned (.string ⟨#[48]⟩) ∧ w = w' := by
  go_enter Tryd.func34, Tryd.ntmps34
  go_wp2
  go_ret
  exact ⟨rfl, rfl⟩

/-- THE REFERENCE MODEL's FormatInt, AT EVERY int: the numeral; of what was there nothing has turned. -/
theorem fmt_any (n : Int) (w : World) (h0 : -9223372036854775808 ≤ n) (h1 : n ≤ 9223372036854775807) :
    Calls Tryd.prog 34 #[.int .i64 n] w fun e w' => e = .returned (.string ⟨(itoa n).toArray⟩) ∧ Below w.heap.size w w' := by
  rcases Int.lt_trichotomy n 0 with h | rfl | h
  · rw [itoa_of_neg h]; exact fmt_neg n w h h0
  · rw [itoa_zero]; exact (fmt_zero w).mono fun e w' ⟨he, hw⟩ => ⟨he, hw ▸ Below.refl _ _⟩
  · rw [itoa_of_pos h]; exact fmt_pos n w h h1
#print axioms fmt_any
end Go.Proofs.YtngbilblddngcaaDoor
namespace Go.Proofs
open Go.Shelf
def Tryd.laysM171_ren : Go.Shelf.Ren := ⟨fun | 171 => 52 | 243 => 71 | 246 => 80 | 283 => 83 | 284 => 84 | 285 => 85 | 286 => 86 | 129 => 88 | 317 => 87 | 318 => 89 | 319 => 90 | 320 => 91 | 337 => 92 | 338 => 93 | n => n, fun | 3 => 3 | 9 => 9 | 2 => 2 | 4 => 4 | 171 => 121 | 0 => 0 | 53 => 122 | 37 => 22 | 5 => 5 | 173 => 125 | 212 => 129 | 51 => 130 | 20 => 20 | 213 => 131 | 46 => 115 | 232 => 134 | 233 => 135 | n => n, fun | 17 => 0 | 18 => 1 | 19 => 2 | n => n⟩
theorem Tryd.laysM171 : Go.Proofs.LaysM.n171 Tryd.prog Tryd.laysM171_ren := {
  mixed := by kernel_rfl
  f129 := Tryd.func88.trans (congrArg some (by kernel_rfl))
  f171 := Tryd.func52.trans (congrArg some (by kernel_rfl))
  f243 := Tryd.func71.trans (congrArg some (by kernel_rfl))
  f246 := Tryd.func80.trans (congrArg some (by kernel_rfl))
  f283 := Tryd.func83.trans (congrArg some (by kernel_rfl))
  f284 := Tryd.func84.trans (congrArg some (by kernel_rfl))
  f285 := Tryd.func85.trans (congrArg some (by kernel_rfl))
  f286 := Tryd.func86.trans (congrArg some (by kernel_rfl))
  f317 := Tryd.func87.trans (congrArg some (by kernel_rfl))
  f318 := Tryd.func89.trans (congrArg some (by kernel_rfl))
  f319 := Tryd.func90.trans (congrArg some (by kernel_rfl))
  f320 := Tryd.func91.trans (congrArg some (by kernel_rfl))
  f337 := Tryd.func92.trans (congrArg some (by kernel_rfl))
  f338 := Tryd.func93.trans (congrArg some (by kernel_rfl))
  t0 := Tryd.underlying0
  a0 := Tryd.isAgg0
  z0 := Tryd.sizeOf0
  v0 := Tryd.zeroValue0
  t2 := Tryd.underlying2
  a2 := Tryd.isAgg2
  z2 := Tryd.sizeOf2
  v2 := Tryd.zeroValue2
  t3 := Tryd.underlying3
  a3 := Tryd.isAgg3
  z3 := Tryd.sizeOf3
  v3 := Tryd.zeroValue3
  t4 := Tryd.underlying4
  a4 := Tryd.isAgg4
  z4 := Tryd.sizeOf4
  v4 := Tryd.zeroValue4
  t5 := Tryd.underlying5
  a5 := Tryd.isAgg5
  z5 := Tryd.sizeOf5
  v5 := Tryd.zeroValue5
  t9 := Tryd.underlying9
  a9 := Tryd.isAgg9
  z9 := Tryd.sizeOf9
  v9 := Tryd.zeroValue9
  t20 := Tryd.underlying20
  a20 := Tryd.isAgg20
  z20 := Tryd.sizeOf20
  v20 := Tryd.zeroValue20
  t37 := Tryd.underlying22
  a37 := Tryd.isAgg22
  z37 := Tryd.sizeOf22
  v37 := Tryd.zeroValue22
  t46 := Tryd.underlying115
  a46 := Tryd.isAgg115
  z46 := Tryd.sizeOf115
  v46 := Tryd.zeroValue115
  t51 := Tryd.underlying130
  a51 := Tryd.isAgg130
  z51 := Tryd.sizeOf130
  v51 := Tryd.zeroValue130
  t53 := Tryd.underlying122
  a53 := Tryd.isAgg122
  z53 := Tryd.sizeOf122
  v53 := Tryd.zeroValue122
  t171 := Tryd.underlying121
  a171 := Tryd.isAgg121
  z171 := Tryd.sizeOf121
  v171 := Tryd.zeroValue121
  t173 := Tryd.underlying125
  a173 := Tryd.isAgg125
  z173 := Tryd.sizeOf125
  v173 := Tryd.zeroValue125
  t212 := Tryd.underlying129
  a212 := Tryd.isAgg129
  z212 := Tryd.sizeOf129
  v212 := Tryd.zeroValue129
  t213 := Tryd.underlying131
  a213 := Tryd.isAgg131
  z213 := Tryd.sizeOf131
  t232 := Tryd.underlying134
  a232 := Tryd.isAgg134
  z232 := Tryd.sizeOf134
  v232 := Tryd.zeroValue134
  t233 := Tryd.underlying135
  a233 := Tryd.isAgg135
  z233 := Tryd.sizeOf135
  v233 := Tryd.zeroValue135
  g17 := by kernel_rfl
  g18 := by kernel_rfl
  g19 := by kernel_rfl
  i0 := by kernel_rfl
  i2 := by kernel_rfl
  i3 := by kernel_rfl
  i4 := by kernel_rfl
  i5 := by kernel_rfl
  i9 := by kernel_rfl
  i20 := by kernel_rfl
  i37 := by kernel_rfl
  i46 := by kernel_rfl
  i51 := by kernel_rfl
  i53 := by kernel_rfl
  i171 := by kernel_rfl
  i173 := by kernel_rfl
  i212 := by kernel_rfl
  i232 := by kernel_rfl
  i233 := by kernel_rfl
  m17 := by kernel_rfl
  m18 := by kernel_rfl
  m19 := by kernel_rfl }
open Go.RowKit Go.Sort Go.Lib in
theorem Tryd.strconv_Itoa (n : Int) (h0 : -9223372036854775808 ≤ n) (h1 : n ≤ 9223372036854775807) (w : World) (htab : Lib.TabIs Tryd.prog w "internal/strconv.uint64pow10" .u64 Lib.pow10Tab) :
    Calls Tryd.prog 52 #[.int .i64 n] w fun e w' => e = .returned (.string ⟨(Lib.itoa n).toArray⟩) ∧ ∃ k os, w' = grow (w.drewN k) os := Any.strconv_Itoa Tryd.laysM171 n h0 h1 w htab
end Go.Proofs
namespace Go.Proofs.YtngbilblddngcaaDoor
open Go.RowKit Go.Lib

theorem gPow : Tryd.prog.globalNamed "internal/strconv.uint64pow10" = some 0 := by kernel_rfl
theorem gPowType : (Tryd.prog.globals[0]?).map (·.type) = some 129 := by kernel_rfl
theorem cellsPow : Tryd.prog.cellsOf 129 = 20 := by kernel_rfl
theorem cellsU64 : Tryd.prog.cellsOf 122 = 1 := by kernel_rfl

/-- The library's table of powers of ten holds what its text lays. -/
def Pow (w : World) : Prop := Lib.TabIs Tryd.prog w "internal/strconv.uint64pow10" .u64 Lib.pow10Tab
theorem var_kept {P : Program} {w w' : World} {n : String} {cs : Array Value} (hb : Below w.heap.size w w') (h : w.var? P n = some cs) : w'.var? P n = some cs := by
  unfold World.var? at h ⊢
  cases hg : P.globalNamed n with
  | none => simp [hg] at h
  | some g =>
    simp only [hg, Option.bind_some] at h ⊢
    have hlt : g < w.heap.size := by
      rcases Nat.lt_or_ge g w.heap.size with h' | h'
      · exact h'
      · simp [Array.getElem?_eq_none h'] at h
    rw [hb.block g hlt]
    exact h
theorem Pow.below {w w' : World} (h : Pow w) (hb : Below w.heap.size w w') : Pow w' := var_kept hb h
theorem pow_of_head {W : World} {r : List (String × DataW Unit)} (h : laidMet Tryd.prog (("internal/strconv.uint64pow10", Rows.laid_internal_strconv_uint64pow10) :: r) W) : Pow W :=
  Lib.tabIs_of_head (rest := r) gPow gPowType Tryd.underlying129 Tryd.underlying122 cellsU64 cellsPow h
end Go.Proofs.YtngbilblddngcaaDoor
namespace Go.Proofs.YtngbilblddngcaaDoor
open Go.RowKit Go.Lib

/-- THE PROGRAM's FormatInt, at every int. -/
theorem implFmt (n : Int) (w : World) (h0 : -9223372036854775808 ≤ n) (h1 : n ≤ 9223372036854775807) (hp : Pow w) :
    Calls Tryd.prog 35 #[.int .i64 n] w fun e w' => e = .returned (.string ⟨(itoa n).toArray⟩) ∧ Below w.heap.size w w' := by
  go_enter Tryd.func35, Tryd.ntmps35
  go_wp2_with fail
  refine (Tryd.strconv_Itoa n h0 h1 _ hp).mono ?_
  rintro e w1 ⟨rfl, k, os, rfl⟩
  have hb := below_grow w.heap.size w (Nat.le_refl _) k os
  go_wp2
  go_ret
  exact ⟨rfl, hb⟩

set_option maxRecDepth 100000 in
theorem lawFmt (n : Int) (w : World) (h0 : -9223372036854775808 ≤ n) (h1 : n ≤ 9223372036854775807) (hp : Pow w) :
    Calls Tryd.prog 8 #[.int .i64 n] w fun e w' => e = .returned (.bool true) ∧ Below w.heap.size w w' := by
  go_enter Tryd.func8, Tryd.ntmps8
  go_wp2_with fail
  refine (fmt_any n _ h0 h1).mono ?_
  rintro e w1 ⟨rfl, hb1⟩
  have hp1 := hp.below hb1
  go_wp2_with fail
  refine (implFmt n _ h0 h1 hp1).mono ?_
  rintro e w2 ⟨rfl, hb2⟩
  have hb := hb1.trans (hb2.mono hb1.size)
  go_wp2
  go_ret
  exact ⟨rfl, hb⟩
end Go.Proofs.YtngbilblddngcaaDoor
namespace Go.Proofs.YtngbilblddngcaaDoor
open Go.Lib

def stepN (a : Nat) (c : UInt8) : Nat := 10 * a + (c.toNat - 48)
theorem stepN_eq (a : Nat) (c : UInt8) : stepN a c = 10 * a + (c.toNat - 48) := rfl
/-- What digits spell, from what the digits before spelt. -/
def valN (a : Nat) (l : List UInt8) : Nat := l.foldl stepN a
theorem valN_nil (a : Nat) : valN a [] = a := rfl
theorem valN_cons (a : Nat) (c : UInt8) (r : List UInt8) : valN a (c :: r) = valN (stepN a c) r := List.foldl_cons ..
def isDig (c : UInt8) : Prop := 48 ≤ c.toNat ∧ c.toNat ≤ 57

theorem valN_append (a : Nat) (l m : List UInt8) : valN a (l ++ m) = valN (valN a l) m := List.foldl_append ..
theorem valN_snoc (l : List UInt8) (c : UInt8) : valN 0 (l ++ [c]) = 10 * valN 0 l + (c.toNat - 48) := by rw [valN_append, valN_cons, valN_nil, stepN_eq]

theorem dig_byte (u : Nat) : (UInt8.ofNat (48 + u % 10)).toNat = 48 + u % 10 := by
  rw [UInt8.toNat_ofNat']; omega
/-- The digits of a number: digits, and they spell it. -/
theorem digs_spec : ∀ (k u : Nat), u < 10 ^ k → (∀ c ∈ digs u, isDig c) ∧ valN 0 (digs u) = u
  | 0, u, h => by
    have : u = 0 := by simp at h; omega
    subst this
    exact ⟨by simp [digs_zero], rfl⟩
  | k + 1, u, h => by
    by_cases h0 : u = 0
    · subst h0; exact ⟨by simp [digs_zero], rfl⟩
    · obtain ⟨h1, h2⟩ := digs_spec k (u / 10) (by rw [Nat.pow_succ] at h; omega)
      rw [digs_step h0]
      refine ⟨fun c hc => ?_, ?_⟩
      · rcases List.mem_append.1 hc with hc | hc
        · exact h1 c hc
        · simp only [List.mem_singleton] at hc
          subst hc
          unfold isDig
          rw [dig_byte]
          omega
      · rw [valN_snoc, h2, dig_byte]
        omega
theorem lt_pow : ∀ u : Nat, u < 10 ^ u
  | 0 => by simp
  | u + 1 => by have := lt_pow u; rw [Nat.pow_succ]; omega
theorem digs_dig {u : Nat} {c : UInt8} (h : c ∈ digs u) : isDig c := (digs_spec u u (lt_pow u)).1 c h
theorem digs_val (u : Nat) : valN 0 (digs u) = u := (digs_spec u u (lt_pow u)).2
theorem valN_lt : ∀ (l : List UInt8) (a k : Nat), a < 10 ^ k → (∀ c ∈ l, isDig c) → valN a l < 10 ^ (k + l.length)
  | [], a, k, h, _ => by simpa [valN_nil] using h
  | c :: l, a, k, h, hd => by
    have hc := hd c (by simp)
    unfold isDig at hc
    have := valN_lt l (stepN a c) (k + 1) (by rw [Nat.pow_succ, stepN_eq]; omega) (fun x hx => hd x (by simp [hx]))
    rw [valN_cons, List.length_cons, show k + (l.length + 1) = k + 1 + l.length by omega]
    exact this
theorem valN_bound {l : List UInt8} {m : Nat} (hd : ∀ c ∈ l, isDig c) (hm : l.length ≤ m) : valN 0 l < 10 ^ m := by
  have := valN_lt l 0 0 (by simp) hd
  rw [Nat.zero_add] at this
  exact Nat.lt_of_lt_of_le this (Nat.pow_le_pow_right (by omega) hm)
theorem digs_ne {u : Nat} (h : u ≠ 0) : digs u ≠ [] := by rw [digs_step h]; simp

/-- What stands behind the sign. -/
def body (l : List UInt8) : List UInt8 := if l.head? = some 45 then l.tail else l
/-- The number that a text spells. -/
def spelt (l : List UInt8) : Int := if l.head? = some 45 then -(valN 0 (body l) : Int) else valN 0 (body l)

theorem itoa_cases (n : Int) : (n = 0 ∧ itoa n = [48]) ∨ (0 < n ∧ itoa n = digs n.natAbs) ∨ (n < 0 ∧ itoa n = 45 :: digs n.natAbs) := by
  rcases Int.lt_trichotomy n 0 with h | rfl | h
  · exact .inr (.inr ⟨h, itoa_of_neg h⟩)
  · exact .inl ⟨rfl, itoa_zero⟩
  · exact .inr (.inl ⟨h, itoa_of_pos h⟩)
theorem head_digs {u : Nat} : (digs u).head? ≠ some 45 := fun h => by
  have := digs_dig (List.mem_of_head? h)
  unfold isDig at this
  simp at this
/-- A numeral's own body: digits, at least one, no more than m where the number is below 10^m; and it spells the number. -/
theorem itoa_body (n : Int) : (∀ c ∈ body (itoa n), isDig c) ∧ body (itoa n) ≠ [] ∧ spelt (itoa n) = n ∧ (∀ m, 0 < m → n.natAbs < 10 ^ m → (body (itoa n)).length ≤ m) := by
  rcases itoa_cases n with ⟨rfl, e⟩ | ⟨h, e⟩ | ⟨h, e⟩
  · rw [e]
    refine ⟨?_, by decide, by decide, fun m hm _ => by simp [body]; omega⟩
    intro c hc
    simp [body] at hc
    subst hc
    unfold isDig
    decide
  · have eb : body (itoa n) = digs n.natAbs := by rw [e, body, if_neg head_digs]
    refine ⟨?_, ?_, ?_, ?_⟩
    · rw [eb]; exact fun c hc => digs_dig hc
    · rw [eb]; exact digs_ne (by omega)
    · rw [spelt, eb, e, if_neg head_digs, digs_val]; omega
    · rw [eb]; exact fun m _ hm => digs_length_le m _ hm
  · have eb : body (itoa n) = digs n.natAbs := by rw [e, body, if_pos (by simp)]; rfl
    refine ⟨?_, ?_, ?_, ?_⟩
    · rw [eb]; exact fun c hc => digs_dig hc
    · rw [eb]; exact digs_ne (by omega)
    · rw [spelt, eb, e, if_pos (by simp), digs_val]; omega
    · rw [eb]; exact fun m _ hm => digs_length_le m _ hm
theorem itoa_inj {a b : Int} (h : itoa a = itoa b) : a = b := by rw [← (itoa_body a).2.2.1, h, (itoa_body b).2.2.1]

/- THE LIBRARY's Atoi, AT A NUMERAL. -/
theorem parse_digs : ∀ (l : List UInt8) (a : Nat), (∀ c ∈ l, isDig c) → valN a l < 9223372036854775809 → parseUint10 a l = .ok (valN a l)
  | [], a, _, _ => rfl
  | c :: l, a, hd, hv => by
    have hc := hd c (by simp)
    unfold isDig at hc
    have hmono : ∀ (l : List UInt8) (a : Nat), a ≤ valN a l := by
      intro l
      induction l with
      | nil => intro a; exact Nat.le_refl _
      | cons c l ih => intro a; rw [valN_cons]; exact Nat.le_trans (by rw [stepN_eq]; omega) (ih _)
    rw [valN_cons] at hv ⊢
    have := hmono l (stepN a c)
    rw [stepN_eq] at *
    rw [parseUint10, if_pos hc, if_neg (by omega), if_neg (by omega), show a * 10 + (c.toNat - 48) = 10 * a + (c.toNat - 48) by omega]
    exact parse_digs l _ (fun x hx => hd x (by simp [hx])) hv
theorem atoi_itoa (n : Int) (h0 : -9223372036854775808 ≤ n) (h1 : n ≤ 9223372036854775807) : atoiAll (itoa n) = .ok n := by
  rcases itoa_cases n with ⟨rfl, e⟩ | ⟨h, e⟩ | ⟨h, e⟩
  · rw [e]; decide
  · have hne := digs_ne (show n.natAbs ≠ 0 by omega)
    have hd : ∀ c ∈ digs n.natAbs, isDig c := fun c hc => digs_dig hc
    have hp : parseMag (digs n.natAbs) = .ok n.natAbs := by
      rw [parseMag, if_neg hne, parse_digs _ 0 hd (by rw [digs_val]; omega), digs_val]
    rw [e]
    cases hl : digs n.natAbs with
    | nil => exact absurd hl hne
    | cons c r =>
      have hc := hd c (by rw [hl]; simp)
      unfold isDig at hc
      rw [hl] at hp
      unfold atoiAll
      have e43 : ¬ c.toNat = 43 := by omega
      have e45 : ¬ c.toNat = 45 := by omega
      simp only [e43, e45, or_self, if_false, hp, not_false_iff, true_and, false_and]
      rw [if_neg (by omega)]
      congr 1
      omega
  · have hne := digs_ne (show n.natAbs ≠ 0 by omega)
    have hp : parseMag (digs n.natAbs) = .ok n.natAbs := by
      rw [parseMag, if_neg hne, parse_digs _ 0 (fun c hc => digs_dig hc) (by rw [digs_val]; omega), digs_val]
    rw [e]
    unfold atoiAll
    have e45 : (45 : UInt8).toNat = 45 := rfl
    simp only [e45, or_true, if_true, hp, not_true, false_and, true_and, if_false]
    rw [if_neg (by omega)]
    congr 1
    omega

/- THE REFERENCE MODEL's READING: what 'l1Read' answers. -/
open Classical in
noncomputable def readAs (most : Nat) (l : List UInt8) : Option Int :=
  if body l ≠ [] ∧ (body l).length ≤ most ∧ (∀ c ∈ body l, isDig c) ∧ itoa (spelt l) = l then some (spelt l) else none
theorem readAs_if {most : Nat} {l : List UInt8} (h1 : body l ≠ []) (h2 : (body l).length ≤ most) (h3 : ∀ c ∈ body l, isDig c) (h4 : itoa (spelt l) = l) : readAs most l = some (spelt l) := by
  unfold readAs
  rw [if_pos ⟨h1, h2, h3, h4⟩]
theorem readAs_empty {most : Nat} {l : List UInt8} (h : body l = []) : readAs most l = none := by
  unfold readAs
  rw [if_neg fun e => e.1 h]
theorem readAs_long {most : Nat} {l : List UInt8} (h : most < (body l).length) : readAs most l = none := by
  unfold readAs
  rw [if_neg fun e => by have := e.2.1; omega]
theorem readAs_other {most : Nat} {l : List UInt8} {c : UInt8} (hc : c ∈ body l) (h : ¬ isDig c) : readAs most l = none := by
  unfold readAs
  rw [if_neg fun e => h (e.2.2.1 c hc)]
theorem readAs_spelt {most : Nat} {l : List UInt8} (h : itoa (spelt l) ≠ l) : readAs most l = none := by
  unfold readAs
  rw [if_neg fun e => h e.2.2.2]
theorem body_minus {l : List UInt8} (h : l.head? = some 45) : body l = l.tail ∧ spelt l = -(valN 0 l.tail : Int) := by
  have e : body l = l.tail := by rw [body, if_pos h]
  rw [spelt, if_pos h, e]
  exact ⟨rfl, rfl⟩
theorem body_plain {l : List UInt8} (h : l.head? ≠ some 45) : body l = l ∧ spelt l = valN 0 l := by
  have e : body l = l := by rw [body, if_neg h]
  rw [spelt, if_neg h, e]
  exact ⟨rfl, rfl⟩
theorem take_one_more (t : ByteArray) (k : Nat) (h : k < t.size) : t.data.toList.take (k + 1) = t.data.toList.take k ++ [t[k]] := by
  rw [List.take_succ_eq_append_getElem (by simpa using h)]; rfl
theorem readAs_yes {most : Nat} {n : Int} (hm : 0 < most) (h : n.natAbs < 10 ^ most) : readAs most (itoa n) = some n := by
  obtain ⟨h1, h2, h3, h4⟩ := itoa_body n
  unfold readAs
  rw [if_pos ⟨h2, h4 most hm h, h1, by rw [h3]⟩, h3]
theorem readAs_some {most : Nat} {l : List UInt8} {n : Int} (h : readAs most l = some n) : itoa n = l ∧ n.natAbs < 10 ^ most := by
  unfold readAs at h
  split at h
  · rename_i hc
    injection h with h
    subst h
    refine ⟨hc.2.2.2, ?_⟩
    have := valN_bound hc.2.2.1 hc.2.1
    unfold spelt
    split <;> omega
  · cases h
theorem readAs_none {most : Nat} {l : List UInt8} (hm : 0 < most) (h : readAs most l = none) {n : Int} (hn : n.natAbs < 10 ^ most) : itoa n ≠ l := fun e => by
  subst e
  rw [readAs_yes hm hn] at h
  cases h
end Go.Proofs.YtngbilblddngcaaDoor
namespace Go.Proofs.YtngbilblddngcaaDoor
open Go.RowKit

abbrev PairX := TypeX × TypeX
/-- What stands below a pair. -/
def pairsX (p t : TypeX) : List PairX := if p.kind_ = 1 then [] else p.args_.zip t.args_
/-- What the walk may go on below. -/
def GoodP (p t : TypeX) : Prop := p.kind_ = 1 ∨ p.args_.length = t.args_.length
mutual
def TypeX.walkP (d : Nat) : TypeX → TypeX → List (Nat × PairX)
  | .mk k n a, t => (d, .mk k n a, t) :: (if k = 1 then [] else TypeX.walkPL (d + 1) a t.args_)
def TypeX.walkPL (d : Nat) : List TypeX → List TypeX → List (Nat × PairX)
  | [], _ => []
  | _ :: _, [] => []
  | x :: r, y :: s => x.walkP d y ++ TypeX.walkPL d r s
end
def walkPs (d : Nat) : List PairX → List (Nat × PairX)
  | [] => []
  | q :: r => q.1.walkP d q.2 ++ walkPs d r
theorem walkPL_zip (d : Nat) : ∀ a b : List TypeX, TypeX.walkPL d a b = walkPs d (a.zip b)
  | [], _ => by rw [TypeX.walkPL, List.zip_nil_left, walkPs]
  | _ :: _, [] => by rw [TypeX.walkPL, List.zip_nil_right, walkPs]
  | x :: r, y :: s => by rw [TypeX.walkPL, List.zip_cons_cons, walkPs, walkPL_zip d r s]
theorem walkP_eq (d : Nat) (p t : TypeX) : p.walkP d t = (d, p, t) :: walkPs (d + 1) (pairsX p t) := by
  cases p with | mk k n a =>
  rw [TypeX.walkP, pairsX]
  by_cases h : k = 1
  · rw [if_pos h, if_pos (show (TypeX.mk k n a).kind_ = 1 from h), walkPs]
  · rw [if_neg h, if_neg (show ¬ (TypeX.mk k n a).kind_ = 1 from h), walkPL_zip]; rfl
/-- What the lists of a stack (the top one first) have still to give. -/
def todoP : List (List PairX) → List (Nat × PairX)
  | [] => []
  | l :: r => walkPs r.length l ++ todoP r
theorem todoP_pop (r : List (List PairX)) : todoP ([] :: r) = todoP r := by rw [todoP, walkPs]; rfl
theorem todoP_step (p t : TypeX) (l : List PairX) (r : List (List PairX)) : todoP (((p, t) :: l) :: r) = (r.length, p, t) :: todoP (pairsX p t :: l :: r) := by
  rw [todoP, todoP, todoP, walkPs, walkP_eq, List.length_cons]
  simp
theorem todoP_start (p t : TypeX) : todoP [[(p, t)]] = p.walkP 0 t := by simp [todoP, walkPs]
theorem pairsX_length {p t : TypeX} (h : GoodP p t) : (pairsX p t).length = if p.kind_ = 1 then 0 else p.args_.length := by
  rw [pairsX]
  by_cases hk : p.kind_ = 1
  · rw [if_pos hk, if_pos hk]; rfl
  · rw [if_neg hk, if_neg hk, List.length_zip]
    rcases h with h | h
    · exact absurd h hk
    · omega
theorem pairsX_at {p t : TypeX} (hk : p.kind_ ≠ 1) {j : Nat} (h : j < (pairsX p t).length) (h1 : j < p.args_.length) (h2 : j < t.args_.length) : (pairsX p t)[j] = (p.args_[j], t.args_[j]) := by
  simp only [pairsX, if_neg hk, List.getElem_zip]
mutual
theorem walkP_length (d : Nat) : ∀ p t : TypeX, (p.walkP d t).length ≤ p.size
  | .mk k n a, t => by
    rw [TypeX.walkP, TypeX.size, List.length_cons]
    have := walkPL_length (d + 1) a t.args_
    split
    · simp
    · omega
theorem walkPL_length (d : Nat) : ∀ a b : List TypeX, (TypeX.walkPL d a b).length ≤ TypeX.sizeL a
  | [], _ => by rw [TypeX.walkPL]; simp
  | _ :: _, [] => by rw [TypeX.walkPL]; simp
  | x :: r, y :: s => by
    have := walkP_length d x y
    have := walkPL_length d r s
    rw [TypeX.walkPL, TypeX.sizeL, List.length_append]; omega
end
mutual
theorem walkP_small (d : Nat) : ∀ (p t : TypeX), ∀ q ∈ p.walkP d t, q.2.2.size ≤ t.size
  | .mk k n a, t, q, h => by
    rw [TypeX.walkP] at h
    rcases List.mem_cons.1 h with rfl | h
    · exact Nat.le_refl _
    · by_cases hk : k = 1
      · rw [if_pos hk] at h; cases h
      · rw [if_neg hk] at h
        have := walkPL_small (d + 1) a t.args_ q h
        rw [TypeX.size_eq t]; omega
theorem walkPL_small (d : Nat) : ∀ (a b : List TypeX), ∀ q ∈ TypeX.walkPL d a b, q.2.2.size ≤ TypeX.sizeL b
  | [], _, q, h => by rw [TypeX.walkPL] at h; cases h
  | _ :: _, [], q, h => by rw [TypeX.walkPL] at h; cases h
  | x :: r, y :: s, q, h => by
    rw [TypeX.walkPL] at h
    rw [TypeX.sizeL]
    rcases List.mem_append.1 h with h | h
    · have := walkP_small d x y q h; omega
    · have := walkPL_small d r s q h; omega
end
mutual
theorem walkP_left (d : Nat) : ∀ (p t : TypeX), ∀ q ∈ p.walkP d t, q.2.1.size ≤ p.size
  | .mk k n a, t, q, h => by
    rw [TypeX.walkP] at h
    rcases List.mem_cons.1 h with rfl | h
    · exact Nat.le_refl _
    · by_cases hk : k = 1
      · rw [if_pos hk] at h; cases h
      · rw [if_neg hk] at h
        have := walkPL_left (d + 1) a t.args_ q h
        rw [TypeX.size]; omega
theorem walkPL_left (d : Nat) : ∀ (a b : List TypeX), ∀ q ∈ TypeX.walkPL d a b, q.2.1.size ≤ TypeX.sizeL a
  | [], _, q, h => by rw [TypeX.walkPL] at h; cases h
  | _ :: _, [], q, h => by rw [TypeX.walkPL] at h; cases h
  | x :: r, y :: s, q, h => by
    rw [TypeX.walkPL] at h
    rw [TypeX.sizeL]
    rcases List.mem_append.1 h with h | h
    · have := walkP_left d x y q h; omega
    · have := walkPL_left d r s q h; omega
end

/-- What one pair makes of the bindings. -/
def stepP (q : PairX) (acc : List BindingX) : Option (List BindingX) :=
  if q.1.kind_ = 1 then
    match lookX q.1.name_ acc with
    | some y => if y.same q.2 = true then some acc else none
    | none => some (acc ++ [.mk q.1.name_ q.2])
  else if q.1.kind_ = q.2.kind_ ∧ q.1.name_ = q.2.name_ ∧ q.1.args_.length = q.2.args_.length then some acc else none
def stepsP : List (Nat × PairX) → List BindingX → Option (List BindingX)
  | [], acc => some acc
  | q :: r, acc => (stepP q.2 acc).bind (stepsP r)
theorem stepsP_app : ∀ (a b : List (Nat × PairX)) (acc : List BindingX), stepsP (a ++ b) acc = (stepsP a acc).bind (stepsP b)
  | [], b, acc => rfl
  | q :: r, b, acc => by
    rw [List.cons_append, stepsP, stepsP]
    cases stepP q.2 acc with
    | none => rfl
    | some a2 => exact stepsP_app r b a2
theorem stepsP_one (q : Nat × PairX) (acc : List BindingX) : stepsP [q] acc = stepP q.2 acc := by
  rw [stepsP]
  cases stepP q.2 acc <;> rfl
theorem stepP_met {q : PairX} {y : TypeX} {acc : List BindingX} (hk : q.1.kind_ = 1) (hl : lookX q.1.name_ acc = some y) : stepP q acc = if y.same q.2 = true then some acc else none := by
  rw [stepP, if_pos hk, hl]
theorem stepP_new {q : PairX} {acc : List BindingX} (hk : q.1.kind_ = 1) (hl : lookX q.1.name_ acc = none) : stepP q acc = some (acc ++ [.mk q.1.name_ q.2]) := by
  rw [stepP, if_pos hk, hl]
theorem stepP_root {q : PairX} {acc : List BindingX} (hk : q.1.kind_ ≠ 1) : stepP q acc = if q.1.kind_ = q.2.kind_ ∧ q.1.name_ = q.2.name_ ∧ q.1.args_.length = q.2.args_.length then some acc else none := by
  rw [stepP, if_neg hk]
theorem stepP_yes {q : PairX} {acc : List BindingX} (hk : q.1.kind_ ≠ 1) (hc : q.1.kind_ = q.2.kind_ ∧ q.1.name_ = q.2.name_ ∧ q.1.args_.length = q.2.args_.length) : stepP q acc = some acc := by
  rw [stepP_root hk, if_pos hc]
theorem stepP_no {q : PairX} {acc : List BindingX} (hk : q.1.kind_ ≠ 1) (hc : ¬ (q.1.kind_ = q.2.kind_ ∧ q.1.name_ = q.2.name_ ∧ q.1.args_.length = q.2.args_.length)) : stepP q acc = none := by
  rw [stepP_root hk, if_neg hc]
theorem stepP_good {q : PairX} {acc a2 : List BindingX} (h : stepP q acc = some a2) : GoodP q.1 q.2 := by
  by_cases hk : q.1.kind_ = 1
  · exact .inl hk
  · rw [stepP_root hk] at h
    by_cases hc : q.1.kind_ = q.2.kind_ ∧ q.1.name_ = q.2.name_ ∧ q.1.args_.length = q.2.args_.length
    · exact .inr hc.2.2
    · rw [if_neg hc] at h; cases h
mutual
theorem stepsP_walk (d : Nat) : ∀ (p t : TypeX) (acc : List BindingX), stepsP (p.walkP d t) acc = p.mat t acc
  | .mk k n a, t, acc => by
    rw [TypeX.walkP, stepsP]
    by_cases hk : k = 1
    · rw [if_pos hk]
      cases hl : lookX n acc with
      | some y =>
        rw [stepP_met (q := (.mk k n a, t)) hk hl, TypeX.mat_met (p := .mk k n a) hk hl]
        by_cases hs : y.same t = true
        · simp only [hs, if_true, Option.bind_some, stepsP]
        · rw [if_neg hs]; rfl
      | none =>
        rw [stepP_new (q := (.mk k n a, t)) hk hl, TypeX.mat_new (p := .mk k n a) hk hl]
        rfl
    · rw [if_neg hk]
      by_cases hc : k = t.kind_ ∧ n = t.name_ ∧ a.length = t.args_.length
      · rw [stepP_yes (q := (.mk k n a, t)) hk hc, TypeX.mat_args (p := .mk k n a) hk hc, Option.bind_some]
        exact stepsP_walkL (d + 1) a t.args_ acc hc.2.2
      · rw [stepP_no (q := (.mk k n a, t)) hk hc, TypeX.mat_no (p := .mk k n a) hk hc]; rfl
theorem stepsP_walkL (d : Nat) : ∀ (a b : List TypeX) (acc : List BindingX), a.length = b.length → stepsP (TypeX.walkPL d a b) acc = TypeX.matL a b acc
  | [], _, acc, _ => by rw [TypeX.walkPL, stepsP, TypeX.matL]
  | _ :: _, [], acc, h => by simp at h
  | x :: r, y :: s, acc, h => by
    rw [TypeX.walkPL, stepsP_app, stepsP_walk d x y, TypeX.matL]
    cases x.mat y acc with
    | none => rfl
    | some a2 => exact stepsP_walkL d r s a2 (by simpa using h)
end
/-- Once it fails it fails. -/
theorem stepsP_none {a b : List (Nat × PairX)} {acc : List BindingX} (h : stepsP a acc = none) : stepsP (a ++ b) acc = none := by rw [stepsP_app, h]; rfl
theorem stepP_small {M : Nat} {q : PairX} {acc a2 : List BindingX} (ha : ∀ b ∈ acc, b.type_.size ≤ M) (hq : q.2.size ≤ M) (h : stepP q acc = some a2) : (∀ b ∈ a2, b.type_.size ≤ M) ∧ a2.length ≤ acc.length + 1 := by
  by_cases hk : q.1.kind_ = 1
  · cases hl : lookX q.1.name_ acc with
    | some y =>
      rw [stepP_met hk hl] at h
      by_cases hs : y.same q.2 = true
      · rw [if_pos hs] at h; injection h with h; subst h; exact ⟨ha, by omega⟩
      · rw [if_neg hs] at h; cases h
    | none =>
      rw [stepP_new hk hl] at h
      injection h with h
      subst h
      refine ⟨fun b hb => ?_, by rw [List.length_append]; simp⟩
      rcases List.mem_append.1 hb with hb | hb
      · exact ha b hb
      · rw [List.mem_singleton.1 hb]; exact hq
  · rw [stepP_root hk] at h
    by_cases hc : q.1.kind_ = q.2.kind_ ∧ q.1.name_ = q.2.name_ ∧ q.1.args_.length = q.2.args_.length
    · rw [if_pos hc] at h; injection h with h; subst h; exact ⟨ha, by omega⟩
    · rw [if_neg hc] at h; cases h
theorem stepsP_small {M : Nat} : ∀ {l : List (Nat × PairX)} {acc a2 : List BindingX}, (∀ b ∈ acc, b.type_.size ≤ M) → (∀ q ∈ l, q.2.2.size ≤ M) → stepsP l acc = some a2 → (∀ b ∈ a2, b.type_.size ≤ M) ∧ a2.length ≤ acc.length + l.length
  | [], acc, a2, ha, hl, h => by rw [stepsP] at h; injection h with h; subst h; exact ⟨ha, by simp⟩
  | q :: r, acc, a2, ha, hl, h => by
    rw [stepsP] at h
    cases hs : stepP q.2 acc with
    | none => rw [hs] at h; cases h
    | some a1 =>
      rw [hs] at h
      obtain ⟨h1, h2⟩ := stepP_small ha (hl q List.mem_cons_self) hs
      obtain ⟨h3, h4⟩ := stepsP_small h1 (fun q hq => hl q (List.mem_cons_of_mem _ hq)) h
      exact ⟨h3, by rw [List.length_cons]; omega⟩
end Go.Proofs.YtngbilblddngcaaDoor
namespace Go.Proofs.YtngbilblddngcaaDoor
open Go.RowKit

/-- THE ITERATOR's CONTRACT, where the body lets pass only what is Good: J and Jx are the caller's; M: the blocks that the iterator has made; Rd: those that it only reads. -/
def SeqG {α : Type} (F : Fence) (n : Nat) (P : Program) (g : Nat) (lb : Array Value) (encs : α → Array Value) (Ok : List α → α → Prop) (S : List α → Prop) (Good : α → Prop) (n₀ : Nat) (Rd : Nat → Prop) (w : World) : Prop :=
  ∀ (l : Nat) (J : (Nat → Prop) → List α → World → Prop) (Jx : List α → World → Prop) (W : World), Below w.heap.size w W →
    (∀ M s A B row, J M s A → A.grownBy B row → (∀ r, row = some r → M r) → J (fun b => M b ∨ (A.heap.size ≤ b ∧ b < B.heap.size)) s B) →
    (∀ M pre x W1, J M pre W1 → Ok pre x → YieldAt F (n - 1) P l (encs x) W1 fun e W' =>
      (e = .returned (.bool true) ∧ J M (pre ++ [x]) W' ∧ KeepsM n₀ (fun b => M b ∨ Rd b) W1 W') ∨ (e = .returned (.bool false) ∧ Jx (pre ++ [x]) W')) →
    (∀ M pre x W1, J M (pre ++ [x]) W1 → Good x) →
    J (fun _ => False) [] W →
    CallsIn F n P g (#[.func (.yield l) #[] #[]] ++ lb) W fun e W' => (∃ v, e = .returned v) ∧ ((∃ M xs, S xs ∧ J M xs W') ∨ (∃ pre, Jx pre W'))

variable {F : Fence} {n : Nat} {P : Program}

theorem wpIn_rangeFunc_ownG {α : Type} {g : Operand} {ps : Array Tmp} {assign body : Code} {Q : Exit → Act → World → Prop} {a : Act} {w : World}
    (hro : F.round = none) (h1 : 1 ≤ n) {gf : Nat} {lb : Array Value} (hg : a.eval g = .func (.func gf) #[] lb) (hFg : F.fn gf) (eg : ∀ args w, (callFunc gf args).run P w = .ok (.enter gf args) w)
    {encs : α → Array Value} {Ok : List α → α → Prop} {S : List α → Prop} {Good : α → Prop} {n₀ : Nat} {Rd : Nat → Prop} {w0 : World} (hseq : SeqG F (n - 1) P gf lb encs Ok S Good n₀ Rd w0) (hRd : ∀ b, Rd b → b < w.heap.size)
    (hb0 : Below w0.heap.size w0 w) (hn0 : n₀ ≤ w.heap.size) (hps : ∀ x, (encs x).size = ps.size)
    (I : (Nat → Prop) → List α → World → Prop) (Ix : Code → List α → World → Prop) (hI : OwnM w.heap.size I) (hG : ∀ M pre x W, I M (pre ++ [x]) W → Good x) (hIx : ∀ c, OwnFrom w.heap.size (Ix c)) (h0 : ∀ M : Nat → Prop, (∀ b, M b → w.heap.size ≤ b) → I M [] w) (Ax : α → Act → World → Prop) (hAx : ∀ x a', OwnFrom w.heap.size (fun (_ : Unit) W => Ax x a' W))
    (hassign : ∀ (l : Nat) (M : Nat → Prop) (pre : List α) (x : α) (W : World) (K : Act → World → Prop), (∀ b, M b → w.heap.size < b) → (∀ b, M b ∨ Rd b → b < W.heap.size) → w.heap.size + 1 < W.heap.size → I M pre W → Ok pre x → (∀ a' W', KeepsFrom w.heap.size W W' → KeepsM n₀ (fun b => M b ∨ Rd b) W W' → I M pre W' → Ax x a' W' → K a' W') →
      assign.wpIn (F.inRound l) (n - 1 - 1) P (Exit.then K (fun _ _ _ => False)) { tmps := (ps.zip (encs x)).foldl (fun t (p, v) => t.setIfInBounds p v) a.tmps, defers := [] } W)
    (hbody : ∀ (l : Nat) (M : Nat → Prop) (pre : List α) (x : α) (a' : Act) (W : World), (∀ b, M b → w.heap.size < b) → (∀ b, M b ∨ Rd b → b < W.heap.size) → w.heap.size + 1 < W.heap.size → I M pre W → Ax x a' W → Ok pre x → body.wpIn (F.inRound l) (n - 1 - 1) P (ownPostM w.heap.size n₀ Rd I Ix M (pre ++ [x]) W) a' W)
    (hdone : ∀ (D : Nat) (M : Nat → Prop) (xs : List α) (W : World), w.heap.size ≤ D → S xs → I M xs W → W.heap[D]? = some (.deferred (some [])) → Q .normal { a with defers := { target := .collected D, args := #[] } :: a.defers } W)
    (hstop : ∀ (D : Nat) (c : Code) (pre : List α) (W : World), w.heap.size ≤ D → Ix c pre W → W.heap[D]? = some (.deferred (some [])) → c.wpIn F n P Q { a with defers := { target := .collected D, args := #[] } :: a.defers } W) :
    (Code.rangeFunc g ps assign body).wpIn F n P Q a w := by
  refine wpIn_rangeFunc ?_
  intro fn hfn
  rw [hro]
  obtain ⟨rec, hrec⟩ : ∃ rec : LoopState → Option Code → Loop, rec = fun st pe => { state := st, pending := pe, fn, tmps := a.tmps, params := ps, assign, body, defers := w.heap.size } := ⟨_, rfl⟩
  obtain ⟨W1, hW1⟩ : ∃ W1, (w.alloc (.deferred (some []))).alloc (.loop (rec .ready none)) = W1 := ⟨_, rfl⟩
  have hsz : W1.heap.size = w.heap.size + 2 := by rw [← hW1]; simp
  have hL1 : W1.heap[w.heap.size + 1]? = some (.loop (rec .ready none)) := by
    rw [← hW1]; have := World.alloc_heap_new (w.alloc (.deferred (some []))) (.loop (rec .ready none)); rwa [World.size_alloc] at this
  have hK1 : W1.heap[w.heap.size]? = some (.deferred (some [])) := by
    rw [← hW1]; exact (Below.heap_alloc _ _ _ (by simp)).trans (World.alloc_heap_new w _)
  have hI1 : I (fun _ => False) [] W1 := by
    have h := h0 (fun _ => False) (fun _ h => h.elim)
    rw [← hW1]; exact (hI.from _).alloc _ ((hI.from _).alloc _ h)
  have hb1 : Below w0.heap.size w0 W1 := by
    rw [← hW1]; exact hb0.trans ((((Below.refl _ w).alloc (Nat.le_refl _) _).alloc (by simp) _).mono hb0.size)
  refine ⟨w.heap.size + 1, [{ target := .collected w.heap.size, args := #[] }], W1, { target := .fn (.func gf) lb, args := #[.func (.yield (w.heap.size + 1)) #[] #[]] }, W1, gf,
    #[.func (.yield (w.heap.size + 1)) #[] #[]] ++ lb, W1, ?_, ?_, ?_, ?_, fun _ => h1, ?_⟩
  · rw [← hW1, hrec]; exact run_enterLoop_outer _ _ _ _ _
  · simp only [resolve, hg]
    simp [go_sem]
  · intro f' hf'; simp [Target.leads] at hf'; subst hf'; exact hFg
  · simp [invoke, go_sem, eg]
  · refine (hseq (w.heap.size + 1)
      (fun M pre W => (∀ b, M b → w.heap.size + 2 ≤ b ∧ b < W.heap.size) ∧ I M pre W ∧ W.heap[w.heap.size + 1]? = some (.loop (rec .ready none)) ∧ W.heap[w.heap.size]? = some (.deferred (some [])))
      (fun pre W => ∃ c, Ix c pre W ∧ W.heap[w.heap.size + 1]? = some (.loop (rec .done (some c))) ∧ W.heap[w.heap.size]? = some (.deferred (some [])))
      W1 hb1 ?_ ?_ (fun M pre x W1 h => hG M pre x W1 h.2.1) ⟨fun _ h => h.elim, hI1, hL1, hK1⟩).mono ?_
    · rintro M s A B row ⟨hM, hi, hl, hk⟩ hg' hr
      have hlt : w.heap.size + 1 < A.heap.size := (Array.getElem?_eq_some_iff.1 hl).1
      have hsz' := hg'.size
      refine ⟨fun b hb => ?_, hI M _ s A B row hi hg' (fun r e => ⟨by have := (hM r (hr r e)).1; omega, .inl (hr r e)⟩) (fun b hb => hb.imp_right (fun h => h.1)), ?_, ?_⟩
      · rcases hb with hb | hb
        · have := hM b hb; omega
        · omega
      · exact (hg'.block _ hlt (fun e => by have := (hM _ (hr _ e.symm)).1; omega)).trans hl
      · exact (hg'.block _ (by omega) (fun e => by have := (hM _ (hr _ e.symm)).1; omega)).trans hk
    · rintro M pre x W ⟨hM, hi, hl, hk⟩ hok
      have hlt : w.heap.size + 1 < W.heap.size := (Array.getElem?_eq_some_iff.1 hl).1
      have hy := run_yield (P := P) (args := encs x) hl (by rw [hrec]; exact hps x)
      rw [hrec] at hy
      refine ⟨fn, _, assign, body, hy, roundIn_of_wpIn hfn (hassign _ M pre x W _ (fun b hb => by have := hM b hb; omega) (fun b hb => hb.elim (fun h => (hM b h).2) (fun h => by have := hRd b h; omega)) hlt hi hok ?_)⟩
      clear hy
      intro a' Wa hkfa hkpa hia hax
      replace hl := hkfa.same _ _ (by omega) hl rfl
      replace hk := hkfa.same _ _ (Nat.le_refl _) hk rfl
      replace hlt : w.heap.size + 1 < Wa.heap.size := (Array.getElem?_eq_some_iff.1 hl).1
      replace hM : ∀ b, M b → w.heap.size + 2 ≤ b ∧ b < Wa.heap.size := fun b hb => ⟨(hM b hb).1, by have := (hM b hb).2; have := hkfa.size; omega⟩
      replace hi := hia
      clear hia
      revert hkpa hkfa
      generalize W = Wb
      intro hkfa hkpa
      obtain ⟨W, rfl⟩ : ∃ W, W = Wa := ⟨_, rfl⟩
      refine ⟨_, run_beginRound hl (by rw [hrec]), ?_⟩
      have hl2 : (W.putObj (w.heap.size + 1) (.loop { rec .ready none with state := .busy })).heap[w.heap.size + 1]? = some (.loop { rec .ready none with state := .busy }) := World.putObj_heap_same hlt
      have hk2 : (W.putObj (w.heap.size + 1) (.loop { rec .ready none with state := .busy })).heap[w.heap.size]? = some (.deferred (some [])) := (World.putObj_heap_other (by omega)).trans hk
      have hw2 : KeepsM n₀ (fun b => M b ∨ Rd b) W (W.putObj (w.heap.size + 1) (.loop { rec .ready none with state := .busy })) := KeepsM.putObj (by omega) hlt (fun h => h.elim (fun h => by have := (hM _ h).1; omega) (fun h => by have := hRd _ h; omega))
      refine wpIn_mono (hbody _ M pre x a' _ (fun b hb => by have := hM b hb; omega) (fun b hb => by simp; exact hb.elim (fun h => (hM b h).2) (fun h => by have := hRd b h; omega)) (by simp; omega) ((hI.from M).putObj _ hi (by omega) hl rfl) ((hAx x a').putObj (s := ()) _ hax (by omega) hl rfl) hok) ?_
      have fin : ∀ (jump : Option Code) (W3 : World), KeepsFrom w.heap.size (W.putObj (w.heap.size + 1) (.loop { rec .ready none with state := .busy })) W3 →
          (Instr.endRound (w.heap.size + 1) jump).run P W3 = .ok (.bool jump.isNone) (W3.putObj (w.heap.size + 1) (.loop (rec (if jump.isNone then .ready else .done) jump))) ∧
          W3.heap[w.heap.size + 1]? = some (.loop { rec .ready none with state := .busy }) ∧
          (W3.putObj (w.heap.size + 1) (.loop (rec (if jump.isNone then .ready else .done) jump))).heap[w.heap.size + 1]? = some (.loop (rec (if jump.isNone then .ready else .done) jump)) ∧
          (W3.putObj (w.heap.size + 1) (.loop (rec (if jump.isNone then .ready else .done) jump))).heap[w.heap.size]? = some (.deferred (some [])) := fun jump W3 hk3 => by
        have hl3 := hk3.same _ _ (by omega) hl2 rfl
        have := run_endRound (P := P) jump hl3
        rw [hrec] at this ⊢
        exact ⟨this, by rw [hrec] at hl3; exact hl3, World.putObj_heap_same (Array.getElem?_eq_some_iff.1 hl3).1, (World.putObj_heap_other (by omega)).trans (hk3.same _ _ (Nat.le_refl _) hk2 rfl)⟩
      rintro e a3 W3 hp
      cases e with
      | normal =>
        obtain ⟨hk3, hkp3, hi3⟩ := hp
        obtain ⟨hr, hl3, hl4, hk4⟩ := fin none W3 hk3
        have hlt3 := (Array.getElem?_eq_some_iff.1 hl3).1
        have hsz3 := hk3.size
        simp at hsz3
        exact ⟨_, _, hr, .inl ⟨rfl, ⟨fun b hb => by have := hM b hb; simp; omega, (hI.from M).putObj _ hi3 (by omega) hl3 rfl, hl4, hk4⟩, hkpa.trans ((hw2.trans hkp3).trans (KeepsM.putObj (by omega) hlt3 (fun h => h.elim (fun h => by have := (hM _ h).1; omega) (fun h => by have := hRd _ h; omega))))⟩⟩
      | ret =>
        obtain ⟨hk3, hi3⟩ := hp
        obtain ⟨hr, hl3, hl4, hk4⟩ := fin (some .ret) W3 hk3
        exact ⟨_, _, hr, .inr ⟨rfl, .ret, (hIx _).putObj _ hi3 (by omega) hl3 rfl, hl4, hk4⟩⟩
      | exit id =>
        obtain ⟨hk3, hi3⟩ := hp
        obtain ⟨hr, hl3, hl4, hk4⟩ := fin (some (.exit id)) W3 hk3
        exact ⟨_, _, hr, .inr ⟨rfl, .exit id, (hIx _).putObj _ hi3 (by omega) hl3 rfl, hl4, hk4⟩⟩
      | goto t =>
        obtain ⟨hk3, hi3⟩ := hp
        obtain ⟨hr, hl3, hl4, hk4⟩ := fin (some (.goto t)) W3 hk3
        exact ⟨_, _, hr, .inr ⟨rfl, .goto t, (hIx _).putObj _ hi3 (by omega) hl3 rfl, hl4, hk4⟩⟩
      | panic ch => exact hp.elim
      | outgrown => exact hp.elim
    · rintro e W2 ⟨⟨v, rfl⟩, (⟨M, xs, hS, hM, hi, hl, hk⟩ | ⟨pre, c, hi, hl, hk⟩)⟩
      · exact ⟨none, _, by have := run_endLoop (P := P) hl (by rw [hrec]; simp); rw [hrec] at this; exact this, hdone _ M xs _ (Nat.le_refl _) hS ((hI.from M).putObj _ hi (by omega) hl rfl) ((World.putObj_heap_other (by omega)).trans hk)⟩
      · exact ⟨some c, _, by have := run_endLoop (P := P) hl (by rw [hrec]; simp); rw [hrec] at this; exact this, hstop _ c pre _ (Nat.le_refl _) ((hIx c).putObj _ hi (by omega) hl rfl) ((World.putObj_heap_other (by omega)).trans hk)⟩
end Go.Proofs.YtngbilblddngcaaDoor
namespace Go.Proofs.YtngbilblddngcaaDoor
open Go.RowKit Go.Lib

/-- What comes: a level, a pattern, a type, where their own lists lie. -/
structure PairIt where
  lvl : Nat
  p : TypeX
  t : TypeX
  A : Option Addr
  a : Nat
  C : Option Addr
  c : Nat
def PairIt.key (x : PairIt) : Nat × PairX := (x.lvl, x.p, x.t)
def PairIt.enc (x : PairIt) : Array Value := #[.int .i64 (x.lvl : Nat), .agg #[.int .i64 x.p.kind_, .string x.p.name_, .slice x.A x.p.args_.length x.a, .int .i64 x.t.kind_, .string x.t.name_, .slice x.C x.t.args_.length x.c]]

/-- The list at A: its pairs lie in blocks of R; what they lead to lies below n₀. -/
def TopPair (w : World) (n₀ : Nat) (R : Nat → Prop) (A : Option Addr) (l : List PairX) : Prop :=
  ∀ (j : Nat) (hj : j < l.length), ∃ (b o : Nat) (A2 : Option Addr) (a2 : Nat) (C2 : Option Addr) (c2 : Nat), A = some ⟨b, o, none⟩ ∧ R b ∧
    w.cell? ⟨b, o + j * 6, none⟩ = some (.int .i64 l[j].1.kind_) ∧ w.cell? ⟨b, o + j * 6 + 1, none⟩ = some (.string l[j].1.name_) ∧ w.cell? ⟨b, o + j * 6 + 2, none⟩ = some (.slice A2 l[j].1.args_.length a2) ∧
    w.cell? ⟨b, o + j * 6 + 3, none⟩ = some (.int .i64 l[j].2.kind_) ∧ w.cell? ⟨b, o + j * 6 + 4, none⟩ = some (.string l[j].2.name_) ∧ w.cell? ⟨b, o + j * 6 + 5, none⟩ = some (.slice C2 l[j].2.args_.length c2) ∧
    TypeRow w (Und n₀) A2 a2 l[j].1.args_ ∧ TypeRow w (Und n₀) C2 c2 l[j].2.args_
theorem TopPair.frame {w w' : World} {n₀ : Nat} {R R' : Nat → Prop} {A : Option Addr} {l : List PairX} (h : TopPair w n₀ R A l) (hR : ∀ b, R b → R' b) (hk : ∀ b, b < n₀ ∨ R b → w'.heap[b]? = w.heap[b]?) : TopPair w' n₀ R' A l := by
  intro j hj
  obtain ⟨b, o, A2, a2, C2, c2, hA, hb, h0, h1, h2, h3, h4, h5, hr, hs⟩ := h j hj
  have hc : ∀ b i, (b < n₀ ∨ R b) → w'.cell? ⟨b, i, none⟩ = w.cell? ⟨b, i, none⟩ := fun b i h => World.cell?_of_block (a := ⟨b, i, none⟩) (hk b h)
  exact ⟨b, o, A2, a2, C2, c2, hA, hR b hb, (hc _ _ (.inr hb)).trans h0, (hc _ _ (.inr hb)).trans h1, (hc _ _ (.inr hb)).trans h2, (hc _ _ (.inr hb)).trans h3, (hc _ _ (.inr hb)).trans h4, (hc _ _ (.inr hb)).trans h5,
    hr.frame (fun _ h => h) (fun b i h => hc b i (.inl h)), hs.frame (fun _ h => h) (fun b i h => hc b i (.inl h))⟩
theorem TopPair.tail {w : World} {n₀ b o : Nat} {R : Nat → Prop} {x : PairX} {l : List PairX} (h : TopPair w n₀ R (some ⟨b, o, none⟩) (x :: l)) : TopPair w n₀ R (some ⟨b, o + 6, none⟩) l := by
  intro j hj
  obtain ⟨b', o', A2, a2, C2, c2, hA, hb, h0, h1, h2, h3, h4, h5, k1, k2⟩ := h (j + 1) (by simpa using hj)
  injection hA with hA
  injection hA with e1 e2
  subst e1 e2
  have e : o + (j + 1) * 6 = o + 6 + j * 6 := by omega
  rw [e] at h0 h1 h2 h3 h4 h5
  exact ⟨b, o + 6, A2, a2, C2, c2, rfl, hb, h0, h1, h2, h3, h4, h5, k1, k2⟩
theorem TopPair.nil (w : World) (n₀ : Nat) (R : Nat → Prop) (A : Option Addr) : TopPair w n₀ R A [] := fun j hj => absurd hj (Nat.not_lt_zero j)

/-- The stack's slices, the top one last. -/
def TopsPair (w : World) (n₀ : Nat) (R : Nat → Prop) : List (List PairX) → List Value → Prop
  | [], vs => vs = []
  | l :: r, vs => ∃ (vs0 : List Value) (A : Option Addr) (c : Nat), vs = vs0 ++ [.slice A l.length c] ∧ l.length ≤ c ∧ c ≤ 9223372036854775807 ∧ TopPair w n₀ R A l ∧ TopsPair w n₀ R r vs0
theorem TopsPair.length {w : World} {n₀ : Nat} {R : Nat → Prop} : ∀ {rs : List (List PairX)} {vs : List Value}, TopsPair w n₀ R rs vs → vs.length = rs.length
  | [], vs, h => by rw [TopsPair] at h; rw [h]; rfl
  | l :: r, vs, h => by
    obtain ⟨vs0, A, c, rfl, _, _, _, h2⟩ := h
    rw [List.length_append, h2.length]; rfl
theorem TopsPair.frame {w w' : World} {n₀ : Nat} {R R' : Nat → Prop} (hR : ∀ b, R b → R' b) (hk : ∀ b, b < n₀ ∨ R b → w'.heap[b]? = w.heap[b]?) : ∀ {rs : List (List PairX)} {vs : List Value}, TopsPair w n₀ R rs vs → TopsPair w' n₀ R' rs vs
  | [], vs, h => h
  | l :: r, vs, h => by
    obtain ⟨vs0, A, c, rfl, h1, h2, h3, h4⟩ := h
    exact ⟨vs0, A, c, rfl, h1, h2, h3.frame hR hk, h4.frame hR hk⟩

/-- The iterator between two steps: its stack rv, in blocks of M; the rows that it points to lie in blocks of R, none of them the stack's own. -/
structure PrePairSt (J : (Nat → Prop) → List PairIt → World → Prop) (w : World) (n₀ b0 : Nat) (Rd : Nat → Prop) (M R : Nat → Prop) (pre : List PairIt) (rs : List (List PairX)) (vs : List Value) (rv : Value) (wr : World) : Prop where
  j : J M pre wr
  own : wr.ownsRow (b0 + 1) 102 1 rv rs.length vs
  mown : ∀ b, rv.ownBlock = some b → M b
  rm : ∀ b, R b → M b
  rown : ∀ b, rv.ownBlock = some b → ¬ R b
  tops : TopsPair wr n₀ R rs vs
  below : Below n₀ w wr
  rd : ∀ b, Rd b → b < w.heap.size → wr.heap[b]? = w.heap[b]?
  lt : ∀ b, M b → b0 ≤ b ∧ b < wr.heap.size
  size : b0 < wr.heap.size
section
variable {J : (Nat → Prop) → List PairIt → World → Prop} {w : World} {n₀ b0 : Nat} {Rd M R : Nat → Prop} {pre : List PairIt} {rs : List (List PairX)} {vs : List Value} {rv : Value} {wr : World}
theorem PrePairSt.grow (HJ : ∀ M s A B row, J M s A → A.grownBy B row → (∀ r, row = some r → M r) → J (fun b => M b ∨ (A.heap.size ≤ b ∧ b < B.heap.size)) s B) (hnb : n₀ ≤ b0) (hwb : w.heap.size ≤ b0)
    (h : PrePairSt J w n₀ b0 Rd M R pre rs vs rv wr) {w2 : World} (hb : Below wr.heap.size wr w2) : PrePairSt J w n₀ b0 Rd (fun b => M b ∨ (wr.heap.size ≤ b ∧ b < w2.heap.size)) R pre rs vs rv w2 where
  j := HJ _ _ _ _ none h.j (grown_none hb) (fun _ e => by cases e)
  own := own_same h.own fun b hv => hb.block b (h.own.lt b hv).2
  mown := fun b hb' => .inl (h.mown b hb')
  rm := fun b hb' => .inl (h.rm b hb')
  rown := h.rown
  tops := h.tops.frame (fun _ h => h) fun b hb' => hb.block b (by
    have := h.size
    rcases hb' with h' | h'
    · omega
    · exact (h.lt b (h.rm b h')).2)
  below := h.below.trans (hb.mono (by have := h.size; omega))
  rd := fun b hr hlt => (hb.block b (by have := h.size; omega)).trans (h.rd b hr hlt)
  lt := fun b hb' => by
    have := h.size
    rcases hb' with h' | h'
    · exact ⟨(h.lt b h').1, Nat.lt_of_lt_of_le (h.lt b h').2 hb.size⟩
    · exact ⟨by omega, h'.2⟩
  size := Nat.lt_of_lt_of_le h.size hb.size
theorem PrePairSt.round (h : PrePairSt J w n₀ b0 Rd M R pre rs vs rv wr) {w2 : World} {y : PairIt} (hk : KeepsM n₀ (fun b => M b ∨ Rd b) wr w2) (hj : J M (pre ++ [y]) w2) : PrePairSt J w n₀ b0 Rd M R (pre ++ [y]) rs vs rv w2 where
  j := hj
  own := own_same h.own fun b hv => hk.own b (.inl (h.mown b hv))
  mown := h.mown
  rm := h.rm
  rown := h.rown
  tops := h.tops.frame (fun _ h => h) fun b hb' => by
    rcases hb' with h' | h'
    · exact hk.below.block b h'
    · exact hk.own _ (.inl (h.rm b h'))
  below := h.below.trans hk.below
  rd := fun b hr hlt => (hk.own b (.inr hr)).trans (h.rd b hr hlt)
  lt := fun b hb => ⟨(h.lt b hb).1, Nat.lt_of_lt_of_le (h.lt b hb).2 hk.below.size⟩
  size := Nat.lt_of_lt_of_le h.size hk.below.size
theorem PrePairSt.store (HJ : ∀ M s A B row, J M s A → A.grownBy B row → (∀ r, row = some r → M r) → J (fun b => M b ∨ (A.heap.size ≤ b ∧ b < B.heap.size)) s B) (hnb : n₀ ≤ b0) (hwb : w.heap.size ≤ b0)
    {y : PairX} {l : List PairX} {vs0 : List Value} {v : Value} {g cap : Nat} (h : PrePairSt J w n₀ b0 Rd M R pre ((y :: l) :: rs) (vs0 ++ [v]) (.slice (some ⟨g, 0, none⟩) (rs.length + 1) cap) wr) (h0 : TopsPair wr n₀ R rs vs0)
    {A3 : Option Addr} {c3 : Nat} (hl : l.length ≤ c3) (hc : c3 ≤ 9223372036854775807) (hT : TopPair wr n₀ R A3 l) :
    PrePairSt J w n₀ b0 Rd (fun b => M b ∨ (wr.heap.size ≤ b ∧ b < (wr.setCell ⟨g, rs.length, none⟩ (.slice A3 l.length c3)).heap.size)) R pre (l :: rs) (vs0 ++ [.slice A3 l.length c3]) (.slice (some ⟨g, 0, none⟩) (rs.length + 1) cap) (wr.setCell ⟨g, rs.length, none⟩ (.slice A3 l.length c3)) := by
  have hg : b0 + 1 ≤ g := (h.own.lt g rfl).1
  have hgR : ¬ R g := h.rown g rfl
  have hfar : ∀ b, b ≠ g → (wr.setCell ⟨g, rs.length, none⟩ (.slice A3 l.length c3)).heap[b]? = wr.heap[b]? := fun b hb => Below.heap_setCell wr _ _ b hb
  have hfr : ∀ b, b < n₀ ∨ R b → (wr.setCell ⟨g, rs.length, none⟩ (.slice A3 l.length c3)).heap[b]? = wr.heap[b]? := fun b hb => hfar b (by
    rcases hb with h' | h'
    · omega
    · intro e; exact hgR (e ▸ h'))
  have hst := World.ownsRow.stored h.own rs.length (.slice A3 l.length c3)
  refine ⟨HJ _ _ _ _ (some g) h.j (grownBy_setCell'' wr g rs.length _) (fun r e => by cases e; exact h.mown g rfl), ?_, fun b hb => .inl (h.mown b hb), fun b hb => .inl (h.rm b hb), fun b hb => h.rown b hb, ?_, h.below.setCell (p := ⟨g, rs.length, none⟩) (by simp; omega) _, fun b hr hlt => (hfar b (by omega)).trans (h.rd b hr hlt), fun b hb => ?_, by simpa using h.size⟩
  · have e : (vs0 ++ [v]).set rs.length (.slice A3 l.length c3) = vs0 ++ [.slice A3 l.length c3] := by
      rw [List.set_append_right _ _ (by rw [h0.length]; exact Nat.le_refl _), h0.length, Nat.sub_self]; rfl
    rw [← e]; exact hst.1
  · exact ⟨vs0, A3, c3, rfl, hl, hc, hT.frame (fun _ h => h) hfr, h0.frame (fun _ h => h) hfr⟩
  · have := h.size
    rcases hb with h' | h'
    · exact ⟨(h.lt b h').1, by simpa using (h.lt b h').2⟩
    · exact ⟨by omega, h'.2⟩
theorem PrePairSt.push (HJ : ∀ M s A B row, J M s A → A.grownBy B row → (∀ r, row = some r → M r) → J (fun b => M b ∨ (A.heap.size ≤ b ∧ b < B.heap.size)) s B) (hnb : n₀ ≤ b0) (hwb : w.heap.size ≤ b0)
    (h : PrePairSt J w n₀ b0 Rd M R pre rs vs rv wr) {w2 : World} {v' : Value} {l : List PairX} {A : Option Addr} {c : Nat} {R' : Nat → Prop} (hRR : ∀ b, R b → R' b) (hRM : ∀ b, R' b → M b) (hRv : ∀ b, rv.ownBlock = some b → ¬ R' b)
    (hg : wr.grownBy w2 rv.ownBlock) (hown : w2.ownsRow (b0 + 1) 102 1 v' (rs.length + 1) (vs ++ [.slice A l.length c]))
    (hv : v'.ownBlock = rv.ownBlock ∨ v'.ownBlock = some wr.heap.size) (hl : l.length ≤ c) (hc : c ≤ 9223372036854775807) (hT : TopPair wr n₀ R' A l) :
    PrePairSt J w n₀ b0 Rd (fun b => M b ∨ (wr.heap.size ≤ b ∧ b < w2.heap.size)) R' pre (l :: rs) (vs ++ [.slice A l.length c]) v' w2 := by
  have hs := h.size
  have hfar : ∀ b, b < n₀ ∨ R' b → w2.heap[b]? = wr.heap[b]? := fun b hb => by
    rcases hb with h' | h'
    · exact hg.block b (by omega) (fun e => by have := (h.own.lt b e.symm).1; omega)
    · exact hg.block b (h.lt b (hRM b h')).2 (fun e => hRv b e.symm h')
  refine ⟨HJ _ _ _ _ _ h.j hg h.mown, hown, fun b hb => ?_, fun b hb => .inl (hRM b hb), fun b hb => ?_, ⟨vs, A, c, rfl, hl, hc, hT.frame (fun _ h => h) hfar, (h.tops.frame hRR (fun _ _ => rfl)).frame (fun _ h => h) hfar⟩,
    h.below.grown hg (by omega) (fun k e => by have := (h.own.lt k e).1; omega), fun b hr hlt => (hg.block b (by omega) (fun e => by have := (h.own.lt b e.symm).1; omega)).trans (h.rd b hr hlt), fun b hb => ?_, Nat.lt_of_lt_of_le hs hg.size⟩
  · rcases hv with hv | hv
    · exact .inl (h.mown b (hv ▸ hb))
    · rw [hv] at hb; injection hb with hb; subst hb
      exact .inr ⟨Nat.le_refl _, (hown.lt _ hv).2⟩
  · rcases hv with hv | hv
    · exact hRv b (hv ▸ hb)
    · rw [hv] at hb; injection hb with hb; subst hb
      intro hr
      have := (h.lt _ (hRM _ hr)).2
      omega
  · rcases hb with h' | h'
    · exact ⟨(h.lt b h').1, Nat.lt_of_lt_of_le (h.lt b h').2 hg.size⟩
    · exact ⟨by omega, h'.2⟩
end
end Go.Proofs.YtngbilblddngcaaDoor
namespace Go.Proofs.YtngbilblddngcaaDoor
open Go.RowKit Go.Lib

theorem infoPair : (Tryd.prog.info? 87).map (fun i => (i.zero, i.size, i.bytes)) = some (some (.agg #[.int .i64 0, .string ByteArray.empty, .slice none 0 0, .int .i64 0, .string ByteArray.empty, .slice none 0 0]), 6, 96) := by kernel_rfl
theorem setAt_far : ∀ (vs : List Value) (cs : Array Value) (o i : Nat), i < o ∨ o + vs.length ≤ i → (setAt cs o vs)[i]? = cs[i]?
  | [], _, _, _, _ => rfl
  | v :: r, cs, o, i, h => by
    rw [List.length_cons] at h
    rw [setAt, setAt_far r _ (o + 1) i (by omega), Array.getElem?_setIfInBounds_ne (by omega)]
theorem setAt_at : ∀ (vs : List Value) (cs : Array Value) (o i : Nat), i < vs.length → o + vs.length ≤ cs.size → (setAt cs o vs)[o + i]? = vs[i]?
  | v :: r, cs, o, 0, _, h => by
    rw [List.length_cons] at h
    rw [setAt, setAt_far r _ (o + 1) (o + 0) (by omega), Nat.add_zero, Array.getElem?_setIfInBounds_self_of_lt (by omega)]
    rfl
  | v :: r, cs, o, i + 1, hi, h => by
    rw [List.length_cons] at h hi
    rw [setAt, show o + (i + 1) = o + 1 + i by omega, setAt_at r _ (o + 1) i (by omega) (by simp; omega)]
    rfl
/-- The first k pairs lie in these cells. -/
def FilledP (w : World) (n₀ k : Nat) (L : List PairX) (cs : Array Value) : Prop := ∀ (j : Nat) (hj : j < L.length), j < k → ∃ (A2 : Option Addr) (a2 : Nat) (C2 : Option Addr) (c2 : Nat),
  cs[j * 6]? = some (.int .i64 L[j].1.kind_) ∧ cs[j * 6 + 1]? = some (.string L[j].1.name_) ∧ cs[j * 6 + 2]? = some (.slice A2 L[j].1.args_.length a2) ∧
  cs[j * 6 + 3]? = some (.int .i64 L[j].2.kind_) ∧ cs[j * 6 + 4]? = some (.string L[j].2.name_) ∧ cs[j * 6 + 5]? = some (.slice C2 L[j].2.args_.length c2) ∧
  TypeRow w (Und n₀) A2 a2 L[j].1.args_ ∧ TypeRow w (Und n₀) C2 c2 L[j].2.args_
theorem FilledP.step {w : World} {n₀ k : Nat} {L : List PairX} {cs : Array Value} (h : FilledP w n₀ k L cs) (hk : k < L.length) (hcs : cs.size = L.length * 6) {A2 C2 : Option Addr} {a2 c2 : Nat}
    (h1 : TypeRow w (Und n₀) A2 a2 L[k].1.args_) (h2 : TypeRow w (Und n₀) C2 c2 L[k].2.args_) :
    FilledP w n₀ (k + 1) L (setAt cs (k * 6) [.int .i64 L[k].1.kind_, .string L[k].1.name_, .slice A2 L[k].1.args_.length a2, .int .i64 L[k].2.kind_, .string L[k].2.name_, .slice C2 L[k].2.args_.length c2]) := by
  have hm : (k + 1) * 6 ≤ L.length * 6 := Nat.mul_le_mul_right _ hk
  intro j hj hjk
  by_cases he : j = k
  · subst he
    have hat : ∀ i, i < 6 → (setAt cs (j * 6) [.int .i64 L[j].1.kind_, .string L[j].1.name_, .slice A2 L[j].1.args_.length a2, .int .i64 L[j].2.kind_, .string L[j].2.name_, .slice C2 L[j].2.args_.length c2])[j * 6 + i]? = _ := fun i hi => setAt_at _ cs (j * 6) i hi (by simp; omega)
    exact ⟨A2, a2, C2, c2, hat 0 (by omega), hat 1 (by omega), hat 2 (by omega), hat 3 (by omega), hat 4 (by omega), hat 5 (by omega), h1, h2⟩
  · have hlt : j < k := by omega
    have hm2 : (j + 1) * 6 ≤ k * 6 := Nat.mul_le_mul_right _ hlt
    obtain ⟨A3, a3, C3, c3, e0, e1, e2, e3, e4, e5, r1, r2⟩ := h j hj hlt
    have hf : ∀ i, i < 6 → (setAt cs (k * 6) [.int .i64 L[k].1.kind_, .string L[k].1.name_, .slice A2 L[k].1.args_.length a2, .int .i64 L[k].2.kind_, .string L[k].2.name_, .slice C2 L[k].2.args_.length c2])[j * 6 + i]? = cs[j * 6 + i]? := fun i hi => setAt_far _ cs (k * 6) _ (.inl (by omega))
    exact ⟨A3, a3, C3, c3, (hf 0 (by omega)).trans e0, (hf 1 (by omega)).trans e1, (hf 2 (by omega)).trans e2, (hf 3 (by omega)).trans e3, (hf 4 (by omega)).trans e4, (hf 5 (by omega)).trans e5, r1, r2⟩
theorem FilledP.top {w w' : World} {n₀ g : Nat} {L : List PairX} {cs : Array Value} {t : TypeId} {R : Nat → Prop} (h : FilledP w n₀ L.length L cs) (hw : Whole w' g t cs) (hR : R g) (hk : ∀ b, b < n₀ → w'.heap[b]? = w.heap[b]?) : TopPair w' n₀ R (some ⟨g, 0, none⟩) L := by
  intro j hj
  obtain ⟨A3, a3, C3, c3, e0, e1, e2, e3, e4, e5, r1, r2⟩ := h j hj hj
  refine ⟨g, 0, A3, a3, C3, c3, rfl, hR, ?_, ?_, ?_, ?_, ?_, ?_, r1.frame (fun _ h => h) (fun b o h => World.cell?_of_block (a := ⟨b, o, none⟩) (hk b h)), r2.frame (fun _ h => h) (fun b o h => World.cell?_of_block (a := ⟨b, o, none⟩) (hk b h))⟩ <;> rw [hw.cell, Nat.zero_add] <;> assumption
theorem cells6 {w : World} {g : Nat} {t : TypeId} {a b c d e f : Value} (h : Whole w g t #[a, b, c, d, e, f]) : w.cell? ⟨g, 0, none⟩ = some a ∧ w.cell? ⟨g, 1, none⟩ = some b ∧ w.cell? ⟨g, 2, none⟩ = some c ∧ w.cell? ⟨g, 3, none⟩ = some d ∧ w.cell? ⟨g, 4, none⟩ = some e ∧ w.cell? ⟨g, 5, none⟩ = some f := by
  refine ⟨?_, ?_, ?_, ?_, ?_, ?_⟩ <;> rw [h.cell] <;> rfl

theorem Whole.drew {W : World} {g : Nat} {t : TypeId} {cs : Array Value} (h : Whole W g t cs) : Whole W.drew g t cs := h
theorem whole_more {W : World} {g : Nat} {t : TypeId} {cs : Array Value} (h : Whole W g t cs) (o : Obj) : Whole (W.alloc o).drew g t cs := h.below ((Below.refl W.heap.size W).alloc (Nat.le_refl _) o).drew h.lt
/-- The pairs of two lists, in a new row; what they lead to: for whatever reading. -/
def ZipOut (ps ts : List TypeX) (n₀ : Nat) (w : World) (e : Ending) (w' : World) : Prop := ∃ (A2 : Option Addr) (c2 : Nat), e = .returned (.slice A2 (ps.zip ts).length c2) ∧ (ps.zip ts).length ≤ c2 ∧ c2 ≤ 9223372036854775807 ∧ TopPair w' n₀ (fun b => w.heap.size ≤ b ∧ b < w'.heap.size) A2 (ps.zip ts) ∧ Below w.heap.size w w'

set_option maxRecDepth 100000 in
set_option maxHeartbeats 4000000 in
theorem implPairsOf (ps ts : List TypeX) (A C : Option Addr) (a c n₀ : Nat) (w : World) (hn : n₀ ≤ w.heap.size) (hlen : ps.length = ts.length) (hsz : ps.length ≤ 4294967296) (hp : TypeRow w (Und n₀) A a ps) (ht : TypeRow w (Und n₀) C c ts) :
    Calls Tryd.prog 75 #[.slice A ps.length a, .slice C ts.length c] w (ZipOut ps ts n₀ w) := by
  obtain ⟨L, hL⟩ : ∃ L, L = ps.zip ts := ⟨_, rfl⟩
  have hLn : L.length = ps.length := by rw [hL, List.length_zip]; omega
  have hLat : ∀ (j : Nat) (h : j < L.length) (h1 : j < ps.length) (h2 : j < ts.length), L[j] = (ps[j], ts[j]) := by subst hL; exact fun j h h1 h2 => List.getElem_zip
  obtain ⟨i0, hi, hz0, hz1, hz2⟩ := info_parts infoPair
  have km := fun (w : World) => run_make (P := Tryd.prog) w 102 87 i0 (.agg #[.int .i64 0, .string ByteArray.empty, .slice none 0 0, .int .i64 0, .string ByteArray.empty, .slice none 0 0]) Tryd.underlying102 hi hz0 .i64 .i64 (ps.length : Int) (ps.length : Int) (by omega) (by omega) (by rw [hz2]; omega) (by omega)
  simp only [Int.toNat_natCast, hz1] at km
  have hms : (madeCells (Value.agg #[.int .i64 0, .string ByteArray.empty, .slice none 0 0, .int .i64 0, .string ByteArray.empty, .slice none 0 0]).cells (ps.length * 6)).size = ps.length * 6 := size_madeCells _ _
  generalize madeCells (Value.agg #[.int .i64 0, .string ByteArray.empty, .slice none 0 0, .int .i64 0, .string ByteArray.empty, .slice none 0 0]).cells (ps.length * 6) = cs0 at *
  unfold ZipOut
  rw [← hL]
  have HP := Lib.hid hp
  have HT := Lib.hid ht
  have HM := Lib.hid hms
  have HLA := Lib.hid hLat
  have HLN := Lib.hid hLn
  have HLE := Lib.hid hlen
  clear hL hLn hLat hms hi hz0 hz1 hz2 hlen hp ht
  have hbq : Below w.heap.size w (w.alloc (.cells cs0 87)) := (Below.refl _ _).alloc (Nat.le_refl _) _
  have hw0 := Whole.new w 87 cs0
  go_enter Tryd.func75, Tryd.ntmps75
  go_wp2
  clear km
  go_loopw [12] (fun iv wr => ∃ (k : Nat) (cs : Array Value), k ≤ L.length ∧ iv = .int .i64 k ∧ Whole wr w.heap.size 87 cs ∧ cs.size = L.length * 6 ∧ FilledP w n₀ k L cs ∧ Below w.heap.size w wr) (fun iv _ => L.length - (Go.RowKit.intOf iv).toNat)
  case atStart => exact ⟨0, cs0, Nat.zero_le _, rfl, hw0, by rw [HLN.out]; exact HM.out, fun j hj h => absurd h (Nat.not_lt_zero j), hbq⟩
  case round =>
    obtain ⟨k, cs, hk, rfl, hwr, hcs, hF, hb⟩ := hrel
    clear hw0 hbq
    have hln := HLN.out
    have hle := HLE.out
    by_cases hlt : k < L.length
    · have hlt1 : k < ps.length := by omega
      have hlt2 : k < ts.length := by omega
      have hat := HLA.out k hlt hlt1 hlt2
      obtain ⟨b, o, A3, c3, rfl, hPb, p0, p1, p2, h3⟩ := HP.out.at_ hlt1
      obtain ⟨b2, o2, C3, d3, rfl, hPb2, r0, r1, r2, h4⟩ := HT.out.at_ hlt2
      have hbn : b < w.heap.size := Nat.lt_of_lt_of_le hPb hn
      have hbn2 : b2 < w.heap.size := Nat.lt_of_lt_of_le hPb2 hn
      have hstep := hF.step hlt hcs (A2 := A3) (C2 := C3) (a2 := c3) (c2 := d3) (by rw [hat]; exact h3) (by rw [hat]; exact h4)
      rw [hat] at hstep
      have q0 := (hb.cell (p := ⟨b, o + k * 3, none⟩) hbn).trans p0
      have q1 := (hb.cell (p := ⟨b, o + k * 3 + 1, none⟩) hbn).trans p1
      have q2 := (hb.cell (p := ⟨b, o + k * 3 + 2, none⟩) hbn).trans p2
      have t0 := (hb.cell (p := ⟨b2, o2 + k * 3, none⟩) hbn2).trans r0
      have t1 := (hb.cell (p := ⟨b2, o2 + k * 3 + 1, none⟩) hbn2).trans r1
      have t2 := (hb.cell (p := ⟨b2, o2 + k * 3 + 2, none⟩) hbn2).trans r2
      have hm6 : (k + 1) * 6 ≤ L.length * 6 := Nat.mul_le_mul_right _ hlt
      have hold : ∀ i, i < 6 → ∃ v, wr.cell? ⟨w.heap.size, k * 6 + i, none⟩ = some v := fun i hi => by rw [hwr.cell]; exact ⟨_, Array.getElem?_eq_getElem (by omega)⟩
      obtain ⟨y0, e0⟩ := hold 0 (by omega)
      obtain ⟨y1, e1⟩ := hold 1 (by omega)
      obtain ⟨y2, e2⟩ := hold 2 (by omega)
      obtain ⟨y3, e3⟩ := hold 3 (by omega)
      obtain ⟨y4, e4⟩ := hold 4 (by omega)
      obtain ⟨y5, e5⟩ := hold 5 (by omega)
      rw [Nat.add_zero] at e0
      have f0 := hwr.frozen (k * 6)
      have f1 := hwr.frozen (k * 6 + 1)
      have f2 := hwr.frozen (k * 6 + 2)
      have f3 := hwr.frozen (k * 6 + 3)
      have f4 := hwr.frozen (k * 6 + 4)
      have f5 := hwr.frozen (k * 6 + 5)
      have hwl := hwr.lt
      have hbl : b < wr.heap.size := by omega
      have hbl2 : b2 < wr.heap.size := by omega
      have HSTEP := Lib.hid hstep
      have HWR := Lib.hid hwr
      have HBX := Lib.hid hb
      clear hstep hwr hb hF p0 p1 p2 r0 r1 r2 h3 h4 hold hat hPb hPb2
      go_upto_region 5 with (fail)
      go_region
      go_wp2
      go_roundw
      case rel => exact ⟨k + 1, setAt cs (k * 6) [.int .i64 ps[k].kind_, .string ps[k].name_, .slice A3 ps[k].args_.length c3, .int .i64 ts[k].kind_, .string ts[k].name_, .slice C3 ts[k].args_.length d3], by omega, by go_num, Whole.drew (show Whole _ _ _ (setAt cs (k * 6) [.int .i64 ps[k].kind_, .string ps[k].name_, .slice A3 ps[k].args_.length c3, .int .i64 ts[k].kind_, .string ts[k].name_, .slice C3 ts[k].args_.length d3]) from ((((((HWR.out.set_ _ _).set_ _ _).set_ _ _).set_ _ _).set_ _ _).set_ _ _)), by rw [setAt_size]; exact hcs, HSTEP.out, (((((((HBX.out.setCell (Nat.le_refl _) _).setCell (Nat.le_refl _) _).setCell (Nat.le_refl _) _).setCell (Nat.le_refl _) _).setCell (Nat.le_refl _) _).setCell (Nat.le_refl _) _).drew)⟩
      case measure => simp [Go.RowKit.intOf]; omega
    · obtain rfl : k = L.length := by omega
      have hls : L.length ≤ 4294967296 := by omega
      have htop := hF.top (w' := wr) (R := fun b => w.heap.size ≤ b ∧ b < wr.heap.size) hwr ⟨Nat.le_refl _, hwr.lt⟩ (fun b h => hb.block b (by omega))
      have HTOP := Lib.hid htop
      clear hF hwr htop
      go_wp2
      go_ret
      exact ⟨some ⟨w.heap.size, 0, none⟩, ps.length, by rw [hln]; rfl, by omega, by omega, HTOP.out, hb⟩

end Go.Proofs.YtngbilblddngcaaDoor
namespace Go.Proofs.YtngbilblddngcaaDoor
open Go.RowKit Go.Lib

/-- What argumentPairs leaves. -/
def PairsOut (p t : TypeX) (n₀ : Nat) (w : World) (e : Ending) (w' : World) : Prop := ∃ (A2 : Option Addr) (c2 : Nat), e = .returned (.slice A2 (pairsX p t).length c2) ∧ (pairsX p t).length ≤ c2 ∧ c2 ≤ 9223372036854775807 ∧ TopPair w' n₀ (fun b => w.heap.size ≤ b ∧ b < w'.heap.size) A2 (pairsX p t) ∧ Below w.heap.size w w'

set_option maxRecDepth 100000 in
set_option maxHeartbeats 4000000 in
theorem implArgPairs (p t : TypeX) (A C : Option Addr) (a c n₀ : Nat) (w : World) (hn : n₀ ≤ w.heap.size) (hg : GoodP p t) (hsz : p.args_.length ≤ 4294967296) (hp : TypeRow w (Und n₀) A a p.args_) (ht : TypeRow w (Und n₀) C c t.args_) :
    Calls Tryd.prog 63 #[.agg #[.int .i64 p.kind_, .string p.name_, .slice A p.args_.length a, .int .i64 t.kind_, .string t.name_, .slice C t.args_.length c]] w (PairsOut p t n₀ w) := by
  have hb0 : Below w.heap.size w (w.alloc (.cells #[.int .i64 p.kind_, .string p.name_, .slice A p.args_.length a, .int .i64 t.kind_, .string t.name_, .slice C t.args_.length c] 87)) := (Below.refl _ _).alloc (Nat.le_refl _) _
  have hx0 := Whole.new w 87 #[.int .i64 p.kind_, .string p.name_, .slice A p.args_.length a, .int .i64 t.kind_, .string t.name_, .slice C t.args_.length c]
  have HB0 := Lib.hid hb0
  have HX0 := Lib.hid hx0
  have HP := Lib.hid hp
  have HT := Lib.hid ht
  have hs0 : (w.alloc (.cells #[.int .i64 p.kind_, .string p.name_, .slice A p.args_.length a, .int .i64 t.kind_, .string t.name_, .slice C t.args_.length c] 87)).heap.size = w.heap.size + 1 := by simp
  have HS0 := Lib.hid hs0
  clear hb0 hx0 hp ht hs0
  by_cases hk : p.kind_ = 1
  · have hkb : (p.kind_ == 1) = true := by rw [hk]; rfl
    have hpx : pairsX p t = [] := by rw [pairsX, if_pos hk]
    unfold PairsOut
    rw [hpx]
    clear hk hpx hg
    go_enter Tryd.func63, Tryd.ntmps63
    go_wp2_with fail
    refine (implIsVar _ _ _ _ _ _).mono ?_
    rintro e w1 ⟨rfl, hb1⟩
    rw [hkb]
    have hbb := HB0.out.trans (hb1.mono HB0.out.size)
    clear hb1
    go_wp2
    go_ret
    exact ⟨none, 0, rfl, Nat.le_refl _, by decide, TopPair.nil _ _ _ _, hbb⟩
  · have hkb : (p.kind_ == 1) = false := by simpa using hk
    have hlen : p.args_.length = t.args_.length := hg.elim (fun h => absurd h hk) id
    have hpx : pairsX p t = p.args_.zip t.args_ := by rw [pairsX, if_neg hk]
    obtain ⟨L, hL⟩ : ∃ L, L = p.args_.zip t.args_ := ⟨_, rfl⟩
    rw [← hL] at hpx
    have HL := Lib.hid hL
    clear hL
    unfold PairsOut
    rw [hpx]
    have HLE := Lib.hid hlen
    clear hk hpx hg hlen
    go_enter Tryd.func63, Tryd.ntmps63
    go_wp2_with fail
    refine (implIsVar _ _ _ _ _ _).mono ?_
    rintro e w1 ⟨rfl, hb1⟩
    rw [hkb]
    have hx1 := HX0.out.below hb1 (by have := HS0.out; omega)
    have hbb := HB0.out.trans (hb1.mono HB0.out.size)
    have hw1 := hbb.size
    obtain ⟨x0, x1, x2, x3, x4, x5⟩ := cells6 hx1
    have hcl : ∀ b o, Und n₀ b → w1.cell? ⟨b, o, none⟩ = w.cell? ⟨b, o, none⟩ := fun b o h => hbb.cell (p := ⟨b, o, none⟩) (Nat.lt_of_lt_of_le (show b < n₀ from h) hn)
    have hcall := implPairsOf p.args_ t.args_ A C a c n₀ w1 (Nat.le_trans hn hw1) HLE.out hsz (HP.out.frame (fun _ h => h) hcl) (HT.out.frame (fun _ h => h) hcl)
    have hwl := hx1.lt
    have HW1 := Lib.hid hw1
    unfold ZipOut at hcall
    rw [← HL.out] at hcall
    have HC := Lib.hid hcall
    have HB1 := Lib.hid hbb
    clear hb1 hx1 hbb HB0 HX0 HS0 hcall hcl
    go_wp2_with fail
    refine HC.out.mono ?_
    rintro e w2 ⟨A2, c2, rfl, h1, h2, h3, h4⟩
    have h3' : TopPair w2 n₀ (fun b => w.heap.size ≤ b ∧ b < w2.heap.size) A2 L := h3.frame (fun b h => ⟨Nat.le_trans HW1.out h.1, h.2⟩) fun _ _ => rfl
    have HT3 := Lib.hid h3'
    have HB2 := Lib.hid (HB1.out.trans (h4.mono HW1.out))
    clear h3 h3' h4
    go_wp2
    go_ret
    exact ⟨A2, c2, rfl, h1, h2, HT3.out, HB2.out⟩
end Go.Proofs.YtngbilblddngcaaDoor
/-!  The laws' guard on the code's length. -/
namespace Go.Proofs.YtngbilblddngcaaDoor
open Go.RowKit

theorem bigNo (A : Option Addr) (n c : Nat) (w : World) (hn : n ≤ 1048576) : Calls Tryd.prog 9 #[.slice A n c] w fun e w' => e = .returned (.bool false) ∧ w = w' := by
  have g : decide ((1048576 : Int) < n) = false := by simp; omega
  go_enter Tryd.func9, Tryd.ntmps9
  go_wp2
  go_ret
  exact ⟨rfl, rfl⟩
theorem bigYes (A : Option Addr) (n c : Nat) (w : World) (hn : 1048576 < n) : Calls Tryd.prog 9 #[.slice A n c] w fun e w' => e = .returned (.bool true) ∧ w = w' := by
  have g : decide ((1048576 : Int) < n) = true := by simp; omega
  go_enter Tryd.func9, Tryd.ntmps9
  go_wp2
  go_ret
  exact ⟨rfl, rfl⟩
end Go.Proofs.YtngbilblddngcaaDoor

/-!  The laws' own helper that compares two rows of strings. -/
namespace Go.Proofs.YtngbilblddngcaaDoor
open Go.RowKit

end Go.Proofs.YtngbilblddngcaaDoor
namespace Go.Proofs.YtngbilblddngcaaDoor
open Go.ChangeShapes Go.WideShapes Go.ChangeAt Go.RowKit

theorem bytes_of {w : World} {a : Addr} {len cap : Nat} {zs : List Int} (hl : len ≤ cap) (hz : zs.length = cap) (hc : ∀ i, i < zs.length → w.cell? (a.add i) = some (.int .u8 (zs.getD i 0))) (hw : ∀ z ∈ zs, (Lit.int .u8 z).wf = true) : BytesAt w w.heap.size (some a) len := by
  intro j hj
  have hjz : j < zs.length := by omega
  obtain ⟨b, off, spot⟩ := a
  have hspot : spot = none := by simpa [Addr.add] using World.cell?_spot (hc 0 (by omega))
  subst hspot
  have h := hc j hjz
  rw [Go.WideShapes.add_plain] at h
  have hmem : zs.getD j 0 ∈ zs := by
    rw [List.getD_eq_getElem?_getD, List.getElem?_eq_getElem hjz]
    exact List.getElem_mem hjz
  have hwf := hw _ hmem
  have hx : 0 ≤ zs.getD j 0 ∧ zs.getD j 0 ≤ 255 := by simpa [Lit.wf, IntKind.min, IntKind.max, IntKind.signed, IntKind.bits] using hwf
  exact ⟨b, off, _, rfl, World.block_lt_of_cell? w _ h, hx.1, hx.2, h⟩
end Go.Proofs.YtngbilblddngcaaDoor

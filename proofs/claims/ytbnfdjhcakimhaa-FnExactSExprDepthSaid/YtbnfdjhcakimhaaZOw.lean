/- Expressions that a call has made: every list in a row of its own, all rows apart. -/
import Derived.Test.YtbnfdjhcakimhaaQ1
import Derived.Test.YtbnfdjhcakimhaaZReadD
namespace Go.Proofs.Ytbnfdjhcakimhaa
open Go.RowKit Go.Lib

mutual
/-- The two cells v0, v1 are this expression; its rows lie in just the blocks bs. -/
def OwX (w : World) (B : Nat) : SX → Value → Value → List Nat → Prop
  | .mk a l, v0, v1, bs => v0 = .string a ∧ ∃ (xs : List Value) (bs' : List Nat), w.ownsRow B 26 2 v1 l.length xs ∧ OwE w B l xs bs' ∧ bs = v1.ownBlock.toList ++ bs'
def OwE (w : World) (B : Nat) : List SX → List Value → List Nat → Prop
  | [], xs, bs => xs = [] ∧ bs = []
  | x :: r, xs, bs => ∃ (v0 v1 : Value) (xs' : List Value) (b1 b2 : List Nat), xs = v0 :: v1 :: xs' ∧ bs = b1 ++ b2 ∧ OwX w B x v0 v1 b1 ∧ OwE w B r xs' b2
end
mutual
theorem OwX_frame {w w' : World} {B : Nat} : ∀ (x : SX) {v0 v1 : Value} {bs : List Nat}, (∀ b ∈ bs, w'.heap[b]? = w.heap[b]?) → OwX w B x v0 v1 bs → OwX w' B x v0 v1 bs
  | .mk a l, v0, v1, bs, hb, h => by
    rw [OwX] at h ⊢
    obtain ⟨h0, xs, bs', h1, h2, rfl⟩ := h
    exact ⟨h0, xs, bs', own_same h1 fun b hv => hb b (by rw [hv]; simp), OwE_frame l (fun b hm => hb b (List.mem_append_right _ hm)) h2, rfl⟩
theorem OwE_frame {w w' : World} {B : Nat} : ∀ (l : List SX) {xs : List Value} {bs : List Nat}, (∀ b ∈ bs, w'.heap[b]? = w.heap[b]?) → OwE w B l xs bs → OwE w' B l xs bs
  | [], xs, bs, _, h => by rw [OwE] at h ⊢; exact h
  | x :: r, xs, bs, hb, h => by
    rw [OwE] at h ⊢
    obtain ⟨v0, v1, xs', b1, b2, rfl, rfl, h1, h2⟩ := h
    exact ⟨v0, v1, xs', b1, b2, rfl, rfl, OwX_frame x (fun b hm => hb b (List.mem_append_left _ hm)) h1, OwE_frame r (fun b hm => hb b (List.mem_append_right _ hm)) h2⟩
end
theorem OwE_length {w : World} {B : Nat} : ∀ {l : List SX} {xs : List Value} {bs : List Nat}, OwE w B l xs bs → xs.length = l.length * 2
  | [], xs, bs, h => by rw [OwE] at h; rw [h.1]; rfl
  | x :: r, xs, bs, h => by
    rw [OwE] at h
    obtain ⟨v0, v1, xs', b1, b2, rfl, rfl, _, h2⟩ := h
    have := OwE_length h2
    rw [List.length_cons, List.length_cons, List.length_cons]; omega
theorem OwE_snoc {w : World} {B : Nat} : ∀ {l : List SX} {xs : List Value} {bs : List Nat}, OwE w B l xs bs → ∀ {x : SX} {v0 v1 : Value} {bx : List Nat}, OwX w B x v0 v1 bx → OwE w B (l ++ [x]) (xs ++ [v0, v1]) (bs ++ bx)
  | [], xs, bs, h, x, v0, v1, bx, hx => by
    rw [OwE] at h
    obtain ⟨rfl, rfl⟩ := h
    rw [List.nil_append, OwE]
    exact ⟨v0, v1, [], bx, [], rfl, by simp, hx, by rw [OwE]; exact ⟨rfl, rfl⟩⟩
  | y :: r, xs, bs, h, x, v0, v1, bx, hx => by
    rw [OwE] at h
    obtain ⟨u0, u1, xs', b1, b2, rfl, rfl, h1, h2⟩ := h
    rw [List.cons_append, OwE]
    exact ⟨u0, u1, _, b1, b2 ++ bx, by simp, by simp, h1, OwE_snoc h2 hx⟩
/-- A word. -/
theorem OwX_word (w : World) (B : Nat) (a : ByteArray) : OwX w B (.mk a []) (.string a) (.slice none 0 0) [] := by
  rw [OwX]
  exact ⟨rfl, [], [], World.ownsRow_nil _ _ _ _, by rw [OwE]; exact ⟨rfl, rfl⟩, rfl⟩
theorem OwX_form {w : World} {B : Nat} {x : SX} {v0 v1 : Value} {bs : List Nat} (h : OwX w B x v0 v1 bs) : ∃ A c, v0 = .string x.atom ∧ v1 = .slice A x.list.length c := by
  cases x with
  | mk a l =>
    rw [OwX] at h
    obtain ⟨h0, xs, bs', h1, _, _⟩ := h
    obtain ⟨A, c, rfl⟩ := own_nil h1
    exact ⟨A, c, h0, rfl⟩

mutual
/-- What is owned reads as what it is. -/
theorem OwX_list {w : World} {B : Nat} {P : Nat → Prop} : ∀ (x : SX) {v0 : Value} {A : Option Addr} {n c : Nat} {bs : List Nat}, (∀ b ∈ bs, P b) → OwX w B x v0 (.slice A n c) bs → ListAt w P A x.list
  | .mk a l, v0, A, n, c, bs, hP, h => by
    rw [OwX] at h
    obtain ⟨h0, xs, bs', h1, h2, rfl⟩ := h
    rcases h1.2 with ⟨hv, hn⟩ | ⟨g, cap, cur, hv, _⟩
    · exact .inl (List.eq_nil_of_length_eq_zero hn)
    · injection hv with hA hn hc
      subst hA hn hc
      refine .inr ⟨g, 0, rfl, hP g (by simp [Value.ownBlock]), ?_⟩
      refine OwE_read l g 0 (fun b hm => hP b (List.mem_append_right _ hm)) h2 fun j hj => ?_
      rw [Nat.zero_add, World.ownsRow.cellAt h1 j (by have := OwE_length h2; omega)]
theorem OwE_read {w : World} {B : Nat} {P : Nat → Prop} : ∀ (l : List SX) (g o : Nat) {xs : List Value} {bs : List Nat}, (∀ b ∈ bs, P b) → OwE w B l xs bs → (∀ j, j < xs.length → w.cell? ⟨g, o + j, none⟩ = xs[j]?) → RdE w P l g o
  | [], _, _, _, _, _, _, _ => by rw [RdE]; trivial
  | x :: r, g, o, xs, bs, hP, h, hc => by
    rw [OwE] at h
    obtain ⟨v0, v1, xs', b1, b2, rfl, rfl, h1, h2⟩ := h
    obtain ⟨A, c, rfl, rfl⟩ := OwX_form h1
    rw [RdE]
    refine ⟨RdX_iff.2 ⟨(hc 0 (by simp)), A, c, (hc 1 (by simp)), OwX_list x (fun b hm => hP b (List.mem_append_left _ hm)) h1⟩, ?_⟩
    refine OwE_read r g (o + 2) (fun b hm => hP b (List.mem_append_right _ hm)) h2 fun j hj => ?_
    have := hc (j + 2) (by simp; omega)
    rw [show o + 2 + j = o + (j + 2) by omega, this]
    simp
end

/-- Lists under way, each in a row of its own, outermost first. -/
def Levs (w : World) (B : Nat) : List (List SX) → List Value → List Nat → Prop
  | [], vs, bs => vs = [] ∧ bs = []
  | t :: r, vs, bs => ∃ (v : Value) (vs' : List Value) (b1 b2 : List Nat), vs = v :: vs' ∧ bs = b1 ++ b2 ∧ OwX w B (.mk ByteArray.empty t) (.string ByteArray.empty) v b1 ∧ Levs w B r vs' b2
theorem Levs.frame {w w' : World} {B : Nat} : ∀ {st : List (List SX)} {vs : List Value} {bs : List Nat}, (∀ b ∈ bs, w'.heap[b]? = w.heap[b]?) → Levs w B st vs bs → Levs w' B st vs bs
  | [], vs, bs, _, h => h
  | t :: r, vs, bs, hb, h => by
    obtain ⟨v, vs', b1, b2, rfl, rfl, h1, h2⟩ := h
    exact ⟨v, vs', b1, b2, rfl, rfl, OwX_frame _ (fun b hm => hb b (List.mem_append_left _ hm)) h1, Levs.frame (fun b hm => hb b (List.mem_append_right _ hm)) h2⟩
theorem Levs.snoc {w : World} {B : Nat} : ∀ {st : List (List SX)} {vs : List Value} {bs : List Nat}, Levs w B st vs bs → ∀ {t : List SX} {v : Value} {bt : List Nat}, OwX w B (.mk ByteArray.empty t) (.string ByteArray.empty) v bt → Levs w B (st ++ [t]) (vs ++ [v]) (bs ++ bt)
  | [], vs, bs, h, t, v, bt, ht => by
    obtain ⟨rfl, rfl⟩ := h
    exact ⟨v, [], bt, [], rfl, by simp, ht, rfl, rfl⟩
  | u :: r, vs, bs, h, t, v, bt, ht => by
    obtain ⟨v', vs', b1, b2, rfl, rfl, h1, h2⟩ := h
    exact ⟨v', _, b1, b2 ++ bt, rfl, by simp, h1, h2.snoc ht⟩
theorem Levs.last {w : World} {B : Nat} : ∀ {st : List (List SX)} {t : List SX} {vs : List Value} {bs : List Nat}, Levs w B (st ++ [t]) vs bs → ∃ vs0 v b0 bt, vs = vs0 ++ [v] ∧ bs = b0 ++ bt ∧ Levs w B st vs0 b0 ∧ OwX w B (.mk ByteArray.empty t) (.string ByteArray.empty) v bt
  | [], t, vs, bs, h => by
    obtain ⟨v', vs', b1, b2, rfl, rfl, h1, h2⟩ := h
    obtain ⟨rfl, rfl⟩ := h2
    exact ⟨[], v', [], b1, rfl, by simp, ⟨rfl, rfl⟩, h1⟩
  | u :: r, t, vs, bs, h => by
    obtain ⟨v', vs', b1, b2, rfl, rfl, h1, h2⟩ := h
    obtain ⟨vs0, v, b0, bt, rfl, rfl, h3, h4⟩ := Levs.last (st := r) h2
    exact ⟨v' :: vs0, v, b1 ++ b0, bt, rfl, by simp, ⟨v', vs0, b1, b0, rfl, rfl, h1, h3⟩, h4⟩
theorem Levs.length {w : World} {B : Nat} : ∀ {st : List (List SX)} {vs : List Value} {bs : List Nat}, Levs w B st vs bs → vs.length = st.length
  | [], vs, bs, h => by rw [h.1]; rfl
  | t :: r, vs, bs, h => by
    obtain ⟨v', vs', b1, b2, rfl, rfl, h1, h2⟩ := h
    rw [List.length_cons, List.length_cons, h2.length]
end Go.Proofs.Ytbnfdjhcakimhaa

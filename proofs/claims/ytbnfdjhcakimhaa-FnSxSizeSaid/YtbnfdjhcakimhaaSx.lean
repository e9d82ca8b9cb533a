/- S-expressions as a plain type; how they lie in memory; that they stay while the memory that they lie in does. -/
import Derived.Test.YtbnfdjhcakimhaaMem
import Derived.Lib.Hide
namespace Go.Proofs.Ytbnfdjhcakimhaa
open Go.RowKit

inductive SX where
  | mk (atom : ByteArray) (list : List SX)
def SX.atom : SX → ByteArray | .mk a _ => a
def SX.list : SX → List SX | .mk _ l => l

mutual
def SX.nodes : SX → Nat
  | .mk _ l => 1 + SX.nodesL l
def SX.nodesL : List SX → Nat
  | [] => 0
  | x :: r => x.nodes + SX.nodesL r
end
mutual
/-- What the laws' guard counts. -/
def SX.wt : SX → Nat
  | .mk a l => a.size + SX.wtL l
def SX.wtL : List SX → Nat
  | [] => 0
  | x :: r => 1 + x.wt + SX.wtL r
end
mutual
/-- No text and no list is longer than a Go int. -/
def SX.ok : SX → Prop
  | .mk a l => a.size ≤ 9223372036854775807 ∧ l.length ≤ 9223372036854775807 ∧ SX.okL l
def SX.okL : List SX → Prop
  | [] => True
  | x :: r => x.ok ∧ SX.okL r
end
theorem SX.nodes_eq (x : SX) : x.nodes = 1 + SX.nodesL x.list := by cases x; rw [SX.nodes]; rfl
theorem SX.wt_eq (x : SX) : x.wt = x.atom.size + SX.wtL x.list := by cases x; rw [SX.wt]; rfl
theorem SX.nodesL_at : ∀ (l : List SX) (j : Nat) (h : j < l.length), l[j].nodes ≤ SX.nodesL l
  | x :: r, 0, _ => by rw [SX.nodesL]; simp
  | x :: r, j + 1, h => by
    have := SX.nodesL_at r j (by simpa using h)
    rw [SX.nodesL]; simp; omega
theorem SX.wtL_take : ∀ (l : List SX) (j : Nat) (h : j < l.length), SX.wtL (l.take (j + 1)) = SX.wtL (l.take j) + 1 + l[j].wt
  | x :: r, 0, _ => by simp [SX.wtL]
  | x :: r, j + 1, h => by
    have := SX.wtL_take r j (by simpa using h)
    rw [List.take_succ_cons, List.take_succ_cons, SX.wtL, SX.wtL, this]
    simp; omega
theorem SX.wtL_le : ∀ (l : List SX) (j : Nat), SX.wtL (l.take j) ≤ SX.wtL l
  | [], j => by simp
  | x :: r, 0 => by simp [SX.wtL]
  | x :: r, j + 1 => by
    have := SX.wtL_le r j
    rw [List.take_succ_cons, SX.wtL, SX.wtL]; omega
theorem SX.wtL_length : ∀ (l : List SX), l.length ≤ SX.wtL l
  | [] => by simp [SX.wtL]
  | x :: r => by have := SX.wtL_length r; rw [SX.wtL, List.length_cons]; omega
theorem SX.wtL_at (l : List SX) (j : Nat) (h : j < l.length) : 1 + l[j].wt ≤ SX.wtL l := by
  have h1 := SX.wtL_take l j h
  have h2 := SX.wtL_le l (j + 1)
  omega
theorem SX.wtL_rest : ∀ (l : List SX) (j : Nat), j ≤ l.length → SX.wtL (l.take j) + (l.length - j) ≤ SX.wtL l
  | [], j, h => by simp at h; subst h; simp [SX.wtL]
  | x :: r, 0, _ => by have := SX.wtL_length (x :: r); simp [SX.wtL] at this ⊢; omega
  | x :: r, j + 1, h => by
    have := SX.wtL_rest r j (by simpa using h)
    rw [List.take_succ_cons, SX.wtL, SX.wtL, List.length_cons]; omega
theorem SX.okL_at : ∀ (l : List SX), SX.okL l → ∀ (j : Nat) (h : j < l.length), l[j].ok
  | x :: r, ho, 0, _ => by rw [SX.okL] at ho; exact ho.1
  | x :: r, ho, j + 1, h => by rw [SX.okL] at ho; exact SX.okL_at r ho.2 j (by simpa using h)
theorem SX.ok_eq (x : SX) (h : x.ok) : x.atom.size ≤ 9223372036854775807 ∧ x.list.length ≤ 9223372036854775807 ∧ SX.okL x.list := by
  cases x; rw [SX.ok] at h; exact h

mutual
/-- The two cells at (b, o) are this expression; the rows that it leads to lie in blocks of P. -/
def RdX (w : World) (P : Nat → Prop) : SX → Nat → Nat → Prop
  | .mk a l, b, o => w.cell? ⟨b, o, none⟩ = some (.string a) ∧ ∃ A c, w.cell? ⟨b, o + 1, none⟩ = some (.slice A l.length c) ∧ (l = [] ∨ ∃ b' o', A = some ⟨b', o', none⟩ ∧ P b' ∧ RdE w P l b' o')
def RdE (w : World) (P : Nat → Prop) : List SX → Nat → Nat → Prop
  | [], _, _ => True
  | x :: r, b, o => RdX w P x b o ∧ RdE w P r b (o + 2)
end
/-- The slice at A reads as this list. -/
def ListAt (w : World) (P : Nat → Prop) (A : Option Addr) (l : List SX) : Prop := l = [] ∨ ∃ b o, A = some ⟨b, o, none⟩ ∧ P b ∧ RdE w P l b o

theorem RdX_iff {w : World} {P : Nat → Prop} {x : SX} {b o : Nat} : RdX w P x b o ↔ w.cell? ⟨b, o, none⟩ = some (.string x.atom) ∧ ∃ A c, w.cell? ⟨b, o + 1, none⟩ = some (.slice A x.list.length c) ∧ ListAt w P A x.list := by
  cases x with
  | mk a l => rw [RdX]; rfl
theorem RdE_at {w : World} {P : Nat → Prop} : ∀ (l : List SX) (b o : Nat), RdE w P l b o → ∀ (j : Nat) (h : j < l.length), RdX w P l[j] b (o + j * 2)
  | x :: r, b, o, hr, 0, _ => by rw [RdE] at hr; simpa using hr.1
  | x :: r, b, o, hr, j + 1, h => by
    rw [RdE] at hr
    have := RdE_at r b (o + 2) hr.2 j (by simpa using h)
    rw [show o + (j + 1) * 2 = o + 2 + j * 2 by omega]
    simpa using this
theorem RdE_of {w : World} {P : Nat → Prop} : ∀ (l : List SX) (b o : Nat), (∀ (j : Nat) (h : j < l.length), RdX w P l[j] b (o + j * 2)) → RdE w P l b o
  | [], _, _, _ => by rw [RdE]; trivial
  | x :: r, b, o, hr => by
    rw [RdE]
    refine ⟨by have h0 := hr 0 (by simp); rw [Nat.zero_mul, Nat.add_zero] at h0; exact h0, RdE_of r b (o + 2) fun j h => ?_⟩
    have := hr (j + 1) (by simpa using h)
    rw [show o + (j + 1) * 2 = o + 2 + j * 2 by omega] at this
    simpa using this

mutual
theorem RdX_frame {w w' : World} {P Q : Nat → Prop} (hPQ : ∀ b, P b → Q b) (hk : ∀ b o, P b → w'.cell? ⟨b, o, none⟩ = w.cell? ⟨b, o, none⟩) :
    ∀ (x : SX) (b o : Nat), w'.cell? ⟨b, o, none⟩ = w.cell? ⟨b, o, none⟩ → w'.cell? ⟨b, o + 1, none⟩ = w.cell? ⟨b, o + 1, none⟩ → RdX w P x b o → RdX w' Q x b o
  | .mk a l, b, o, h0, h1, h => by
    rw [RdX] at h ⊢
    obtain ⟨ha, A, c, hc, hl⟩ := h
    refine ⟨h0.trans ha, A, c, h1.trans hc, ?_⟩
    rcases hl with hl | ⟨b', o', hA, hP, hr⟩
    · exact .inl hl
    · exact .inr ⟨b', o', hA, hPQ b' hP, RdE_frame hPQ hk l b' o' (fun k => hk b' k hP) hr⟩
theorem RdE_frame {w w' : World} {P Q : Nat → Prop} (hPQ : ∀ b, P b → Q b) (hk : ∀ b o, P b → w'.cell? ⟨b, o, none⟩ = w.cell? ⟨b, o, none⟩) :
    ∀ (l : List SX) (b o : Nat), (∀ k, w'.cell? ⟨b, k, none⟩ = w.cell? ⟨b, k, none⟩) → RdE w P l b o → RdE w' Q l b o
  | [], _, _, _, _ => by rw [RdE]; trivial
  | x :: r, b, o, hb, h => by
    rw [RdE] at h ⊢
    exact ⟨RdX_frame hPQ hk x b o (hb o) (hb (o + 1)) h.1, RdE_frame hPQ hk r b (o + 2) hb h.2⟩
end
theorem ListAt.frame {w w' : World} {P Q : Nat → Prop} {A : Option Addr} {l : List SX} (h : ListAt w P A l) (hPQ : ∀ b, P b → Q b) (hk : ∀ b o, P b → w'.cell? ⟨b, o, none⟩ = w.cell? ⟨b, o, none⟩) : ListAt w' Q A l := by
  rcases h with h | ⟨b, o, hA, hP, hr⟩
  · exact .inl h
  · exact .inr ⟨b, o, hA, hPQ b hP, RdE_frame hPQ hk l b o (fun k => hk b k hP) hr⟩
/-- Where there is an element at j: where it lies, and what it is. -/
theorem ListAt.at_ {w : World} {P : Nat → Prop} {A : Option Addr} {l : List SX} (h : ListAt w P A l) {j : Nat} (hj : j < l.length) :
    ∃ b o A' c', A = some ⟨b, o, none⟩ ∧ P b ∧ w.cell? ⟨b, o + j * 2, none⟩ = some (.string l[j].atom) ∧ w.cell? ⟨b, o + j * 2 + 1, none⟩ = some (.slice A' l[j].list.length c') ∧ ListAt w P A' l[j].list := by
  rcases h with h | ⟨b, o, hA, hP, hr⟩
  · subst h; simp at hj
  · obtain ⟨h0, A', c', h1, hl⟩ := RdX_iff.1 (RdE_at l b o hr j hj)
    exact ⟨b, o, A', c', hA, hP, h0, h1, hl⟩
/-- Below a block number. -/
def Lt (B : Nat) (b : Nat) : Prop := b < B
theorem ListAt.below {w w' : World} {B : Nat} {A : Option Addr} {l : List SX} (h : ListAt w (Lt B) A l) (hb : Below B w w') : ListAt w' (Lt B) A l :=
  h.frame (fun _ h => h) fun b o hP => hb.cell (p := ⟨b, o, none⟩) hP
theorem ListAt.grow {w w' : World} {A : Option Addr} {l : List SX} (h : ListAt w (Lt w.heap.size) A l) (hb : Below w.heap.size w w') : ListAt w' (Lt w'.heap.size) A l :=
  h.frame (fun _ h => Nat.lt_of_lt_of_le h hb.size) fun b o hP => hb.cell (p := ⟨b, o, none⟩) hP
end Go.Proofs.Ytbnfdjhcakimhaa

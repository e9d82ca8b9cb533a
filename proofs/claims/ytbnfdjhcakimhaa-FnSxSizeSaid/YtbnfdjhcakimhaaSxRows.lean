/- Rows of expressions that grow by append. -/
import Derived.Test.YtbnfdjhcakimhaaSx
import Derived.Test.YtbnfdjhcakimhaaGrow
namespace Go.Proofs.Ytbnfdjhcakimhaa
open Go.RowKit Go.Lib

theorem infoSx : (Try.prog.info? 26).map (fun i => (i.zero, i.size, i.bytes)) = some (some (.agg #[.string ByteArray.empty, .slice none 0 0]), 2, 40) := by kernel_rfl

/-- Blocks from B on, below C. -/
def New (B C : Nat) (b : Nat) : Prop := B ≤ b ∧ b < C
/-- The cells vs are these expressions, one after another. -/
def Elems (w : World) (P : Nat → Prop) : List SX → List Value → Prop
  | [], vs => vs = []
  | x :: r, vs => ∃ A c rest, vs = .string x.atom :: .slice A x.list.length c :: rest ∧ ListAt w P A x.list ∧ Elems w P r rest
theorem Elems.snoc {w : World} {P : Nat → Prop} : ∀ {l : List SX} {vs : List Value}, Elems w P l vs → ∀ {x : SX} {A : Option Addr} {c : Nat}, ListAt w P A x.list → Elems w P (l ++ [x]) (vs ++ [.string x.atom, .slice A x.list.length c])
  | [], vs, h, x, A, c, hl => by
    rw [Elems] at h; subst h
    exact ⟨A, c, [], rfl, hl, rfl⟩
  | y :: r, vs, h, x, A, c, hl => by
    obtain ⟨A', c', rest, rfl, h1, h2⟩ := h
    exact ⟨A', c', rest ++ _, rfl, h1, h2.snoc hl⟩
theorem Elems.frame {w w' : World} {P Q : Nat → Prop} (hPQ : ∀ b, P b → Q b) (hk : ∀ b o, P b → w'.cell? ⟨b, o, none⟩ = w.cell? ⟨b, o, none⟩) : ∀ {l : List SX} {vs : List Value}, Elems w P l vs → Elems w' Q l vs
  | [], vs, h => h
  | y :: r, vs, h => by
    obtain ⟨A', c', rest, rfl, h1, h2⟩ := h
    exact ⟨A', c', rest, rfl, h1.frame hPQ hk, h2.frame hPQ hk⟩
theorem Elems.at_ {w : World} {P : Nat → Prop} : ∀ {l : List SX} {vs : List Value}, Elems w P l vs → ∀ (j : Nat) (h : j < l.length), vs[j * 2]? = some (.string l[j].atom) ∧ ∃ A c, vs[j * 2 + 1]? = some (.slice A l[j].list.length c) ∧ ListAt w P A l[j].list
  | y :: r, vs, h, 0, _ => by
    obtain ⟨A', c', rest, rfl, h1, h2⟩ := h
    exact ⟨rfl, A', c', rfl, h1⟩
  | y :: r, vs, h, j + 1, hj => by
    obtain ⟨A', c', rest, rfl, h1, h2⟩ := h
    have h3 := h2.at_ j (by simpa using hj)
    rw [show (j + 1) * 2 = j * 2 + 1 + 1 by omega]
    simpa using h3
/-- A row of the call's own that holds these expressions reads as them. -/
theorem list_own {w : World} {P : Nat → Prop} {B : Nat} {e : TypeId} {v : Value} {l : List SX} {vs : List Value} (h : w.ownsRow B e 2 v l.length vs) (he : Elems w P l vs) (hP : ∀ b, v.ownBlock = some b → P b) :
    ∃ A c, v = .slice A l.length c ∧ ListAt w P A l := by
  rcases h.2 with ⟨rfl, h0⟩ | ⟨g, cap, cur, rfl, _⟩
  · exact ⟨none, 0, by rw [h0], .inl (List.eq_nil_of_length_eq_zero h0)⟩
  · refine ⟨_, cap, rfl, .inr ⟨g, 0, rfl, hP g rfl, RdE_of l g 0 fun j hj => ?_⟩⟩
    obtain ⟨h0, A, c, h1, h2⟩ := he.at_ j hj
    refine RdX_iff.2 ⟨?_, A, c, ?_, h2⟩
    · rw [Nat.zero_add, World.ownsRow.cellAt h _ (by omega), h0]
    · rw [Nat.zero_add, World.ownsRow.cellAt h _ (by omega), h1]
/-- The cells of one expression, just laid into a new block. -/
theorem news_sx (w : World) (t : TypeId) (a b : Value) : ∀ (j : Nat) (u : Value), [a, b][j]? = some u → (w.alloc (.cells #[a, b] t)).cell? ((⟨w.heap.size, 0, none⟩ : Addr).add j) = some u := by
  intro j u hj
  match j, hj with
  | 0, hj => simp at hj; subst hj; simp [Addr.add]
  | 1, hj => simp at hj; subst hj; simp [Addr.add]
theorem one_sx (x : ByteArray) (A : Option Addr) (n c : Nat) : ∀ u ∈ [Value.string x, Value.slice A n c], u.oneCell' = true := by
  intro u hu
  simp at hu
  rcases hu with rfl | rfl <;> rfl
end Go.Proofs.Ytbnfdjhcakimhaa

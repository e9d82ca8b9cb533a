/- Rows of strings and of ints as plain data. -/
import Derived.Test.YtbnfdjhcakimhaaZDvW
namespace Go.Proofs.Ytbnfdjhcakimhaa
open Go.RowKit Go.Lib

def strRows (l : List ByteArray) : List (List DV) := l.map fun s => [.pl (.string s)]
def intRows (l : List Int) : List (List DV) := l.map fun s => [.pl (.int .i64 s)]
theorem strRows_length (l : List ByteArray) : (strRows l).length = l.length := by rw [strRows, List.length_map]
theorem intRows_length (l : List Int) : (intRows l).length = l.length := by rw [intRows, List.length_map]
/-- The slice at A reads as these strings. -/
def StrRow (w : World) (P : Nat → Prop) (A : Option Addr) (c : Nat) (l : List ByteArray) : Prop := RdV w P (.row 9 1 (strRows l)) (.slice A l.length c)
def IntRow (w : World) (P : Nat → Prop) (A : Option Addr) (c : Nat) (l : List Int) : Prop := RdV w P (.row 3 1 (intRows l)) (.slice A l.length c)
theorem StrRow.frame {w w' : World} {P Q : Nat → Prop} {A : Option Addr} {c : Nat} {l : List ByteArray} (h : StrRow w P A c l) (hPQ : ∀ b, P b → Q b) (hk : ∀ b o, P b → w'.cell? ⟨b, o, none⟩ = w.cell? ⟨b, o, none⟩) : StrRow w' Q A c l := RdV_frame hPQ hk _ h
theorem IntRow.frame {w w' : World} {P Q : Nat → Prop} {A : Option Addr} {c : Nat} {l : List Int} (h : IntRow w P A c l) (hPQ : ∀ b, P b → Q b) (hk : ∀ b o, P b → w'.cell? ⟨b, o, none⟩ = w.cell? ⟨b, o, none⟩) : IntRow w' Q A c l := RdV_frame hPQ hk _ h
theorem StrRow.grow {w w' : World} {A : Option Addr} {c : Nat} {l : List ByteArray} (h : StrRow w (Und w.heap.size) A c l) (hb : Below w.heap.size w w') : StrRow w' (Und w'.heap.size) A c l := RdV.grow h hb
theorem IntRow.grow {w w' : World} {A : Option Addr} {c : Nat} {l : List Int} (h : IntRow w (Und w.heap.size) A c l) (hb : Below w.heap.size w w') : IntRow w' (Und w'.heap.size) A c l := RdV.grow h hb
theorem StrRow.of_read {w : World} {P : Nat → Prop} {l : List ByteArray} {v : Value} (h : RdV w P (.row 9 1 (strRows l)) v) : ∃ A c, v = .slice A l.length c ∧ StrRow w P A c l := by
  obtain ⟨A, c, rfl, _, _⟩ := h.shape
  rw [strRows_length] at h ⊢
  exact ⟨A, c, rfl, h⟩
theorem IntRow.of_read {w : World} {P : Nat → Prop} {l : List Int} {v : Value} (h : RdV w P (.row 3 1 (intRows l)) v) : ∃ A c, v = .slice A l.length c ∧ IntRow w P A c l := by
  obtain ⟨A, c, rfl, _, _⟩ := h.shape
  rw [intRows_length] at h ⊢
  exact ⟨A, c, rfl, h⟩
theorem StrRow.strs {w : World} {A : Option Addr} {c : Nat} {l : List ByteArray} (h : StrRow w (Und w.heap.size) A c l) : Strs w A l := by
  by_cases h0 : l = []
  · exact .inl h0
  · have hp : 0 < l.length := List.length_pos_iff.2 h0
    obtain ⟨b, o, _, hA, hP, _, _⟩ := RdV.at_ h (j := 0) (by rw [strRows_length]; exact hp)
    refine .inr ⟨b, o, hA, hP, fun j s hj => ?_⟩
    have hjl : j < l.length := (List.getElem?_eq_some_iff.1 hj).1
    obtain ⟨b', o', ws, hA', _, hR, hc⟩ := RdV.at_ h (j := j) (by rw [strRows_length]; exact hjl)
    rw [hA] at hA'
    injection hA' with hA'
    injection hA' with h1 h2
    subst h1 h2
    have e : (strRows l)[j]'(by rw [strRows_length]; exact hjl) = [.pl (.string l[j])] := by simp [strRows]
    rw [e] at hR
    simp only [RdVs] at hR
    obtain ⟨v, _, rfl, hv, rfl⟩ := hR
    rw [RdV_pl] at hv
    have := hc 0 v rfl
    rw [hv, Nat.mul_one, Nat.add_zero] at this
    rw [this]
    congr 2
    exact (List.getElem?_eq_some_iff.1 hj).2
end Go.Proofs.Ytbnfdjhcakimhaa

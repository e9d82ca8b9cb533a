/- The reference model's reader: what it leaves in memory. -/
import Derived.Test.YtbnfdjhcakimhaaQ1
import Derived.Test.YtbnfdjhcakimhaaZButX
import Derived.Deep.RegionHeld3
import Derived.Deep.AppendLies
import Derived.Deep.DrawnRows
namespace Go.Proofs.Ytbnfdjhcakimhaa
open Go.RowKit Go.Lib

mutual
theorem readX_more : ∀ (n : Nat) (rest : List UInt8) (d z : Nat) {x : SX} {r : List UInt8} {z' : Nat}, readX n rest d z = some (x, r, z') → z < z' ∧ z' ≤ 900
  | 0, _, _, _, _, _, _, h => by rw [readX] at h; cases h
  | n + 1, rest, d, z, x, r, z', h => by
    rw [readX] at h
    split at h
    · cases h
    · rename_i h0
      have hz : ¬ 900 < z + 1 := fun e => h0 (.inr e)
      split at h
      · injection h with h; injection h with h h'; injection h' with h' h''
        omega
      · split at h
        · cases h
        · have := readL_more n _ _ _ _ h
          omega
theorem readL_more : ∀ (n : Nat) (rest : List UInt8) (d z : Nat) (acc : List SX) {x : SX} {r : List UInt8} {z' : Nat}, readL n rest d z acc = some (x, r, z') → z ≤ z' ∧ (z ≤ 900 → z' ≤ 900)
  | 0, _, _, _, _, _, _, _, h => by rw [readL] at h; cases h
  | n + 1, rest, d, z, acc, x, r, z', h => by
    rw [readL] at h
    split at h
    · injection h with h; injection h with h h'; injection h' with h' h''
      omega
    · split at h
      · cases h
      · rename_i h1
        have := readX_more n _ _ _ h1
        have := readL_more n _ _ _ _ h
        omega
end

theorem Cells.but_ {w w' : World} {g h : Nat} {s : ByteArray} {k : Nat} {d z : Int} {b : Bool} (hw : Cells w g s k d z b) (hb : But h w w') (hne : g ≠ h) : Cells w' g s k d z b := Whole.but hw hb hne

/-- What a reading leaves of the reader. -/
def After (w : World) (g : Nat) (s : ByteArray) (d : Nat) (y : SX) : Option (SX × List UInt8 × Nat) → Prop
  | some (x, r, z) => y = x ∧ z ≤ 900 ∧ ∃ k, k ≤ s.size ∧ s.data.toList.drop k = r ∧ Cells w g s k d z false
  | none => ∃ (k : Nat) (d' z' : Int), k ≤ s.size ∧ Cells w g s k d' z' true
/-- What a reading returns. -/
def Gave (g : Nat) (s : ByteArray) (d : Nat) (w : World) (o : Option (SX × List UInt8 × Nat)) (e : Ending) (w' : World) : Prop :=
  ∃ (y : SX) (A : Option Addr) (c : Nat), e = .returned (.agg #[.string y.atom, .slice A y.list.length c]) ∧ ListAt w' (New w.heap.size w'.heap.size) A y.list ∧ But g w w' ∧ After w' g s d y o

/-- The result, out of its block. -/
theorem giveX {Q : Ending → World → Prop} {act : Act} {w' : World} {W : Nat} {a : ByteArray} {A : Option Addr} {n c : Nat} (h2 : act.tmps[2]? = some (.pointer (some ⟨W, 0, none⟩))) (hd : act.defers = [])
    (hr : Whole w' W 26 #[.string a, .slice A n c]) (hq : Q (.returned (.agg #[.string a, .slice A n c])) w') : bodyPost Try.prog Try.f52 Q .ret act w' := by
  have e0 : w'.cell? ⟨W, 0, none⟩ = some (.string a) := by rw [hr.cell]; rfl
  have e1 : w'.cell? ⟨W, 1, none⟩ = some (.slice A n c) := by rw [hr.cell]; rfl
  exact bodyPost_ret (v := .agg #[.string a, .slice A n c]) (by simp [results, Try.results52, go_sem, h2, e0, e1]) hd hq

theorem byteQ {c : UInt8} {b : Bool} (h : okByte c = b) (w : World) (n : Nat) : Calls Try.prog 58 #[.int .u8 c.toNat] (w.drewN n) fun e w'' => e = .returned (.bool b) ∧ ∃ m, w'' = w.drewN m :=
  (byteIs c _).mono fun e w' ⟨he, hw⟩ => ⟨by rw [he, h], n, hw.symm⟩
theorem drop_len (s : ByteArray) (k : Nat) : (s.data.toList.drop k).length = s.size - k := by simp
/-- Where a scan ends, and what it has passed. -/
theorem word_of (s : ByteArray) {a b : Nat} (hab : a ≤ b) (hb : b ≤ s.size) (h : s.data.toList.drop b = (s.data.toList.drop a).dropWhile okByte) :
    (⟨((s.data.toList.drop a).takeWhile okByte).toArray⟩ : ByteArray) = s.extract a b ∧ ((s.data.toList.drop a).takeWhile okByte ≠ [] ↔ a < b) := by
  have e := List.takeWhile_append_dropWhile (p := okByte) (l := s.data.toList.drop a)
  have el := congrArg List.length e
  rw [List.length_append, ← h, drop_len, drop_len] at el
  have e2 : (s.data.toList.drop a).takeWhile okByte = (s.data.toList.drop a).take (b - a) := by
    conv => rhs; rw [← e]
    rw [List.take_append_of_le_length (by omega), List.take_of_length_le (by omega)]
  refine ⟨?_, ?_⟩
  · rw [e2]
    apply ByteArray.ext
    apply Array.toList_inj.1
    rw [extract_data]
  · constructor
    · intro h0
      have := List.length_pos_iff.2 h0
      omega
    · intro h0 e0
      rw [e0] at el
      simp at el
      omega

/-- The ending where it has failed. -/
theorem giveNone {act : Act} {g d k n : Nat} {d0 z0 : Int} {b : Bool} {s : ByteArray} {w wr : World} {a0 : ByteArray} {A0 : Option Addr} {n0 c0 : Nat} {R : Option (SX × List UInt8 × Nat)} (h2 : act.tmps[2]? = some (.pointer (some ⟨w.heap.size, 0, none⟩))) (hd : act.defers = []) (hg : g < w.heap.size)
    (hb : But g w wr) (hr : Whole wr w.heap.size 26 #[.string a0, .slice A0 n0 c0]) (hc : Cells wr g s k d0 z0 b) (hk : k ≤ s.size) (hR : R = none) :
    bodyPost Try.prog Try.f52 (Gave g s d w R) .ret act ((((wr.drewN n).setCell ⟨g, 4, none⟩ (.bool true)).setCell ⟨w.heap.size, 0, none⟩ (.string ⟨#[]⟩)).setCell ⟨w.heap.size, 1, none⟩ (.slice none 0 0)) := by
  have hfin : Whole ((((wr.drewN n).setCell ⟨g, 4, none⟩ (.bool true)).setCell ⟨w.heap.size, 0, none⟩ (.string ⟨#[]⟩)).setCell ⟨w.heap.size, 1, none⟩ (.slice none 0 0)) w.heap.size 26 #[.string ⟨#[]⟩, .slice none 0 0] := by
    have h1 := ((hr.drewN_ n).but (But.set_ g (wr.drewN n) 4 (.bool true)) (by omega)).set_ 0 (.string ⟨#[]⟩)
    have h2 := h1.set_ 1 (.slice none 0 0)
    simpa using h2
  have hbf := (((hb.drewN_s n).trans (But.set_ g _ 4 (.bool true))).far (p := ⟨w.heap.size, 0, none⟩) (Nat.le_refl _) (.string ⟨#[]⟩)).far (p := ⟨w.heap.size, 1, none⟩) (Nat.le_refl _) (.slice none 0 0)
  have hcf := ((((hc.drewN n).set4 true).but_ (But.set_ w.heap.size _ 0 (.string ⟨#[]⟩)) (by omega)).but_ (But.set_ w.heap.size _ 1 (.slice none 0 0)) (by omega))
  exact giveX h2 hd hfin ⟨.mk ByteArray.empty [], none, 0, rfl, .inl rfl, hbf, by rw [hR]; exact ⟨_, _, _, hk, hcf⟩⟩
/-- The ending where it was an atom. -/
theorem giveWord {act : Act} {g d z k1 j n : Nat} {s : ByteArray} {w wr : World} {a0 : ByteArray} {A0 : Option Addr} {n0 c0 : Nat} {R : Option (SX × List UInt8 × Nat)} (h2 : act.tmps[2]? = some (.pointer (some ⟨w.heap.size, 0, none⟩))) (hd : act.defers = []) (hg : g < w.heap.size)
    (hb : But g w wr) (hr : Whole wr w.heap.size 26 #[.string a0, .slice A0 n0 c0]) (hc : Cells wr g s j d ((z : Int) + 1) false) (hj : j ≤ s.size) (hz : z + 1 ≤ 900) (hR : R = some (.mk (s.extract k1 j) [], s.data.toList.drop j, z + 1)) :
    bodyPost Try.prog Try.f52 (Gave g s d w R) .ret act (((wr.drewN n).setCell ⟨w.heap.size, 0, none⟩ (.string (s.extract k1 j))).setCell ⟨w.heap.size, 1, none⟩ (.slice none 0 0)) := by
  have hfin : Whole (((wr.drewN n).setCell ⟨w.heap.size, 0, none⟩ (.string (s.extract k1 j))).setCell ⟨w.heap.size, 1, none⟩ (.slice none 0 0)) w.heap.size 26 #[.string (s.extract k1 j), .slice none 0 0] := by
    have h2 := ((hr.drewN_ n).set_ 0 (.string (s.extract k1 j))).set_ 1 (.slice none 0 0)
    simpa using h2
  have hbf := ((hb.drewN_s n).far (p := ⟨w.heap.size, 0, none⟩) (Nat.le_refl _) (.string (s.extract k1 j))).far (p := ⟨w.heap.size, 1, none⟩) (Nat.le_refl _) (.slice none 0 0)
  have hcf := (((hc.drewN n).but_ (But.set_ w.heap.size _ 0 (.string (s.extract k1 j))) (by omega)).but_ (But.set_ w.heap.size _ 1 (.slice none 0 0)) (by omega))
  exact giveX h2 hd hfin ⟨.mk (s.extract k1 j) [], none, 0, rfl, .inl rfl, hbf, by rw [hR]; exact ⟨rfl, hz, j, hj, rfl, hcf⟩⟩

/-- What a reading is, case by case. -/
def ask (m : Nat) (l : List UInt8) (d z : Nat) : Option (SX × List UInt8 × Nat) :=
  if l = [] ∨ 900 < z + 1 then none
  else if l.takeWhile okByte ≠ [] then some (.mk ⟨(l.takeWhile okByte).toArray⟩ [], l.dropWhile okByte, z + 1)
  else if l.head? ≠ some 40 ∨ d = 14 then none
  else readL m l.tail (d + 1) (z + 1) []
theorem ask_word {m d z a b : Nat} {s : ByteArray} (hz : z + 1 ≤ 900) (hab : a < b) (hb : b ≤ s.size) (h : s.data.toList.drop b = (s.data.toList.drop a).dropWhile okByte) :
    ask m (s.data.toList.drop a) d z = some (.mk (s.extract a b) [], s.data.toList.drop b, z + 1) := by
  obtain ⟨e1, e2⟩ := word_of s (Nat.le_of_lt hab) hb h
  rw [ask, if_neg, if_pos (e2.2 hab), e1, h]
  rintro (h0 | h0)
  · have := congrArg List.length h0
    rw [drop_len] at this
    simp at this
    omega
  · omega
theorem ask_sign {m d z a : Nat} {s : ByteArray} (hz : z + 1 ≤ 900) (ha : a < s.size) (h : okByte s[a] = false) :
    ask m (s.data.toList.drop a) d z = if s[a] ≠ 40 ∨ d = 14 then none else readL m (s.data.toList.drop (a + 1)) (d + 1) (z + 1) [] := by
  rw [ask, drop_step s a ha, if_neg (by simp; omega), if_neg (by simp [h])]
  simp

/-- Blocks from B on, below C, but the row's own. -/
def Own (V : Value) (B C : Nat) (b : Nat) : Prop := New B C b ∧ V.ownBlock ≠ some b
/-- While a list's elements are read. -/
def Going (g : Nat) (s : ByteArray) (d N X : Nat) (w : World) (R : Option (SX × List UInt8 × Nat)) (wr : World) : Prop :=
  ∃ (V : Value) (acc : List SX) (vs : List Value) (k : Nat), k ≤ s.size ∧ acc.length ≤ 901 ∧ Whole wr X 26 #[.string ⟨#[]⟩, V] ∧ wr.ownsRow (X + 1) 26 2 V acc.length vs ∧ Elems wr (Own V (X + 1) wr.heap.size) acc vs ∧
    Whole wr w.heap.size 26 #[.string ByteArray.empty, .slice none 0 0] ∧ But g w wr ∧
    ((∃ (m z : Nat), 2 * (s.data.toList.drop k).length + 2 ≤ m ∧ m ≤ N ∧ z ≤ 900 ∧ acc.length ≤ z ∧ Cells wr g s k ((d : Int) + 1) z false ∧ readL m (s.data.toList.drop k) (d + 1) z acc = R) ∨ (R = none ∧ ∃ d' z' : Int, Cells wr g s k d' z' true))
/-- What a round lowers. -/
def stillAt (wr : World) (g : Nat) (s : ByteArray) : Nat := match wr.cell? ⟨g, 4, none⟩ with | some (.bool true) => 0 | _ => s.size + 1 - numAt wr g 1

def ReadC (N : Nat) : Prop := ∀ (n : Nat) (g : Nat) (s : ByteArray) (k d z : Nat) (w : World), n ≤ N → s.size ≤ 4294967296 → k ≤ s.size → d ≤ 14 → z ≤ 900 → 2 * (s.data.toList.drop k).length + 1 ≤ n → Cells w g s k d z false →
  Calls Try.prog 52 #[.pointer (some ⟨g, 0, none⟩)] w (Gave g s d w (readX n (s.data.toList.drop k) d z))


end Go.Proofs.Ytbnfdjhcakimhaa

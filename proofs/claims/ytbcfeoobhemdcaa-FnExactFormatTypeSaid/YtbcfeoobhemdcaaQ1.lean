/- Texts that the claims share, joined. -/
import Derived.WalkKit
import Derived.Laws.BytesArg
import Derived.Laws.OwnMore
import Derived.Test.YtbcfeoobhemdcaaProg
import Derived.Outline
import Derived.Lib.Hide
import Derived.Laws.MakeOwn
import Derived.Laws.ResultCell
import Derived.Lib.QuietBelow
import Derived.BigQuiet
import Derived.Deep.RegionWith
import Derived.Lib.ItoaNum
import Derived.Lib.ItoaLen
import Derived.Deep.QuietTactic
import Derived.Laws.BitsLemmas
import Derived.Lib.Join
import Derived.Lib.AppendStr
import Derived.Laws.IdiomStrings
import Derived.Deep.RegionHeld3
import Derived.Deep.AppendLies
import Derived.Deep.DrawnRows
import Derived.OwnWalkIn
import Derived.Maps.AppendAt
namespace Go.Proofs.Ytbcfeoobhemdcaa
open Go.RowKit

/-- A slice of one byte, just made, becomes the string of that byte. -/
theorem conv_one {P : Program} {src dst e : TypeId} (hs : P.underlying src = some (.slice e)) (he : P.underlying e = some (.int .u8)) (hd : P.underlying dst = some .string) (w : World) (z : Int) :
    (convert src dst (.slice (some ⟨w.heap.size, 0, none⟩) 1 1)).run P (w.alloc (.cells #[.int .u8 z] e)) = .ok (.string ⟨#[UInt8.ofNat z.toNat]⟩) (w.alloc (.cells #[.int .u8 z] e)) := by
  have h := run_convert_bytes_arg (P := P) (w.alloc (.cells #[.int .u8 z] e)) src e hs he w.heap.size 0 1 1 [z] rfl (fun i hi => by
    obtain rfl : i = 0 := by omega
    simp) dst hd
  rw [h]
  rfl
theorem append_byte (b : UInt8) (l : List UInt8) : (⟨#[b]⟩ : ByteArray) ++ (⟨l.toArray⟩ : ByteArray) = ⟨(b :: l).toArray⟩ := by
  apply ByteArray.ext
  simp
theorem ret_str {a b : ByteArray} (h : a = b) : Ending.returned (.string a) = .returned (.string b) := by rw [h]
theorem ret_int {k : IntKind} {a b : Int} (h : a = b) : Ending.returned (.int k a) = .returned (.int k b) := by rw [h]
theorem int_of {k : IntKind} {a b : Int} (h : a = b) : Value.int k a = .int k b := by rw [h]
theorem str_of {a b : ByteArray} (h : a = b) : Value.string a = .string b := by rw [h]

/-- Two new cells, then a world that only grew: what they hold. -/
theorem two_cells {w w1 : World} {a b : Value} {s t : TypeId} (h : Below ((w.alloc (.cells #[a] s)).alloc (.cells #[b] t)).heap.size ((w.alloc (.cells #[a] s)).alloc (.cells #[b] t)) w1) :
    w1.cell? ⟨w.heap.size, 0, none⟩ = some a ∧ w1.frozen? ⟨w.heap.size, 0, none⟩ = false ∧ w1.cell? ⟨w.heap.size + 1, 0, none⟩ = some b ∧ w1.frozen? ⟨w.heap.size + 1, 0, none⟩ = false ∧ Below w.heap.size w w1 ∧ w.heap.size + 1 < w1.heap.size := by
  have hz := h.size
  simp at hz
  refine ⟨(h.cell (p := ⟨w.heap.size, 0, none⟩) (by simp; omega)).trans (by simp [go_sem]), (h.frozen (p := ⟨w.heap.size, 0, none⟩) (by simp; omega)).trans (by simp [go_sem]),
    (h.cell (p := ⟨w.heap.size + 1, 0, none⟩) (by simp)).trans (by simp [go_sem]), (h.frozen (p := ⟨w.heap.size + 1, 0, none⟩) (by simp)).trans (by simp [go_sem]), ?_, by omega⟩
  exact (((Below.refl w.heap.size w).alloc (Nat.le_refl _) _).alloc (by simp) _).trans (h.mono (by simp; omega))
/-- The two cells written: what they hold. -/
theorem two_set {w w1 : World} {a b u v : Value} {B : Nat} (c1 : w1.cell? ⟨w.heap.size, 0, none⟩ = some a) (c2 : w1.cell? ⟨w.heap.size + 1, 0, none⟩ = some b) (hb : Below w.heap.size w w1) (hB : B = w.heap.size) :
    ((w1.setCell ⟨w.heap.size, 0, none⟩ u).setCell ⟨w.heap.size + 1, 0, none⟩ v).cell? ⟨w.heap.size, 0, none⟩ = some u ∧ ((w1.setCell ⟨w.heap.size, 0, none⟩ u).setCell ⟨w.heap.size + 1, 0, none⟩ v).cell? ⟨w.heap.size + 1, 0, none⟩ = some v ∧
      Below B w ((w1.setCell ⟨w.heap.size, 0, none⟩ u).setCell ⟨w.heap.size + 1, 0, none⟩ v) := by
  subst hB
  have hne : (⟨w.heap.size + 1, 0, none⟩ : Addr) ≠ ⟨w.heap.size, 0, none⟩ := by intro e; injection e with e; omega
  have c2' : (w1.setCell ⟨w.heap.size, 0, none⟩ u).cell? ⟨w.heap.size + 1, 0, none⟩ = some b := (World.cell?_setCell_other w1 _ _ _ (Ne.symm hne)).trans c2
  refine ⟨(World.cell?_setCell_other _ _ _ _ hne).trans (World.cell?_setCell_same _ _ _ c1), World.cell?_setCell_same _ _ _ c2', (hb.setCell (by simp) _).setCell (by simp) _⟩
end Go.Proofs.Ytbcfeoobhemdcaa
namespace Go.Proofs.Ytbcfeoobhemdcaa
open Go.RowKit

/-- The slice at A reads as these strings. -/
def Strs (w : World) (A : Option Addr) (ss : List ByteArray) : Prop :=
  ss = [] ∨ ∃ g o, A = some ⟨g, o, none⟩ ∧ g < w.heap.size ∧ ∀ j s, ss[j]? = some s → w.cell? ⟨g, o + j, none⟩ = some (.string s)
theorem Strs.below {w w' : World} {A : Option Addr} {ss : List ByteArray} (h : Strs w A ss) (hb : Below w.heap.size w w') : Strs w' A ss := by
  rcases h with h | ⟨g, o, hA, hg, hc⟩
  · exact .inl h
  · exact .inr ⟨g, o, hA, Nat.lt_of_lt_of_le hg hb.size, fun j s hj => (hb.cell (p := ⟨g, o + j, none⟩) hg).trans (hc j s hj)⟩
/-- Where there is a string at j: the address, and what lies there. -/
theorem Strs.at_ {w : World} {A : Option Addr} {ss : List ByteArray} (h : Strs w A ss) {j : Nat} (hj : j < ss.length) :
    ∃ g o, A = some ⟨g, o, none⟩ ∧ w.cell? ⟨g, o + j, none⟩ = some (.string ss[j]) := by
  rcases h with h | ⟨g, o, hA, _, hc⟩
  · subst h; simp at hj
  · exact ⟨g, o, hA, hc j _ (List.getElem?_eq_getElem hj)⟩

/-- A block known whole: just these cells of this type, none closed to writing. -/
def Whole (w : World) (g : Nat) (t : TypeId) (cs : Array Value) : Prop := w.heap[g]? = some (.cells cs t (0, 0))
theorem Whole.lt {w : World} {g : Nat} {t : TypeId} {cs : Array Value} (h : Whole w g t cs) : g < w.heap.size := by
  unfold Whole at h
  rcases Nat.lt_or_ge g w.heap.size with h1 | h1
  · exact h1
  · rw [Array.getElem?_eq_none h1] at h; cases h
theorem Whole.cell {w : World} {g : Nat} {t : TypeId} {cs : Array Value} (h : Whole w g t cs) (i : Nat) : w.cell? ⟨g, i, none⟩ = cs[i]? := by
  unfold Whole at h
  simp [World.cell?, h]
theorem Whole.frozen {w : World} {g : Nat} {t : TypeId} {cs : Array Value} (h : Whole w g t cs) (i : Nat) : w.frozen? ⟨g, i, none⟩ = false := by
  unfold Whole at h
  simp [World.frozen?, h]
theorem Whole.new (w : World) (t : TypeId) (cs : Array Value) : Whole (w.alloc (.cells cs t)) w.heap.size t cs := by
  show (w.heap.push _)[w.heap.size]? = _
  simp
theorem Whole.below {w w' : World} {g B : Nat} {t : TypeId} {cs : Array Value} (h : Whole w g t cs) (hb : Below B w w') (hg : g < B) : Whole w' g t cs := (hb.block g hg).trans h
theorem Whole.set_ {w : World} {g : Nat} {t : TypeId} {cs : Array Value} (h : Whole w g t cs) (i : Nat) (v : Value) : Whole (w.setCell ⟨g, i, none⟩ v) g t (cs.setIfInBounds i v) := by
  unfold Whole at h ⊢
  simp [World.setCell, Array.getElem?_modify, h]
theorem Whole.strs {w : World} {g : Nat} {t : TypeId} {ss : List ByteArray} (h : Whole w g t (ss.map Value.string).toArray) : Strs w (some ⟨g, 0, none⟩) ss :=
  .inr ⟨g, 0, rfl, h.lt, fun j s hj => by rw [h.cell, Nat.zero_add]; simp [hj]⟩

/-- A store elsewhere. -/
theorem cell_far {w : World} {p : Addr} {v : Value} {b o : Nat} (h : p.block ≠ b) : (w.setCell p v).cell? ⟨b, o, none⟩ = w.cell? ⟨b, o, none⟩ :=
  World.cell?_setCell_other _ _ _ _ (fun e => h (by rw [e]))
/-- All blocks but g are as they were; the streams are as they were. -/
structure But (g : Nat) (w w' : World) : Prop where
  os : w'.os = w.os
  tape : w'.tape = w.tape
  output : w'.output = w.output
  size : w.heap.size ≤ w'.heap.size
  block : ∀ k, k < w.heap.size → k ≠ g → w'.heap[k]? = w.heap[k]?
theorem But.refl (g : Nat) (w : World) : But g w w := ⟨rfl, rfl, rfl, Nat.le_refl _, fun _ _ _ => rfl⟩
theorem But.trans {g : Nat} {a b c : World} (h : But g a b) (k : But g b c) : But g a c :=
  ⟨k.os.trans h.os, k.tape.trans h.tape, k.output.trans h.output, Nat.le_trans h.size k.size, fun i hi hg => (k.block i (Nat.lt_of_lt_of_le hi h.size) hg).trans (h.block i hi hg)⟩
theorem But.of_below {g : Nat} {w w' : World} (h : Below w.heap.size w w') : But g w w' := ⟨h.os, h.tape, h.output, h.size, fun k hk _ => h.block k hk⟩
theorem But.set_ (g : Nat) (w : World) (i : Nat) (v : Value) : But g w (w.setCell ⟨g, i, none⟩ v) :=
  ⟨rfl, rfl, rfl, by simp [World.setCell], fun k _ hg => Below.heap_setCell _ _ _ _ hg⟩
theorem But.to_below {g B : Nat} {w w' : World} (h : But g w w') (hg : B ≤ g) (hB : B ≤ w.heap.size) : Below B w w' :=
  ⟨h.os, h.tape, h.output, h.size, fun k hk => h.block k (by omega) (by omega)⟩
theorem But.strs {g b o : Nat} {w w' : World} {ss : List ByteArray} (hb : But g w w') (h : ∀ j s, ss[j]? = some s → w.cell? ⟨b, o + j, none⟩ = some (.string s)) (hlt : b < w.heap.size) (hne : b ≠ g) : Strs w' (some ⟨b, o, none⟩) ss :=
  .inr ⟨b, o, rfl, Nat.lt_of_lt_of_le hlt hb.size, fun j s hj => (World.cell?_of_block (w := w) (w' := w') (a := ⟨b, o + j, none⟩) (hb.block b hlt hne)).trans (h j s hj)⟩

/-- The result's two cells written. -/
theorem res_set {w w1 : World} {a b : Value} {t : TypeId} (hw : Whole w1 w.heap.size t #[a, b]) (hb : Below w.heap.size w w1) (u v : Value) :
    ∀ w2, w2 = (w1.setCell ⟨w.heap.size, 0, none⟩ u).setCell ⟨w.heap.size, 1, none⟩ v → w2.cell? ⟨w.heap.size, 0, none⟩ = some u ∧ w2.cell? ⟨w.heap.size, 1, none⟩ = some v ∧ Below w.heap.size w w2 ∧ (∀ k, k ≠ w.heap.size → w2.heap[k]? = w1.heap[k]?) ∧ w2.heap.size = w1.heap.size := by
  rintro w2 rfl
  have h := (hw.set_ 0 u).set_ 1 v
  refine ⟨by rw [h.cell]; rfl, by rw [h.cell]; rfl, (hb.setCell (by simp) _).setCell (by simp) _, fun k hk => ?_, by simp⟩
  rw [Below.heap_setCell _ _ _ _ (by exact hk), Below.heap_setCell _ _ _ _ (by exact hk)]
end Go.Proofs.Ytbcfeoobhemdcaa
namespace Go.Proofs.Ytbcfeoobhemdcaa
open Go.RowKit

theorem infoString : (Try.prog.info? 9).map (fun i => (i.zero, i.size, i.bytes)) = some (some (.string ByteArray.empty), 1, 16) := by kernel_rfl
theorem news_one (w : World) (t : TypeId) (x : Value) : ∀ (j : Nat) (u : Value), [x][j]? = some u → (w.alloc (.cells #[x] t)).cell? ((⟨w.heap.size, 0, none⟩ : Addr).add j) = some u := by
  intro j u hj
  match j, hj with
  | 0, hj => simp at hj; subst hj; simp [Addr.add]
theorem one_string (x : ByteArray) : ∀ u ∈ [Value.string x], u.oneCell' = true := by
  intro u hu
  simp at hu
  subst hu
  rfl
theorem strs_map (d : List ByteArray) (x : ByteArray) : d.map Value.string ++ [.string x] = (d ++ [x]).map Value.string := by simp

/-- What is owned stays so under a call that turns nothing that was there. -/
theorem owns_below {B : Nat} {e : TypeId} {k : Nat} {v : Value} {n : Nat} {xs : List Value} {w w' : World} (h : w.ownsRow B e k v n xs) (hb : Below w.heap.size w w') : w'.ownsRow B e k v n xs :=
  h.kept (row := none) ⟨hb.os, hb.tape, hb.output, hb.size, fun j hj _ => hb.block j hj⟩ (by cases hv : v.ownBlock <;> simp)
/-- An owned row of strings reads as them. -/
theorem strs_own {w : World} {B : Nat} {e : TypeId} {v : Value} {d : List ByteArray} (h : w.ownsRow B e 1 v d.length (d.map Value.string)) : ∃ A c, v = .slice A d.length c ∧ Strs w A d := by
  rcases h.2 with ⟨rfl, h0⟩ | ⟨g, cap, cur, rfl, _⟩
  · exact ⟨none, 0, by rw [h0], .inl (List.eq_nil_of_length_eq_zero h0)⟩
  · refine ⟨_, cap, rfl, .inr ⟨g, 0, rfl, (h.lt g rfl).2, fun j s hj => ?_⟩⟩
    have hjl : j < d.length := by
      rcases Nat.lt_or_ge j d.length with h | h
      · exact h
      · rw [List.getElem?_eq_none h] at hj; cases hj
    rw [Nat.zero_add, World.ownsRow.cellAt h j (by omega), List.getElem?_map, hj]
    rfl
theorem own_same {w w' : World} {B size n : Nat} {e : TypeId} {v : Value} {xs : List Value} (h : w.ownsRow B e size v n xs) (hb : ∀ b, v.ownBlock = some b → w'.heap[b]? = w.heap[b]?) : w'.ownsRow B e size v n xs := by
  refine ⟨h.1, ?_⟩
  rcases h.2 with hn | ⟨g, cap, cur, rfl, hbg, hg, rest⟩
  · exact .inl hn
  · exact .inr ⟨g, cap, cur, rfl, hbg, (hb g rfl).trans hg, rest⟩
end Go.Proofs.Ytbcfeoobhemdcaa
namespace Go.Proofs.Ytbcfeoobhemdcaa
open Go.RowKit

/-- What a cell holds: a plain value, or a slice: its elements, each the data of its k cells; e: the elements' type. -/
inductive DV where
  | pl (u : Value)
  | row (e : TypeId) (k : Nat) (xs : List (List DV))

mutual
def DV.nodes : DV → Nat
  | .pl _ => 0
  | .row _ _ xs => DV.nodesE xs
def DV.nodesL : List DV → Nat
  | [] => 0
  | d :: r => d.nodes + DV.nodesL r
def DV.nodesE : List (List DV) → Nat
  | [] => 0
  | x :: r => 1 + DV.nodesL x + DV.nodesE r
end
def uwt : Value → Nat
  | .string s => s.size
  | _ => 0
mutual
/-- What the laws' guard counts. -/
def DV.wt : DV → Nat
  | .pl u => uwt u
  | .row _ _ xs => DV.wtE xs
def DV.wtL : List DV → Nat
  | [] => 0
  | d :: r => d.wt + DV.wtL r
def DV.wtE : List (List DV) → Nat
  | [] => 0
  | x :: r => 1 + DV.wtL x + DV.wtE r
end

mutual
/-- The value v is this; the rows that it leads to lie in blocks of P. -/
def RdV (w : World) (P : Nat → Prop) : DV → Value → Prop
  | .pl u, v => v = u
  | .row _ k xs, v => ∃ A cap, v = .slice A xs.length cap ∧ xs.length ≤ cap ∧ cap ≤ 9223372036854775807 ∧
      (xs = [] ∨ ∃ b o, A = some ⟨b, o, none⟩ ∧ P b ∧ ∃ vs, RdVE w P k xs vs ∧ ∀ i v, vs[i]? = some v → w.cell? ⟨b, o + i, none⟩ = some v)
def RdVs (w : World) (P : Nat → Prop) : List DV → List Value → Prop
  | [], vs => vs = []
  | d :: r, vs => ∃ v vs', vs = v :: vs' ∧ RdV w P d v ∧ RdVs w P r vs'
def RdVE (w : World) (P : Nat → Prop) (k : Nat) : List (List DV) → List Value → Prop
  | [], vs => vs = []
  | x :: r, vs => ∃ v1 v2, vs = v1 ++ v2 ∧ x.length = k ∧ RdVs w P x v1 ∧ RdVE w P k r v2
end
theorem RdV_pl {w : World} {P : Nat → Prop} {u v : Value} : RdV w P (.pl u) v ↔ v = u := by rw [RdV]
theorem RdV_row {w : World} {P : Nat → Prop} {e : TypeId} {k : Nat} {xs : List (List DV)} {v : Value} : RdV w P (.row e k xs) v ↔ ∃ A cap, v = .slice A xs.length cap ∧ xs.length ≤ cap ∧ cap ≤ 9223372036854775807 ∧
      (xs = [] ∨ ∃ b o, A = some ⟨b, o, none⟩ ∧ P b ∧ ∃ vs, RdVE w P k xs vs ∧ ∀ i v, vs[i]? = some v → w.cell? ⟨b, o + i, none⟩ = some v) := by rw [RdV]
theorem RdV_e {w : World} {P : Nat → Prop} {e e' : TypeId} {k : Nat} {xs : List (List DV)} {v : Value} (h : RdV w P (.row e k xs) v) : RdV w P (.row e' k xs) v := by rw [RdV] at h ⊢; exact h
theorem RdVs_length {w : World} {P : Nat → Prop} : ∀ {ds : List DV} {vs : List Value}, RdVs w P ds vs → vs.length = ds.length
  | [], vs, h => by rw [RdVs] at h; rw [h]; rfl
  | d :: r, vs, h => by
    rw [RdVs] at h
    obtain ⟨v, vs', rfl, _, h2⟩ := h
    rw [List.length_cons, List.length_cons, RdVs_length h2]
theorem RdVE_length {w : World} {P : Nat → Prop} {k : Nat} : ∀ {xs : List (List DV)} {vs : List Value}, RdVE w P k xs vs → vs.length = xs.length * k
  | [], vs, h => by rw [RdVE] at h; rw [h]; simp
  | x :: r, vs, h => by
    rw [RdVE] at h
    obtain ⟨v1, v2, rfl, hk, h1, h2⟩ := h
    rw [List.length_append, RdVs_length h1, RdVE_length h2, hk, List.length_cons, Nat.add_mul]; omega
theorem RdVE_at {w : World} {P : Nat → Prop} {k : Nat} : ∀ {xs : List (List DV)} {vs : List Value}, RdVE w P k xs vs → ∀ (j : Nat) (h : j < xs.length), ∃ ws, RdVs w P xs[j] ws ∧ xs[j].length = k ∧ ∀ i v, ws[i]? = some v → vs[j * k + i]? = some v
  | x :: r, vs, h, 0, _ => by
    rw [RdVE] at h
    obtain ⟨v1, v2, rfl, hk, h1, h2⟩ := h
    refine ⟨v1, h1, hk, fun i v hi => ?_⟩
    rw [Nat.zero_mul, Nat.zero_add, List.getElem?_append_left]
    · exact hi
    · exact (List.getElem?_eq_some_iff.1 hi).1
  | x :: r, vs, h, j + 1, hj => by
    rw [RdVE] at h
    obtain ⟨v1, v2, rfl, hk, h1, h2⟩ := h
    obtain ⟨ws, h3, h4, h5⟩ := RdVE_at h2 j (by simpa using hj)
    refine ⟨ws, by simpa using h3, by simpa using h4, fun i v hi => ?_⟩
    have hl : v1.length = k := by rw [RdVs_length h1, hk]
    rw [List.getElem?_append_right (by rw [hl, Nat.add_mul]; omega), hl, show (j + 1) * k + i - k = j * k + i by rw [Nat.add_mul]; omega]
    exact h5 i v hi
/-- Where there is an element at j: where it lies, and what it is. -/
theorem RdV.at_ {w : World} {P : Nat → Prop} {e : TypeId} {k : Nat} {xs : List (List DV)} {A : Option Addr} {n cap : Nat} (h : RdV w P (.row e k xs) (.slice A n cap)) {j : Nat} (hj : j < xs.length) :
    ∃ b o ws, A = some ⟨b, o, none⟩ ∧ P b ∧ RdVs w P xs[j] ws ∧ ∀ i v, ws[i]? = some v → w.cell? ⟨b, o + j * k + i, none⟩ = some v := by
  rw [RdV] at h
  obtain ⟨A', cap', hv, _, _, h⟩ := h
  injection hv with hA _ _
  subst hA
  rcases h with h | ⟨b, o, hA, hP, vs, hE, hc⟩
  · subst h; simp at hj
  · obtain ⟨ws, h1, _, h3⟩ := RdVE_at hE j hj
    exact ⟨b, o, ws, hA, hP, h1, fun i v hi => by rw [Nat.add_assoc]; exact hc _ _ (h3 i v hi)⟩
theorem RdV.shape {w : World} {P : Nat → Prop} {e : TypeId} {k : Nat} {xs : List (List DV)} {v : Value} (h : RdV w P (.row e k xs) v) : ∃ A cap, v = .slice A xs.length cap ∧ xs.length ≤ cap ∧ cap ≤ 9223372036854775807 := by
  rw [RdV] at h
  obtain ⟨A, cap, hv, h1, h2, _⟩ := h
  exact ⟨A, cap, hv, h1, h2⟩

mutual
theorem RdV_frame {w w' : World} {P Q : Nat → Prop} (hPQ : ∀ b, P b → Q b) (hk : ∀ b o, P b → w'.cell? ⟨b, o, none⟩ = w.cell? ⟨b, o, none⟩) : ∀ (d : DV) {v : Value}, RdV w P d v → RdV w' Q d v
  | .pl u, v, h => by rw [RdV] at h ⊢; exact h
  | .row e k xs, v, h => by
    rw [RdV] at h ⊢
    obtain ⟨A, cap, hv, h1, h2, h⟩ := h
    refine ⟨A, cap, hv, h1, h2, ?_⟩
    rcases h with h | ⟨b, o, hA, hP, vs, hE, hc⟩
    · exact .inl h
    · exact .inr ⟨b, o, hA, hPQ b hP, vs, RdVE_frame hPQ hk xs hE, fun i v hi => (hk b _ hP).trans (hc i v hi)⟩
theorem RdVs_frame {w w' : World} {P Q : Nat → Prop} (hPQ : ∀ b, P b → Q b) (hk : ∀ b o, P b → w'.cell? ⟨b, o, none⟩ = w.cell? ⟨b, o, none⟩) : ∀ (ds : List DV) {vs : List Value}, RdVs w P ds vs → RdVs w' Q ds vs
  | [], vs, h => by rw [RdVs] at h ⊢; exact h
  | d :: r, vs, h => by
    rw [RdVs] at h ⊢
    obtain ⟨v, vs', rfl, h1, h2⟩ := h
    exact ⟨v, vs', rfl, RdV_frame hPQ hk d h1, RdVs_frame hPQ hk r h2⟩
theorem RdVE_frame {w w' : World} {P Q : Nat → Prop} (hPQ : ∀ b, P b → Q b) (hk : ∀ b o, P b → w'.cell? ⟨b, o, none⟩ = w.cell? ⟨b, o, none⟩) {k : Nat} : ∀ (xs : List (List DV)) {vs : List Value}, RdVE w P k xs vs → RdVE w' Q k xs vs
  | [], vs, h => by rw [RdVE] at h ⊢; exact h
  | x :: r, vs, h => by
    rw [RdVE] at h ⊢
    obtain ⟨v1, v2, rfl, hk1, h1, h2⟩ := h
    exact ⟨v1, v2, rfl, hk1, RdVs_frame hPQ hk x h1, RdVE_frame hPQ hk r h2⟩
end
/-- Below a block number. -/
def Und (B : Nat) (b : Nat) : Prop := b < B
theorem RdV.grow {w w' : World} {d : DV} {v : Value} (h : RdV w (Und w.heap.size) d v) (hb : Below w.heap.size w w') : RdV w' (Und w'.heap.size) d v :=
  RdV_frame (fun _ h => Nat.lt_of_lt_of_le h hb.size) (fun b o hP => hb.cell (p := ⟨b, o, none⟩) hP) d h
theorem RdVs.grow {w w' : World} {d : List DV} {v : List Value} (h : RdVs w (Und w.heap.size) d v) (hb : Below w.heap.size w w') : RdVs w' (Und w'.heap.size) d v :=
  RdVs_frame (fun _ h => Nat.lt_of_lt_of_le h hb.size) (fun b o hP => hb.cell (p := ⟨b, o, none⟩) hP) d h

mutual
/-- The value v is this; its rows, all the call's own, lie in just the blocks bs. -/
def OwV (w : World) (B : Nat) : DV → Value → List Nat → Prop
  | .pl u, v, bs => v = u ∧ bs = []
  | .row e k xs, v, bs => ∃ (vs : List Value) (bs' : List Nat), w.ownsRow B e k v xs.length vs ∧ OwVE w B k xs vs bs' ∧ bs = v.ownBlock.toList ++ bs'
def OwVs (w : World) (B : Nat) : List DV → List Value → List Nat → Prop
  | [], vs, bs => vs = [] ∧ bs = []
  | d :: r, vs, bs => ∃ (v : Value) (vs' : List Value) (b1 b2 : List Nat), vs = v :: vs' ∧ bs = b1 ++ b2 ∧ OwV w B d v b1 ∧ OwVs w B r vs' b2
def OwVE (w : World) (B : Nat) (k : Nat) : List (List DV) → List Value → List Nat → Prop
  | [], vs, bs => vs = [] ∧ bs = []
  | x :: r, vs, bs => ∃ (v1 v2 : List Value) (b1 b2 : List Nat), vs = v1 ++ v2 ∧ bs = b1 ++ b2 ∧ x.length = k ∧ OwVs w B x v1 b1 ∧ OwVE w B k r v2 b2
end
theorem OwVs_length {w : World} {B : Nat} : ∀ {ds : List DV} {vs : List Value} {bs : List Nat}, OwVs w B ds vs bs → vs.length = ds.length
  | [], vs, bs, h => by rw [OwVs] at h; rw [h.1]; rfl
  | d :: r, vs, bs, h => by
    rw [OwVs] at h
    obtain ⟨v, vs', b1, b2, rfl, _, _, h2⟩ := h
    rw [List.length_cons, List.length_cons, OwVs_length h2]
theorem OwVE_length {w : World} {B k : Nat} : ∀ {xs : List (List DV)} {vs : List Value} {bs : List Nat}, OwVE w B k xs vs bs → vs.length = xs.length * k
  | [], vs, bs, h => by rw [OwVE] at h; rw [h.1]; simp
  | x :: r, vs, bs, h => by
    rw [OwVE] at h
    obtain ⟨v1, v2, b1, b2, rfl, _, hk, h1, h2⟩ := h
    rw [List.length_append, OwVs_length h1, OwVE_length h2, hk, List.length_cons, Nat.add_mul]; omega
mutual
theorem OwV_frame {w w' : World} {B : Nat} : ∀ (d : DV) {v : Value} {bs : List Nat}, (∀ b ∈ bs, w'.heap[b]? = w.heap[b]?) → OwV w B d v bs → OwV w' B d v bs
  | .pl u, v, bs, _, h => by rw [OwV] at h ⊢; exact h
  | .row e k xs, v, bs, hb, h => by
    rw [OwV] at h ⊢
    obtain ⟨vs, bs', h1, h2, rfl⟩ := h
    exact ⟨vs, bs', own_same h1 fun b hv => hb b (by rw [hv]; simp), OwVE_frame xs (fun b hm => hb b (List.mem_append_right _ hm)) h2, rfl⟩
theorem OwVs_frame {w w' : World} {B : Nat} : ∀ (ds : List DV) {vs : List Value} {bs : List Nat}, (∀ b ∈ bs, w'.heap[b]? = w.heap[b]?) → OwVs w B ds vs bs → OwVs w' B ds vs bs
  | [], vs, bs, _, h => by rw [OwVs] at h ⊢; exact h
  | d :: r, vs, bs, hb, h => by
    rw [OwVs] at h ⊢
    obtain ⟨v, vs', b1, b2, rfl, rfl, h1, h2⟩ := h
    exact ⟨v, vs', b1, b2, rfl, rfl, OwV_frame d (fun b hm => hb b (List.mem_append_left _ hm)) h1, OwVs_frame r (fun b hm => hb b (List.mem_append_right _ hm)) h2⟩
theorem OwVE_frame {w w' : World} {B k : Nat} : ∀ (xs : List (List DV)) {vs : List Value} {bs : List Nat}, (∀ b ∈ bs, w'.heap[b]? = w.heap[b]?) → OwVE w B k xs vs bs → OwVE w' B k xs vs bs
  | [], vs, bs, _, h => by rw [OwVE] at h ⊢; exact h
  | x :: r, vs, bs, hb, h => by
    rw [OwVE] at h ⊢
    obtain ⟨v1, v2, b1, b2, rfl, rfl, hk, h1, h2⟩ := h
    exact ⟨v1, v2, b1, b2, rfl, rfl, hk, OwVs_frame x (fun b hm => hb b (List.mem_append_left _ hm)) h1, OwVE_frame r (fun b hm => hb b (List.mem_append_right _ hm)) h2⟩
end
mutual
/-- Its blocks are from B on, and are there. -/
theorem OwV_lt {w : World} {B : Nat} : ∀ (d : DV) {v : Value} {bs : List Nat}, OwV w B d v bs → ∀ b ∈ bs, B ≤ b ∧ b < w.heap.size
  | .pl u, v, bs, h => by rw [OwV] at h; rw [h.2]; simp
  | .row e k xs, v, bs, h => by
    rw [OwV] at h
    obtain ⟨vs, bs', h1, h2, rfl⟩ := h
    intro b hb
    rcases List.mem_append.1 hb with hb | hb
    · exact h1.lt b (by simpa using hb)
    · exact OwVE_lt xs h2 b hb
theorem OwVs_lt {w : World} {B : Nat} : ∀ (ds : List DV) {vs : List Value} {bs : List Nat}, OwVs w B ds vs bs → ∀ b ∈ bs, B ≤ b ∧ b < w.heap.size
  | [], vs, bs, h => by rw [OwVs] at h; rw [h.2]; simp
  | d :: r, vs, bs, h => by
    rw [OwVs] at h
    obtain ⟨v, vs', b1, b2, rfl, rfl, h1, h2⟩ := h
    intro b hb
    rcases List.mem_append.1 hb with hb | hb
    · exact OwV_lt d h1 b hb
    · exact OwVs_lt r h2 b hb
theorem OwVE_lt {w : World} {B k : Nat} : ∀ (xs : List (List DV)) {vs : List Value} {bs : List Nat}, OwVE w B k xs vs bs → ∀ b ∈ bs, B ≤ b ∧ b < w.heap.size
  | [], vs, bs, h => by rw [OwVE] at h; rw [h.2]; simp
  | x :: r, vs, bs, h => by
    rw [OwVE] at h
    obtain ⟨v1, v2, b1, b2, rfl, rfl, hk, h1, h2⟩ := h
    intro b hb
    rcases List.mem_append.1 hb with hb | hb
    · exact OwVs_lt x h1 b hb
    · exact OwVE_lt r h2 b hb
end
mutual
/-- What is owned from B on is owned from further down on. -/
theorem OwV_wide {w : World} {B B' : Nat} (hB : B' ≤ B) : ∀ (d : DV) {v : Value} {bs : List Nat}, OwV w B d v bs → OwV w B' d v bs
  | .pl u, v, bs, h => by rw [OwV] at h ⊢; exact h
  | .row e k xs, v, bs, h => by
    rw [OwV] at h ⊢
    obtain ⟨vs, bs', h1, h2, rfl⟩ := h
    refine ⟨vs, bs', ⟨h1.1, ?_⟩, OwVE_wide hB xs h2, rfl⟩
    rcases h1.2 with hn | ⟨g, cap, cur, rfl, hbg, rest⟩
    · exact .inl hn
    · exact .inr ⟨g, cap, cur, rfl, by omega, rest⟩
theorem OwVs_wide {w : World} {B B' : Nat} (hB : B' ≤ B) : ∀ (ds : List DV) {vs : List Value} {bs : List Nat}, OwVs w B ds vs bs → OwVs w B' ds vs bs
  | [], vs, bs, h => by rw [OwVs] at h ⊢; exact h
  | d :: r, vs, bs, h => by
    rw [OwVs] at h ⊢
    obtain ⟨v, vs', b1, b2, rfl, rfl, h1, h2⟩ := h
    exact ⟨v, vs', b1, b2, rfl, rfl, OwV_wide hB d h1, OwVs_wide hB r h2⟩
theorem OwVE_wide {w : World} {B B' : Nat} (hB : B' ≤ B) {k : Nat} : ∀ (xs : List (List DV)) {vs : List Value} {bs : List Nat}, OwVE w B k xs vs bs → OwVE w B' k xs vs bs
  | [], vs, bs, h => by rw [OwVE] at h ⊢; exact h
  | x :: r, vs, bs, h => by
    rw [OwVE] at h ⊢
    obtain ⟨v1, v2, b1, b2, rfl, rfl, hk, h1, h2⟩ := h
    exact ⟨v1, v2, b1, b2, rfl, rfl, hk, OwVs_wide hB x h1, OwVE_wide hB r h2⟩
end
mutual
/-- What is owned reads as what it is. -/
theorem OwV_read {w : World} {B : Nat} {P : Nat → Prop} : ∀ (d : DV) {v : Value} {bs : List Nat}, (∀ b ∈ bs, P b) → OwV w B d v bs → RdV w P d v
  | .pl u, v, bs, _, h => by rw [OwV] at h; rw [RdV]; exact h.1
  | .row e k xs, v, bs, hP, h => by
    rw [OwV] at h
    rw [RdV]
    obtain ⟨vs, bs', h1, h2, rfl⟩ := h
    have hE := OwVE_read xs (fun b hm => hP b (List.mem_append_right _ hm)) h2
    rcases h1.2 with ⟨rfl, hn⟩ | ⟨g, cap, cur, rfl, hbg, hg, hnc, hcm, rest⟩
    · exact ⟨none, 0, by rw [hn], by omega, by omega, .inl (List.eq_nil_of_length_eq_zero hn)⟩
    · refine ⟨_, cap, rfl, hnc, by unfold maxLen at hcm; omega, .inr ⟨g, 0, rfl, hP g (by simp [Value.ownBlock]), vs, hE, fun i v hi => ?_⟩⟩
      have hil : i < xs.length * k := by rw [← h1.1]; exact (List.getElem?_eq_some_iff.1 hi).1
      rw [Nat.zero_add, World.ownsRow.cellAt h1 i hil]
      exact hi
theorem OwVs_read {w : World} {B : Nat} {P : Nat → Prop} : ∀ (ds : List DV) {vs : List Value} {bs : List Nat}, (∀ b ∈ bs, P b) → OwVs w B ds vs bs → RdVs w P ds vs
  | [], vs, bs, _, h => by rw [OwVs] at h; rw [RdVs]; exact h.1
  | d :: r, vs, bs, hP, h => by
    rw [OwVs] at h
    rw [RdVs]
    obtain ⟨v, vs', b1, b2, rfl, rfl, h1, h2⟩ := h
    exact ⟨v, vs', rfl, OwV_read d (fun b hm => hP b (List.mem_append_left _ hm)) h1, OwVs_read r (fun b hm => hP b (List.mem_append_right _ hm)) h2⟩
theorem OwVE_read {w : World} {B k : Nat} {P : Nat → Prop} : ∀ (xs : List (List DV)) {vs : List Value} {bs : List Nat}, (∀ b ∈ bs, P b) → OwVE w B k xs vs bs → RdVE w P k xs vs
  | [], vs, bs, _, h => by rw [OwVE] at h; rw [RdVE]; exact h.1
  | x :: r, vs, bs, hP, h => by
    rw [OwVE] at h
    rw [RdVE]
    obtain ⟨v1, v2, b1, b2, rfl, rfl, hk, h1, h2⟩ := h
    exact ⟨v1, v2, rfl, hk, OwVs_read x (fun b hm => hP b (List.mem_append_left _ hm)) h1, OwVE_read r (fun b hm => hP b (List.mem_append_right _ hm)) h2⟩
end
theorem OwV_below {w w' : World} {B : Nat} {d : DV} {v : Value} {bs : List Nat} (h : OwV w B d v bs) (hb : Below w.heap.size w w') : OwV w' B d v bs := OwV_frame d (fun b hm => hb.block b (OwV_lt d h b hm).2) h
theorem OwVs_below {w w' : World} {B : Nat} {d : List DV} {v : List Value} {bs : List Nat} (h : OwVs w B d v bs) (hb : Below w.heap.size w w') : OwVs w' B d v bs := OwVs_frame d (fun b hm => hb.block b (OwVs_lt d h b hm).2) h
theorem OwVs_app {w : World} {B : Nat} : ∀ {ds : List DV} {vs : List Value} {bs : List Nat}, OwVs w B ds vs bs → ∀ {ds' : List DV} {vs' : List Value} {bs' : List Nat}, OwVs w B ds' vs' bs' → OwVs w B (ds ++ ds') (vs ++ vs') (bs ++ bs')
  | [], vs, bs, h, _, _, _, h' => by
    rw [OwVs] at h
    obtain ⟨rfl, rfl⟩ := h
    exact h'
  | d :: r, vs, bs, h, _, _, _, h' => by
    rw [OwVs] at h
    obtain ⟨v, vs', b1, b2, rfl, rfl, h1, h2⟩ := h
    rw [List.cons_append, OwVs]
    exact ⟨v, _, b1, _, rfl, by rw [List.append_assoc], h1, OwVs_app h2 h'⟩
theorem OwVE_snoc {w : World} {B k : Nat} : ∀ {xs : List (List DV)} {vs : List Value} {bs : List Nat}, OwVE w B k xs vs bs → ∀ {x : List DV} {v : List Value} {bx : List Nat}, x.length = k → OwVs w B x v bx → OwVE w B k (xs ++ [x]) (vs ++ v) (bs ++ bx)
  | [], vs, bs, h, x, v, bx, hk, hx => by
    rw [OwVE] at h
    obtain ⟨rfl, rfl⟩ := h
    rw [List.nil_append, OwVE]
    exact ⟨v, [], bx, [], by simp, by simp, hk, hx, by rw [OwVE]; exact ⟨rfl, rfl⟩⟩
  | y :: r, vs, bs, h, x, v, bx, hk, hx => by
    rw [OwVE] at h
    obtain ⟨v1, v2, b1, b2, rfl, rfl, hk1, h1, h2⟩ := h
    rw [List.cons_append, OwVE]
    exact ⟨v1, _, b1, _, by rw [List.append_assoc], by rw [List.append_assoc], hk1, h1, OwVE_snoc h2 hk hx⟩
theorem OwV_nil (w : World) (B : Nat) (e : TypeId) (k : Nat) : OwV w B (.row e k []) (.slice none 0 0) [] := by
  rw [OwV]
  exact ⟨[], [], World.ownsRow_nil _ _ _ _, by rw [OwVE]; exact ⟨rfl, rfl⟩, rfl⟩

/-- A STRUCT in memory of its own, by value. -/
def MadeV (d : List DV) (w : World) (e : Ending) (w' : World) : Prop :=
  ∃ (vs : List Value) (bs : List Nat), e = .returned (.agg vs.toArray) ∧ OwVs w' w.heap.size d vs bs ∧ bs.Nodup ∧ Below w.heap.size w w'
/-- A SLICE in memory of its own. -/
def MadeR (d : DV) (w : World) (e : Ending) (w' : World) : Prop :=
  ∃ (v : Value) (bs : List Nat), e = .returned v ∧ OwV w' w.heap.size d v bs ∧ bs.Nodup ∧ Below w.heap.size w w'
end Go.Proofs.Ytbcfeoobhemdcaa
namespace Go.Proofs.Ytbcfeoobhemdcaa
open Go.RowKit

theorem nodesVE_at : ∀ (xs : List (List DV)) (j : Nat) (h : j < xs.length), 1 + DV.nodesL xs[j] ≤ DV.nodesE xs
  | x :: r, 0, _ => by rw [DV.nodesE]; simp
  | x :: r, j + 1, h => by
    have := nodesVE_at r j (by simpa using h)
    rw [DV.nodesE]; simp; omega
theorem nodesVE_count : ∀ (xs : List (List DV)), xs.length ≤ DV.nodesE xs
  | [] => by simp [DV.nodesE]
  | x :: r => by have := nodesVE_count r; rw [DV.nodesE, List.length_cons]; omega
theorem wtVE_take : ∀ (l : List (List DV)) (j : Nat) (h : j < l.length), DV.wtE (l.take (j + 1)) = DV.wtE (l.take j) + 1 + DV.wtL l[j]
  | x :: r, 0, _ => by simp [DV.wtE]
  | x :: r, j + 1, h => by
    have := wtVE_take r j (by simpa using h)
    rw [List.take_succ_cons, List.take_succ_cons, DV.wtE, DV.wtE, this]
    simp; omega
theorem wtVE_le : ∀ (l : List (List DV)) (j : Nat), DV.wtE (l.take j) ≤ DV.wtE l
  | [], j => by simp
  | x :: r, 0 => by simp [DV.wtE]
  | x :: r, j + 1 => by
    have := wtVE_le r j
    rw [List.take_succ_cons, DV.wtE, DV.wtE]; omega
theorem wtVE_length : ∀ (l : List (List DV)), l.length ≤ DV.wtE l
  | [] => by simp [DV.wtE]
  | x :: r => by have := wtVE_length r; rw [DV.wtE, List.length_cons]; omega
theorem wtVE_at (l : List (List DV)) (j : Nat) (h : j < l.length) : 1 + DV.wtL l[j] ≤ DV.wtE l := by
  have h1 := wtVE_take l j h
  have h2 := wtVE_le l (j + 1)
  omega
theorem wtVE_rest : ∀ (l : List (List DV)) (j : Nat), j ≤ l.length → DV.wtE (l.take j) + (l.length - j) ≤ DV.wtE l
  | [], j, h => by simp at h; subst h; simp [DV.wtE]
  | x :: r, 0, _ => by have := wtVE_length (x :: r); simp [DV.wtE] at this ⊢; omega
  | x :: r, j + 1, h => by
    have := wtVE_rest r j (by simpa using h)
    rw [List.take_succ_cons, DV.wtE, DV.wtE, List.length_cons]; omega

/-- A plain value that Go holds. -/
def uok : Value → Prop
  | .string s => s.size ≤ 9223372036854775807
  | .int _ i => -9223372036854775808 ≤ i ∧ i ≤ 9223372036854775807
  | _ => True
mutual
/-- No text and no slice is longer than a Go int. -/
def DV.ok : DV → Prop
  | .pl u => uok u
  | .row _ _ xs => xs.length ≤ 9223372036854775807 ∧ DV.okE xs
def DV.okL : List DV → Prop
  | [] => True
  | d :: r => d.ok ∧ DV.okL r
def DV.okE : List (List DV) → Prop
  | [] => True
  | x :: r => DV.okL x ∧ DV.okE r
end
theorem okVE_at : ∀ (xs : List (List DV)), DV.okE xs → ∀ (j : Nat) (h : j < xs.length), DV.okL xs[j]
  | x :: r, ho, 0, _ => by rw [DV.okE] at ho; exact ho.1
  | x :: r, ho, j + 1, h => by rw [DV.okE] at ho; exact okVE_at r ho.2 j (by simpa using h)

/-- What is left: -1 where there was more. -/
def leftV (L n : Nat) : Int := if n ≤ L then (L : Int) - n else -1
theorem leftV_yes {L n : Nat} (h : n ≤ L) : leftV L n = (L : Int) - n := by rw [leftV, if_pos h]
theorem leftV_no {L n : Nat} (h : L < n) : leftV L n = -1 := by rw [leftV, if_neg (by omega)]
end Go.Proofs.Ytbcfeoobhemdcaa
namespace Go.Proofs.Ytbcfeoobhemdcaa
open Go.RowKit Go.Lib

def strRows (l : List ByteArray) : List (List DV) := l.map fun s => [.pl (.string s)]
def intRows (l : List Int) : List (List DV) := l.map fun s => [.pl (.int .i64 s)]
theorem strRows_length (l : List ByteArray) : (strRows l).length = l.length := by rw [strRows, List.length_map]
theorem intRows_length (l : List Int) : (intRows l).length = l.length := by rw [intRows, List.length_map]
/-- The slice at A reads as these strings. -/
def StrRow (w : World) (P : Nat → Prop) (A : Option Addr) (c : Nat) (l : List ByteArray) : Prop := RdV w P (.row 9 1 (strRows l)) (.slice A l.length c)
def IntRow (w : World) (P : Nat → Prop) (A : Option Addr) (c : Nat) (l : List Int) : Prop := RdV w P (.row 3 1 (intRows l)) (.slice A l.length c)
theorem StrRow.frame {w w' : World} {P Q : Nat → Prop} {A : Option Addr} {c : Nat} {l : List ByteArray} (h : StrRow w P A c l) (hPQ : ∀ b, P b → Q b) (hk : ∀ b o, P b → w'.cell? ⟨b, o, none⟩ = w.cell? ⟨b, o, none⟩) : StrRow w' Q A c l := RdV_frame hPQ hk _ h
theorem IntRow.frame {w w' : World} {P Q : Nat → Prop} {A : Option Addr} {c : Nat} {l : List Int} (h : IntRow w P A c l) (hPQ : ∀ b, P b → Q b) (hk : ∀ b o, P b → w'.cell? ⟨b, o, none⟩ = w.cell? ⟨b, o, none⟩) : IntRow w' Q A c l := RdV_frame hPQ hk _ h
theorem StrRow.grow {w w' : World} {A : Option Addr} {c : Nat} {l : List ByteArray} (h : StrRow w (Und w.heap.size) A c l) (hb : Below w.heap.size w w') : StrRow w' (Und w'.heap.size) A c l := RdV.grow h hb
theorem IntRow.grow {w w' : World} {A : Option Addr} {c : Nat} {l : List Int} (h : IntRow w (Und w.heap.size) A c l) (hb : Below w.heap.size w w') : IntRow w' (Und w'.heap.size) A c l := RdV.grow h hb
theorem StrRow.of_read {w : World} {P : Nat → Prop} {l : List ByteArray} {v : Value} (h : RdV w P (.row 9 1 (strRows l)) v) : ∃ A c, v = .slice A l.length c ∧ StrRow w P A c l := by
  obtain ⟨A, c, rfl, _, _⟩ := h.shape
  rw [strRows_length] at h ⊢
  exact ⟨A, c, rfl, h⟩
theorem IntRow.of_read {w : World} {P : Nat → Prop} {l : List Int} {v : Value} (h : RdV w P (.row 3 1 (intRows l)) v) : ∃ A c, v = .slice A l.length c ∧ IntRow w P A c l := by
  obtain ⟨A, c, rfl, _, _⟩ := h.shape
  rw [intRows_length] at h ⊢
  exact ⟨A, c, rfl, h⟩
theorem StrRow.strs {w : World} {A : Option Addr} {c : Nat} {l : List ByteArray} (h : StrRow w (Und w.heap.size) A c l) : Strs w A l := by
  by_cases h0 : l = []
  · exact .inl h0
  · have hp : 0 < l.length := List.length_pos_iff.2 h0
    obtain ⟨b, o, _, hA, hP, _, _⟩ := RdV.at_ h (j := 0) (by rw [strRows_length]; exact hp)
    refine .inr ⟨b, o, hA, hP, fun j s hj => ?_⟩
    have hjl : j < l.length := (List.getElem?_eq_some_iff.1 hj).1
    obtain ⟨b', o', ws, hA', _, hR, hc⟩ := RdV.at_ h (j := j) (by rw [strRows_length]; exact hjl)
    rw [hA] at hA'
    injection hA' with hA'
    injection hA' with h1 h2
    subst h1 h2
    have e : (strRows l)[j]'(by rw [strRows_length]; exact hjl) = [.pl (.string l[j])] := by simp [strRows]
    rw [e] at hR
    simp only [RdVs] at hR
    obtain ⟨v, _, rfl, hv, rfl⟩ := hR
    rw [RdV_pl] at hv
    have := hc 0 v rfl
    rw [hv, Nat.mul_one, Nat.add_zero] at this
    rw [this]
    congr 2
    exact (List.getElem?_eq_some_iff.1 hj).2
end Go.Proofs.Ytbcfeoobhemdcaa
namespace Go.Proofs.Ytbcfeoobhemdcaa
open Go.RowKit Go.Lib

inductive TypeX where
  | mk (kind_ : Int) (name_ : ByteArray) (args_ : List TypeX)
def TypeX.kind_ : TypeX → Int | .mk kind_ _ _ => kind_
def TypeX.name_ : TypeX → ByteArray | .mk _ name_ _ => name_
def TypeX.args_ : TypeX → List TypeX | .mk _ _ args_ => args_
mutual
/-- The cells of a value. -/
def TypeX.cells : TypeX → List DV
  | .mk kind_ name_ args_ => [.pl (.int .i64 kind_), .pl (.string name_), .row 35 3 (TypeX.rows args_)]
def TypeX.rows : List TypeX → List (List DV)
  | [] => []
  | x :: r => x.cells :: TypeX.rows r
end
theorem TypeX.cells_eq (x : TypeX) : x.cells = [.pl (.int .i64 x.kind_), .pl (.string x.name_), .row 35 3 (TypeX.rows x.args_)] := by cases x with | mk xkind_ xname_ xargs_ => rw [TypeX.cells]; rfl
theorem TypeX.rows_map : ∀ l : List TypeX, TypeX.rows l = l.map TypeX.cells
  | [] => by rw [TypeX.rows]; rfl
  | x :: r => by rw [TypeX.rows, TypeX.rows_map r]; rfl
theorem TypeX.rows_length (l : List TypeX) : (TypeX.rows l).length = l.length := by rw [TypeX.rows_map, List.length_map]
theorem TypeX.rows_at (l : List TypeX) (j : Nat) (h : j < l.length) (h' : j < (TypeX.rows l).length) : (TypeX.rows l)[j] = l[j].cells := by simp [TypeX.rows_map]
theorem TypeX.rows_take (l : List TypeX) (j : Nat) : TypeX.rows (l.take j) = (TypeX.rows l).take j := by simp [TypeX.rows_map, List.map_take]
theorem TypeX.rows_snoc (l : List TypeX) (x : TypeX) : TypeX.rows (l ++ [x]) = TypeX.rows l ++ [x.cells] := by simp [TypeX.rows_map]
theorem TypeX.cells_length (x : TypeX) : x.cells.length = 3 := by rw [TypeX.cells_eq]; rfl
/-- The slice at A reads as this list. -/
def TypeRow (w : World) (P : Nat → Prop) (A : Option Addr) (c : Nat) (l : List TypeX) : Prop := RdV w P (.row 35 3 (TypeX.rows l)) (.slice A l.length c)
theorem TypeRow.frame {w w' : World} {P Q : Nat → Prop} {A : Option Addr} {c : Nat} {l : List TypeX} (h : TypeRow w P A c l) (hPQ : ∀ b, P b → Q b) (hk : ∀ b o, P b → w'.cell? ⟨b, o, none⟩ = w.cell? ⟨b, o, none⟩) : TypeRow w' Q A c l := RdV_frame hPQ hk _ h
theorem TypeRow.grow {w w' : World} {A : Option Addr} {c : Nat} {l : List TypeX} (h : TypeRow w (Und w.heap.size) A c l) (hb : Below w.heap.size w w') : TypeRow w' (Und w'.heap.size) A c l := RdV.grow h hb
theorem TypeRow.of_read {w : World} {P : Nat → Prop} {l : List TypeX} {v : Value} (h : RdV w P (.row 35 3 (TypeX.rows l)) v) : ∃ A c, v = .slice A l.length c ∧ TypeRow w P A c l := by
  obtain ⟨A, c, rfl, _, _⟩ := h.shape
  rw [TypeX.rows_length] at h ⊢
  exact ⟨A, c, rfl, h⟩
theorem TypeRow.cap {w : World} {P : Nat → Prop} {A : Option Addr} {c : Nat} {l : List TypeX} (h : TypeRow w P A c l) : l.length ≤ c ∧ c ≤ 9223372036854775807 := by
  obtain ⟨A', c', e, h1, h2⟩ := RdV.shape h
  injection e with _ _ e
  rw [TypeX.rows_length] at h1
  omega
theorem TypeRow.nil (w : World) (P : Nat → Prop) (c : Nat) (A : Option Addr) (hc : c ≤ 9223372036854775807) : TypeRow w P A c [] := RdV_row.2 ⟨A, c, by rw [TypeX.rows_length], by rw [TypeX.rows_length]; exact Nat.zero_le _, hc, .inl (by rw [TypeX.rows_map]; rfl)⟩
/-- This value, by value. -/
def TypeAt (w : World) (P : Nat → Prop) (x : TypeX) (v : Value) : Prop := ∃ (A2 : Option Addr) (c2 : Nat), v = .agg #[.int .i64 x.kind_, .string x.name_, .slice A2 x.args_.length c2] ∧ TypeRow w P A2 c2 x.args_
theorem TypeAt.of_reads {w : World} {P : Nat → Prop} {x : TypeX} {vs : List Value} (h : RdVs w P x.cells vs) : TypeAt w P x (.agg vs.toArray) := by
  rw [TypeX.cells_eq] at h
  simp only [RdVs] at h
  obtain ⟨v0, _, rfl, h0, v1, _, rfl, h1, v2, _, rfl, h2, rfl⟩ := h
  rw [RdV_pl] at h0
  subst h0
  rw [RdV_pl] at h1
  subst h1
  obtain ⟨A2, c2, rfl, k2⟩ := TypeRow.of_read h2
  exact ⟨A2, c2, rfl, k2⟩
theorem TypeAt.frame {w w' : World} {P Q : Nat → Prop} {x : TypeX} {v : Value} (h : TypeAt w P x v) (hPQ : ∀ b, P b → Q b) (hk : ∀ b o, P b → w'.cell? ⟨b, o, none⟩ = w.cell? ⟨b, o, none⟩) : TypeAt w' Q x v := by
  obtain ⟨A2, c2, rfl, k2⟩ := h
  exact ⟨A2, c2, rfl, k2.frame hPQ hk⟩
theorem TypeAt.grow {w w' : World} {x : TypeX} {v : Value} (h : TypeAt w (Und w.heap.size) x v) (hb : Below w.heap.size w w') : TypeAt w' (Und w'.heap.size) x v := h.frame (fun _ h => Nat.lt_of_lt_of_le h hb.size) (fun b o hP => hb.cell (p := ⟨b, o, none⟩) hP)
/-- Where there is an element at j: where it lies, and what it is. -/
theorem TypeRow.at_ {w : World} {P : Nat → Prop} {A : Option Addr} {c : Nat} {l : List TypeX} (h : TypeRow w P A c l) {j : Nat} (hj : j < l.length) :
    ∃ (b o : Nat) (A2 : Option Addr) (c2 : Nat), A = some ⟨b, o, none⟩ ∧ P b ∧ w.cell? ⟨b, o + j * 3, none⟩ = some (.int .i64 l[j].kind_) ∧ w.cell? ⟨b, o + j * 3 + 1, none⟩ = some (.string l[j].name_) ∧ w.cell? ⟨b, o + j * 3 + 2, none⟩ = some (.slice A2 l[j].args_.length c2) ∧ TypeRow w P A2 c2 l[j].args_ := by
  obtain ⟨b, o, ws, hA, hP, hR, hc⟩ := RdV.at_ h (j := j) (by rw [TypeX.rows_length]; exact hj)
  rw [TypeX.rows_at l j hj, TypeX.cells_eq] at hR
  simp only [RdVs] at hR
  obtain ⟨v0, _, rfl, h0, v1, _, rfl, h1, v2, _, rfl, h2, rfl⟩ := hR
  rw [RdV_pl] at h0
  subst h0
  rw [RdV_pl] at h1
  subst h1
  obtain ⟨A2, c2, rfl, k2⟩ := TypeRow.of_read h2
  exact ⟨b, o, A2, c2, hA, hP, hc 0 _ rfl, hc 1 _ rfl, hc 2 _ rfl, k2⟩
end Go.Proofs.Ytbcfeoobhemdcaa
namespace Go.Proofs.Ytbcfeoobhemdcaa
open Go.RowKit Go.Lib

theorem TypeX.wt_eq (x : TypeX) : DV.wtL x.cells = x.name_.size + DV.wtE (TypeX.rows x.args_) := by
  rw [TypeX.cells_eq]
  simp only [DV.wtL, DV.wt, uwt]
  omega
theorem TypeX.nodes_eq (x : TypeX) : DV.nodesL x.cells = DV.nodesE (TypeX.rows x.args_) := by
  rw [TypeX.cells_eq]
  simp only [DV.nodesL, DV.nodes]
  omega
def SzType (N : Nat) : Prop := ∀ (x : TypeX) (v : Value) (L : Nat) (w : World), DV.nodesL x.cells ≤ N → DV.okL x.cells → TypeAt w (Und w.heap.size) x v → L ≤ 1048576 →
  Calls Try.prog 45 #[v, .int .i64 L] w fun e w' => (e = .returned (.int .i64 (leftV L (DV.wtL x.cells))) ∧ Below w.heap.size w w')
def SzTypeS (N : Nat) : Prop := ∀ (l : List TypeX) (A : Option Addr) (c L : Nat) (w : World), DV.nodesE (TypeX.rows l) ≤ N → DV.okE (TypeX.rows l) → l.length ≤ 9223372036854775807 → TypeRow w (Und w.heap.size) A c l → L ≤ 1048576 →
  Calls Try.prog 93 #[.slice A l.length c, .int .i64 L] w fun e w' => (e = .returned (.int .i64 (leftV L (DV.wtE (TypeX.rows l)))) ∧ Below w.heap.size w w')

set_option maxRecDepth 100000 in
set_option maxHeartbeats 2000000 in
theorem szType_step (N : Nat) (ihTypeS : SzTypeS N) : SzType N := by
  intro x v L w hn hok hv hL
  obtain ⟨A2, c2, rfl, h2⟩ := hv
  have hne := TypeX.nodes_eq x
  have hok2 := hok
  rw [TypeX.cells_eq] at hok2
  simp only [DV.okL, DV.ok, uok] at hok2
  obtain ⟨o0, o1, o2, -⟩ := hok2
  have hw := TypeX.wt_eq x
  have hb0 : Below w.heap.size w (w.alloc (.cells #[.int .i64 x.kind_, .string x.name_, .slice A2 x.args_.length c2] 56)) := (Below.refl _ _).alloc (Nat.le_refl _) _
  have H2 := Lib.hid (h2.grow hb0)
  have O2 := Lib.hid o2
  have HN := Lib.hid hn
  have HNE := Lib.hid hne
  have HW := Lib.hid hw
  clear hok hw h2 o2 hn hne
  by_cases s1 : x.name_.size ≤ L
  rotate_left
  · have n1 : ((L : Nat) : Int) - ((x.name_.size : Nat) : Int) < 0 := by omega
    go_enter Try.func45, Try.ntmps45
    go_wp2
    go_ret
    exact ⟨ret_int (leftV_no (by have := HW.out; omega)).symm, hb0⟩
  have n1 : ¬ ((L : Nat) : Int) - ((x.name_.size : Nat) : Int) < 0 := by omega
  obtain ⟨q2, e2⟩ : ∃ q : Nat, ((L : Nat) : Int) - ((x.name_.size : Nat) : Int) = ((q : Nat) : Int) := ⟨L - x.name_.size, by omega⟩
  have f2 : q2 + (x.name_.size) = L := by omega
  have E2 := Lib.hid e2
  clear e2
  go_enter Try.func45, Try.ntmps45
  go_wp2_with fail
  rw [E2.out]
  refine (ihTypeS x.args_ _ _ q2 _ (by have := HN.out; have := HNE.out; omega) O2.out.2 (by have := O2.out.1; rw [TypeX.rows_length] at this; exact this) H2.out (by omega)).mono ?_
  rintro e w2 ⟨rfl, b2⟩
  have hb2 : Below w.heap.size w w2 := hb0.trans (b2.mono hb0.size)
  by_cases s2 : DV.wtE (TypeX.rows x.args_) ≤ q2
  rotate_left
  · rw [leftV_no (by omega)]
    go_wp2
    go_ret
    exact ⟨ret_int (leftV_no (by have := HW.out; omega)).symm, hb2⟩
  rw [leftV_yes s2]
  have n2 : ¬ ((q2 : Nat) : Int) - ((DV.wtE (TypeX.rows x.args_) : Nat) : Int) < 0 := by omega
  go_wp2
  go_ret
  exact ⟨ret_int (by have := HW.out; rw [leftV_yes (by omega)]; omega), hb2⟩

set_option maxRecDepth 100000 in
set_option maxHeartbeats 2000000 in
theorem szTypeS_step (N : Nat) (ih : SzType N) : SzTypeS (N + 1) := by
  intro l A c L w hn hok hlen hl hL
  have HL := Lib.hid hl
  have HO := Lib.hid hok
  have hwl := wtVE_length (TypeX.rows l)
  rw [TypeX.rows_length] at hwl
  have HN := Lib.hid hn
  clear hl hok hn
  by_cases hfst : L < l.length
  · have hnn : (L : Int) - l.length < 0 := by omega
    have h3 : L < DV.wtE (TypeX.rows l) := by omega
    go_enter Try.func93, Try.ntmps93
    go_wp2
    go_ret
    exact ⟨ret_int (leftV_no h3).symm, Below.refl _ _⟩
  · have hnn : ¬ (L : Int) - l.length < 0 := by omega
    go_enter Try.func93, Try.ntmps93
    go_wp2
    go_loopw [1, 5] (fun qv iv wr => ∃ k q : Nat, k ≤ l.length ∧ iv = .int .i64 k ∧ qv = .int .i64 q ∧ q + l.length + DV.wtE ((TypeX.rows l).take k) = L + k ∧ Below w.heap.size w wr) (fun _ iv _ => l.length - (Go.RowKit.intOf iv).toNat)
    case atStart => exact ⟨0, L - l.length, Nat.zero_le _, rfl, int_of (by omega), by simp [DV.wtE]; omega, Below.refl _ _⟩
    case round =>
      obtain ⟨k, q, hk, rfl, rfl, hq, hb⟩ := hrel
      by_cases hlt : k < l.length
      · obtain ⟨b, o, A2, c2, hA, hP, q0, q1, q2, k2⟩ := (HL.out.grow hb).at_ hlt
        subst hA
        have hst := wtVE_take (TypeX.rows l) k (by rw [TypeX.rows_length]; exact hlt)
        rw [TypeX.rows_at l k hlt] at hst
        have hre := wtVE_rest (TypeX.rows l) (k + 1) (by rw [TypeX.rows_length]; exact hlt)
        rw [TypeX.rows_length] at hre
        have hqL : q ≤ 1048576 := by have := wtVE_le (TypeX.rows l) k; omega
        have hox := okVE_at (TypeX.rows l) HO.out k (by rw [TypeX.rows_length]; exact hlt)
        rw [TypeX.rows_at l k hlt] at hox
        have HOX := Lib.hid hox
        have hnx := nodesVE_at (TypeX.rows l) k (by rw [TypeX.rows_length]; exact hlt)
        rw [TypeX.rows_at l k hlt] at hnx
        have HNX := Lib.hid (show DV.nodesL l[k].cells ≤ N by have := HN.out; omega)
        clear hnx
        have HQ := Lib.hid hq
        have HS := Lib.hid hst
        have HR := Lib.hid hre
        have K2 := Lib.hid k2
        clear hq hst hre hox k2
        go_wp2_with fail
        refine (ih l[k] _ q _ HNX.out HOX.out ⟨_, _, rfl, K2.out⟩ hqL).mono ?_
        rintro e w1 ⟨rfl, hb1⟩
        have hb2 : Below w.heap.size w w1 := hb.trans (hb1.mono hb.size)
        by_cases h2 : DV.wtL l[k].cells ≤ q
        · rw [leftV_yes h2]
          have hnn2 : ¬ (q : Int) - (DV.wtL l[k].cells : Nat) < 0 := by omega
          have hq3 : q - DV.wtL l[k].cells + l.length + DV.wtE ((TypeX.rows l).take (k + 1)) = L + (k + 1) := by rw [HS.out]; have := HQ.out; omega
          have HQ3 := Lib.hid hq3
          clear hq3
          go_wp2
          go_roundw
          case rel => exact ⟨k + 1, q - DV.wtL l[k].cells, by omega, by go_num, int_of (by omega), HQ3.out, hb2⟩
          case measure => simp [Go.RowKit.intOf]; omega
        · rw [leftV_no (by omega)]
          have h3 : L < DV.wtE (TypeX.rows l) := by have := HQ.out; have := HS.out; have := HR.out; omega
          go_wp2
          go_ret
          exact ⟨ret_int (leftV_no h3).symm, hb2⟩
      · have hkl : k = l.length := by omega
        have h3 : q + DV.wtE (TypeX.rows l) = L := by
          have := hq
          rw [hkl, List.take_of_length_le (by rw [TypeX.rows_length]; exact Nat.le_refl _)] at this
          omega
        have H3 := Lib.hid h3
        clear hq h3
        go_wp2
        go_ret
        exact ⟨ret_int (by have := H3.out; rw [leftV_yes (by omega)]; omega), hb⟩

theorem szRows_Type : ∀ N, SzTypeS N
  | 0 => by
    intro l A c L w hn _ _ _ _
    have hc := nodesVE_count (TypeX.rows l)
    rw [TypeX.rows_length] at hc
    have hl : l = [] := List.eq_nil_of_length_eq_zero (by omega)
    subst hl
    go_enter Try.func93, Try.ntmps93
    have hnn : ¬ (L : Int) - 0 < 0 := by omega
    go_wp2
    refine wp_loop_rounds 1 ?_
    rw [rounds_succ]
    go_wp2
    go_ret
    exact ⟨ret_int (by rw [TypeX.rows_map, leftV_yes (by simp [DV.wtE])]; simp [DV.wtE]), Below.refl _ _⟩
  | N + 1 => szTypeS_step N (szType_step N (szRows_Type N))
theorem szType (x : TypeX) (v : Value) (L : Nat) (w : World) (ho : DV.okL x.cells) (hv : TypeAt w (Und w.heap.size) x v) (hL : L ≤ 1048576) :
    Calls Try.prog 45 #[v, .int .i64 L] w fun e w' => (e = .returned (.int .i64 (leftV L (DV.wtL x.cells))) ∧ Below w.heap.size w w') := (szType_step (DV.nodesL x.cells) (szRows_Type (DV.nodesL x.cells))) x v L w (Nat.le_refl _) ho hv hL
theorem szTypeS (l : List TypeX) (A : Option Addr) (c L : Nat) (w : World) (ho : DV.okE (TypeX.rows l)) (hn : l.length ≤ 9223372036854775807) (hv : TypeRow w (Und w.heap.size) A c l) (hL : L ≤ 1048576) :
    Calls Try.prog 93 #[.slice A l.length c, .int .i64 L] w fun e w' => (e = .returned (.int .i64 (leftV L (DV.wtE (TypeX.rows l)))) ∧ Below w.heap.size w w') := (szRows_Type (DV.nodesE (TypeX.rows l))) l A c L w (Nat.le_refl _) ho hn hv hL
end Go.Proofs.Ytbcfeoobhemdcaa
namespace Go.Proofs.Ytbcfeoobhemdcaa
open Go.RowKit Go.Lib

theorem calls_gen {P : Program} {f : Nat} {args : Array Value} {W : World} {R : Ending → World → Prop} (Q : World → Prop) (hQ : Q W) (h : ∀ W', Q W' → Calls P f args W' R) : Calls P f args W R := h W hQ
theorem Whole.far {w : World} {g : Nat} {t : TypeId} {cs : Array Value} (h : Whole w g t cs) {b : Nat} (hne : g ≠ b) (i : Nat) (v : Value) : Whole (w.setCell ⟨b, i, none⟩ v) g t cs := by
  unfold Whole at h ⊢
  rw [Below.heap_setCell _ _ _ _ (by exact hne)]
  exact h
theorem OwVs_set {w : World} {B : Nat} {ds : List DV} {vs : List Value} {bs : List Nat} (h : OwVs w B ds vs bs) {g : Nat} (hg : g < B) (i : Nat) (v : Value) : OwVs (w.setCell ⟨g, i, none⟩ v) B ds vs bs :=
  OwVs_frame ds (fun b hb => Below.heap_setCell _ _ _ _ (by have := (OwVs_lt ds h b hb).1; exact (show b ≠ g by omega))) h
theorem OwVs_plain {w : World} {B : Nat} {ds : List DV} {vs : List Value} {bs : List Nat} (h : OwVs w B ds vs bs) (u : Value) : OwVs w B (ds ++ [.pl u]) (vs ++ [u]) bs := by
  have h2 : OwVs w B [.pl u] [u] [] := by rw [OwVs]; exact ⟨u, [], [], [], rfl, rfl, by rw [OwV]; exact ⟨rfl, rfl⟩, by rw [OwVs]; exact ⟨rfl, rfl⟩⟩
  have h3 := OwVs_app h h2
  rwa [List.append_nil] at h3
theorem OwVs_start (w : World) (B : Nat) : OwVs w B [] [] [] := by rw [OwVs]; exact ⟨rfl, rfl⟩
theorem OwVs_struct {W W' : World} {B : Nat} {ds ds2 : List DV} {vs vs2 : List Value} {bs b2 : List Nat} (h : OwVs W B ds vs bs) (hn : bs.Nodup) (hb : Below W.heap.size W W') (h2 : OwVs W' W.heap.size ds2 vs2 b2) (hn2 : b2.Nodup) (hB : B ≤ W.heap.size) :
    OwVs W' B (ds ++ ds2) (vs ++ vs2) (bs ++ b2) ∧ (bs ++ b2).Nodup := by
  refine ⟨OwVs_app (OwVs_below h hb) (OwVs_wide hB ds2 h2), ?_⟩
  rw [List.nodup_append]
  refine ⟨hn, hn2, fun a ha c hc e => ?_⟩
  have h3 := (OwVs_lt ds h a ha).2
  have h4 := (OwVs_lt ds2 h2 c hc).1
  omega
theorem OwVs_row {W W' : World} {B : Nat} {ds : List DV} {d : DV} {vs : List Value} {v : Value} {bs b2 : List Nat} (h : OwVs W B ds vs bs) (hn : bs.Nodup) (hb : Below W.heap.size W W') (h2 : OwV W' W.heap.size d v b2) (hn2 : b2.Nodup) (hB : B ≤ W.heap.size) :
    OwVs W' B (ds ++ [d]) (vs ++ [v]) (bs ++ b2) ∧ (bs ++ b2).Nodup :=
  OwVs_struct h hn hb (by rw [OwVs]; exact ⟨v, [], b2, [], rfl, by rw [List.append_nil], h2, by rw [OwVs]; exact ⟨rfl, rfl⟩⟩) hn2 hB

theorem OwV_shape {w : World} {B k n : Nat} {e : TypeId} {xs : List (List DV)} {v : Value} {bs : List Nat} (h : OwV w B (.row e k xs) v bs) (hn : xs.length = n) : ∃ A c, v = .slice A n c := by
  rw [OwV] at h
  obtain ⟨vs, bs', h1, _, _⟩ := h
  rw [hn] at h1
  rcases h1.2 with ⟨rfl, h0⟩ | ⟨g, cap, cur, rfl, _⟩
  · exact ⟨none, 0, by rw [h0]⟩
  · exact ⟨_, cap, rfl⟩

/-- Cells set one after another. -/
def setAt (cs : Array Value) (o : Nat) : List Value → Array Value
  | [] => cs
  | v :: r => setAt (cs.setIfInBounds o v) (o + 1) r
theorem setAt_size : ∀ (vs : List Value) (cs : Array Value) (o : Nat), (setAt cs o vs).size = cs.size
  | [], _, _ => rfl
  | v :: r, cs, o => by rw [setAt, setAt_size r]; simp
theorem setAt_take : ∀ (vs : List Value) (cs : Array Value) (o : Nat), o + vs.length ≤ cs.size → (setAt cs o vs).toList.take (o + vs.length) = cs.toList.take o ++ vs
  | [], cs, o, _ => by simp [setAt]
  | v :: r, cs, o, h => by
    rw [List.length_cons] at h
    have h1 := setAt_take r (cs.setIfInBounds o v) (o + 1) (by simp; omega)
    rw [setAt, List.length_cons, show o + (r.length + 1) = o + 1 + r.length by omega, h1]
    have h2 : (cs.setIfInBounds o v).toList.take (o + 1) = cs.toList.take o ++ [v] := by
      rw [Array.toList_setIfInBounds, List.take_succ_eq_append_getElem (by simp; omega), List.take_set_of_le (Nat.le_refl _)]
      simp
    rw [h2, List.append_assoc]
    rfl
theorem Whole.own {w : World} {g n K : Nat} {t : TypeId} {cs : Array Value} (h : Whole w g t cs) (hs : cs.size = n * K) (hn : n ≤ maxLen) : w.ownsRow g t K (.slice (some ⟨g, 0, none⟩) n n) n cs.toList :=
  ⟨by simpa using hs, .inr ⟨g, n, cs, rfl, Nat.le_refl _, h, Nat.le_refl _, hn, hs, List.take_of_length_le (by simp [hs])⟩⟩
/-- A row that has been filled. -/
theorem OwV_filled {w : World} {g n K : Nat} {t : TypeId} {cs : Array Value} {xs : List (List DV)} {bs : List Nat} (h : Whole w g t cs) (hs : cs.size = n * K) (hn : n ≤ maxLen) (hx : xs.length = n) (hE : OwVE w (g + 1) K xs cs.toList bs) (hnd : bs.Nodup) :
    OwV w g (.row t K xs) (.slice (some ⟨g, 0, none⟩) n n) (g :: bs) ∧ (g :: bs).Nodup := by
  refine ⟨?_, List.nodup_cons.2 ⟨fun hm => by have := (OwVE_lt xs hE g hm).1; omega, hnd⟩⟩
  rw [OwV]
  exact ⟨cs.toList, bs, by rw [hx]; exact h.own hs hn, OwVE_wide (Nat.le_succ g) xs hE, rfl⟩
/-- One element more of a row that is being filled. -/
theorem OwVE_fill {wr w1 w2 : World} {g K k : Nat} {cs : Array Value} {xs : List (List DV)} {x : List DV} {vs : List Value} {bs b2 : List Nat} (hE : OwVE wr (g + 1) K xs (cs.toList.take (k * K)) bs) (hn : bs.Nodup) (hb1 : Below wr.heap.size wr w1) (hg : g < wr.heap.size)
    (hx : OwVs w1 wr.heap.size x vs b2) (hn2 : b2.Nodup) (hk : x.length = K) (hcs : k * K + K ≤ cs.size) (h2 : ∀ b, b ≠ g → w2.heap[b]? = w1.heap[b]?) :
    OwVE w2 (g + 1) K (xs ++ [x]) ((setAt cs (k * K) vs).toList.take ((k + 1) * K)) (bs ++ b2) ∧ (bs ++ b2).Nodup := by
  have hv := OwVs_length hx
  have e : (setAt cs (k * K) vs).toList.take ((k + 1) * K) = cs.toList.take (k * K) ++ vs := by
    have := setAt_take vs cs (k * K) (by omega)
    rw [hv, hk] at this
    rw [Nat.add_mul, Nat.one_mul]
    exact this
  rw [e]
  refine ⟨OwVE_snoc (OwVE_frame xs (fun b hm => ?_) hE) hk (OwVs_frame x (fun b hm => h2 b ?_) (OwVs_wide (by omega) x hx)), ?_⟩
  · have := OwVE_lt xs hE b hm
    rw [h2 b (by omega)]
    exact hb1.block b this.2
  · have := (OwVs_lt x hx b hm).1
    omega
  · rw [List.nodup_append]
    refine ⟨hn, hn2, fun a ha c hc e => ?_⟩
    have h3 := (OwVE_lt xs hE a ha).2
    have h4 := (OwVs_lt x hx c hc).1
    omega
end Go.Proofs.Ytbcfeoobhemdcaa
namespace Go.Proofs.Ytbcfeoobhemdcaa
open Go.RowKit Go.Lib

theorem infoType : (Try.prog.info? 35).map (fun i => (i.zero, i.size, i.bytes)) = some (some (.agg #[.int .i64 0, .string ByteArray.empty, .slice none 0 0]), 3, 48) := by kernel_rfl
def ToType (N : Nat) : Prop := ∀ (x : TypeX) (v : Value) (w : World), DV.nodesL x.cells ≤ N → DV.wtL x.cells ≤ 1048576 → TypeAt w (Und w.heap.size) x v → Calls Try.prog 47 #[v] w (MadeV x.cells w)
def ToTypeS (N : Nat) : Prop := ∀ (l : List TypeX) (A : Option Addr) (c : Nat) (w : World), DV.nodesE (TypeX.rows l) ≤ N → DV.wtE (TypeX.rows l) ≤ 1048576 → TypeRow w (Und w.heap.size) A c l → Calls Try.prog 95 #[.slice A l.length c] w (MadeR (.row 35 3 (TypeX.rows l)) w)

set_option maxRecDepth 100000 in
set_option maxHeartbeats 2000000 in
theorem toType_step (N : Nat) (ihTypeS : ToTypeS N) : ToType N := by
  intro x v w hn hw hv
  obtain ⟨A2, c2, rfl, h2⟩ := hv
  rw [TypeX.wt_eq] at hw
  rw [TypeX.nodes_eq] at hn
  have H2 := Lib.hid h2
  have h1lt : w.heap.size + 1 < w.heap.size + 3 := by omega
  have h2lt : w.heap.size + 1 + 1 < w.heap.size + 3 := by omega
  have h1le : w.heap.size ≤ w.heap.size + 1 := by omega
  have h2le : w.heap.size ≤ w.heap.size + 1 + 1 := by omega
  have hne12 : w.heap.size + 1 ≠ w.heap.size + 1 + 1 := by omega
  clear h2
  go_enter Try.func47, Try.ntmps47
  go_wp2_with fail
  refine calls_gen (fun W => Whole W (w.heap.size + 1) 35 #[.int .i64 0, .string ⟨#[]⟩, .slice none 0 0] ∧ Whole W (w.heap.size + 1 + 1) 35 #[.int .i64 x.kind_, .string x.name_, .slice none 0 0] ∧ Below w.heap.size w W ∧ w.heap.size + 3 ≤ W.heap.size) ?_ ?_
  · refine ⟨?_, ?_, (((Below.refl _ _).alloc (Nat.le_refl _) _).alloc (by simp) _).alloc (by simp; omega) _, by simp⟩
    · have h := Whole.new (w.alloc (.cells #[.int .i64 x.kind_, .string x.name_, .slice A2 x.args_.length c2] 56)) 35 #[.int .i64 0, .string ⟨#[]⟩, .slice none 0 0]
      have h2 := h.below ((Below.refl _ _).alloc (Nat.le_refl _) (.cells #[.int .i64 x.kind_, .string x.name_, .slice none 0 0] 35)) h.lt
      simpa using h2
    · have h := Whole.new ((w.alloc (.cells #[.int .i64 x.kind_, .string x.name_, .slice A2 x.args_.length c2] 56)).alloc (.cells #[.int .i64 0, .string ⟨#[]⟩, .slice none 0 0] 35)) 35 #[.int .i64 x.kind_, .string x.name_, .slice none 0 0]
      simpa using h
  rintro W1 ⟨r1, r2, hb, hsz⟩
  have hO : OwVs W1 (w.heap.size + 3) [.pl (.int .i64 x.kind_), .pl (.string x.name_)] [.int .i64 x.kind_, .string x.name_] [] := (OwVs_plain (OwVs_plain (OwVs_start _ _) _) _)
  have hN : ([] : List Nat).Nodup := List.nodup_nil
  refine (ihTypeS x.args_ _ _ _ (by omega) (by omega) (H2.out.grow hb)).mono ?_
  rintro e w1 ⟨v2, b2, rfl, o1, n1, bel1⟩
  obtain ⟨V2, C2, rfl⟩ := OwV_shape o1 (TypeX.rows_length _)
  obtain ⟨hO, hN⟩ := OwVs_row hO hN bel1 o1 n1 hsz
  have hb := hb.trans (bel1.mono hb.size)
  have hsz : w.heap.size + 3 ≤ w1.heap.size := Nat.le_trans hsz bel1.size
  have s1 := r1.below bel1 r1.lt
  have s2 := r2.below bel1 r2.lt
  have c1_0 : w1.cell? ⟨w.heap.size + 1, 0, none⟩ = some (.int .i64 0) := by rw [s1.cell]; rfl
  have c2_0 : w1.cell? ⟨w.heap.size + 1 + 1, 0, none⟩ = some (.int .i64 x.kind_) := by rw [s2.cell]; rfl
  have f1_0 := s1.frozen 0
  have f2_0 := s2.frozen 0
  have c1_1 : w1.cell? ⟨w.heap.size + 1, 1, none⟩ = some (.string ⟨#[]⟩) := by rw [s1.cell]; rfl
  have c2_1 : w1.cell? ⟨w.heap.size + 1 + 1, 1, none⟩ = some (.string x.name_) := by rw [s2.cell]; rfl
  have f1_1 := s1.frozen 1
  have f2_1 := s2.frozen 1
  have c1_2 : w1.cell? ⟨w.heap.size + 1, 2, none⟩ = some (.slice none 0 0) := by rw [s1.cell]; rfl
  have c2_2 : w1.cell? ⟨w.heap.size + 1 + 1, 2, none⟩ = some (.slice none 0 0) := by rw [s2.cell]; rfl
  have f1_2 := s1.frozen 2
  have f2_2 := s2.frozen 2
  clear bel1
  have HO := Lib.hid hO
  have HB := Lib.hid hb
  clear hO
  go_wp2
  refine bodyPost_ret (v := .agg #[.int .i64 x.kind_, .string x.name_, .slice V2 x.args_.length C2]) (by simp [results, Try.results47, go_sem, c1_0, c1_1, c1_2]) rfl ⟨[.int .i64 x.kind_, .string x.name_, .slice V2 x.args_.length C2], _, rfl, ?_, hN, ?_⟩
  · rw [TypeX.cells_eq]
    exact OwVs_wide (show w.heap.size ≤ w.heap.size + 3 by omega) _ (OwVs_set (OwVs_set (OwVs_set (OwVs_set HO.out h2lt _ _) h1lt _ _) h1lt _ _) h1lt _ _)
  · exact ((((HB.out.setCell h2le _).setCell h1le _).setCell h1le _).setCell h1le _)

set_option maxRecDepth 100000 in
set_option maxHeartbeats 2000000 in
theorem toTypeS_step (N : Nat) (ih : ToType N) : ToTypeS (N + 1) := by
  intro l A c w hn hw hl
  have hlen := wtVE_length (TypeX.rows l)
  rw [TypeX.rows_length] at hlen
  obtain ⟨i0, hi, hz0, hz1, hz2⟩ := info_parts infoType
  have km := fun (w : World) => run_make (P := Try.prog) w 33 35 i0 (.agg #[.int .i64 0, .string ByteArray.empty, .slice none 0 0]) Try.underlying33 hi hz0 .i64 .i64 (l.length : Int) (l.length : Int) (by omega) (by omega) (by rw [hz2]; omega) (by omega)
  simp only [Int.toNat_natCast, hz1] at km
  have hms : (madeCells (Value.agg #[.int .i64 0, .string ByteArray.empty, .slice none 0 0]).cells (l.length * 3)).size = l.length * 3 := size_madeCells _ _
  generalize madeCells (Value.agg #[.int .i64 0, .string ByteArray.empty, .slice none 0 0]).cells (l.length * 3) = cs0 at *
  have HL := Lib.hid hl
  have HN := Lib.hid hn
  have HW := Lib.hid hw
  have HM := Lib.hid hms
  clear hl hn hw hms hi hz0 hz1 hz2
  go_enter Try.func95, Try.ntmps95
  go_wp2
  clear km
  have hb0 : Below w.heap.size w (w.alloc (.cells cs0 35)) := (Below.refl _ _).alloc (Nat.le_refl _) _
  have hw0 := Whole.new w 35 cs0
  go_loopw [4] (fun iv wr => ∃ (k : Nat) (cs : Array Value) (bs : List Nat), k ≤ l.length ∧ iv = .int .i64 k ∧ Whole wr w.heap.size 35 cs ∧ cs.size = l.length * 3 ∧ OwVE wr (w.heap.size + 1) 3 (TypeX.rows (l.take k)) (cs.toList.take (k * 3)) bs ∧ bs.Nodup ∧ Below w.heap.size w wr) (fun iv _ => l.length - (Go.RowKit.intOf iv).toNat)
  case atStart => exact ⟨0, cs0, [], Nat.zero_le _, rfl, hw0, HM.out, by rw [List.take_zero, TypeX.rows_map, List.map_nil, Nat.zero_mul, List.take_zero, OwVE]; exact ⟨rfl, rfl⟩, List.nodup_nil, hb0⟩
  case round =>
    obtain ⟨k, cs, bs, hk, rfl, hwr, hcs, hE, hnd, hb⟩ := hrel
    clear hw0 hb0
    by_cases hlt : k < l.length
    · obtain ⟨b, o, A2, c2, hA, hP, p0, p1, p2, h2⟩ := (HL.out.grow hb).at_ hlt
      subst hA
      have hnx := nodesVE_at (TypeX.rows l) k (by rw [TypeX.rows_length]; exact hlt)
      rw [TypeX.rows_at l k hlt] at hnx
      have HNX := Lib.hid (show DV.nodesL l[k].cells ≤ N by have := HN.out; omega)
      clear hnx
      have hwx : DV.wtL l[k].cells ≤ 1048576 := by
        have h := wtVE_at (TypeX.rows l) k (by rw [TypeX.rows_length]; exact hlt)
        rw [TypeX.rows_at l k hlt] at h
        have := HW.out
        omega
      have hX : TypeAt wr (Und wr.heap.size) l[k] (.agg #[.int .i64 l[k].kind_, .string l[k].name_, .slice A2 l[k].args_.length c2]) := ⟨A2, c2, rfl, h2⟩
      have HX := Lib.hid hX
      clear hX
      have HE := Lib.hid hE
      have HND := Lib.hid hnd
      clear h2 hE hnd
      go_wp2_with fail
      refine (ih l[k] _ _ HNX.out hwx HX.out).mono ?_
      rintro e w1 ⟨vs, b2, rfl, ho2, hn2, hb1⟩
      have hcell := TypeX.cells_length l[k]
      have hw1 := hwr.below hb1 hwr.lt
      have hfill := fun (w2 : World) (h2 : ∀ b, b ≠ w.heap.size → w2.heap[b]? = w1.heap[b]?) => OwVE_fill HE.out HND.out hb1 hwr.lt ho2 hn2 hcell (by have : (k + 1) * 3 ≤ l.length * 3 := Nat.mul_le_mul_right _ hlt; omega) h2
      have ho3 := ho2
      rw [TypeX.cells_eq] at ho3
      simp only [OwVs] at ho3
      obtain ⟨v0, _, z0, _, rfl, rfl, k0, v1, _, z1, _, rfl, rfl, k1, v2, _, z2, _, rfl, rfl, k2, rfl, rfl⟩ := ho3
      rw [OwV] at k0
      obtain ⟨rfl, rfl⟩ := k0
      rw [OwV] at k1
      obtain ⟨rfl, rfl⟩ := k1
      obtain ⟨V2, C2, rfl⟩ := OwV_shape k2 (TypeX.rows_length _)
      obtain ⟨d0, e0⟩ : ∃ v, w1.cell? ⟨w.heap.size, k * 3, none⟩ = some v := by rw [hw1.cell]; exact ⟨_, Array.getElem?_eq_getElem (by have : (k + 1) * 3 ≤ l.length * 3 := Nat.mul_le_mul_right _ hlt; omega)⟩
      have f0 := hw1.frozen (k * 3)
      obtain ⟨d1, e1⟩ : ∃ v, w1.cell? ⟨w.heap.size, k * 3 + 1, none⟩ = some v := by rw [hw1.cell]; exact ⟨_, Array.getElem?_eq_getElem (by have : (k + 1) * 3 ≤ l.length * 3 := Nat.mul_le_mul_right _ hlt; omega)⟩
      have f1 := hw1.frozen (k * 3 + 1)
      obtain ⟨d2, e2⟩ : ∃ v, w1.cell? ⟨w.heap.size, k * 3 + 2, none⟩ = some v := by rw [hw1.cell]; exact ⟨_, Array.getElem?_eq_getElem (by have : (k + 1) * 3 ≤ l.length * 3 := Nat.mul_le_mul_right _ hlt; omega)⟩
      have f2 := hw1.frozen (k * 3 + 2)
      have HF := Lib.hid hfill
      have hb2 : Below w.heap.size w w1 := hb.trans (hb1.mono hb.size)
      have hkb : (k : Int) ≤ 1048576 := by have := HW.out; omega
      clear hfill ho2 hn2 hcell k2
      go_wp2
      go_roundw
      case rel =>
        have hfin := HF.out (((w1.setCell ⟨w.heap.size, k * 3, none⟩ (.int .i64 l[k].kind_)).setCell ⟨w.heap.size, k * 3 + 1, none⟩ (.string l[k].name_)).setCell ⟨w.heap.size, k * 3 + 2, none⟩ (.slice V2 l[k].args_.length C2)) (fun b hne => by rw [Below.heap_setCell _ _ _ _ (by exact hne), Below.heap_setCell _ _ _ _ (by exact hne), Below.heap_setCell _ _ _ _ (by exact hne)])
        exact ⟨k + 1, _, _, by omega, by go_num, show Whole _ _ _ (setAt cs (k * 3) [.int .i64 l[k].kind_, .string l[k].name_, .slice V2 l[k].args_.length C2]) from (((hw1.set_ _ _).set_ _ _).set_ _ _), by rw [setAt_size]; exact hcs, by rw [List.take_succ_eq_append_getElem hlt, TypeX.rows_snoc]; exact hfin.1, hfin.2, (((hb2.setCell (Nat.le_refl _) _).setCell (Nat.le_refl _) _).setCell (Nat.le_refl _) _)⟩
      case measure => simp [Go.RowKit.intOf]; omega
    · have hkl : k = l.length := by omega
      subst hkl
      rw [List.take_length, List.take_of_length_le (by simp [hcs])] at hE
      have hfin := OwV_filled hwr hcs (by have := HW.out; unfold maxLen; omega) (TypeX.rows_length l) hE hnd
      have HF := Lib.hid hfin
      clear hE hnd hfin
      go_wp2
      go_ret
      exact ⟨_, _, rfl, HF.out.1, HF.out.2, hb⟩

set_option maxRecDepth 100000 in
set_option maxHeartbeats 2000000 in
theorem toEmpty_Type (A : Option Addr) (c : Nat) (w : World) : Calls Try.prog 95 #[.slice A 0 c] w (MadeR (.row 35 3 (TypeX.rows [])) w) := by
  obtain ⟨i0, hi, hz0, hz1, hz2⟩ := info_parts infoType
  have km := fun (w : World) => run_make (P := Try.prog) w 33 35 i0 (.agg #[.int .i64 0, .string ByteArray.empty, .slice none 0 0]) Try.underlying33 hi hz0 .i64 .i64 (0 : Int) (0 : Int) (by omega) (by omega) (by rw [hz2]; omega) (by omega)
  simp only [Int.toNat_zero, Nat.zero_mul] at km
  have hms : (madeCells (Value.agg #[.int .i64 0, .string ByteArray.empty, .slice none 0 0]).cells 0).size = 0 := size_madeCells _ _
  generalize madeCells (Value.agg #[.int .i64 0, .string ByteArray.empty, .slice none 0 0]).cells 0 = cs0 at *
  have hw0 := Whole.new w 35 cs0
  have hb0 : Below w.heap.size w (w.alloc (.cells cs0 35)) := (Below.refl _ _).alloc (Nat.le_refl _) _
  have hfin := OwV_filled hw0 (n := 0) (K := 3) (by omega) (by unfold maxLen; omega) (xs := TypeX.rows []) (TypeX.rows_length []) (bs := []) (by rw [TypeX.rows_map, List.map_nil, OwVE]; exact ⟨List.eq_nil_of_length_eq_zero (by simpa using hms), rfl⟩) List.nodup_nil
  have HF := Lib.hid hfin
  have HB := Lib.hid hb0
  clear hi hz0 hz1 hz2 hms hw0 hb0 hfin
  go_enter Try.func95, Try.ntmps95
  go_wp2
  clear km
  refine wp_loop_rounds 1 ?_
  rw [rounds_succ]
  go_wp2
  go_ret
  exact ⟨_, _, rfl, HF.out.1, HF.out.2, HB.out⟩

theorem toZero_Type : ToTypeS 0 := by
  refine fun l A c w hn hw hl => ?_
  have hc := nodesVE_count (TypeX.rows l)
  rw [TypeX.rows_length] at hc
  have hl0 : l = [] := List.eq_nil_of_length_eq_zero (by omega)
  subst hl0
  exact toEmpty_Type A c w

theorem toRows_Type : ∀ N, ToTypeS N
  | 0 => toZero_Type
  | N + 1 => toTypeS_step N (toType_step N (toRows_Type N))
theorem toType (x : TypeX) (v : Value) (w : World) (hw : DV.wtL x.cells ≤ 1048576) (hv : TypeAt w (Und w.heap.size) x v) : Calls Try.prog 47 #[v] w (MadeV x.cells w) := (toType_step (DV.nodesL x.cells) (toRows_Type (DV.nodesL x.cells))) x v w (Nat.le_refl _) hw hv
theorem toTypeS (l : List TypeX) (A : Option Addr) (c : Nat) (w : World) (hw : DV.wtE (TypeX.rows l) ≤ 1048576) (hv : TypeRow w (Und w.heap.size) A c l) : Calls Try.prog 95 #[.slice A l.length c] w (MadeR (.row 35 3 (TypeX.rows l)) w) := (toRows_Type (DV.nodesE (TypeX.rows l))) l A c w (Nat.le_refl _) hw hv
end Go.Proofs.Ytbcfeoobhemdcaa
namespace Go.Proofs.Ytbcfeoobhemdcaa
open Go.RowKit Go.Lib

theorem TypeX.nodes_sum (x : TypeX) : DV.nodesL x.cells = DV.nodesE (TypeX.rows x.args_) := by
  rw [TypeX.cells_eq]
  simp only [DV.nodesL, DV.nodes]
  omega
def EqType (N : Nat) : Prop := ∀ (x : TypeX) (v v' : Value) (w : World), DV.nodesL x.cells ≤ N → TypeAt w (Und w.heap.size) x v → TypeAt w (Und w.heap.size) x v' →
  Calls Try.prog 49 #[v, v'] w fun e w' => e = .returned (.bool true) ∧ Below w.heap.size w w'
def EqTypeS (N : Nat) : Prop := ∀ (l : List TypeX) (A B : Option Addr) (c d : Nat) (w : World), DV.nodesE (TypeX.rows l) ≤ N → TypeRow w (Und w.heap.size) A c l → TypeRow w (Und w.heap.size) B d l →
  Calls Try.prog 99 #[.slice A l.length c, .slice B l.length d] w fun e w' => e = .returned (.bool true) ∧ Below w.heap.size w w'

set_option maxRecDepth 100000 in
set_option maxHeartbeats 2000000 in
theorem eqType_step (N : Nat) (ihTypeS : EqTypeS N) : EqType N := by
  intro x v v' w hn hv hv'
  obtain ⟨A2, c2, rfl, h2⟩ := hv
  obtain ⟨B2, d2, rfl, g2⟩ := hv'
  have hb0 : Below w.heap.size w ((w.alloc (.cells #[.int .i64 x.kind_, .string x.name_, .slice A2 x.args_.length c2] 35)).alloc (.cells #[.int .i64 x.kind_, .string x.name_, .slice B2 x.args_.length d2] 35)) := ((Below.refl _ _).alloc (Nat.le_refl _) _).alloc (by simp) _
  have H2 := Lib.hid (h2.grow hb0)
  have G2 := Lib.hid (g2.grow hb0)
  have HN := Lib.hid hn
  have HNE := Lib.hid (TypeX.nodes_sum x)
  clear h2 g2 hn
  go_enter Try.func49, Try.ntmps49
  go_wp2_with fail
  refine (ihTypeS x.args_ _ _ _ _ _ (by have := HN.out; have := HNE.out; omega) H2.out G2.out).mono ?_
  rintro e w1 ⟨rfl, b1⟩
  have hb1 : Below w.heap.size w w1 := hb0.trans (b1.mono hb0.size)
  go_wp2
  go_ret
  exact ⟨rfl, hb1⟩

set_option maxRecDepth 100000 in
set_option maxHeartbeats 2000000 in
theorem eqTypeS_step (N : Nat) (ih : EqType N) : EqTypeS (N + 1) := by
  intro l A B c d w hn hA hB
  have hlen := hA.cap
  have HA := Lib.hid hA
  have HB := Lib.hid hB
  have HN := Lib.hid hn
  clear hA hB hn
  go_enter Try.func99, Try.ntmps99
  go_wp2
  go_loopw [5] (fun iv wr => ∃ k : Nat, k ≤ l.length ∧ iv = .int .i64 k ∧ Below w.heap.size w wr) (fun iv _ => l.length - (Go.RowKit.intOf iv).toNat)
  case atStart => exact ⟨0, Nat.zero_le _, rfl, Below.refl _ _⟩
  case round =>
    obtain ⟨k, hk, rfl, hb⟩ := hrel
    by_cases hlt : k < l.length
    · obtain ⟨b, o, A2, c2, hA, hP, p0, p1, p2, h2⟩ := (HA.out.grow hb).at_ hlt
      subst hA
      obtain ⟨b2, o2, B2, d2, hB, hP2, r0, r1, r2, g2⟩ := (HB.out.grow hb).at_ hlt
      subst hB
      have hnx := nodesVE_at (TypeX.rows l) k (by rw [TypeX.rows_length]; exact hlt)
      rw [TypeX.rows_at l k hlt] at hnx
      have hn' : DV.nodesL l[k].cells ≤ N := by have := HN.out; omega
      have cE : ∀ dr os, Calls Try.prog 49 #[.agg #[.int .i64 l[k].kind_, .string l[k].name_, .slice A2 l[k].args_.length c2], .agg #[.int .i64 l[k].kind_, .string l[k].name_, .slice B2 l[k].args_.length d2]] (Go.Sort.grow (redrawn wr dr) os) fun e w'' => e = .returned (.bool true) ∧ ∃ p : Regrown, w'' = Go.Sort.grow (redrawn wr p.d) p.os :=
        fun dr os => Calls.regrown_of (ih l[k] _ _ _ hn' ⟨_, _, rfl, h2.grow (below_regrown wr dr os)⟩ ⟨_, _, rfl, g2.grow (below_regrown wr dr os)⟩)
      have kp0 := cell_regrown p0
      have kr0 := cell_regrown r0
      have kp1 := cell_regrown p1
      have kr1 := cell_regrown r1
      have kp2 := cell_regrown p2
      have kr2 := cell_regrown r2
      have hk0 : (0 : Int) ≤ k := by omega
      clear h2 g2 hnx hn'
      go_wp2
      refine wp_region_quiet_below (by kernel_rfl) (by kernel_rfl) ?_
      repeat (quiet_step (exact cE _ _))
      refine wpQuiet_nil ?_
      intro _ hw'
      obtain ⟨⟨dq, osq⟩, hw''⟩ := hw'
      subst hw''
      have hb3 := hb.trans ((below_regrown wr dq osq).mono hb.size)
      clear cE kp0 kr0 kp1 kr1 kp2 kr2
      go_wp2
      go_roundw
      case rel => exact ⟨k + 1, by omega, by go_num, hb3⟩
      case measure => simp [Go.RowKit.intOf]; omega
    · go_wp2
      go_ret
      exact ⟨rfl, hb⟩

theorem eqRows_Type : ∀ N, EqTypeS N
  | 0 => by
    intro l A B c d w hn _ _
    have hc := nodesVE_count (TypeX.rows l)
    rw [TypeX.rows_length] at hc
    have hl : l = [] := List.eq_nil_of_length_eq_zero (by omega)
    subst hl
    go_enter Try.func99, Try.ntmps99
    go_wp2
    refine wp_loop_rounds 1 ?_
    rw [rounds_succ]
    go_wp2
    go_ret
    exact ⟨rfl, Below.refl _ _⟩
  | N + 1 => eqTypeS_step N (eqType_step N (eqRows_Type N))
theorem eqType (x : TypeX) (v v' : Value) (w : World) (hv : TypeAt w (Und w.heap.size) x v) (hv' : TypeAt w (Und w.heap.size) x v') :
    Calls Try.prog 49 #[v, v'] w fun e w' => e = .returned (.bool true) ∧ Below w.heap.size w w' := (eqType_step (DV.nodesL x.cells) (eqRows_Type (DV.nodesL x.cells))) x v v' w (Nat.le_refl _) hv hv'
theorem eqTypeS (l : List TypeX) (A B : Option Addr) (c d : Nat) (w : World) (hv : TypeRow w (Und w.heap.size) A c l) (hv' : TypeRow w (Und w.heap.size) B d l) :
    Calls Try.prog 99 #[.slice A l.length c, .slice B l.length d] w fun e w' => e = .returned (.bool true) ∧ Below w.heap.size w w' := (eqRows_Type (DV.nodesE (TypeX.rows l))) l A B c d w (Nat.le_refl _) hv hv'
end Go.Proofs.Ytbcfeoobhemdcaa
namespace Go.Proofs.Ytbcfeoobhemdcaa
open Go.RowKit Go.Lib

mutual
def TypeX.size : TypeX → Nat
  | .mk _ _ l => 1 + TypeX.sizeL l
def TypeX.sizeL : List TypeX → Nat
  | [] => 0
  | x :: r => x.size + TypeX.sizeL r
end
theorem TypeX.size_eq (x : TypeX) : x.size = 1 + TypeX.sizeL x.args_ := by cases x with | mk a b c => rw [TypeX.size]; rfl
theorem TypeX.sizeL_take : ∀ (l : List TypeX) (j : Nat) (h : j < l.length), TypeX.sizeL (l.take (j + 1)) = TypeX.sizeL (l.take j) + l[j].size
  | x :: r, 0, _ => by simp [TypeX.sizeL]
  | x :: r, j + 1, h => by
    have := TypeX.sizeL_take r j (by simpa using h)
    rw [List.take_succ_cons, List.take_succ_cons, TypeX.sizeL, TypeX.sizeL, this]
    simp; omega
theorem TypeX.sizeL_le : ∀ (l : List TypeX) (j : Nat), TypeX.sizeL (l.take j) ≤ TypeX.sizeL l
  | [], j => by simp
  | x :: r, 0 => by simp [TypeX.sizeL]
  | x :: r, j + 1 => by
    have := TypeX.sizeL_le r j
    rw [List.take_succ_cons, TypeX.sizeL, TypeX.sizeL]; omega

set_option maxRecDepth 100000 in
set_option maxHeartbeats 2000000 in
theorem specTySize_step (N : Nat) (ih : ∀ (y : TypeX) (v : Value) (w : World), DV.nodesL y.cells < N → TypeX.size y ≤ 4294967296 → TypeAt w (Und w.heap.size) y v → Calls Try.prog 27 #[v] w fun e w' => e = .returned (.int .i64 (TypeX.size y : Nat)) ∧ Below w.heap.size w w') :
    ∀ (x : TypeX) (v : Value) (w : World), DV.nodesL x.cells ≤ N → TypeX.size x ≤ 4294967296 → TypeAt w (Und w.heap.size) x v → Calls Try.prog 27 #[v] w fun e w' => e = .returned (.int .i64 (TypeX.size x : Nat)) ∧ Below w.heap.size w w' := by
  intro x v w hn hs0 hv
  obtain ⟨A2, c2, rfl, h2⟩ := hv
  have hcap := h2.cap
  rw [TypeX.nodes_eq] at hn
  have hb0 : Below w.heap.size w (w.alloc (.cells #[.int .i64 x.kind_, .string x.name_, .slice A2 x.args_.length c2] 35)) := (Below.refl _ _).alloc (Nat.le_refl _) _
  have hx0 := Whole.new w 35 #[.int .i64 x.kind_, .string x.name_, .slice A2 x.args_.length c2]
  have hr0 := h2.grow hb0
  have HX0 := Lib.hid hx0
  have HR0 := Lib.hid hr0
  have HN := Lib.hid hn
  have HS0 := Lib.hid hs0
  clear hs0
  clear h2 hn hx0 hr0
  go_enter Try.func27, Try.ntmps27
  go_wp2
  go_loopw [3, 4] (fun mv iv wr => ∃ k m : Nat, k ≤ x.args_.length ∧ iv = .int .i64 k ∧ m = 1 + TypeX.sizeL (x.args_.take k) ∧ mv = .int .i64 m ∧ Whole wr w.heap.size 35 #[.int .i64 x.kind_, .string x.name_, .slice A2 x.args_.length c2] ∧ TypeRow wr (Und wr.heap.size) A2 c2 x.args_ ∧ Below w.heap.size w wr) (fun _ iv _ => x.args_.length - (Go.RowKit.intOf iv).toNat)
  case atStart => exact ⟨0, 1, Nat.zero_le _, rfl, by simp [TypeX.sizeL], rfl, HX0.out, HR0.out, hb0⟩
  case round =>
    clear HX0 HR0 hb0
    obtain ⟨k, m, hk, rfl, hm, rfl, hx, hr, hb⟩ := hrel
    have c2f : wr.cell? ⟨w.heap.size, 2, none⟩ = some (.slice A2 x.args_.length c2) := by rw [hx.cell]; rfl
    have hxlt := hx.lt
    by_cases hlt : k < x.args_.length
    · obtain ⟨b, o, A2', c2', hA, hP, q0, q1, q2, k2⟩ := hr.at_ hlt
      subst hA
      have hnx : DV.nodesL x.args_[k].cells < N := by
        have h := nodesVE_at (TypeX.rows x.args_) k (by rw [TypeX.rows_length]; exact hlt)
        rw [TypeX.rows_at x.args_ k hlt] at h
        have := HN.out
        omega
      have hst := TypeX.sizeL_take x.args_ k hlt
      have hle := TypeX.sizeL_le x.args_ (k + 1)
      have hse := TypeX.size_eq x
      have hs1 : m + x.args_[k].size ≤ 4294967296 := by have := HS0.out; omega
      have hm2 : m + x.args_[k].size = 1 + TypeX.sizeL (x.args_.take (k + 1)) := by omega
      have HM := Lib.hid hm2
      clear hst hle hse hm2 hm
      have HX := Lib.hid hx
      have HR := Lib.hid hr
      have HK := Lib.hid k2
      clear hx hr k2
      go_wp2_with fail
      refine (ih x.args_[k] _ _ hnx (by omega) ⟨_, _, rfl, HK.out⟩).mono ?_
      rintro e w1 ⟨rfl, hb1⟩
      have hb2 := hb.trans (hb1.mono hb.size)
      have hx1 := HX.out.below hb1 HX.out.lt
      have hr1 := HR.out.grow hb1
      have HX1 := Lib.hid hx1
      have HR1 := Lib.hid hr1
      clear hx1 hr1 hb1
      go_wp2
      go_roundw
      case rel => exact ⟨k + 1, m + x.args_[k].size, by omega, by go_num, HM.out, int_of (by omega), HX1.out, HR1.out, hb2⟩
      case measure => simp [Go.RowKit.intOf]; omega
    · have hkl : k = x.args_.length := by omega
      subst hkl
      rw [List.take_length] at hm
      have c0f : wr.cell? ⟨w.heap.size, 0, none⟩ = some (.int .i64 x.kind_) := by rw [hx.cell]; rfl
      rw [← TypeX.size_eq] at hm
      have HM := Lib.hid hm
      clear hm hx hr
      go_wp2
      go_ret
      exact ⟨ret_int (by rw [HM.out]), hb⟩
theorem specTySizeAll : ∀ (N : Nat) (x : TypeX) (v : Value) (w : World), DV.nodesL x.cells ≤ N → TypeX.size x ≤ 4294967296 → TypeAt w (Und w.heap.size) x v → Calls Try.prog 27 #[v] w fun e w' => e = .returned (.int .i64 (TypeX.size x : Nat)) ∧ Below w.heap.size w w'
  | 0 => specTySize_step 0 (fun _ _ _ h => absurd h (Nat.not_lt_zero _))
  | N + 1 => specTySize_step (N + 1) (fun y v w h => specTySizeAll N y v w (Nat.le_of_lt_succ h))
theorem specTySize (x : TypeX) (v : Value) (w : World) : TypeX.size x ≤ 4294967296 → TypeAt w (Und w.heap.size) x v → Calls Try.prog 27 #[v] w fun e w' => e = .returned (.int .i64 (TypeX.size x : Nat)) ∧ Below w.heap.size w w' := specTySizeAll _ x v w (Nat.le_refl _)
end Go.Proofs.Ytbcfeoobhemdcaa
namespace Go.Proofs.Ytbcfeoobhemdcaa
open Go.RowKit Go.Lib

mutual
theorem TypeX.size_wt : ∀ x : TypeX, x.size ≤ DV.wtL x.cells + 1
  | .mk a b c => by
    rw [TypeX.size, TypeX.cells]
    simp only [DV.wtL, DV.wt]
    have h := TypeX.sizeL_wt c
    omega
theorem TypeX.sizeL_wt : ∀ l : List TypeX, TypeX.sizeL l ≤ DV.wtE (TypeX.rows l)
  | [] => by rw [TypeX.sizeL]; omega
  | x :: r => by
    have h1 := TypeX.size_wt x
    have h2 := TypeX.sizeL_wt r
    rw [TypeX.sizeL, TypeX.rows, DV.wtE]; omega
end
/-- A new type reads as one. -/
theorem made_type {x : TypeX} {w w' : World} {e : Ending} (h : MadeV x.cells w e w') : ∃ (A : Option Addr) (c : Nat), e = .returned (.agg #[.int .i64 x.kind_, .string x.name_, .slice A x.args_.length c]) ∧ TypeRow w' (Und w'.heap.size) A c x.args_ ∧ Below w.heap.size w w' := by
  obtain ⟨vs, bs, rfl, ho, _, hb⟩ := h
  obtain ⟨A, c, e, hr⟩ := TypeAt.of_reads (OwVs_read (P := Und w'.heap.size) x.cells (fun b hb' => (OwVs_lt x.cells ho b hb').2) ho)
  exact ⟨A, c, by rw [e], hr, hb⟩
theorem cells3 {w : World} {g : Nat} {t : TypeId} {a b c : Value} (h : Whole w g t #[a, b, c]) : w.cell? ⟨g, 0, none⟩ = some a ∧ w.cell? ⟨g, 1, none⟩ = some b ∧ w.cell? ⟨g, 2, none⟩ = some c :=
  ⟨by rw [h.cell]; rfl, by rw [h.cell]; rfl, by rw [h.cell]; rfl⟩
theorem whole_keep {w w' : World} {g : Nat} {t : TypeId} {cs : Array Value} (h : Whole w g t cs) (hb : Below w.heap.size w w') : Whole w' g t cs := h.below hb h.lt
theorem TypeRow.drew_ {w : World} {A : Option Addr} {c : Nat} {l : List TypeX} (h : TypeRow w (Und w.heap.size) A c l) : TypeRow w.drew (Und w.drew.heap.size) A c l := h.frame (fun _ h => h) fun _ _ _ => rfl
end Go.Proofs.Ytbcfeoobhemdcaa
namespace Go.Proofs.Ytbcfeoobhemdcaa
open Go.Lib

/-- The digits of a number that the loop has still to write: none for 0. -/
def digs (u : Nat) : List UInt8 := if u = 0 then [] else decDigits u

theorem digs_zero : digs 0 = [] := rfl
theorem digs_pos {u : Nat} (h : u ≠ 0) : digs u = decDigits u := by unfold digs; rw [if_neg h]
theorem digs_step {u : Nat} (h : u ≠ 0) : digs u = digs (u / 10) ++ [UInt8.ofNat (48 + u % 10)] := by
  rw [digs_pos h, decDigits]
  by_cases h10 : u < 10
  · rw [dif_pos h10, show u / 10 = 0 by omega, digs_zero, Nat.mod_eq_of_lt h10]; rfl
  · rw [dif_neg h10, digs_pos (by omega)]
theorem digs_length_le : ∀ (k u : Nat), u < 10 ^ k → (digs u).length ≤ k
  | 0, u, h => by
    have : u = 0 := by simp at h; omega
    subst this; simp [digs_zero]
  | k + 1, u, h => by
    by_cases h0 : u = 0
    · subst h0; simp [digs_zero]
    · rw [digs_step h0, List.length_append]
      have := digs_length_le k (u / 10) (by rw [Nat.pow_succ] at h; omega)
      simp; omega
theorem itoa_of_neg {n : Int} (h : n < 0) : itoa n = 45 :: digs n.natAbs := by
  rw [itoa, if_pos h, digs_pos (by omega)]
theorem itoa_of_pos {n : Int} (h : 0 < n) : itoa n = digs n.natAbs := by
  rw [itoa, if_neg (by omega), digs_pos (by omega), show n.toNat = n.natAbs by omega]
theorem itoa_zero : itoa 0 = [48] := by rw [itoa, if_neg (by omega)]; rw [decDigits]; simp
end Go.Proofs.Ytbcfeoobhemdcaa
namespace Go.Proofs.Ytbcfeoobhemdcaa
open Go.RowKit Go.Lib

/-- The text of a mark. -/
def mark (k : Nat) : ByteArray := ⟨(109 :: digs k).toArray⟩
theorem mark_step (m : Nat) (l : List UInt8) (h : 0 < m) (b : UInt8) (hb : b = UInt8.ofNat (48 + m % 10)) : digs (m / 10) ++ b :: l = digs m ++ l := by
  rw [digs_step (show m ≠ 0 by omega), hb]
  simp

set_option maxRecDepth 100000 in
set_option maxHeartbeats 400000 in
theorem markText (n : Nat) (w : World) (h0 : 0 < n) (h1 : n ≤ 9223372036854775807) :
    Calls Try.prog 131 #[.int .i64 n] w fun e w' => e = .returned (.string (mark n)) ∧ Below w.heap.size w w' := by
  have kc := fun (w : World) (z : Int) => conv_one (P := Try.prog) Try.underlying22 Try.underlying5 Try.underlying9 w z
  go_enter Try.func131, Try.ntmps131
  go_wp2
  go_loopw [0, 3] (fun a s wr => ∃ (m : Nat) (l : List UInt8), m ≤ n ∧ a = .int .i64 m ∧ s = .string ⟨l.toArray⟩ ∧ digs m ++ l = digs n ∧ Below w.heap.size w wr) (fun a _ _ => (Go.RowKit.intOf a).toNat)
  case atStart => exact ⟨n, [], by omega, rfl, rfl, by simp, Below.refl _ _⟩
  case round =>
    obtain ⟨m, l, hm1, rfl, rfl, hl, hb⟩ := hrel
    have hll : (l.length : Int) ≤ 20 := by
      have := congrArg List.length hl
      have := digs_length_le 20 n (by omega)
      rw [List.length_append] at *
      omega
    have HL := Lib.hid hl; clear hl
    by_cases hz : 0 < m
    · go_wp2
      go_roundw
      case rel => exact ⟨m / 10, (48 + UInt8.ofNat (m % 10)) :: l, by omega, int_of (by omega), str_of (append_byte _ _), by rw [← HL.out]; exact mark_step m l hz _ (by rw [show (48 : UInt8) = UInt8.ofNat 48 from rfl, ← UInt8.ofNat_add]), hb.alloc hb.size _⟩
      case measure => simp [Go.RowKit.intOf]; omega
    · go_wp2
      go_ret
      refine ⟨ret_str ?_, hb⟩
      have := HL.out
      rw [show m = 0 by omega, digs_zero, List.nil_append] at this
      rw [mark, ← this]
      exact append_byte 109 l

end Go.Proofs.Ytbcfeoobhemdcaa
namespace Go.Proofs.Ytbcfeoobhemdcaa
open Go.RowKit Go.Lib

mutual
/-- How many marks. -/
def DV.cnt : DV → Nat
  | .pl _ => 1
  | .row _ _ xs => DV.cntE xs
def DV.cntL : List DV → Nat
  | [] => 0
  | d :: r => d.cnt + DV.cntL r
def DV.cntE : List (List DV) → Nat
  | [] => 0
  | x :: r => DV.cntL x + DV.cntE r
end
/-- A plain value's mark. -/
def vmkU (k : Nat) : Value → Value
  | .string _ => .string (mark k)
  | .int q _ => .int q k
  | .bool _ => .bool ((k : Int) % 3 == 0)
  | u => u
mutual
/-- Marked from k on. -/
def DV.vmk (k : Nat) : DV → DV
  | .pl u => .pl (vmkU k u)
  | .row e s xs => .row e s (vmkE k xs)
def vmkL (k : Nat) : List DV → List DV
  | [] => []
  | d :: r => d.vmk k :: vmkL (k + d.cnt) r
def vmkE (k : Nat) : List (List DV) → List (List DV)
  | [] => []
  | x :: r => vmkL k x :: vmkE (k + DV.cntL x) r
end
theorem vmkL_length : ∀ (ds : List DV) (k : Nat), (vmkL k ds).length = ds.length
  | [], _ => by rw [vmkL]
  | d :: r, k => by rw [vmkL, List.length_cons, List.length_cons, vmkL_length r]
theorem vmkE_length : ∀ (l : List (List DV)) (k : Nat), (vmkE k l).length = l.length
  | [], _ => by rw [vmkE]
  | x :: r, k => by rw [vmkE, List.length_cons, List.length_cons, vmkE_length r]
theorem vmkE_take : ∀ (l : List (List DV)) (k i : Nat) (h : i < l.length), vmkE k (l.take (i + 1)) = vmkE k (l.take i) ++ [vmkL (k + DV.cntE (l.take i)) l[i]]
  | x :: r, k, 0, _ => by simp [vmkE, DV.cntE]
  | x :: r, k, i + 1, h => by
    rw [List.take_succ_cons, List.take_succ_cons, vmkE, vmkE, vmkE_take r _ i (by simpa using h), DV.cntE]
    simp [Nat.add_assoc]
theorem vmkE_at : ∀ (l : List (List DV)) (k i : Nat) (h : i < l.length), (vmkE k l)[i]? = some (vmkL (k + DV.cntE (l.take i)) l[i])
  | x :: r, k, 0, _ => by simp [vmkE, DV.cntE]
  | x :: r, k, i + 1, h => by
    rw [vmkE, List.getElem?_cons_succ, vmkE_at r _ i (by simpa using h), List.take_succ_cons, DV.cntE]
    simp [Nat.add_assoc]
theorem cntE_step : ∀ (l : List (List DV)) (j : Nat) (h : j < l.length), DV.cntE (l.take (j + 1)) = DV.cntE (l.take j) + DV.cntL l[j]
  | x :: r, 0, _ => by simp [DV.cntE]
  | x :: r, j + 1, h => by
    have := cntE_step r j (by simpa using h)
    rw [List.take_succ_cons, List.take_succ_cons, DV.cntE, DV.cntE, this]
    simp; omega
theorem cntE_part : ∀ (l : List (List DV)) (j : Nat), DV.cntE (l.take j) ≤ DV.cntE l
  | [], j => by simp
  | x :: r, 0 => by simp [DV.cntE]
  | x :: r, j + 1 => by
    have := cntE_part r j
    rw [List.take_succ_cons, DV.cntE, DV.cntE]; omega

/-- All blocks but these are as they were. -/
structure ButV (bs : List Nat) (w w' : World) : Prop where
  os : w'.os = w.os
  tape : w'.tape = w.tape
  output : w'.output = w.output
  size : w.heap.size ≤ w'.heap.size
  block : ∀ b, b < w.heap.size → b ∉ bs → w'.heap[b]? = w.heap[b]?
theorem ButV.refl (bs : List Nat) (w : World) : ButV bs w w := ⟨rfl, rfl, rfl, Nat.le_refl _, fun _ _ _ => rfl⟩
theorem ButV.trans {bs : List Nat} {a b c : World} (h : ButV bs a b) (k : ButV bs b c) : ButV bs a c :=
  ⟨k.os.trans h.os, k.tape.trans h.tape, k.output.trans h.output, Nat.le_trans h.size k.size, fun i hi hn => (k.block i (Nat.lt_of_lt_of_le hi h.size) hn).trans (h.block i hi hn)⟩
theorem ButV.of_below {bs : List Nat} {w w' : World} (h : Below w.heap.size w w') : ButV bs w w' := ⟨h.os, h.tape, h.output, h.size, fun b hb _ => h.block b hb⟩
theorem ButV.more {bs cs : List Nat} {w w' : World} (h : ButV bs w w') (hs : ∀ b ∈ bs, b ∈ cs) : ButV cs w w' := ⟨h.os, h.tape, h.output, h.size, fun b hb hn => h.block b hb fun hm => hn (hs b hm)⟩
theorem ButV.set_ {bs : List Nat} {a w : World} (h : ButV bs a w) {g : Nat} (hg : g ∈ bs) (i : Nat) (v : Value) : ButV bs a (w.setCell ⟨g, i, none⟩ v) :=
  h.trans ⟨rfl, rfl, rfl, by simp [World.setCell], fun b _ hn => Below.heap_setCell _ _ _ _ (by exact (fun e => hn (by rw [e]; exact hg)))⟩
theorem ButV.below {bs : List Nat} {B : Nat} {w w' : World} (h : ButV bs w w') (hB : B ≤ w.heap.size) (hbs : ∀ b ∈ bs, B ≤ b) : Below B w w' :=
  ⟨h.os, h.tape, h.output, h.size, fun k hk => h.block k (by omega) (fun hm => by have := hbs k hm; omega)⟩

theorem OwVE_split {w : World} {B K : Nat} : ∀ (p : List (List DV)) {x : List DV} {q : List (List DV)} {vs : List Value} {bs : List Nat}, OwVE w B K (p ++ x :: q) vs bs →
    ∃ vp vx vq bp bx bq, vs = vp ++ (vx ++ vq) ∧ bs = bp ++ (bx ++ bq) ∧ OwVE w B K p vp bp ∧ x.length = K ∧ OwVs w B x vx bx ∧ OwVE w B K q vq bq
  | [], x, q, vs, bs, h => by
    rw [List.nil_append, OwVE] at h
    obtain ⟨v1, v2, b1, b2, rfl, rfl, hk, h1, h2⟩ := h
    exact ⟨[], v1, v2, [], b1, b2, rfl, rfl, by rw [OwVE]; exact ⟨rfl, rfl⟩, hk, h1, h2⟩
  | y :: p, x, q, vs, bs, h => by
    rw [List.cons_append, OwVE] at h
    obtain ⟨v1, v2, b1, b2, rfl, rfl, hk, h1, h2⟩ := h
    obtain ⟨vp, vx, vq, bp, bx, bq, rfl, rfl, h3, h4, h5, h6⟩ := OwVE_split p h2
    refine ⟨v1 ++ vp, vx, vq, b1 ++ bp, bx, bq, by rw [List.append_assoc], by rw [List.append_assoc], ?_, h4, h5, h6⟩
    rw [OwVE]
    exact ⟨v1, vp, b1, bp, rfl, rfl, hk, h1, h3⟩
theorem OwVE_join {w : World} {B K : Nat} : ∀ (p : List (List DV)) {x : List DV} {q : List (List DV)} {vp vx vq : List Value} {bp bx bq : List Nat}, OwVE w B K p vp bp → x.length = K → OwVs w B x vx bx → OwVE w B K q vq bq →
    OwVE w B K (p ++ x :: q) (vp ++ (vx ++ vq)) (bp ++ (bx ++ bq))
  | [], x, q, vp, vx, vq, bp, bx, bq, h, hk, hx, hq => by
    rw [OwVE] at h
    obtain ⟨rfl, rfl⟩ := h
    rw [List.nil_append, List.nil_append, List.nil_append, OwVE]
    exact ⟨vx, vq, bx, bq, rfl, rfl, hk, hx, hq⟩
  | y :: p, x, q, vp, vx, vq, bp, bx, bq, h, hk, hx, hq => by
    rw [OwVE] at h
    obtain ⟨v1, v2, b1, b2, rfl, rfl, hk1, h1, h2⟩ := h
    rw [List.cons_append, OwVE]
    exact ⟨v1, _, b1, _, by rw [List.append_assoc], by rw [List.append_assoc], hk1, h1, OwVE_join p h2 hk hx hq⟩
theorem OwVs_split {w : World} {B : Nat} : ∀ (p : List DV) {d : DV} {q : List DV} {vs : List Value} {bs : List Nat}, OwVs w B (p ++ d :: q) vs bs →
    ∃ vp v vq bp bd bq, vs = vp ++ v :: vq ∧ bs = bp ++ (bd ++ bq) ∧ OwVs w B p vp bp ∧ OwV w B d v bd ∧ OwVs w B q vq bq
  | [], d, q, vs, bs, h => by
    rw [List.nil_append, OwVs] at h
    obtain ⟨v, v2, b1, b2, rfl, rfl, h1, h2⟩ := h
    exact ⟨[], v, v2, [], b1, b2, rfl, rfl, by rw [OwVs]; exact ⟨rfl, rfl⟩, h1, h2⟩
  | y :: p, d, q, vs, bs, h => by
    rw [List.cons_append, OwVs] at h
    obtain ⟨v1, v2, b1, b2, rfl, rfl, h1, h2⟩ := h
    obtain ⟨vp, v, vq, bp, bd, bq, rfl, rfl, h3, h4, h5⟩ := OwVs_split p h2
    refine ⟨v1 :: vp, v, vq, b1 ++ bp, bd, bq, rfl, by rw [List.append_assoc], ?_, h4, h5⟩
    rw [OwVs]
    exact ⟨v1, vp, b1, bp, rfl, rfl, h1, h3⟩
theorem OwVs_join {w : World} {B : Nat} : ∀ (p : List DV) {d : DV} {q : List DV} {vp vq : List Value} {v : Value} {bp bd bq : List Nat}, OwVs w B p vp bp → OwV w B d v bd → OwVs w B q vq bq →
    OwVs w B (p ++ d :: q) (vp ++ v :: vq) (bp ++ (bd ++ bq))
  | [], d, q, vp, vq, v, bp, bd, bq, h, hx, hq => by
    rw [OwVs] at h
    obtain ⟨rfl, rfl⟩ := h
    rw [List.nil_append, List.nil_append, List.nil_append, OwVs]
    exact ⟨v, vq, bd, bq, rfl, rfl, hx, hq⟩
  | y :: p, d, q, vp, vq, v, bp, bd, bq, h, hx, hq => by
    rw [OwVs] at h
    obtain ⟨v1, v2, b1, b2, rfl, rfl, h1, h2⟩ := h
    rw [List.cons_append, OwVs]
    exact ⟨v1, _, b1, _, rfl, by rw [List.append_assoc], h1, OwVs_join p h2 hx hq⟩

/-- A row that has elements lies somewhere. -/
theorem OwV_some {w : World} {B K n c : Nat} {e : TypeId} {xs : List (List DV)} {A : Option Addr} {bs : List Nat} (h : OwV w B (.row e K xs) (.slice A n c) bs) (hx : 0 < xs.length) : ∃ g, A = some ⟨g, 0, none⟩ ∧ g ∈ bs := by
  rw [OwV] at h
  obtain ⟨vs, bs', h1, _, rfl⟩ := h
  rcases h1.2 with ⟨_, h0⟩ | ⟨g, cap, cur, hv, _⟩
  · omega
  · injection hv with hA
    subst hA
    exact ⟨g, rfl, by simp [Value.ownBlock]⟩
/-- The cell at c of the element behind p: what it is; another in its place. -/
theorem OwV_focus {w : World} {B K n cap g i : Nat} {e : TypeId} {p q : List (List DV)} {x : List DV} {bs : List Nat} (h : OwV w B (.row e K (p ++ x :: q)) (.slice (some ⟨g, 0, none⟩) n cap) bs) (hn : bs.Nodup) (hi : p.length = i) {c : Nat} {d : DV} (hc : x[c]? = some d) :
    ∃ vd bd, w.cell? ⟨g, i * K + c, none⟩ = some vd ∧ w.frozen? ⟨g, i * K + c, none⟩ = false ∧ OwV w B d vd bd ∧ bd.Nodup ∧ g ∉ bd ∧ (∀ b ∈ bd, b ∈ bs) ∧
      (∀ w' d', OwV w' B d' vd bd → (∀ b ∈ bs, b ∉ bd → w'.heap[b]? = w.heap[b]?) → OwV w' B (.row e K (p ++ x.set c d' :: q)) (.slice (some ⟨g, 0, none⟩) n cap) bs) ∧
      (bd = [] → ∀ u', OwV (w.setCell ⟨g, i * K + c, none⟩ u') B (.row e K (p ++ x.set c (.pl u') :: q)) (.slice (some ⟨g, 0, none⟩) n cap) bs) := by
  rw [OwV] at h
  obtain ⟨vs, bs', hown, hE, rfl⟩ := h
  have hnl : n = (p ++ x :: q).length := by
    rcases hown.2 with ⟨h, _⟩ | ⟨g', c', cur, h, _⟩
    · cases h
    · injection h
  rw [← hnl] at hown
  obtain ⟨vp, vx, vq, bp, bx, bq, rfl, rfl, h1, hk, h2, h3⟩ := OwVE_split p hE
  have hcl : c < x.length := (List.getElem?_eq_some_iff.1 hc).1
  have hxe : x = x.take c ++ d :: x.drop (c + 1) := by
    have e1 : x[c] = d := (List.getElem?_eq_some_iff.1 hc).2
    rw [← e1, ← List.drop_eq_getElem_cons hcl, List.take_append_drop]
  have hset : ∀ d', x.set c d' = x.take c ++ d' :: x.drop (c + 1) := fun d' => by rw [List.set_eq_take_append_cons_drop, if_pos hcl]
  have h2' := h2
  rw [hxe] at h2'
  obtain ⟨v1, v, v2, b1, bd, b2, rfl, rfl, h4, h5, h6⟩ := OwVs_split _ h2'
  have hvp : vp.length = i * K := by rw [OwVE_length h1, hi]
  have hv1 : v1.length = c := by rw [OwVs_length h4, List.length_take]; omega
  have hlen : (p ++ x :: q).length = i + 1 + q.length := by rw [List.length_append, List.length_cons, hi]; omega
  have hix : i * K + c < n * K := by
    rw [hnl, hlen, show i + 1 + q.length = i + (1 + q.length) by omega, Nat.add_mul]
    have : 1 * K ≤ (1 + q.length) * K := Nat.mul_le_mul_right _ (by omega)
    omega
  have hcell : w.cell? ⟨g, i * K + c, none⟩ = some v := by
    rw [World.ownsRow.cellAt hown _ hix, List.getElem?_append_right (by omega), hvp, show i * K + c - i * K = c by omega, List.getElem?_append_left (by simp; omega), List.getElem?_append_right (by omega), hv1, Nat.sub_self]
    rfl
  simp only [Value.ownBlock, Option.toList_some, List.singleton_append, List.nodup_cons] at hn
  obtain ⟨hng, hn⟩ := hn
  rw [List.nodup_append, List.nodup_append, List.nodup_append, List.nodup_append] at hn
  obtain ⟨np, ⟨⟨nb1, ⟨nbd, nb2, dis1⟩, dis2⟩, nbq, dis3⟩, dis4⟩ := hn
  have join : ∀ (w' : World) (d' : DV) (v' : Value) (vs' : List Value), vs' = vp ++ ((v1 ++ v' :: v2) ++ vq) → w'.ownsRow B e K (.slice (some ⟨g, 0, none⟩) n cap) n vs' → OwV w' B d' v' bd → (∀ b ∈ bp ++ (b1 ++ (bd ++ b2) ++ bq), b ∉ bd → w'.heap[b]? = w.heap[b]?) → OwV w' B (.row e K (p ++ x.set c d' :: q)) (.slice (some ⟨g, 0, none⟩) n cap) ((Value.slice (some ⟨g, 0, none⟩) n cap).ownBlock.toList ++ (bp ++ (b1 ++ (bd ++ b2) ++ bq))) := by
    intro w' d' v' vs' hvs ho hd hb
    rw [OwV]
    refine ⟨vs', _, by rw [show (p ++ x.set c d' :: q).length = n by rw [hnl]; simp]; exact ho, ?_, rfl⟩
    rw [hvs]
    refine OwVE_join p (OwVE_frame p (fun b hm => hb b (by simp [hm]) (fun hm2 => dis4 b hm b (by simp [hm2]) rfl)) h1) (by rw [List.length_set]; exact hk) ?_ (OwVE_frame q (fun b hm => hb b (by simp [hm]) (fun hm2 => dis3 b (by simp [hm2]) b hm rfl)) h3)
    rw [hset]
    exact OwVs_join _ (OwVs_frame _ (fun b hm => hb b (by simp [hm]) (fun hm2 => dis2 b hm b (by simp [hm2]) rfl)) h4) hd (OwVs_frame _ (fun b hm => hb b (by simp [hm]) (fun hm2 => dis1 b hm2 b hm rfl)) h6)
  refine ⟨v, bd, hcell, hown.frozenAt _, h5, nbd, fun hm => hng (by simp [hm]), fun b hm => by simp [hm], fun w' d' hd hb => ?_, fun hbd u' => ?_⟩
  · refine join w' d' v _ rfl (own_same hown fun b hbv => ?_) hd fun b hm hnm => hb b (by simp at hm ⊢; right; exact hm) hnm
    have hbg : b = g := by simpa [Value.ownBlock] using hbv.symm
    subst hbg
    exact hb b (by simp [Value.ownBlock]) (fun hm => hng (by simp [hm]))
  · subst hbd
    refine join _ (.pl u') u' ((vp ++ ((v1 ++ v :: v2) ++ vq)).set (i * K + c) u') ?_ (hown.stored (i * K + c) u').1 (by rw [OwV]; exact ⟨rfl, rfl⟩) fun b hm _ => by refine Below.heap_setCell _ _ _ _ ?_; intro e; exact hng (by rw [← (show b = g from e)]; exact hm)
    rw [List.set_append_right _ _ (by omega), hvp, show i * K + c - i * K = c by omega, List.set_append_left _ _ (by simp; omega), List.set_append_right _ _ (by omega), hv1, Nat.sub_self]
    rfl
theorem OwV_plain_at {w : World} {B K n cap g i : Nat} {e : TypeId} {p q : List (List DV)} {x : List DV} {bs : List Nat} (h : OwV w B (.row e K (p ++ x :: q)) (.slice (some ⟨g, 0, none⟩) n cap) bs) (hn : bs.Nodup) (hi : p.length = i) {c : Nat} {u : Value} (hc : x[c]? = some (.pl u)) :
    w.cell? ⟨g, i * K + c, none⟩ = some u ∧ w.frozen? ⟨g, i * K + c, none⟩ = false ∧ ∀ u', OwV (w.setCell ⟨g, i * K + c, none⟩ u') B (.row e K (p ++ x.set c (.pl u') :: q)) (.slice (some ⟨g, 0, none⟩) n cap) bs := by
  obtain ⟨vd, bd, h1, h2, h3, _, _, _, _, h4⟩ := OwV_focus h hn hi hc
  rw [OwV] at h3
  obtain ⟨rfl, rfl⟩ := h3
  exact ⟨h1, h2, h4 rfl⟩
/-- The value at c of a struct: what it is; another in its place. -/
theorem OwVs_focus {w : World} {B : Nat} {ds : List DV} {vs : List Value} {bs : List Nat} (h : OwVs w B ds vs bs) (hn : bs.Nodup) {c : Nat} {d : DV} (hc : ds[c]? = some d) :
    ∃ v bd, vs[c]? = some v ∧ OwV w B d v bd ∧ bd.Nodup ∧ (∀ b ∈ bd, b ∈ bs) ∧
      (∀ w' d', OwV w' B d' v bd → (∀ b ∈ bs, b ∉ bd → w'.heap[b]? = w.heap[b]?) → OwVs w' B (ds.set c d') vs bs) := by
  have hcl : c < ds.length := (List.getElem?_eq_some_iff.1 hc).1
  have hxe : ds = ds.take c ++ d :: ds.drop (c + 1) := by
    have e1 : ds[c] = d := (List.getElem?_eq_some_iff.1 hc).2
    rw [← e1, ← List.drop_eq_getElem_cons hcl, List.take_append_drop]
  have hset : ∀ d', ds.set c d' = ds.take c ++ d' :: ds.drop (c + 1) := fun d' => by rw [List.set_eq_take_append_cons_drop, if_pos hcl]
  rw [hxe] at h
  obtain ⟨v1, v, v2, b1, bd, b2, rfl, rfl, h4, h5, h6⟩ := OwVs_split _ h
  have hv1 : v1.length = c := by rw [OwVs_length h4, List.length_take]; omega
  rw [List.nodup_append, List.nodup_append] at hn
  obtain ⟨nb1, ⟨nbd, nb2, dis1⟩, dis2⟩ := hn
  refine ⟨v, bd, by rw [List.getElem?_append_right (by omega), hv1, Nat.sub_self]; rfl, h5, nbd, fun b hm => by simp [hm], fun w' d' hd hb => ?_⟩
  rw [hset]
  exact OwVs_join _ (OwVs_frame _ (fun b hm => hb b (by simp [hm]) (fun hm2 => dis2 b hm b (by simp [hm2]) rfl)) h4) hd (OwVs_frame _ (fun b hm => hb b (by simp [hm]) (fun hm2 => dis1 b hm2 b hm rfl)) h6)
/-- A struct by value, its rows marked. -/
def DV.tcnt : DV → Nat
  | .pl _ => 0
  | .row _ _ xs => DV.cntE xs
def tcntL : List DV → Nat
  | [] => 0
  | d :: r => d.tcnt + tcntL r
def DV.tmk (k : Nat) : DV → DV
  | .pl u => .pl u
  | .row e s xs => .row e s (vmkE k xs)
def tmkL (k : Nat) : List DV → List DV
  | [] => []
  | d :: r => d.tmk k :: tmkL (k + d.tcnt) r
end Go.Proofs.Ytbcfeoobhemdcaa
namespace Go.Proofs.Ytbcfeoobhemdcaa
open Go.RowKit Go.Lib

def MarkTypeS (N : Nat) : Prop := ∀ (l : List TypeX) (A : Option Addr) (c k B : Nat) (bs : List Nat) (w : World), DV.nodesE (TypeX.rows l) ≤ N → OwV w B (.row 35 3 (TypeX.rows l)) (.slice A l.length c) bs → bs.Nodup → 0 < k → k + DV.cntE (TypeX.rows l) ≤ 4294967296 →
  Calls Try.prog 102 #[.slice A l.length c, .int .i64 k] w fun e w' => e = .returned (.int .i64 (k + DV.cntE (TypeX.rows l) : Nat)) ∧ OwV w' B (.row 35 3 (vmkE k (TypeX.rows l))) (.slice A l.length c) bs ∧ ButV bs w w'

set_option maxRecDepth 100000 in
set_option maxHeartbeats 2000000 in
theorem markTypeS_step (N : Nat) (ihTypeS : MarkTypeS N) : MarkTypeS (N + 1) := by
  intro l A c k B bs w hn hO hnd hk0 hkn
  have hcap : l.length ≤ 9223372036854775807 := by
    have h := OwV_read (P := fun _ => True) _ (fun _ _ => trivial) hO
    obtain ⟨_, _, _, h1, h2⟩ := h.shape
    rw [TypeX.rows_length] at h1
    omega
  have HO := Lib.hid hO
  have HND := Lib.hid hnd
  have HN := Lib.hid hn
  clear hO hnd hn
  go_enter Try.func102, Try.ntmps102
  go_wp2
  go_loopw [1, 5] (fun kv iv wr => ∃ i kk : Nat, i ≤ l.length ∧ iv = .int .i64 i ∧ kk = k + DV.cntE ((TypeX.rows l).take i) ∧ kv = .int .i64 kk ∧ OwV wr B (.row 35 3 (vmkE k ((TypeX.rows l).take i) ++ (TypeX.rows l).drop i)) (.slice A l.length c) bs ∧ ButV bs w wr) (fun _ iv _ => l.length - (Go.RowKit.intOf iv).toNat)
  case atStart => exact ⟨0, k, Nat.zero_le _, rfl, by simp [DV.cntE], rfl, by simpa [vmkE] using HO.out, ButV.refl _ _⟩
  case round =>
    obtain ⟨i, kk, hi, rfl, hkke, rfl, hO, hb⟩ := hrel
    by_cases hlt : i < l.length
    · have hil : i < (TypeX.rows l).length := by rw [TypeX.rows_length]; exact hlt
      have hst := cntE_step (TypeX.rows l) i hil
      have hle := cntE_part (TypeX.rows l) (i + 1)
      rw [TypeX.rows_at l i hlt hil] at hst
      have hcl : DV.cntL l[i].cells = 1 + 1 + DV.cntE (TypeX.rows l[i].args_) := by rw [TypeX.cells_eq]; simp only [DV.cntL, DV.cnt]; omega
      rw [hcl] at hst
      have hbound : kk + (1 + 1 + DV.cntE (TypeX.rows l[i].args_)) ≤ 4294967296 := by omega
      have hkpos : 0 < kk := by omega
      have hnx := nodesVE_at (TypeX.rows l) i hil
      rw [TypeX.rows_at l i hlt hil, TypeX.cells_eq] at hnx
      simp only [DV.nodesL, DV.nodes] at hnx
      have HNX := Lib.hid (show DV.nodesE (TypeX.rows l[i].args_) ≤ N by have := HN.out; omega)
      clear hnx
      have HST := Lib.hid hst
      have HKE := Lib.hid hkke
      rw [List.drop_eq_getElem_cons hil, TypeX.rows_at l i hlt hil, TypeX.cells_eq] at hO
      have hpl : (vmkE k ((TypeX.rows l).take i)).length = i := by rw [vmkE_length, List.length_take]; omega
      obtain ⟨P, hP⟩ : ∃ P, P = vmkE k ((TypeX.rows l).take i) := ⟨_, rfl⟩
      obtain ⟨Q, hQ⟩ : ∃ Q, Q = (TypeX.rows l).drop (i + 1) := ⟨_, rfl⟩
      rw [← hP, ← hQ] at hO
      rw [← hP] at hpl
      have HP := Lib.hid hP
      have HQ := Lib.hid hQ
      have HPL := Lib.hid hpl
      clear hP hQ hpl hst hle hcl hkke
      obtain ⟨g, rfl, hgb⟩ := OwV_some hO (by rw [List.length_append, List.length_cons]; omega)
      have hglt := (OwV_lt _ hO g hgb).2
      have HGB := Lib.hid hgb
      clear hgb
      obtain ⟨vd2, _, q2, _, od2, _⟩ := OwV_focus hO HND.out HPL.out (c := 2) rfl
      obtain ⟨A2, c2, rfl⟩ := OwV_shape od2 (TypeX.rows_length _)
      clear od2
      have hi0 : (0 : Int) ≤ i := by omega
      obtain ⟨p0, f0, s0⟩ := OwV_plain_at hO HND.out HPL.out (c := 0) rfl
      obtain ⟨p1, f1, s1⟩ := OwV_plain_at hO HND.out HPL.out (c := 1) rfl
      rw [Nat.add_zero] at p0 f0
      obtain ⟨k1, ek1⟩ : ∃ q : Nat, q = kk + 1 := ⟨_, rfl⟩
      have Ik1 := Lib.hid (show ((kk : Nat) : Int) + 1 = ((k1 : Nat) : Int) by omega)
      have Kk1 := Lib.hid ek1
      have bk1 : k1 + (1 + DV.cntE (TypeX.rows l[i].args_)) ≤ 4294967296 := by omega
      have pk1 : 0 < k1 := by omega
      clear ek1
      go_wp2_with fail
      rw [Ik1.out]
      refine calls_gen (fun W => OwV W B (.row 35 3 (P ++ [.pl (.int .i64 (kk : Nat)), .pl (.string l[i].name_), .row 35 3 (TypeX.rows l[i].args_)] :: Q)) (.slice (some ⟨g, 0, none⟩) l.length c) bs ∧ ButV bs w W ∧ g < W.heap.size ∧ W.cell? ⟨g, i * 3 + 2, none⟩ = some (.slice A2 l[i].args_.length c2)) ⟨(s0 (.int .i64 (kk : Nat))), (hb.set_ HGB.out _ _), by simpa using hglt, ((World.cell?_setCell_other _ _ _ _ (fun e => by injection e with _ e; omega)).trans q2)⟩ ?_
      clear hO hb hglt p0 f0 s0 p1 f1 s1 q2
      rintro W1 ⟨hO, hb, hglt, q2⟩
      refine (markText k1 _ (by omega) (by omega)).mono ?_
      rintro e w2 ⟨rfl, hb1⟩
      have hO := OwV_below hO hb1
      have hb := hb.trans (ButV.of_below hb1)
      have q2 := (hb1.cell (p := ⟨g, i * 3 + 2, none⟩) hglt).trans q2
      have hglt := Nat.lt_of_lt_of_le hglt hb1.size
      clear hb1
      obtain ⟨p1, f1, s1⟩ := OwV_plain_at hO HND.out HPL.out (c := 1) rfl
      obtain ⟨k2, ek2⟩ : ∃ q : Nat, q = k1 + 1 := ⟨_, rfl⟩
      have Ik2 := Lib.hid (show ((k1 : Nat) : Int) + 1 = ((k2 : Nat) : Int) by omega)
      have Kk2 := Lib.hid ek2
      have bk2 : k2 + (DV.cntE (TypeX.rows l[i].args_)) ≤ 4294967296 := by omega
      have pk2 : 0 < k2 := by omega
      clear ek2
      go_wp2_with fail
      rw [Ik2.out]
      refine calls_gen (fun W => OwV W B (.row 35 3 (P ++ [.pl (.int .i64 (kk : Nat)), .pl (.string (mark k1)), .row 35 3 (TypeX.rows l[i].args_)] :: Q)) (.slice (some ⟨g, 0, none⟩) l.length c) bs ∧ ButV bs w W ∧ g < W.heap.size ∧ W.cell? ⟨g, i * 3 + 2, none⟩ = some (.slice A2 l[i].args_.length c2)) ⟨(s1 (.string (mark k1))), (hb.set_ HGB.out _ _), by simpa using hglt, ((World.cell?_setCell_other _ _ _ _ (fun e => by injection e with _ e; omega)).trans q2)⟩ ?_
      clear hO hb hglt p1 f1 s1 q2
      rintro W3 ⟨hO, hb, hglt, q2⟩
      obtain ⟨vd, bd, hcd, _, hod, hndd, hgd, hsub, hput, _⟩ := OwV_focus hO HND.out HPL.out (c := 2) rfl
      obtain rfl : vd = .slice A2 l[i].args_.length c2 := Option.some.inj (hcd.symm.trans q2)
      clear hcd
      obtain ⟨k3, ek3⟩ : ∃ q : Nat, q = k2 + DV.cntE (TypeX.rows l[i].args_) := ⟨_, rfl⟩
      have Kk3 := Lib.hid ek3
      have bk3 : k3 + (0) ≤ 4294967296 := by omega
      have pk3 : 0 < k3 := by omega
      have ak3 : k2 + DV.cntE (TypeX.rows l[i].args_) ≤ 4294967296 := by omega
      clear ek3
      refine (ihTypeS l[i].args_ A2 c2 k2 B bd _ (by have := HNX.out; omega) hod hndd (by omega) (by omega)).mono ?_
      rintro e w4 ⟨rfl, hO3, hb3⟩
      rw [← Kk3.out]
      have hO := hput w4 _ hO3 (fun b hm hn => hb3.block b (OwV_lt _ hO b hm).2 hn)
      have hb := hb.trans (hb3.more hsub)
      have hglt := Nat.lt_of_lt_of_le hglt hb3.size
      have hO : OwV w4 B (.row 35 3 (P ++ [.pl (.int .i64 (kk : Nat)), .pl (.string (mark k1)), .row 35 3 (vmkE k2 (TypeX.rows l[i].args_))] :: Q)) (.slice (some ⟨g, 0, none⟩) l.length c) bs := hO
      clear hO3 hb3 hput hsub hgd hndd hod q2
      have hlist : P ++ [.pl (.int .i64 (kk : Nat)), .pl (.string (mark k1)), .row 35 3 (vmkE k2 (TypeX.rows l[i].args_))] :: Q = vmkE k ((TypeX.rows l).take (i + 1)) ++ (TypeX.rows l).drop (i + 1) := by
        rw [vmkE_take _ k i hil, TypeX.rows_at l i hlt hil, TypeX.cells_eq, ← HKE.out, ← HP.out, ← HQ.out, List.append_assoc]
        have yk3 := Kk3.out
        subst yk3
        have yk2 := Kk2.out
        subst yk2
        have yk1 := Kk1.out
        subst yk1
        simp only [vmkL, DV.vmk, vmkU, DV.cnt, List.singleton_append]
      have hfin := hO
      have hbf := hb
      have hfin2 : OwV _ B (.row 35 3 (P ++ [.pl (.int .i64 (kk : Nat)), .pl (.string (mark k1)), .row 35 3 (vmkE k2 (TypeX.rows l[i].args_))] :: Q)) (.slice (some ⟨g, 0, none⟩) l.length c) bs := hfin
      rw [hlist] at hfin2
      have HF := Lib.hid hfin2
      have hke : k3 = k + DV.cntE ((TypeX.rows l).take (i + 1)) := by rw [HST.out]; have := HKE.out; have := Kk1.out; have := Kk2.out; have := Kk3.out; omega
      have HKF := Lib.hid hke
      clear hlist hfin hfin2 hke hO
      go_wp2
      go_roundw
      case rel => exact ⟨i + 1, k3, by omega, by go_num, HKF.out, int_of (by omega), HF.out, hbf⟩
      case measure => simp [Go.RowKit.intOf]; omega
    · have hil : i = l.length := by omega
      subst hil
      rw [List.take_of_length_le (by rw [TypeX.rows_length]; exact Nat.le_refl _)] at hkke
      rw [List.take_of_length_le (by rw [TypeX.rows_length]; exact Nat.le_refl _), List.drop_of_length_le (by rw [TypeX.rows_length]; exact Nat.le_refl _), List.append_nil] at hO
      subst hkke
      have HF := Lib.hid hO
      clear hO
      go_wp2
      go_ret
      exact ⟨rfl, HF.out, hb⟩

theorem markRows_Type : ∀ N, MarkTypeS N
  | 0 => by
    intro l A c k B bs w hn hO hnd hk0 hkn
    have hc := nodesVE_count (TypeX.rows l)
    rw [TypeX.rows_length] at hc
    have hl : l = [] := List.eq_nil_of_length_eq_zero (by omega)
    subst hl
    have HO := Lib.hid hO
    clear hO
    go_enter Try.func102, Try.ntmps102
    go_wp2
    refine wp_loop_rounds 1 ?_
    rw [rounds_succ]
    go_wp2
    go_ret
    exact ⟨rfl, HO.out, ButV.refl _ _⟩
  | N + 1 => markTypeS_step N (markRows_Type N)
theorem markTypeS (l : List TypeX) (A : Option Addr) (c k B : Nat) (bs : List Nat) (w : World) (hO : OwV w B (.row 35 3 (TypeX.rows l)) (.slice A l.length c) bs) (hnd : bs.Nodup) (hk0 : 0 < k) (hk : k + DV.cntE (TypeX.rows l) ≤ 4294967296) :
    Calls Try.prog 102 #[.slice A l.length c, .int .i64 k] w fun e w' => e = .returned (.int .i64 (k + DV.cntE (TypeX.rows l) : Nat)) ∧ OwV w' B (.row 35 3 (vmkE k (TypeX.rows l))) (.slice A l.length c) bs ∧ ButV bs w w' := (markRows_Type (DV.nodesE (TypeX.rows l))) l A c k B bs w (Nat.le_refl _) hO hnd hk0 hk
end Go.Proofs.Ytbcfeoobhemdcaa
namespace Go.Proofs.Ytbcfeoobhemdcaa
open Go.RowKit Go.Lib

theorem TypeX.tcnt_eq (x : TypeX) : tcntL x.cells = DV.cntE (TypeX.rows x.args_) := by
  rw [TypeX.cells_eq]
  simp only [tcntL, DV.tcnt]
  omega
theorem TypeX.tmk_eq (x : TypeX) (k : Nat) : tmkL k x.cells = [.pl (.int .i64 x.kind_), .pl (.string x.name_), .row 35 3 (vmkE (k) (TypeX.rows x.args_))] := by
  rw [TypeX.cells_eq]
  simp only [tmkL, DV.tmk, DV.tcnt, Nat.add_zero]
set_option maxRecDepth 100000 in
set_option maxHeartbeats 2000000 in
theorem markVType (x : TypeX) (vs : List Value) (k B : Nat) (bs : List Nat) (w : World) (hO : OwVs w B x.cells vs bs) (hnd : bs.Nodup) (hk0 : 0 < k) (hk : k + tcntL x.cells ≤ 4294967296) :
    Calls Try.prog 52 #[.agg vs.toArray, .int .i64 k] w fun e w' => e = .returned (.int .i64 (k + tcntL x.cells : Nat)) ∧ OwVs w' B (tmkL k x.cells) vs bs ∧ ButV bs w w' := by
  rw [TypeX.tcnt_eq] at hk ⊢
  rw [TypeX.tmk_eq]
  rw [TypeX.cells_eq] at hO
  have hO2 := hO
  simp only [OwVs] at hO2
  obtain ⟨v0, _, y0, _, z0, -, h0, v1, _, y1, _, z1, -, h1, v2, _, y2, _, z2, -, h2, z3, -⟩ := hO2
  subst z3 z2 z1 z0
  rw [OwV] at h0
  obtain ⟨rfl, -⟩ := h0
  rw [OwV] at h1
  obtain ⟨rfl, -⟩ := h1
  obtain ⟨A2, c2, rfl⟩ := OwV_shape h2 (TypeX.rows_length _)
  clear h2
  have hb0 : Below w.heap.size w (w.alloc (.cells #[.int .i64 x.kind_, .string x.name_, .slice A2 x.args_.length c2] 35)) := (Below.refl _ _).alloc (Nat.le_refl _) _
  have hO := OwVs_below hO hb0
  have hb := ButV.of_below (bs := bs) hb0
  have HND := Lib.hid hnd
  clear hnd hb0
  go_enter Try.func52, Try.ntmps52
  go_wp2_with fail
  obtain ⟨v, bd, hv, hod, hndd, hsub, hput⟩ := OwVs_focus hO HND.out (c := 2) rfl
  obtain rfl : .slice A2 x.args_.length c2 = v := Option.some.inj hv
  refine (markTypeS x.args_ A2 c2 (k) B bd _ hod hndd (by omega) (by omega)).mono ?_
  rintro e w1 ⟨rfl, hO3, hb3⟩
  have hO := hput w1 _ hO3 (fun b hm hn => hb3.block b (OwVs_lt _ hO b hm).2 hn)
  have hb := hb.trans (hb3.more hsub)
  have hO : OwVs w1 B [.pl (.int .i64 x.kind_), .pl (.string x.name_), .row 35 3 (vmkE (k) (TypeX.rows x.args_))] [.int .i64 x.kind_, .string x.name_, .slice A2 x.args_.length c2] bs := hO
  clear hO3 hb3 hput hsub hndd hod hv
  have HF := Lib.hid hO
  have HB := Lib.hid hb
  clear hO hb
  go_wp2
  go_ret
  exact ⟨rfl, HF.out, HB.out⟩
end Go.Proofs.Ytbcfeoobhemdcaa
namespace Go.Proofs.Ytbcfeoobhemdcaa
open Go.RowKit

/-- The n bytes at A, below block B. -/
def BytesAt (w : World) (B : Nat) (A : Option Addr) (n : Nat) : Prop :=
  ∀ j, j < n → ∃ b o z, A = some ⟨b, o, none⟩ ∧ b < B ∧ 0 ≤ z ∧ z ≤ 255 ∧ w.cell? ⟨b, o + j, none⟩ = some (.int .u8 z)
theorem BytesAt.below {w w' : World} {B : Nat} {A : Option Addr} {n : Nat} (h : BytesAt w B A n) (hb : Below B w w') : BytesAt w' B A n := fun j hj => by
  obtain ⟨b, o, z, hA, hlt, h0, h1, hc⟩ := h j hj
  exact ⟨b, o, z, hA, hlt, h0, h1, (hb.cell (p := ⟨b, o + j, none⟩) hlt).trans hc⟩
theorem BytesAt.mono_ {w : World} {B B' : Nat} {A : Option Addr} {n : Nat} (h : BytesAt w B A n) (hB : B ≤ B') : BytesAt w B' A n := fun j hj => by
  obtain ⟨b, o, z, hA, hlt, h0, h1, hc⟩ := h j hj
  exact ⟨b, o, z, hA, by omega, h0, h1, hc⟩
/-- The cursor's three cells, in a block of the call's own. -/
structure CurAt (w : World) (B g : Nat) (A : Option Addr) (n c : Nat) (i h : Int) : Prop where
  cells : Whole w g 122 #[.slice A n c, .int .i64 i, .int .i64 h]
  own : B ≤ g
  bytes : BytesAt w B A n
  size : n ≤ 9223372036854775807
  lo : 0 ≤ i
  hi : i ≤ n
/-- A cursor. -/
def Cur (w : World) (B g : Nat) : Prop := ∃ A n c i h, CurAt w B g A n c i h
theorem Cur.lt {w : World} {B g : Nat} (h : Cur w B g) : g < w.heap.size := by
  obtain ⟨A, n, c, i, h, hc⟩ := h
  exact hc.cells.lt
theorem Cur.own {w : World} {B g : Nat} (h : Cur w B g) : B ≤ g := by
  obtain ⟨A, n, c, i, h, hc⟩ := h
  exact hc.own
theorem Cur.kept {w w' : World} {B g : Nat} (h : Cur w B g) (hb : Below w.heap.size w w') : Cur w' B g := by
  have hlt := h.lt
  obtain ⟨A, n, c, i, h, hc⟩ := h
  exact ⟨A, n, c, i, h, hc.cells.below hb hlt, hc.own, hc.bytes.below (hb.mono (by have := hc.own; omega)), hc.size, hc.lo, hc.hi⟩

/-- WHAT A DRAW LEAVES: the cursor moved, whatever else lay there unturned. -/
def Drawn (P : Value → Prop) (B g : Nat) (w : World) (e : Ending) (w' : World) : Prop := ∃ v, e = .returned v ∧ P v ∧ Cur w' B g ∧ But g w w'

def IsByte (v : Value) : Prop := ∃ x : Int, v = .int .i64 x ∧ 0 ≤ x ∧ x ≤ 255

theorem and255 (n : Int) : bits .and .i64 n 255 = n % 256 := by
  have h : (BitVec.ofInt 64 255).toNat = 2 ^ 8 - 1 := by decide
  have key : (BitVec.ofInt 64 n &&& BitVec.ofInt 64 255).toNat = (n % ((2 ^ 64 : Nat) : Int)).toNat % 2 ^ 8 := by
    rw [BitVec.toNat_and, BitVec.toNat_ofInt, h, Nat.and_two_pow_sub_one_eq_mod]
  show IntKind.i64.wrap ((BitVec.ofInt 64 n &&& BitVec.ofInt 64 255).toNat : Nat) = n % 256
  rw [key, IntKind.wrap_i64]
  omega
theorem and30 (n : Int) : bits .and .i64 n 1073741823 = n % 1073741824 := by
  have h : (BitVec.ofInt 64 1073741823).toNat = 2 ^ 30 - 1 := by decide
  have key : (BitVec.ofInt 64 n &&& BitVec.ofInt 64 1073741823).toNat = (n % ((2 ^ 64 : Nat) : Int)).toNat % 2 ^ 30 := by
    rw [BitVec.toNat_and, BitVec.toNat_ofInt, h, Nat.and_two_pow_sub_one_eq_mod]
  show IntKind.i64.wrap ((BitVec.ofInt 64 n &&& BitVec.ofInt 64 1073741823).toNat : Nat) = n % 1073741824
  rw [key, IntKind.wrap_i64]
  omega

theorem CurAt.set2 {w : World} {B g : Nat} {A : Option Addr} {n c : Nat} {i h : Int} (hc : CurAt w B g A n c i h) (h' : Int) : CurAt (w.setCell ⟨g, 2, none⟩ (.int .i64 h')) B g A n c i h' :=
  ⟨by have := hc.cells.set_ 2 (.int .i64 h'); simpa using this, hc.own, hc.bytes.below ((Below.refl B w).setCell hc.own _), hc.size, hc.lo, hc.hi⟩
theorem CurAt.set1 {w : World} {B g : Nat} {A : Option Addr} {n c : Nat} {i h : Int} (hc : CurAt w B g A n c i h) (i' : Int) (h0 : 0 ≤ i') (h1 : i' ≤ n) : CurAt (w.setCell ⟨g, 1, none⟩ (.int .i64 i')) B g A n c i' h :=
  ⟨by have := hc.cells.set_ 1 (.int .i64 i'); simpa using this, hc.own, hc.bytes.below ((Below.refl B w).setCell hc.own _), hc.size, h0, h1⟩
theorem CurAt.drewN {w : World} {B g : Nat} {A : Option Addr} {n c : Nat} {i h : Int} (hc : CurAt w B g A n c i h) (k : Nat) : CurAt (w.drewN k) B g A n c i h :=
  ⟨hc.cells, hc.own, hc.bytes, hc.size, hc.lo, hc.hi⟩
theorem But.drewN_ {g : Nat} {a w : World} (h : But g a w) (k : Nat) : But g a (w.drewN k) := h.trans ⟨rfl, rfl, rfl, Nat.le_refl _, fun _ _ _ => rfl⟩

set_option maxRecDepth 100000 in
set_option maxHeartbeats 1000000 in
theorem drawByte (B g : Nat) (w : World) (hw : Cur w B g) :
    Calls Try.prog 140 #[.pointer (some ⟨g, 0, none⟩)] w (Drawn IsByte B g w) := by
  obtain ⟨A, n, c, i, h, hc⟩ := hw
  obtain ⟨k, rfl⟩ := Int.eq_ofNat_of_zero_le hc.lo
  have hkn : k ≤ n := by have := hc.hi; omega
  have hn := hc.size
  have c2 : w.cell? ⟨g, 2, none⟩ = some (.int .i64 h) := by rw [hc.cells.cell]; rfl
  have f2 : w.frozen? ⟨g, 2, none⟩ = false := hc.cells.frozen 2
  have k255 := and255
  go_enter Try.func140, Try.ntmps140
  go_wp2
  generalize RowKit.wrap64 (RowKit.wrap64 (h * 6364136223846793005) + 1442695040888963407) = h'
  have hc' := hc.set2 h'
  have hb' : But g w (w.setCell ⟨g, 2, none⟩ (.int .i64 h')) := But.set_ g w 2 (.int .i64 h')
  clear c2 f2
  generalize w.setCell ⟨g, 2, none⟩ (.int .i64 h') = w1 at *
  have c0 : w1.cell? ⟨g, 0, none⟩ = some (.slice A n c) := by rw [hc'.cells.cell]; rfl
  have c1 : w1.cell? ⟨g, 1, none⟩ = some (.int .i64 k) := by rw [hc'.cells.cell]; rfl
  have c2 : w1.cell? ⟨g, 2, none⟩ = some (.int .i64 h') := by rw [hc'.cells.cell]; rfl
  have f1 : w1.frozen? ⟨g, 1, none⟩ = false := hc'.cells.frozen 1
  by_cases hlt : k < n
  · obtain ⟨b, o, z, rfl, hb, hz0, hz1, cz⟩ := hc'.bytes k hlt
    have hk0 : (0 : Int) ≤ k := by omega
    go_quiet (fail)
    go_wp2
    go_quiet (fail)
    go_wp2
    go_quiet (fail)
    go_wp2
    go_ret
    exact ⟨_, rfl, ⟨_, rfl, by omega, by omega⟩, ⟨_, _, _, _, _, (hc'.drewN _).set1 (k + 1) (by omega) (by omega)⟩, (hb'.drewN_ _).trans (But.set_ g _ 1 _)⟩
  · go_quiet (fail)
    go_wp2
    go_quiet (fail)
    go_wp2
    go_ret
    exact ⟨_, rfl, ⟨_, rfl, by omega, by omega⟩, ⟨_, _, _, _, _, (hc'.drewN _).drewN _⟩, (hb'.drewN_ _).drewN_ _⟩

/-- A number from 0 on, below n. -/
def IsBelow (n : Int) (v : Value) : Prop := ∃ x : Int, v = .int .i64 x ∧ 0 ≤ x ∧ x < n

set_option maxRecDepth 100000 in
set_option maxHeartbeats 1000000 in
theorem drawBelow (B g : Nat) (n : Int) (w : World) (hw : Cur w B g) (h0 : 0 < n) (h1 : n ≤ 9223372036854775807) :
    Calls Try.prog 107 #[.pointer (some ⟨g, 0, none⟩), .int .i64 n] w (Drawn (IsBelow n) B g w) := by
  by_cases hs : n ≤ 256
  · go_enter Try.func107, Try.ntmps107
    go_wp2_with fail
    refine (drawByte B g _ hw).mono ?_
    rintro e w1 ⟨v, rfl, ⟨x, rfl, x0, x1⟩, hc1, hb1⟩
    have hm0 := Int.emod_nonneg x (show n ≠ 0 by omega)
    have hm1 := Int.emod_lt_of_pos x h0
    go_wp2
    go_ret
    exact ⟨_, rfl, ⟨_, rfl, hm0, hm1⟩, hc1, hb1⟩
  · go_enter Try.func107, Try.ntmps107
    go_wp2_with fail
    refine (drawByte B g _ hw).mono ?_
    rintro e w1 ⟨v, rfl, ⟨x, rfl, x0, x1⟩, hc1, hb1⟩
    go_wp2_with fail
    refine (drawByte B g _ hc1).mono ?_
    rintro e w2 ⟨v, rfl, ⟨y, rfl, y0, y1⟩, hc2, hb2⟩
    go_wp2_with fail
    refine (drawByte B g _ hc2).mono ?_
    rintro e w3 ⟨v, rfl, ⟨z, rfl, z0, z1⟩, hc3, hb3⟩
    go_wp2_with fail
    refine (drawByte B g _ hc3).mono ?_
    rintro e w4 ⟨v, rfl, ⟨t, rfl, t0, t1⟩, hc4, hb4⟩
    have hm0 := Int.emod_nonneg (x * 16777216 + y * 65536 + z * 256 + t) (show n ≠ 0 by omega)
    have hm1 := Int.emod_lt_of_pos (x * 16777216 + y * 65536 + z * 256 + t) h0
    go_wp2
    go_ret
    exact ⟨_, rfl, ⟨_, rfl, hm0, hm1⟩, hc4, ((hb1.trans hb2).trans hb3).trans hb4⟩

/-- One of the strings of a list. -/
def IsOneOf (ss : List ByteArray) (v : Value) : Prop := ∃ x ∈ ss, v = .string x
set_option maxRecDepth 100000 in
theorem drawPick (B g r c : Nat) (ss : List ByteArray) (w : World) (hw : Cur w B g) (hr : Whole w r 9 (ss.map Value.string).toArray) (hne : 0 < ss.length) (hlen : ss.length ≤ 1000000) (hrg : r ≠ g) :
    Calls Try.prog 118 #[.pointer (some ⟨g, 0, none⟩), .slice (some ⟨r, 0, none⟩) ss.length c] w (Drawn (IsOneOf ss) B g w) := by
  have hrl := hr.lt
  go_enter Try.func118, Try.ntmps118
  go_wp2_with fail
  refine (drawBelow B g _ _ hw (by omega) (by omega)).mono ?_
  rintro e w1 ⟨v, rfl, ⟨x, rfl, x0, x1⟩, hc1, hb1⟩
  obtain ⟨k, rfl⟩ := Int.eq_ofNat_of_zero_le x0
  have hk : k < ss.length := by omega
  have hcell : w1.cell? ⟨r, k, none⟩ = some (.string ss[k]) := by
    have h2 : Whole w1 r 9 (ss.map Value.string).toArray := (hb1.block r hrl hrg).trans hr
    rw [h2.cell]; simp [hk]
  go_wp2
  go_ret
  exact ⟨_, rfl, ⟨_, List.getElem_mem hk, rfl⟩, hc1, hb1⟩

/-- A NEW CURSOR. -/
def NewCur (w : World) (e : Ending) (w' : World) : Prop := ∃ g, e = .returned (.pointer (some ⟨g, 0, none⟩)) ∧ Cur w' w.heap.size g ∧ Below w.heap.size w w'
set_option maxRecDepth 100000 in
set_option maxHeartbeats 1000000 in
theorem drawNew (A : Option Addr) (n c : Nat) (w : World) (hA : BytesAt w w.heap.size A n) (hn : n ≤ 140737488355328) :
    Calls Try.prog 75 #[.slice A n c] w (NewCur w) := by
  have k30 := and30
  have HA := Lib.hid hA
  clear hA
  go_enter Try.func75, Try.ntmps75
  go_wp2
  go_loop [3, 4] (fun hv iv => ∃ (k : Nat) (h : Int), k ≤ n ∧ iv = .int .i64 k ∧ hv = .int .i64 h ∧ 0 ≤ h ∧ h ≤ 281474976710656) (fun _ iv => n - (Go.RowKit.intOf iv).toNat)
  case atStart => exact ⟨0, _, Nat.zero_le _, rfl, rfl, by omega, by omega⟩
  case round =>
    obtain ⟨k, h, hk, rfl, rfl, h0, h1⟩ := hrel
    by_cases hlt : k < n
    · obtain ⟨b, o, z, rfl, hb, hz0, hz1, cz⟩ := HA.out k hlt
      by_cases hs : k < 4000
      · go_wp2
        go_round
        case rel => exact ⟨k + 1, _, by omega, by go_num, rfl, by omega, by omega⟩
        case measure => simp [Go.RowKit.intOf]; omega
      · go_wp2
        go_ret
        refine ⟨_, rfl, ⟨_, _, _, _, _, ⟨Whole.new _ _ _, Nat.le_refl _, ?_, by omega, by omega, by omega⟩⟩, (Below.refl _ _).alloc (Nat.le_refl _) _⟩
        exact HA.out.below ((Below.refl _ _).alloc (Nat.le_refl _) _)
    · go_wp2
      go_ret
      refine ⟨_, rfl, ⟨_, _, _, _, _, ⟨Whole.new _ _ _, Nat.le_refl _, ?_, by omega, by omega, by omega⟩⟩, (Below.refl _ _).alloc (Nat.le_refl _) _⟩
      exact HA.out.below ((Below.refl _ _).alloc (Nat.le_refl _) _)
end Go.Proofs.Ytbcfeoobhemdcaa
namespace Go.Proofs.Ytbcfeoobhemdcaa
open Go.RowKit

def IsBool (v : Value) : Prop := ∃ x : Bool, v = .bool x
theorem drawOnce (B g : Nat) (n : Int) (w : World) (hw : Cur w B g) (h0 : 0 < n) (h1 : n ≤ 9223372036854775807) :
    Calls Try.prog 106 #[.pointer (some ⟨g, 0, none⟩), .int .i64 n] w (Drawn IsBool B g w) := by
  go_enter Try.func106, Try.ntmps106
  go_wp2_with fail
  refine (drawBelow B g n _ hw h0 h1).mono ?_
  rintro e w1 ⟨v, rfl, ⟨x, rfl, x0, x1⟩, hc1, hb1⟩
  go_wp2
  go_ret
  exact ⟨_, rfl, ⟨_, rfl⟩, hc1, hb1⟩
end Go.Proofs.Ytbcfeoobhemdcaa
namespace Go.Proofs.Ytbcfeoobhemdcaa
open Go.RowKit

/-- A byte of an atom. -/
def okByte (c : UInt8) : Bool := (decide (97 ≤ c.toNat) && decide (c.toNat ≤ 122)) || (decide (48 ≤ c.toNat) && decide (c.toNat ≤ 57)) || (c.toNat == 39) || (c.toNat == 45) || (c.toNat == 43) || (c.toNat == 42) || (c.toNat == 60) || (c.toNat == 61) || (c.toNat == 46)

set_option maxRecDepth 100000 in
set_option maxHeartbeats 1000000 in
theorem byteIs (c : UInt8) (w : World) : Calls Try.prog 130 #[.int .u8 c.toNat] w fun e w' => e = .returned (.bool (okByte c)) ∧ w = w' := by
  go_enter Try.func130, Try.ntmps130
  go_wp2
  go_ways
  all_goals (
    go_ret
    refine ⟨congrArg (fun b => Ending.returned (.bool b)) ?_, rfl⟩
    rw [Bool.eq_iff_iff]
    simp only [okByte, Bool.or_eq_true, Bool.and_eq_true, decide_eq_true_eq, beq_iff_eq, true_iff]
    omega)

theorem within (x lo hi : Int) (w : World) : Calls Try.prog 143 #[.int .i64 x, .int .i64 lo, .int .i64 hi] w fun e w' => e = .returned (.bool (decide (lo ≤ x ∧ x ≤ hi))) ∧ w = w' := by
  by_cases h1 : lo ≤ x
  · go_enter Try.func143, Try.ntmps143
    go_wp2
    go_ret
    refine ⟨congrArg (fun b => Ending.returned (.bool b)) ?_, rfl⟩
    rw [Bool.eq_iff_iff]
    simp [h1]
  · go_enter Try.func143, Try.ntmps143
    go_wp2
    go_ret
    refine ⟨congrArg (fun b => Ending.returned (.bool b)) ?_, rfl⟩
    rw [Bool.eq_iff_iff]
    simp
    omega
/-- What an atom is. -/
def okAtom (a : ByteArray) : Bool := a.data.toList.all okByte && decide (1 ≤ a.size ∧ a.size ≤ 12)
theorem all_take_snoc (s : ByteArray) (k : Nat) (h : k < s.size) : (s.data.toList.take (k + 1)).all okByte = ((s.data.toList.take k).all okByte && okByte s[k]) := by
  rw [List.take_succ_eq_append_getElem (by simpa using h)]
  simp
  rfl
theorem all_not {s : ByteArray} {k : Nat} (h : k < s.size) (hc : okByte s[k] = false) : okAtom s = false := by
  have : s.data.toList.all okByte = false := by
    rw [List.all_eq_false]
    exact ⟨s[k], by simp [Array.mem_iff_getElem]; exact ⟨k, h, rfl⟩, by simp [hc]⟩
  rw [okAtom, this, Bool.false_and]

set_option maxRecDepth 100000 in
set_option maxHeartbeats 1000000 in
theorem validAtom (s : ByteArray) (w : World) (hs : s.size ≤ 9223372036854775807) : Calls Try.prog 116 #[.string s] w fun e w' => e = .returned (.bool (okAtom s)) ∧ w = w' := by
  go_enter Try.func116, Try.ntmps116
  go_wp2
  go_loopw [3] (fun iv wr => ∃ k : Nat, k ≤ s.size ∧ iv = .int .i64 k ∧ (s.data.toList.take k).all okByte = true ∧ w = wr) (fun iv _ => s.size - (Go.RowKit.intOf iv).toNat)
  case atStart => exact ⟨0, Nat.zero_le _, rfl, rfl, rfl⟩
  case round =>
    obtain ⟨k, hk, rfl, ha, rfl⟩ := hrel
    by_cases hlt : k < s.size
    · have hst := all_take_snoc s k hlt
      have hno := @all_not s k hlt
      rw [ha, Bool.true_and] at hst
      have HS := Lib.hid hst
      have HN := Lib.hid hno
      have HA := Lib.hid ha
      clear hst hno ha
      go_wp2_with fail
      refine (byteIs s[k] _).mono ?_
      rintro e w1 ⟨rfl, rfl⟩
      cases hc : okByte s[k] with
      | true =>
        have HC := Lib.hid hc
        clear hc
        go_wp2
        go_roundw
        case rel => exact ⟨k + 1, by omega, by go_num, by rw [HS.out, HC.out], trivial⟩
        case measure => simp [Go.RowKit.intOf]; omega
      | false =>
        have HC := Lib.hid hc
        clear hc
        go_wp2
        go_ret
        exact ⟨congrArg (fun b => Ending.returned (.bool b)) (HN.out HC.out).symm, rfl⟩
    · have hkl : k = s.size := by omega
      subst hkl
      have hall : s.data.toList.all okByte = true := by rw [List.take_of_length_le (by simp)] at ha; exact ha
      have HA := Lib.hid hall
      clear ha hall
      go_wp2_with fail
      refine (within _ _ _ _).mono ?_
      rintro e w1 ⟨rfl, rfl⟩
      go_wp2
      go_ret
      refine ⟨congrArg (fun b => Ending.returned (.bool b)) ?_, rfl⟩
      rw [okAtom, HA.out, Bool.true_and]
      rw [Bool.eq_iff_iff]
      simp only [Bool.and_eq_true, decide_eq_true_eq]
      omega
end Go.Proofs.Ytbcfeoobhemdcaa
namespace Go.Proofs.Ytbcfeoobhemdcaa
open Go.RowKit

/-- White space. -/
def isW (c : UInt8) : Bool := c == 32 || c == 10
def skipW (l : List UInt8) : List UInt8 := l.dropWhile isW
theorem skipW_nil : skipW [] = [] := rfl
theorem skipW_yes {c : UInt8} {l : List UInt8} (h : isW c = true) : skipW (c :: l) = skipW l := by rw [skipW, List.dropWhile_cons, if_pos h]; rfl
theorem skipW_no {c : UInt8} {l : List UInt8} (h : isW c = false) : skipW (c :: l) = c :: l := by rw [skipW, List.dropWhile_cons, if_neg (by rw [h]; decide)]
theorem skipW_le : ∀ l : List UInt8, (skipW l).length ≤ l.length
  | [] => by simp [skipW]
  | c :: l => by
    cases h : isW c with
    | true => rw [skipW_yes h, List.length_cons]; have := skipW_le l; omega
    | false => rw [skipW_no h]; exact Nat.le_refl _
theorem drop_step (s : ByteArray) (k : Nat) (h : k < s.size) : s.data.toList.drop k = s[k] :: s.data.toList.drop (k + 1) := by
  rw [List.drop_eq_getElem_cons (by simpa using h)]; rfl
theorem drop_done (s : ByteArray) {k : Nat} (h : s.size ≤ k) : s.data.toList.drop k = [] := by
  rw [List.drop_eq_nil_iff]; simpa using h

theorem But.drewN_s {g : Nat} {a w : World} (h : But g a w) (k : Nat) : But g a (w.drewN k) := h.trans ⟨rfl, rfl, rfl, Nat.le_refl _, fun _ _ _ => rfl⟩
/-- The reader's five cells: the text, how far, how deep, how many, whether it has failed. -/
def Cells (w : World) (g : Nat) (s : ByteArray) (k : Nat) (d z : Int) (b : Bool) : Prop := Whole w g 100 #[.string s, .int .i64 k, .int .i64 d, .int .i64 z, .bool b]
theorem Cells.at_ {w : World} {g : Nat} {s : ByteArray} {k : Nat} {d z : Int} {b : Bool} (h : Cells w g s k d z b) :
    w.cell? ⟨g, 0, none⟩ = some (.string s) ∧ w.cell? ⟨g, 1, none⟩ = some (.int .i64 k) ∧ w.cell? ⟨g, 2, none⟩ = some (.int .i64 d) ∧ w.cell? ⟨g, 3, none⟩ = some (.int .i64 z) ∧ w.cell? ⟨g, 4, none⟩ = some (.bool b) :=
  ⟨by rw [Whole.cell h]; rfl, by rw [Whole.cell h]; rfl, by rw [Whole.cell h]; rfl, by rw [Whole.cell h]; rfl, by rw [Whole.cell h]; rfl⟩
theorem Cells.drewN {w : World} {g : Nat} {s : ByteArray} {k : Nat} {d z : Int} {b : Bool} (h : Cells w g s k d z b) (n : Nat) : Cells (w.drewN n) g s k d z b := h
theorem Cells.set1 {w : World} {g : Nat} {s : ByteArray} {k : Nat} {d z : Int} {b : Bool} (h : Cells w g s k d z b) (k' : Nat) : Cells (w.setCell ⟨g, 1, none⟩ (.int .i64 k')) g s k' d z b := by
  have := Whole.set_ h 1 (.int .i64 k'); simp at this; exact this
theorem Cells.set2 {w : World} {g : Nat} {s : ByteArray} {k : Nat} {d z : Int} {b : Bool} (h : Cells w g s k d z b) (d' : Int) : Cells (w.setCell ⟨g, 2, none⟩ (.int .i64 d')) g s k d' z b := by
  have := Whole.set_ h 2 (.int .i64 d'); simp at this; exact this
theorem Cells.set3 {w : World} {g : Nat} {s : ByteArray} {k : Nat} {d z : Int} {b : Bool} (h : Cells w g s k d z b) (z' : Int) : Cells (w.setCell ⟨g, 3, none⟩ (.int .i64 z')) g s k d z' b := by
  have := Whole.set_ h 3 (.int .i64 z'); simp at this; exact this
theorem Cells.set4 {w : World} {g : Nat} {s : ByteArray} {k : Nat} {d z : Int} {b : Bool} (h : Cells w g s k d z b) (b' : Bool) : Cells (w.setCell ⟨g, 4, none⟩ (.bool b')) g s k d z b' := by
  have := Whole.set_ h 4 (.bool b'); simp at this; exact this

/-- The number in a cell. -/
def numAt (w : World) (g i : Nat) : Nat := match w.cell? ⟨g, i, none⟩ with | some (.int _ z) => z.toNat | _ => 0
theorem Cells.num {w : World} {g : Nat} {s : ByteArray} {k : Nat} {d z : Int} {b : Bool} (h : Cells w g s k d z b) : numAt w g 1 = k := by rw [numAt, h.at_.2.1]; rfl

set_option maxRecDepth 100000 in
set_option maxHeartbeats 1000000 in
theorem skipX (g : Nat) (s : ByteArray) (k : Nat) (d z : Int) (b : Bool) (w : World) (hs : s.size ≤ 4294967296) (hk : k ≤ s.size) (hw : Cells w g s k d z b) :
    Calls Try.prog 90 #[.pointer (some ⟨g, 0, none⟩)] w fun e w' => e = .returned (.tuple #[]) ∧ (∃ k', k ≤ k' ∧ k' ≤ s.size ∧ s.data.toList.drop k' = skipW (s.data.toList.drop k) ∧ Cells w' g s k' d z b) ∧ But g w w' := by
  go_enter Try.func90, Try.ntmps90
  go_wp2
  go_loopw [] (fun wr => ∃ j : Nat, k ≤ j ∧ j ≤ s.size ∧ skipW (s.data.toList.drop j) = skipW (s.data.toList.drop k) ∧ Cells wr g s j d z b ∧ But g w wr) (fun wr => s.size - numAt wr g 1)
  case atStart => exact ⟨k, Nat.le_refl _, hk, rfl, hw, But.refl g w⟩
  case round =>
    obtain ⟨j, hkj, hj, he, hc, hb⟩ := hrel
    obtain ⟨c0, c1, c2, c3, c4⟩ := hc.at_
    have hj0 : (0 : Int) ≤ j := by omega
    have f1 : wr.frozen? ⟨g, 1, none⟩ = false := Whole.frozen hc 1
    by_cases hlt : j < s.size
    · have hd := drop_step s j hlt
      by_cases h32 : s[j] = 32
      · have q1 : ((s[j].toNat : Int) == 32) = true := by rw [h32]; rfl
        have hn : skipW (s.data.toList.drop (j + 1)) = skipW (s.data.toList.drop k) := by rw [← he, hd, skipW_yes (by rw [isW, h32]; rfl)]
        have HN := Lib.hid hn
        clear hn he hd h32
        go_wp2
        go_quiet (fail)
        go_wp2
        go_roundw
        case rel => exact ⟨j + 1, by omega, by omega, HN.out, (hc.drewN _).set1 (j + 1), (hb.drewN_s _).trans (But.set_ g _ 1 _)⟩
        case measure =>
          rw [hc.num]; refine Nat.lt_of_le_of_lt (Nat.le_of_eq (congrArg (s.size - ·) (Cells.num ((hc.drewN _).set1 (j + 1))))) ?_; omega
      · have q1 : ((s[j].toNat : Int) == 32) = false := by
          rw [beq_eq_false_iff_ne]; intro e
          exact h32 (UInt8.toNat_inj.1 (by have e2 : (32 : UInt8).toNat = 32 := rfl; omega))
        by_cases h10 : s[j] = 10
        · have q2 : ((s[j].toNat : Int) == 10) = true := by rw [h10]; rfl
          have hn : skipW (s.data.toList.drop (j + 1)) = skipW (s.data.toList.drop k) := by rw [← he, hd, skipW_yes (by rw [isW, h10]; rfl)]
          have HN := Lib.hid hn
          clear hn he hd h32 h10
          go_wp2
          go_quiet (fail)
          go_wp2
          go_roundw
          case rel => exact ⟨j + 1, by omega, by omega, HN.out, (hc.drewN _).set1 (j + 1), (hb.drewN_s _).trans (But.set_ g _ 1 _)⟩
          case measure =>
            rw [hc.num]; refine Nat.lt_of_le_of_lt (Nat.le_of_eq (congrArg (s.size - ·) (Cells.num ((hc.drewN _).set1 (j + 1))))) ?_; omega
        · have q2 : ((s[j].toNat : Int) == 10) = false := by
            rw [beq_eq_false_iff_ne]; intro e
            exact h10 (UInt8.toNat_inj.1 (by have e2 : (10 : UInt8).toNat = 10 := rfl; omega))
          have hn : s.data.toList.drop j = skipW (s.data.toList.drop k) := by rw [← he, hd, skipW_no (by rw [isW, Bool.or_eq_false_iff, beq_eq_false_iff_ne, beq_eq_false_iff_ne]; exact ⟨h32, h10⟩)]
          have HN := Lib.hid hn
          clear hn he hd h32 h10
          go_wp2
          go_quiet (fail)
          go_wp2
          go_end0
          exact ⟨rfl, ⟨j, hkj, hj, HN.out, hc.drewN _⟩, hb.drewN_s _⟩
    · have hjs : j = s.size := by omega
      have hn : s.data.toList.drop j = skipW (s.data.toList.drop k) := by rw [← he, drop_done s (by omega)]; rfl
      have HN := Lib.hid hn
      clear hn he
      go_wp2
      go_quiet (fail)
      go_wp2
      go_end0
      exact ⟨rfl, ⟨j, hkj, hj, HN.out, hc.drewN _⟩, hb.drewN_s _⟩
end Go.Proofs.Ytbcfeoobhemdcaa
namespace Go.Proofs.Ytbcfeoobhemdcaa
open Go.RowKit

set_option maxRecDepth 100000 in
set_option maxHeartbeats 1000000 in
theorem maxOf (a b : Nat) (w : World) : Calls Try.prog 80 #[.int .i64 a, .int .i64 b] w fun e w' => e = .returned (.int .i64 (max a b : Nat)) ∧ w = w' := by
  by_cases h1 : b < a
  · go_enter Try.func80, Try.ntmps80
    go_wp2
    go_ret
    exact ⟨ret_int (by omega), rfl⟩
  · go_enter Try.func80, Try.ntmps80
    go_wp2
    go_ret
    exact ⟨ret_int (by omega), rfl⟩
end Go.Proofs.Ytbcfeoobhemdcaa
namespace Go.Proofs.Ytbcfeoobhemdcaa
open Go.RowKit

inductive SX where
  | mk (atom : ByteArray) (list : List SX)
def SX.atom : SX → ByteArray | .mk a _ => a
def SX.list : SX → List SX | .mk _ l => l

mutual
def SX.nodes : SX → Nat
  | .mk _ l => 1 + SX.nodesL l
def SX.nodesL : List SX → Nat
  | [] => 0
  | x :: r => x.nodes + SX.nodesL r
end
mutual
/-- What the laws' guard counts. -/
def SX.wt : SX → Nat
  | .mk a l => a.size + SX.wtL l
def SX.wtL : List SX → Nat
  | [] => 0
  | x :: r => 1 + x.wt + SX.wtL r
end
mutual
/-- No text and no list is longer than a Go int. -/
def SX.ok : SX → Prop
  | .mk a l => a.size ≤ 9223372036854775807 ∧ l.length ≤ 9223372036854775807 ∧ SX.okL l
def SX.okL : List SX → Prop
  | [] => True
  | x :: r => x.ok ∧ SX.okL r
end
theorem SX.nodes_eq (x : SX) : x.nodes = 1 + SX.nodesL x.list := by cases x; rw [SX.nodes]; rfl
theorem SX.wt_eq (x : SX) : x.wt = x.atom.size + SX.wtL x.list := by cases x; rw [SX.wt]; rfl
theorem SX.nodesL_at : ∀ (l : List SX) (j : Nat) (h : j < l.length), l[j].nodes ≤ SX.nodesL l
  | x :: r, 0, _ => by rw [SX.nodesL]; simp
  | x :: r, j + 1, h => by
    have := SX.nodesL_at r j (by simpa using h)
    rw [SX.nodesL]; simp; omega
theorem SX.wtL_take : ∀ (l : List SX) (j : Nat) (h : j < l.length), SX.wtL (l.take (j + 1)) = SX.wtL (l.take j) + 1 + l[j].wt
  | x :: r, 0, _ => by simp [SX.wtL]
  | x :: r, j + 1, h => by
    have := SX.wtL_take r j (by simpa using h)
    rw [List.take_succ_cons, List.take_succ_cons, SX.wtL, SX.wtL, this]
    simp; omega
theorem SX.wtL_le : ∀ (l : List SX) (j : Nat), SX.wtL (l.take j) ≤ SX.wtL l
  | [], j => by simp
  | x :: r, 0 => by simp [SX.wtL]
  | x :: r, j + 1 => by
    have := SX.wtL_le r j
    rw [List.take_succ_cons, SX.wtL, SX.wtL]; omega
theorem SX.wtL_length : ∀ (l : List SX), l.length ≤ SX.wtL l
  | [] => by simp [SX.wtL]
  | x :: r => by have := SX.wtL_length r; rw [SX.wtL, List.length_cons]; omega
theorem SX.wtL_at (l : List SX) (j : Nat) (h : j < l.length) : 1 + l[j].wt ≤ SX.wtL l := by
  have h1 := SX.wtL_take l j h
  have h2 := SX.wtL_le l (j + 1)
  omega
theorem SX.wtL_rest : ∀ (l : List SX) (j : Nat), j ≤ l.length → SX.wtL (l.take j) + (l.length - j) ≤ SX.wtL l
  | [], j, h => by simp at h; subst h; simp [SX.wtL]
  | x :: r, 0, _ => by have := SX.wtL_length (x :: r); simp [SX.wtL] at this ⊢; omega
  | x :: r, j + 1, h => by
    have := SX.wtL_rest r j (by simpa using h)
    rw [List.take_succ_cons, SX.wtL, SX.wtL, List.length_cons]; omega
theorem SX.okL_at : ∀ (l : List SX), SX.okL l → ∀ (j : Nat) (h : j < l.length), l[j].ok
  | x :: r, ho, 0, _ => by rw [SX.okL] at ho; exact ho.1
  | x :: r, ho, j + 1, h => by rw [SX.okL] at ho; exact SX.okL_at r ho.2 j (by simpa using h)
theorem SX.ok_eq (x : SX) (h : x.ok) : x.atom.size ≤ 9223372036854775807 ∧ x.list.length ≤ 9223372036854775807 ∧ SX.okL x.list := by
  cases x; rw [SX.ok] at h; exact h

mutual
/-- The two cells at (b, o) are this expression; the rows that it leads to lie in blocks of P. -/
def RdX (w : World) (P : Nat → Prop) : SX → Nat → Nat → Prop
  | .mk a l, b, o => w.cell? ⟨b, o, none⟩ = some (.string a) ∧ ∃ A c, w.cell? ⟨b, o + 1, none⟩ = some (.slice A l.length c) ∧ (l = [] ∨ ∃ b' o', A = some ⟨b', o', none⟩ ∧ P b' ∧ RdE w P l b' o')
def RdE (w : World) (P : Nat → Prop) : List SX → Nat → Nat → Prop
  | [], _, _ => True
  | x :: r, b, o => RdX w P x b o ∧ RdE w P r b (o + 2)
end
/-- The slice at A reads as this list. -/
def ListAt (w : World) (P : Nat → Prop) (A : Option Addr) (l : List SX) : Prop := l = [] ∨ ∃ b o, A = some ⟨b, o, none⟩ ∧ P b ∧ RdE w P l b o

theorem RdX_iff {w : World} {P : Nat → Prop} {x : SX} {b o : Nat} : RdX w P x b o ↔ w.cell? ⟨b, o, none⟩ = some (.string x.atom) ∧ ∃ A c, w.cell? ⟨b, o + 1, none⟩ = some (.slice A x.list.length c) ∧ ListAt w P A x.list := by
  cases x with
  | mk a l => rw [RdX]; rfl
theorem RdE_at {w : World} {P : Nat → Prop} : ∀ (l : List SX) (b o : Nat), RdE w P l b o → ∀ (j : Nat) (h : j < l.length), RdX w P l[j] b (o + j * 2)
  | x :: r, b, o, hr, 0, _ => by rw [RdE] at hr; simpa using hr.1
  | x :: r, b, o, hr, j + 1, h => by
    rw [RdE] at hr
    have := RdE_at r b (o + 2) hr.2 j (by simpa using h)
    rw [show o + (j + 1) * 2 = o + 2 + j * 2 by omega]
    simpa using this
theorem RdE_of {w : World} {P : Nat → Prop} : ∀ (l : List SX) (b o : Nat), (∀ (j : Nat) (h : j < l.length), RdX w P l[j] b (o + j * 2)) → RdE w P l b o
  | [], _, _, _ => by rw [RdE]; trivial
  | x :: r, b, o, hr => by
    rw [RdE]
    refine ⟨by have h0 := hr 0 (by simp); rw [Nat.zero_mul, Nat.add_zero] at h0; exact h0, RdE_of r b (o + 2) fun j h => ?_⟩
    have := hr (j + 1) (by simpa using h)
    rw [show o + (j + 1) * 2 = o + 2 + j * 2 by omega] at this
    simpa using this

mutual
theorem RdX_frame {w w' : World} {P Q : Nat → Prop} (hPQ : ∀ b, P b → Q b) (hk : ∀ b o, P b → w'.cell? ⟨b, o, none⟩ = w.cell? ⟨b, o, none⟩) :
    ∀ (x : SX) (b o : Nat), w'.cell? ⟨b, o, none⟩ = w.cell? ⟨b, o, none⟩ → w'.cell? ⟨b, o + 1, none⟩ = w.cell? ⟨b, o + 1, none⟩ → RdX w P x b o → RdX w' Q x b o
  | .mk a l, b, o, h0, h1, h => by
    rw [RdX] at h ⊢
    obtain ⟨ha, A, c, hc, hl⟩ := h
    refine ⟨h0.trans ha, A, c, h1.trans hc, ?_⟩
    rcases hl with hl | ⟨b', o', hA, hP, hr⟩
    · exact .inl hl
    · exact .inr ⟨b', o', hA, hPQ b' hP, RdE_frame hPQ hk l b' o' (fun k => hk b' k hP) hr⟩
theorem RdE_frame {w w' : World} {P Q : Nat → Prop} (hPQ : ∀ b, P b → Q b) (hk : ∀ b o, P b → w'.cell? ⟨b, o, none⟩ = w.cell? ⟨b, o, none⟩) :
    ∀ (l : List SX) (b o : Nat), (∀ k, w'.cell? ⟨b, k, none⟩ = w.cell? ⟨b, k, none⟩) → RdE w P l b o → RdE w' Q l b o
  | [], _, _, _, _ => by rw [RdE]; trivial
  | x :: r, b, o, hb, h => by
    rw [RdE] at h ⊢
    exact ⟨RdX_frame hPQ hk x b o (hb o) (hb (o + 1)) h.1, RdE_frame hPQ hk r b (o + 2) hb h.2⟩
end
theorem ListAt.frame {w w' : World} {P Q : Nat → Prop} {A : Option Addr} {l : List SX} (h : ListAt w P A l) (hPQ : ∀ b, P b → Q b) (hk : ∀ b o, P b → w'.cell? ⟨b, o, none⟩ = w.cell? ⟨b, o, none⟩) : ListAt w' Q A l := by
  rcases h with h | ⟨b, o, hA, hP, hr⟩
  · exact .inl h
  · exact .inr ⟨b, o, hA, hPQ b hP, RdE_frame hPQ hk l b o (fun k => hk b k hP) hr⟩
/-- Where there is an element at j: where it lies, and what it is. -/
theorem ListAt.at_ {w : World} {P : Nat → Prop} {A : Option Addr} {l : List SX} (h : ListAt w P A l) {j : Nat} (hj : j < l.length) :
    ∃ b o A' c', A = some ⟨b, o, none⟩ ∧ P b ∧ w.cell? ⟨b, o + j * 2, none⟩ = some (.string l[j].atom) ∧ w.cell? ⟨b, o + j * 2 + 1, none⟩ = some (.slice A' l[j].list.length c') ∧ ListAt w P A' l[j].list := by
  rcases h with h | ⟨b, o, hA, hP, hr⟩
  · subst h; simp at hj
  · obtain ⟨h0, A', c', h1, hl⟩ := RdX_iff.1 (RdE_at l b o hr j hj)
    exact ⟨b, o, A', c', hA, hP, h0, h1, hl⟩
/-- Below a block number. -/
def Lt (B : Nat) (b : Nat) : Prop := b < B
theorem ListAt.below {w w' : World} {B : Nat} {A : Option Addr} {l : List SX} (h : ListAt w (Lt B) A l) (hb : Below B w w') : ListAt w' (Lt B) A l :=
  h.frame (fun _ h => h) fun b o hP => hb.cell (p := ⟨b, o, none⟩) hP
theorem ListAt.grow {w w' : World} {A : Option Addr} {l : List SX} (h : ListAt w (Lt w.heap.size) A l) (hb : Below w.heap.size w w') : ListAt w' (Lt w'.heap.size) A l :=
  h.frame (fun _ h => Nat.lt_of_lt_of_le h hb.size) fun b o hP => hb.cell (p := ⟨b, o, none⟩) hP
end Go.Proofs.Ytbcfeoobhemdcaa
namespace Go.Proofs.Ytbcfeoobhemdcaa
open Go.RowKit

/-- The boxed parameter's block, and what the loop reads of it. -/
theorem boxed {w wr : World} {t : TypeId} {a : ByteArray} {A : Option Addr} {n c : Nat} (hb : Below (w.alloc (.cells #[.string a, .slice A n c] t)).heap.size (w.alloc (.cells #[.string a, .slice A n c] t)) wr) :
    wr.cell? ⟨w.heap.size, 0, none⟩ = some (.string a) ∧ wr.cell? ⟨w.heap.size, 1, none⟩ = some (.slice A n c) ∧ Below w.heap.size w wr := by
  have h := (Whole.new w t #[.string a, .slice A n c]).below hb (by simp)
  refine ⟨by rw [h.cell]; rfl, by rw [h.cell]; rfl, ?_⟩
  exact ((Below.refl _ _).alloc (Nat.le_refl _) _).trans (hb.mono (by simp))
theorem boxedList {w wr : World} {t : TypeId} {a : ByteArray} {A : Option Addr} {n c : Nat} {l : List SX} (hl : ListAt w (Lt w.heap.size) A l) (hb : Below (w.alloc (.cells #[.string a, .slice A n c] t)).heap.size (w.alloc (.cells #[.string a, .slice A n c] t)) wr) : ListAt wr (Lt wr.heap.size) A l := by
  have h1 : Below w.heap.size w wr := (boxed hb).2.2
  exact hl.grow h1

def SizeX (N : Nat) : Prop := ∀ (x : SX) (A : Option Addr) (c : Nat) (w : World), x.nodes ≤ N → x.nodes ≤ 4294967296 → ListAt w (Lt w.heap.size) A x.list →
  Calls Try.prog 40 #[.agg #[.string x.atom, .slice A x.list.length c]] w fun e w' => e = .returned (.int .i64 x.nodes) ∧ Below w.heap.size w w'

theorem SX.nodesL_take : ∀ (l : List SX) (j : Nat) (h : j < l.length), SX.nodesL (l.take (j + 1)) = SX.nodesL (l.take j) + l[j].nodes
  | x :: r, 0, _ => by simp [SX.nodesL]
  | x :: r, j + 1, h => by
    have := SX.nodesL_take r j (by simpa using h)
    rw [List.take_succ_cons, List.take_succ_cons, SX.nodesL, SX.nodesL, this]
    simp; omega
theorem SX.nodesL_le : ∀ (l : List SX) (j : Nat), SX.nodesL (l.take j) ≤ SX.nodesL l
  | [], j => by simp
  | x :: r, 0 => by simp [SX.nodesL]
  | x :: r, j + 1 => by
    have := SX.nodesL_le r j
    rw [List.take_succ_cons, SX.nodesL, SX.nodesL]; omega
theorem SX.nodesL_length : ∀ (l : List SX), l.length ≤ SX.nodesL l
  | [] => by simp [SX.nodesL]
  | x :: r => by have := SX.nodesL_length r; have := SX.nodes_eq x; rw [SX.nodesL, List.length_cons]; omega

set_option maxRecDepth 100000 in
set_option maxHeartbeats 1000000 in
theorem sizeX : ∀ N, SizeX N
  | 0 => fun x A c w hn => by rw [SX.nodes_eq] at hn; omega
  | N + 1 => by
    intro x A c w hn hm hl
    have ih := sizeX N
    have hne := SX.nodes_eq x
    have hll := SX.nodesL_length x.list
    have hlen : x.list.length ≤ 4294967296 := by omega
    have HL := Lib.hid hl
    have HE := Lib.hid hne
    clear hl hne
    go_enter Try.func40, Try.ntmps40
    go_wp2
    go_loopw [3, 4] (fun nv iv wr => ∃ k : Nat, k ≤ x.list.length ∧ iv = .int .i64 k ∧ nv = .int .i64 (1 + SX.nodesL (x.list.take k) : Nat) ∧ Below (w.alloc (.cells #[.string x.atom, .slice A x.list.length c] 26)).heap.size (w.alloc (.cells #[.string x.atom, .slice A x.list.length c] 26)) wr) (fun _ iv _ => x.list.length - (Go.RowKit.intOf iv).toNat)
    case atStart => exact ⟨0, Nat.zero_le _, rfl, by simp [SX.nodesL], Below.refl _ _⟩
    case round =>
      obtain ⟨k, hk, rfl, rfl, hb⟩ := hrel
      obtain ⟨b0, b1, hbw⟩ := boxed hb
      by_cases hlt : k < x.list.length
      · obtain ⟨b, o, A', c', rfl, hP, hc0, hc1, hl'⟩ := (boxedList HL.out hb).at_ hlt
        have hst := SX.nodesL_take x.list k hlt
        have hle := SX.nodesL_le x.list (k + 1)
        have hx : x.list[k].nodes ≤ N := by have := SX.nodesL_at x.list k hlt; have := HE.out; omega
        have hsum : 1 + SX.nodesL (x.list.take k) + x.list[k].nodes ≤ 4294967296 := by have := HE.out; omega
        have HS := Lib.hid hst
        have HX := Lib.hid hl'
        clear hst hle hl'
        go_wp2_with fail
        refine (ih x.list[k] A' c' _ hx (by omega) HX.out).mono ?_
        rintro e w1 ⟨rfl, hb1⟩
        have hb2 := hb.trans (hb1.mono hb.size)
        go_wp2
        go_roundw
        case rel => exact ⟨k + 1, by omega, by go_num, int_of (by rw [HS.out]; omega), hb2⟩
        case measure => simp [Go.RowKit.intOf]; omega
      · have hkl : k = x.list.length := by omega
        subst hkl
        rw [List.take_length]
        go_wp2
        go_ret
        exact ⟨ret_int (by rw [HE.out]), hbw⟩
end Go.Proofs.Ytbcfeoobhemdcaa
namespace Go.Proofs.Ytbcfeoobhemdcaa
open Go.RowKit

mutual
def SX.depth : SX → Nat
  | .mk a l => if a.size = 0 then SX.depthL l + 1 else 0
def SX.depthL : List SX → Nat
  | [] => 0
  | x :: r => max x.depth (SX.depthL r)
end
theorem SX.depth_eq (x : SX) : x.depth = if x.atom.size = 0 then SX.depthL x.list + 1 else 0 := by cases x; rw [SX.depth]; rfl
theorem SX.depthL_take : ∀ (l : List SX) (j : Nat) (h : j < l.length), SX.depthL (l.take (j + 1)) = max (SX.depthL (l.take j)) l[j].depth
  | x :: r, 0, _ => by simp [SX.depthL]
  | x :: r, j + 1, h => by
    have := SX.depthL_take r j (by simpa using h)
    rw [List.take_succ_cons, List.take_succ_cons, SX.depthL, SX.depthL, this]
    simp
mutual
theorem SX.depth_le : ∀ (x : SX), x.depth ≤ x.nodes
  | .mk a l => by have := SX.depthL_le l; rw [SX.depth, SX.nodes]; split <;> omega
theorem SX.depthL_le : ∀ (l : List SX), SX.depthL l ≤ SX.nodesL l
  | [] => by rw [SX.depthL, SX.nodesL]; omega
  | x :: r => by have := SX.depth_le x; have := SX.depthL_le r; rw [SX.depthL, SX.nodesL]; omega
end
theorem empty_of {a : ByteArray} (h : a.size = 0) : a = ByteArray.empty := ByteArray.size_eq_zero_iff.1 h
theorem nonempty_of {a : ByteArray} (h : a.size ≠ 0) : a.toList.isEmpty = false := by
  rw [ByteArray.toList_eq, List.isEmpty_eq_false_iff]; intro e; apply h; have := congrArg List.length e; simpa using this

def DepthX (N : Nat) : Prop := ∀ (x : SX) (A : Option Addr) (c : Nat) (w : World), x.nodes ≤ N → x.nodes ≤ 4294967296 → ListAt w (Lt w.heap.size) A x.list →
  Calls Try.prog 70 #[.agg #[.string x.atom, .slice A x.list.length c]] w fun e w' => e = .returned (.int .i64 x.depth) ∧ Below w.heap.size w w'

set_option maxRecDepth 100000 in
set_option maxHeartbeats 1000000 in
theorem depthX : ∀ N, DepthX N
  | 0 => fun x A c w hn => by rw [SX.nodes_eq] at hn; omega
  | N + 1 => by
    intro x A c w hn hm hl
    have ih := depthX N
    have hne := SX.nodes_eq x
    have hll := SX.nodesL_length x.list
    have hdn := SX.depthL_le x.list
    have hlen : x.list.length ≤ 4294967296 := by omega
    have hde := SX.depth_eq x
    by_cases ha : x.atom.size = 0
    · rw [if_pos ha] at hde
      have HL := Lib.hid hl
      have HE := Lib.hid hne
      have HD := Lib.hid hde
      have HN := Lib.hid hdn
      clear hl hne hde hdn
      rw [empty_of ha]
      clear ha
      go_enter Try.func70, Try.ntmps70
      go_wp2
      go_loopw [3, 4] (fun nv iv wr => ∃ k : Nat, k ≤ x.list.length ∧ iv = .int .i64 k ∧ nv = .int .i64 (SX.depthL (x.list.take k) : Nat) ∧ Below (w.alloc (.cells #[.string ByteArray.empty, .slice A x.list.length c] 26)).heap.size (w.alloc (.cells #[.string ByteArray.empty, .slice A x.list.length c] 26)) wr) (fun _ iv _ => x.list.length - (Go.RowKit.intOf iv).toNat)
      case atStart => exact ⟨0, Nat.zero_le _, rfl, by simp [SX.depthL], Below.refl _ _⟩
      case round =>
        obtain ⟨k, hk, rfl, rfl, hb⟩ := hrel
        obtain ⟨b0, b1, hbw⟩ := boxed hb
        by_cases hlt : k < x.list.length
        · obtain ⟨b, o, A', c', rfl, hP, hc0, hc1, hl'⟩ := (boxedList HL.out hb).at_ hlt
          have hst := SX.depthL_take x.list k hlt
          have hx : x.list[k].nodes ≤ N := by have := SX.nodesL_at x.list k hlt; have := HE.out; omega
          have hsm : x.list[k].nodes ≤ 4294967296 := by have := SX.nodesL_at x.list k hlt; have := HE.out; omega
          have HS := Lib.hid hst
          have HX := Lib.hid hl'
          clear hst hl'
          go_wp2_with fail
          refine (ih x.list[k] A' c' _ hx hsm HX.out).mono ?_
          rintro e w1 ⟨rfl, hb1⟩
          have hb2 := hb.trans (hb1.mono hb.size)
          go_wp2_with fail
          refine (maxOf _ _ _).mono ?_
          rintro e w2 ⟨rfl, rfl⟩
          go_wp2
          go_roundw
          case rel => exact ⟨k + 1, by omega, by go_num, int_of (by rw [HS.out]), hb2⟩
          case measure => simp [Go.RowKit.intOf]; omega
        · have hkl : k = x.list.length := by omega
          subst hkl
          rw [List.take_length]
          have hdb : SX.depthL x.list ≤ 4294967296 := by have := HN.out; have := HE.out; omega
          go_wp2
          go_ret
          exact ⟨ret_int (by rw [HD.out]; omega), hbw⟩
    · rw [if_neg ha] at hde
      have HD := Lib.hid hde
      have hne := nonempty_of ha
      clear hde hl
      go_enter Try.func70, Try.ntmps70
      go_wp2
      go_ret
      exact ⟨ret_int (by rw [HD.out]; rfl), (Below.refl _ _).alloc (Nat.le_refl _) _⟩
end Go.Proofs.Ytbcfeoobhemdcaa
namespace Go.Proofs.Ytbcfeoobhemdcaa
open Go.RowKit

/-- What is left: -1 where there was more. -/
def leftOf (L n : Nat) : Int := if n ≤ L then (L : Int) - n else -1
theorem leftOf_yes {L n : Nat} (h : n ≤ L) : leftOf L n = (L : Int) - n := by rw [leftOf, if_pos h]
theorem leftOf_no {L n : Nat} (h : L < n) : leftOf L n = -1 := by rw [leftOf, if_neg (by omega)]

def SzX (N : Nat) : Prop := ∀ (x : SX) (A : Option Addr) (c L : Nat) (w : World), x.nodes ≤ N → x.ok → ListAt w (Lt w.heap.size) A x.list → L ≤ 1048576 →
  Calls Try.prog 37 #[.agg #[.string x.atom, .slice A x.list.length c], .int .i64 L] w fun e w' => e = .returned (.int .i64 (leftOf L x.wt)) ∧ Below w.heap.size w w'
def SzL (N : Nat) : Prop := ∀ (l : List SX) (A : Option Addr) (c L : Nat) (w : World), SX.nodesL l ≤ N → SX.okL l → l.length ≤ 9223372036854775807 → ListAt w (Lt w.heap.size) A l → L ≤ 1048576 →
  Calls Try.prog 85 #[.slice A l.length c, .int .i64 L] w fun e w' => e = .returned (.int .i64 (leftOf L (SX.wtL l))) ∧ Below w.heap.size w w'

set_option maxRecDepth 100000 in
set_option maxHeartbeats 1000000 in
theorem szX_step (N : Nat) (ih : SzL N) : SzX (N + 1) := by
  intro x A c L w hn hok hl hL
  have hn' : SX.nodesL x.list ≤ N := by rw [SX.nodes_eq] at hn; omega
  obtain ⟨ho1, ho2, ho3⟩ := SX.ok_eq x hok
  have hw := SX.wt_eq x
  have hb0 : Below w.heap.size w (w.alloc (.cells #[.string x.atom, .slice A x.list.length c] 46)) := (Below.refl _ _).alloc (Nat.le_refl _) _
  have HL := Lib.hid (hl.grow hb0)
  have HO := Lib.hid ho3
  clear hl hn hok ho3
  by_cases h1 : x.atom.size ≤ L
  · have hnn : ¬ (L : Int) - x.atom.size < 0 := by omega
    have hcast : (L : Int) - x.atom.size = ((L - x.atom.size : Nat) : Int) := by omega
    have HC := Lib.hid hcast
    have HW := Lib.hid hw
    clear hcast hw
    go_enter Try.func37, Try.ntmps37
    go_wp2_with fail
    rw [HC.out]
    refine (ih x.list A c (L - x.atom.size) _ hn' HO.out ho2 HL.out (by omega)).mono ?_
    rintro e w1 ⟨rfl, hb1⟩
    have hb : Below w.heap.size w w1 := hb0.trans (hb1.mono hb0.size)
    by_cases h2 : SX.wtL x.list ≤ L - x.atom.size
    · rw [leftOf_yes h2]
      have h3 : x.wt ≤ L := by rw [HW.out]; omega
      have hnn2 : ¬ ((L - x.atom.size : Nat) : Int) - (SX.wtL x.list : Nat) < 0 := by omega
      go_wp2
      go_ret
      exact ⟨ret_int (by rw [leftOf_yes h3, HW.out]; omega), hb⟩
    · rw [leftOf_no (by omega)]
      have h3 : L < x.wt := by rw [HW.out]; omega
      go_wp2
      go_ret
      exact ⟨ret_int (leftOf_no h3).symm, hb⟩
  · have hnn : (L : Int) - x.atom.size < 0 := by omega
    have h3 : L < x.wt := by omega
    clear hw
    go_enter Try.func37, Try.ntmps37
    go_wp2
    go_ret
    exact ⟨ret_int (leftOf_no h3).symm, hb0⟩

set_option maxRecDepth 100000 in
set_option maxHeartbeats 1000000 in
theorem szL_step (N : Nat) (ih : SzX N) : SzL N := by
  intro l A c L w hn hok hlen hl hL
  have HL := Lib.hid hl
  have HO := Lib.hid hok
  have HN := Lib.hid hn
  clear hl hok hn
  by_cases hfst : L < l.length
  · have hnn : (L : Int) - l.length < 0 := by omega
    have h3 : L < SX.wtL l := by have := SX.wtL_length l; omega
    go_enter Try.func85, Try.ntmps85
    go_wp2
    go_ret
    exact ⟨ret_int (leftOf_no h3).symm, Below.refl _ _⟩
  · have hnn : ¬ (L : Int) - l.length < 0 := by omega
    go_enter Try.func85, Try.ntmps85
    go_wp2
    go_loopw [1, 5] (fun qv iv wr => ∃ k q : Nat, k ≤ l.length ∧ iv = .int .i64 k ∧ qv = .int .i64 q ∧ q + l.length + SX.wtL (l.take k) = L + k ∧ Below w.heap.size w wr) (fun _ iv _ => l.length - (Go.RowKit.intOf iv).toNat)
    case atStart => exact ⟨0, L - l.length, Nat.zero_le _, rfl, int_of (by omega), by simp [SX.wtL]; omega, Below.refl _ _⟩
    case round =>
      obtain ⟨k, q, hk, rfl, rfl, hq, hb⟩ := hrel
      by_cases hlt : k < l.length
      · obtain ⟨b, o, A', c', rfl, hP, hc0, hc1, hl'⟩ := (HL.out.below hb).at_ hlt
        have hst := SX.wtL_take l k hlt
        have hre := SX.wtL_rest l (k + 1) hlt
        have HX := Lib.hid (hl'.frame (Q := Lt wr.heap.size) (fun _ h => Nat.lt_of_lt_of_le h hb.size) (fun _ _ _ => rfl))
        have HOX := Lib.hid (SX.okL_at l HO.out k hlt)
        have HNX := Lib.hid (Nat.le_trans (SX.nodesL_at l k hlt) HN.out)
        have hqL : q ≤ 1048576 := by have := SX.wtL_le l k; omega
        have HQ := Lib.hid hq
        have HS := Lib.hid hst
        have HR := Lib.hid hre
        clear hl' hq hst hre
        go_wp2_with fail
        refine (ih l[k] A' c' q _ HNX.out HOX.out HX.out hqL).mono ?_
        rintro e w1 ⟨rfl, hb1⟩
        have hb2 : Below w.heap.size w w1 := hb.trans (hb1.mono hb.size)
        by_cases h2 : l[k].wt ≤ q
        · rw [leftOf_yes h2]
          have hnn2 : ¬ (q : Int) - (l[k].wt : Nat) < 0 := by omega
          have hq3 : q - l[k].wt + l.length + SX.wtL (l.take (k + 1)) = L + (k + 1) := by rw [HS.out]; have := HQ.out; omega
          have HQ3 := Lib.hid hq3
          clear hq3
          go_wp2
          go_roundw
          case rel => exact ⟨k + 1, q - l[k].wt, by omega, by go_num, int_of (by omega), HQ3.out, hb2⟩
          case measure => simp [Go.RowKit.intOf]; omega
        · rw [leftOf_no (by omega)]
          have h3 : L < SX.wtL l := by have := HQ.out; have := HS.out; have := HR.out; omega
          go_wp2
          go_ret
          exact ⟨ret_int (leftOf_no h3).symm, hb2⟩
      · have hkl : k = l.length := by omega
        have h3 : q + SX.wtL l = L := by
          have := hq
          rw [hkl, List.take_length] at this
          omega
        have H3 := Lib.hid h3
        clear hq h3
        go_wp2
        go_ret
        exact ⟨ret_int (by have := H3.out; rw [leftOf_yes (by omega)]; omega), hb⟩

theorem szAll : ∀ N, SzX N ∧ SzL N
  | 0 => by
    have hx : SzX 0 := fun x A c L w hn => by rw [SX.nodes_eq] at hn; omega
    exact ⟨hx, szL_step 0 hx⟩
  | N + 1 => ⟨szX_step N (szAll N).2, szL_step (N + 1) (szX_step N (szAll N).2)⟩
theorem szX (x : SX) (A : Option Addr) (c L : Nat) (w : World) (hok : x.ok) (hl : ListAt w (Lt w.heap.size) A x.list) (hL : L ≤ 1048576) :
    Calls Try.prog 37 #[.agg #[.string x.atom, .slice A x.list.length c], .int .i64 L] w fun e w' => e = .returned (.int .i64 (leftOf L x.wt)) ∧ Below w.heap.size w w' :=
  (szAll x.nodes).1 x A c L w (Nat.le_refl _) hok hl hL
end Go.Proofs.Ytbcfeoobhemdcaa
namespace Go.Proofs.Ytbcfeoobhemdcaa
open Go.RowKit

mutual
def SX.form : SX → Bool
  | .mk a l => if a.size = 0 then SX.formL l else okAtom a && decide (l.length = 0)
def SX.formL : List SX → Bool
  | [] => true
  | x :: r => x.form && SX.formL r
end
theorem SX.form_eq (x : SX) : x.form = if x.atom.size = 0 then SX.formL x.list else okAtom x.atom && decide (x.list.length = 0) := by cases x; rw [SX.form]; rfl
theorem SX.formL_take : ∀ (l : List SX) (j : Nat) (h : j < l.length), SX.formL (l.take (j + 1)) = (SX.formL (l.take j) && l[j].form)
  | x :: r, 0, _ => by simp [SX.formL]
  | x :: r, j + 1, h => by
    have := SX.formL_take r j (by simpa using h)
    rw [List.take_succ_cons, List.take_succ_cons, SX.formL, SX.formL, this]
    simp [Bool.and_assoc]
theorem SX.formL_false : ∀ (l : List SX) (j : Nat) (h : j < l.length), l[j].form = false → SX.formL l = false
  | x :: r, 0, _, hf => by rw [SX.formL]; simp at hf; rw [hf]; rfl
  | x :: r, j + 1, h, hf => by rw [SX.formL, SX.formL_false r j (by simpa using h) (by simpa using hf), Bool.and_false]

def FormX (N : Nat) : Prop := ∀ (x : SX) (A : Option Addr) (c : Nat) (w : World), x.nodes ≤ N → x.nodes ≤ 4294967296 → x.ok → ListAt w (Lt w.heap.size) A x.list →
  Calls Try.prog 69 #[.agg #[.string x.atom, .slice A x.list.length c]] w fun e w' => e = .returned (.bool x.form) ∧ Below w.heap.size w w'

set_option maxRecDepth 100000 in
set_option maxHeartbeats 1000000 in
theorem formX : ∀ N, FormX N
  | 0 => fun x A c w hn => by rw [SX.nodes_eq] at hn; omega
  | N + 1 => by
    intro x A c w hn hm hok hl
    have ih := formX N
    have hne := SX.nodes_eq x
    have hll := SX.nodesL_length x.list
    have hlen : x.list.length ≤ 4294967296 := by omega
    have hfe := SX.form_eq x
    obtain ⟨hza, -, hol⟩ := SX.ok_eq x hok
    by_cases ha : x.atom.size = 0
    · rw [if_pos ha] at hfe
      have HL := Lib.hid hl
      have HE := Lib.hid hne
      have HF := Lib.hid hfe
      have HO := Lib.hid hol
      clear hl hne hfe hol hok
      rw [empty_of ha]
      clear ha
      go_enter Try.func69, Try.ntmps69
      go_wp2
      go_loopw [3] (fun iv wr => ∃ k : Nat, k ≤ x.list.length ∧ iv = .int .i64 k ∧ SX.formL (x.list.take k) = true ∧ Below (w.alloc (.cells #[.string ByteArray.empty, .slice A x.list.length c] 26)).heap.size (w.alloc (.cells #[.string ByteArray.empty, .slice A x.list.length c] 26)) wr) (fun iv _ => x.list.length - (Go.RowKit.intOf iv).toNat)
      case atStart => exact ⟨0, Nat.zero_le _, rfl, by simp [SX.formL], Below.refl _ _⟩
      case round =>
        obtain ⟨k, hk, rfl, hf, hb⟩ := hrel
        obtain ⟨b0, b1, hbw⟩ := boxed hb
        have HT := Lib.hid hf
        clear hf
        by_cases hlt : k < x.list.length
        · obtain ⟨b, o, A', c', rfl, hP, hc0, hc1, hl'⟩ := (boxedList HL.out hb).at_ hlt
          have hst := SX.formL_take x.list k hlt
          have hno := SX.formL_false x.list k hlt
          rw [HT.out, Bool.true_and] at hst
          have hx : x.list[k].nodes ≤ N := by have := SX.nodesL_at x.list k hlt; have := HE.out; omega
          have hsm : x.list[k].nodes ≤ 4294967296 := by have := SX.nodesL_at x.list k hlt; have := HE.out; omega
          have HS := Lib.hid hst
          have HX := Lib.hid hl'
          have HNo := Lib.hid hno
          clear hst hl' hno
          go_wp2_with fail
          refine (ih x.list[k] A' c' _ hx hsm (SX.okL_at _ HO.out k hlt) HX.out).mono ?_
          rintro e w1 ⟨rfl, hb1⟩
          have hb2 := hb.trans (hb1.mono hb.size)
          cases hc : x.list[k].form with
          | true =>
            have HC := Lib.hid hc
            clear hc
            go_wp2
            go_roundw
            case rel => exact ⟨k + 1, by omega, by go_num, by rw [HS.out, HC.out], hb2⟩
            case measure => simp [Go.RowKit.intOf]; omega
          | false =>
            have HC := Lib.hid hc
            clear hc
            have hbw2 := hbw.trans (hb1.mono hbw.size)
            go_wp2
            go_ret
            exact ⟨congrArg (fun b => Ending.returned (.bool b)) (HF.out.trans (HNo.out HC.out)).symm, hbw2⟩
        · have hkl : k = x.list.length := by omega
          subst hkl
          have ht := HT.out
          rw [List.take_length] at ht
          have HT' := Lib.hid ht
          clear ht
          go_wp2
          go_ret
          exact ⟨congrArg (fun b => Ending.returned (.bool b)) (HF.out.trans HT'.out).symm, hbw⟩
    · rw [if_neg ha] at hfe
      have HF := Lib.hid hfe
      have hnem := nonempty_of ha
      clear hfe hl
      cases hc : okAtom x.atom with
      | true =>
        have HC := Lib.hid hc
        clear hc
        go_enter Try.func69, Try.ntmps69
        go_wp2_with fail
        refine (validAtom x.atom _ hza).mono ?_
        rintro e w1 ⟨rfl, rfl⟩
        have hc := HC.out
        rw [hc]
        clear hc
        go_wp2
        go_ret
        refine ⟨congrArg (fun b => Ending.returned (.bool b)) ?_, (Below.refl _ _).alloc (Nat.le_refl _) _⟩
        rw [HF.out, HC.out, Bool.true_and]
        rw [Bool.eq_iff_iff]; simp
      | false =>
        have HC := Lib.hid hc
        clear hc
        go_enter Try.func69, Try.ntmps69
        go_wp2_with fail
        refine (validAtom x.atom _ hza).mono ?_
        rintro e w1 ⟨rfl, rfl⟩
        have hc := HC.out
        rw [hc]
        clear hc
        go_wp2
        go_ret
        refine ⟨congrArg (fun b => Ending.returned (.bool b)) ?_, (Below.refl _ _).alloc (Nat.le_refl _) _⟩
        rw [HF.out, HC.out, Bool.false_and]

def LeftX (N : Nat) : Prop := ∀ (x : SX) (A : Option Addr) (c L : Nat) (w : World), x.nodes ≤ N → x.nodes ≤ 4294967296 → L ≤ 4294967296 → ListAt w (Lt w.heap.size) A x.list →
  Calls Try.prog 68 #[.agg #[.string x.atom, .slice A x.list.length c], .int .i64 L] w fun e w' => e = .returned (.int .i64 (leftOf L x.nodes)) ∧ Below w.heap.size w w'

theorem left_some {L n : Nat} (h : n ≤ L) : leftOf L n = ((L - n : Nat) : Int) := by rw [leftOf]; split <;> omega
theorem left_none {L n : Nat} (h : L < n) : leftOf L n = -1 := by rw [leftOf]; split <;> omega

set_option maxRecDepth 100000 in
set_option maxHeartbeats 1000000 in
theorem leftX : ∀ N, LeftX N
  | 0 => fun x A c L w hn => by rw [SX.nodes_eq] at hn; omega
  | N + 1 => by
    intro x A c L w hn hm hL hl
    have ih := leftX N
    have hne := SX.nodes_eq x
    have hll := SX.nodesL_length x.list
    have hlen : x.list.length ≤ 4294967296 := by omega
    have HL := Lib.hid hl
    have HE := Lib.hid hne
    clear hl hne
    go_enter Try.func68, Try.ntmps68
    go_wp2
    go_loopw [1, 5] (fun lv iv wr => ∃ k : Nat, k ≤ x.list.length ∧ iv = .int .i64 k ∧ lv = .int .i64 (leftOf L (1 + SX.nodesL (x.list.take k))) ∧ Below (w.alloc (.cells #[.string x.atom, .slice A x.list.length c] 26)).heap.size (w.alloc (.cells #[.string x.atom, .slice A x.list.length c] 26)) wr) (fun _ iv _ => x.list.length - (Go.RowKit.intOf iv).toNat)
    case atStart =>
      refine ⟨0, Nat.zero_le _, rfl, int_of ?_, Below.refl _ _⟩
      rw [List.take_zero, SX.nodesL]
      by_cases h0 : L = 0
      · subst h0; rw [left_none (by omega)]; rfl
      · rw [left_some (by omega)]; omega
    case round =>
      obtain ⟨k, hk, rfl, rfl, hb⟩ := hrel
      obtain ⟨b0, b1, hbw⟩ := boxed hb
      by_cases hlt : k < x.list.length
      · by_cases hle : 1 + SX.nodesL (x.list.take k) ≤ L
        · obtain ⟨b, o, A', c', rfl, hP, hc0, hc1, hl'⟩ := (boxedList HL.out hb).at_ hlt
          have hst := SX.nodesL_take x.list k hlt
          have hx : x.list[k].nodes ≤ N := by have := SX.nodesL_at x.list k hlt; have := HE.out; omega
          have hsm : x.list[k].nodes ≤ 4294967296 := by have := SX.nodesL_at x.list k hlt; have := HE.out; omega
          have hnew : leftOf (L - (1 + SX.nodesL (x.list.take k))) x.list[k].nodes = leftOf L (1 + SX.nodesL (x.list.take (k + 1))) := by
            rw [hst, leftOf, leftOf]; split <;> split <;> omega
          have HS := Lib.hid hnew
          have HX := Lib.hid hl'
          clear hst hl' hnew
          rw [left_some hle]
          go_wp2_with fail
          refine (ih x.list[k] A' c' (L - (1 + SX.nodesL (x.list.take k))) _ hx hsm (by omega) HX.out).mono ?_
          rintro e w1 ⟨rfl, hb1⟩
          have hb2 := hb.trans (hb1.mono hb.size)
          go_wp2
          go_roundw
          case rel => exact ⟨k + 1, by omega, by go_num, int_of (by rw [HS.out]), hb2⟩
          case measure => simp [Go.RowKit.intOf]; omega
        · have hr : leftOf L x.nodes = -1 := left_none (by have := HE.out; have := SX.nodesL_le x.list k; omega)
          have HR := Lib.hid hr
          clear hr
          rw [left_none (by omega)]
          go_wp2
          go_ret
          exact ⟨ret_int (by rw [HR.out]), hbw⟩
      · have hkl : k = x.list.length := by omega
        subst hkl
        have hr : leftOf L x.nodes = leftOf L (1 + SX.nodesL (x.list.take x.list.length)) := by rw [HE.out, List.take_length]
        have HR := Lib.hid hr
        clear hr
        go_wp2
        go_ret
        exact ⟨ret_int (by rw [HR.out]), hbw⟩
end Go.Proofs.Ytbcfeoobhemdcaa
namespace Go.Proofs.Ytbcfeoobhemdcaa
open Go.RowKit Go.Lib

def sizes (ss : List ByteArray) : Nat := (ss.map (·.size)).sum
theorem sizes_take (ss : List ByteArray) (k : Nat) (h : k < ss.length) : sizes (ss.take (k + 1)) = sizes (ss.take k) + ss[k].size := by
  rw [List.take_succ_eq_append_getElem h, sizes, List.map_append, List.sum_append]
  simp [sizes]
theorem sizes_le (ss : List ByteArray) (k : Nat) : sizes (ss.take k) ≤ sizes ss := by
  have h : ss = ss.take k ++ ss.drop k := (List.take_append_drop k ss).symm
  have h2 : sizes ss = sizes (ss.take k) + sizes (ss.drop k) := by
    conv => lhs; rw [h]
    simp only [sizes, List.map_append, List.sum_append]
  omega

theorem join_take_one (d : List (List UInt8)) (sep : List UInt8) (h : 0 < d.length) : join (d.take 1) sep = d[0] := by
  match d, h with
  | x :: r, _ => rw [List.take_succ_cons, List.take_zero, join_one]; rfl
theorem join_take_succ (d : List (List UInt8)) (sep : List UInt8) (k : Nat) (h0 : 0 < k) (h : k < d.length) : join (d.take (k + 1)) sep = join (d.take k) sep ++ sep ++ d[k] := by
  match d, k, h0, h with
  | x :: r, k + 1, _, h =>
    have hr : k < r.length := by simp at h; omega
    rw [List.take_succ_cons, List.take_succ_cons, join_cons, join_cons, joinTail_take_succ sep r k r[k] (List.getElem?_eq_getElem hr)]
    simp [List.append_assoc]
theorem join_length_le (d : List (List UInt8)) (sep : List UInt8) : (join d sep).length ≤ sep.length * d.length + lens d := by
  cases d with
  | nil => simp [join_nil]
  | cons x r =>
    rw [join_length, List.length_cons, Nat.mul_add]
    omega
theorem lens_sizes (ss : List ByteArray) : lens (ss.map (·.data.toList)) = sizes ss := by
  simp [lens, sizes, Function.comp_def]
/-- How long what is joined may become. -/
theorem joined_le (ss : List ByteArray) (sep : ByteArray) (k : Nat) (h1 : ss.length + sizes ss ≤ 1048576) (h2 : sep.size ≤ 1048576) : (join ((ss.map (·.data.toList)).take k) sep.data.toList).length ≤ 1099512676352 := by
  have h := join_length_le ((ss.map (·.data.toList)).take k) sep.data.toList
  have hl := lens_take_le (ss.map (·.data.toList)) k
  rw [lens_sizes] at hl
  have hn : ((ss.map (·.data.toList)).take k).length ≤ 1048576 := by
    have := List.length_take_le k (ss.map (·.data.toList))
    rw [List.length_take, List.length_map]
    omega
  have hs : sep.data.toList.length ≤ 1048576 := by simpa using h2
  have hm := Nat.mul_le_mul hs hn
  omega
end Go.Proofs.Ytbcfeoobhemdcaa
namespace Go.Proofs.Ytbcfeoobhemdcaa
open Go.RowKit Go.Lib

theorem infoByte : (Try.prog.info? 5).map (fun i => (i.zero, i.size, i.bytes)) = some (some (.int .u8 0), 1, 1) := by kernel_rfl
def bv (b : UInt8) : Value := .int .u8 b.toNat
theorem strCells_bv (s : ByteArray) : strCells s = s.data.toList.map bv := rfl

set_option maxRecDepth 100000 in
set_option maxHeartbeats 2000000 in
theorem specJoin (A : Option Addr) (c : Nat) (ss : List ByteArray) (sep : ByteArray) (w : World) (hA : Strs w A ss) (h1 : ss.length + sizes ss ≤ 1048576) (h2 : sep.size ≤ 1048576) :
    Calls Try.prog 115 #[.slice A ss.length c, .string sep] w fun e w' => e = .returned (.string ⟨(join (ss.map (·.data.toList)) sep.data.toList).toArray⟩) ∧ Below w.heap.size w w' := by
  obtain ⟨i0, hi, hz0, hz1, hz2⟩ := info_parts infoByte
  have HA := Lib.hid hA
  have hbl := fun k => joined_le ss sep k h1 h2
  have HBL := Lib.hid hbl
  have hml : (ss.map (·.data.toList)).length = ss.length := by simp
  have HML := Lib.hid hml
  clear hA hbl hml
  go_enter Try.func115, Try.ntmps115
  go_wp2
  go_loopw [5, 6] (fun v iv wr => ∃ k : Nat, k ≤ ss.length ∧ iv = .int .i64 k ∧ wr.ownsRow w.heap.size 5 1 v (join ((ss.map (·.data.toList)).take k) sep.data.toList).length ((join ((ss.map (·.data.toList)).take k) sep.data.toList).map bv) ∧ Below w.heap.size w wr) (fun _ iv _ => ss.length - (Go.RowKit.intOf iv).toNat)
  case atStart => exact ⟨0, Nat.zero_le _, rfl, World.ownsRow_made w #[] 0 (Nat.le_refl _) (by decide) rfl, (Below.refl _ _).alloc (Nat.le_refl _) _⟩
  case round =>
    obtain ⟨k, hk, rfl, hown, hb⟩ := hrel
    by_cases hlt : k < ss.length
    · have hkm : k < (ss.map (·.data.toList)).length := by rw [HML.out]; exact hlt
      have hkd : (ss.map (·.data.toList))[k] = ss[k].data.toList := by simp
      have hz : ss[k].size ≤ 1048576 := by have := sizes_take ss k hlt; have := sizes_le ss (k + 1); omega
      by_cases h0 : 0 < k
      · have hst := join_take_succ (ss.map (·.data.toList)) sep.data.toList k h0 hkm
        rw [hkd] at hst
        have HS := Lib.hid hst
        have hb0 := HBL.out k
        have hb1 := HBL.out (k + 1)
        have hk1 : (join ((ss.map (·.data.toList)).take k) sep.data.toList).length ≤ 1099512676352 := hb0
        clear hst hkd hkm hb0 hb1
        generalize hJ : join ((ss.map (·.data.toList)).take k) sep.data.toList = J at *
        have HJ := Lib.hid hJ
        clear hJ
        go_wp2_with (at_builtin; refine wpList_append_own_string _ rfl _ _ 22 9 rfl w.heap.size 5 i0 Try.underlying22 Try.underlying9 hi hz0 hz1 hz2 _ _ _ rfl hown sep rfl (by unfold maxLen; omega) (by omega) hb.size ?_)
        intro v1 w1 hown1 hgrow1 _
        have hbe1 : Below w.heap.size w w1 := hb.grown hgrow1 hb.size (fun q hq => (hown.lt q hq).1)
        obtain ⟨g, o, rfl, hc⟩ := (HA.out.below hbe1).at_ hlt
        go_wp2_with (at_builtin; refine wpList_append_own_string _ rfl _ _ 22 9 rfl w.heap.size 5 i0 Try.underlying22 Try.underlying9 hi hz0 hz1 hz2 _ _ _ rfl hown1 ss[k] rfl (by unfold maxLen; omega) (by omega) hbe1.size ?_)
        intro v2 w2 hown2 hgrow2 _
        have hbe2 : Below w.heap.size w w2 := hbe1.grown hgrow2 hbe1.size (fun q hq => (hown1.lt q hq).1)
        have e1 : (J ++ sep.data.toList ++ ss[k].data.toList).length = J.length + sep.size + ss[k].size := by simp [List.length_append]; omega
        have e2 : (J ++ sep.data.toList ++ ss[k].data.toList).map bv = J.map bv ++ (strCells sep ++ strCells ss[k]) := by simp [strCells_bv]
        rw [← e1, ← e2, ← HS.out] at hown2
        have HO := Lib.hid hown2
        clear e1 e2 hown hown1 hown2 hgrow1 hgrow2
        go_wp2
        go_roundw
        case rel => exact ⟨k + 1, by omega, by go_num, HO.out, hbe2⟩
        case measure => simp [Go.RowKit.intOf]; omega
      · have hk0 : k = 0 := by omega
        subst hk0
        obtain ⟨g, o, rfl, hc⟩ := (HA.out.below hb).at_ hlt
        rw [Nat.add_zero] at hc
        have hst := join_take_one (ss.map (·.data.toList)) sep.data.toList hkm
        rw [hkd] at hst
        have HS := Lib.hid hst
        have hown0 := hown
        simp only [List.take_zero, join_nil, List.length_nil, List.map_nil] at hown0
        clear hst hkd hkm
        go_wp2_with (at_builtin; refine wpList_append_own_string _ rfl _ _ 22 9 rfl w.heap.size 5 i0 Try.underlying22 Try.underlying9 hi hz0 hz1 hz2 _ _ _ rfl hown0 ss[0] rfl (by unfold maxLen; omega) (by omega) hb.size ?_)
        intro v2 w2 hown2 hgrow2 _
        have hbe2 : Below w.heap.size w w2 := hb.grown hgrow2 hb.size (fun q hq => (hown.lt q hq).1)
        have hown3 : w2.ownsRow w.heap.size 5 1 v2 (join ((ss.map (·.data.toList)).take 1) sep.data.toList).length ((join ((ss.map (·.data.toList)).take 1) sep.data.toList).map bv) := by
          rw [HS.out]
          simpa [join_nil, strCells_bv] using hown2
        have HO := Lib.hid hown3
        clear hown hown0 hown2 hown3 hgrow2
        go_wp2
        go_roundw
        case rel => exact ⟨1, by omega, rfl, HO.out, hbe2⟩
        case measure => simp [Go.RowKit.intOf]; omega
    · have hkl : k = ss.length := by omega
      subst hkl
      have hall : (ss.map (·.data.toList)).take ss.length = ss.map (·.data.toList) := List.take_of_length_le (by rw [HML.out]; exact Nat.le_refl _)
      rw [hall] at hown
      clear hall
      generalize hJ : join (ss.map (·.data.toList)) sep.data.toList = J at *
      have HJ := Lib.hid hJ
      clear hJ
      rcases hown.2 with ⟨rfl, hj0⟩ | ⟨g, cap, cur, rfl, _⟩
      · have hJ0 : J = [] := List.eq_nil_of_length_eq_zero hj0
        subst hJ0
        have kc := run_convert_bytes_nil (P := Try.prog) wr 22 5 Try.underlying22 Try.underlying5 0 0 9 Try.underlying9
        go_wp2
        go_ret
        exact ⟨ret_str (by rw [HJ.out]; rfl), hb⟩
      · have kc := run_convert_bytes_back (P := Try.prog) wr 22 9 5 ⟨g, 0, none⟩ cap J Try.underlying22 Try.underlying5 Try.underlying9 (fun j hj => by
          have h := hown.cells (g := g) rfl j (bv J[j]) (by rw [List.getElem?_map, List.getElem?_eq_getElem hj]; rfl)
          exact h)
        go_wp2
        go_ret
        exact ⟨ret_str (by rw [HJ.out]), hb⟩
end Go.Proofs.Ytbcfeoobhemdcaa
namespace Go.Proofs.Ytbcfeoobhemdcaa
open Go.RowKit Go.Lib

mutual
def SX.text : SX → ByteArray
  | .mk a l => if a.size = 0 then (⟨#[40]⟩ : ByteArray) ++ ⟨(join ((SX.textL l).map (·.data.toList)) [32]).toArray⟩ ++ ⟨#[41]⟩ else a
def SX.textL : List SX → List ByteArray
  | [] => []
  | x :: r => x.text :: SX.textL r
end
theorem SX.text_eq (x : SX) : x.text = if x.atom.size = 0 then (⟨#[40]⟩ : ByteArray) ++ ⟨(join ((SX.textL x.list).map (·.data.toList)) [32]).toArray⟩ ++ ⟨#[41]⟩ else x.atom := by cases x; rw [SX.text]; rfl
theorem SX.textL_length : ∀ (l : List SX), (SX.textL l).length = l.length
  | [] => rfl
  | x :: r => by rw [SX.textL, List.length_cons, List.length_cons, SX.textL_length r]
theorem SX.textL_take : ∀ (l : List SX) (j : Nat) (h : j < l.length), SX.textL (l.take (j + 1)) = SX.textL (l.take j) ++ [l[j].text]
  | x :: r, 0, _ => by simp [SX.textL]
  | x :: r, j + 1, h => by
    have := SX.textL_take r j (by simpa using h)
    rw [List.take_succ_cons, List.take_succ_cons, SX.textL, SX.textL, this]
    simp
mutual
/-- How long a text may be. -/
theorem SX.text_le : ∀ (x : SX), x.text.size ≤ x.wt + 3 * x.nodes
  | .mk a l => by
    rw [SX.text, SX.wt, SX.nodes]
    split
    · have h := SX.textL_le l
      have hj := join_length_le ((SX.textL l).map (·.data.toList)) [32]
      rw [lens_sizes] at hj
      have hn := SX.textL_length l
      simp only [List.length_map, hn, List.length_singleton, Nat.one_mul] at hj
      simp only [ByteArray.size_append]
      have e1 : (⟨(join ((SX.textL l).map (·.data.toList)) [32]).toArray⟩ : ByteArray).size = (join ((SX.textL l).map (·.data.toList)) [32]).length := by simp [ByteArray.size]
      have e2 : (⟨#[40]⟩ : ByteArray).size = 1 := rfl
      have e3 : (⟨#[41]⟩ : ByteArray).size = 1 := rfl
      omega
    · omega
theorem SX.textL_le : ∀ (l : List SX), l.length + sizes (SX.textL l) ≤ SX.wtL l + 3 * SX.nodesL l
  | [] => by simp [SX.textL, sizes]
  | x :: r => by
    have h1 := SX.text_le x
    have h2 := SX.textL_le r
    have h3 : sizes (SX.textL (x :: r)) = x.text.size + sizes (SX.textL r) := by rw [SX.textL]; simp [sizes]
    rw [h3, SX.wtL, SX.nodesL, List.length_cons]
    omega
end

def TextX (N : Nat) : Prop := ∀ (x : SX) (A : Option Addr) (c : Nat) (w : World), x.nodes ≤ N → x.wt + 3 * x.nodes ≤ 1048576 → ListAt w (Lt w.heap.size) A x.list →
  Calls Try.prog 66 #[.agg #[.string x.atom, .slice A x.list.length c]] w fun e w' => e = .returned (.string x.text) ∧ Below w.heap.size w w'

theorem wt_nodes_at (l : List SX) (j : Nat) (h : j < l.length) : l[j].wt + 3 * l[j].nodes ≤ SX.wtL l + 3 * SX.nodesL l := by
  have := SX.wtL_at l j h
  have := SX.nodesL_at l j h
  omega

set_option maxRecDepth 100000 in
set_option maxHeartbeats 2000000 in
theorem textX : ∀ N, TextX N
  | 0 => fun x A c w hn => by rw [SX.nodes_eq] at hn; omega
  | N + 1 => by
    intro x A c w hn hm hl
    have ih := textX N
    obtain ⟨i0, hi, hz0, hz1, hz2⟩ := info_parts infoString
    have hne := SX.nodes_eq x
    have hwe := SX.wt_eq x
    have hll := SX.wtL_length x.list
    have hlen : x.list.length ≤ 1048576 := by omega
    have hte := SX.text_eq x
    by_cases ha : x.atom.size = 0
    · rw [if_pos ha] at hte
      have htl := SX.textL_length x.list
      have hsz := SX.textL_le x.list
      have hjl : (join ((SX.textL x.list).map (·.data.toList)) [32]).length ≤ 1048576 := by
        have h1 := SX.text_le x
        have h2 : x.text.size = 1 + (join ((SX.textL x.list).map (·.data.toList)) [32]).length + 1 := by rw [hte]; simp only [ByteArray.size_append]; rw [show (⟨(join ((SX.textL x.list).map (·.data.toList)) [32]).toArray⟩ : ByteArray).size = (join ((SX.textL x.list).map (·.data.toList)) [32]).length by simp [ByteArray.size]]; rfl
        omega
      have hm2 : SX.wtL x.list + 3 * SX.nodesL x.list ≤ 1048576 := by omega
      have hn2 : SX.nodesL x.list ≤ N := by omega
      have HL := Lib.hid hl
      have HT := Lib.hid hte
      have HTL := Lib.hid htl
      have HSZ := Lib.hid hsz
      clear hl hne hwe hll hte htl hsz hm hn
      rw [empty_of ha]
      clear ha
      have hb0 : Below w.heap.size w ((w.alloc (.cells #[.string ByteArray.empty, .slice A x.list.length c] 26)).alloc (.cells #[] 9)) := ((Below.refl _ _).alloc (Nat.le_refl _) _).alloc (by simp) _
      go_enter Try.func66, Try.ntmps66
      go_wp2
      go_loopw [3, 4] (fun v iv wr => ∃ k : Nat, k ≤ x.list.length ∧ iv = .int .i64 k ∧ wr.ownsRow (w.heap.size + 1) 9 1 v k ((SX.textL (x.list.take k)).map Value.string) ∧ Below (w.heap.size + 1) (w.alloc (.cells #[.string ByteArray.empty, .slice A x.list.length c] 26)) wr) (fun _ iv _ => x.list.length - (Go.RowKit.intOf iv).toNat)
      case atStart => exact ⟨0, Nat.zero_le _, rfl, (by have h := World.ownsRow_made (base := w.heap.size + 1) (size := 1) (e := 9) (w.alloc (.cells #[.string ByteArray.empty, .slice A x.list.length c] 26)) #[] 0 (by simp) (by decide) rfl; rw [World.size_alloc] at h; exact h), (Below.refl (w.heap.size + 1) (w.alloc (.cells #[.string ByteArray.empty, .slice A x.list.length c] 26))).alloc (by simp) _⟩
      case round =>
        obtain ⟨k, hk, rfl, hown, hb⟩ := hrel
        have hbs : w.heap.size + 1 ≤ wr.heap.size := by simpa using hb.size
        obtain ⟨b0, b1, hbw⟩ := boxed (hb.mono (by simp))
        by_cases hlt : k < x.list.length
        · obtain ⟨b, o, A', c', rfl, hP, hc0, hc1, hl'⟩ := (boxedList HL.out (hb.mono (by simp))).at_ hlt
          have hst := SX.textL_take x.list k hlt
          have hx : x.list[k].nodes ≤ N := by have := SX.nodesL_at x.list k hlt; omega
          have hsm : x.list[k].wt + 3 * x.list[k].nodes ≤ 1048576 := by have := wt_nodes_at x.list k hlt; omega
          have HS := Lib.hid hst
          have HX := Lib.hid hl'
          clear hst hl'
          go_wp2_with fail
          refine (ih x.list[k] A' c' _ hx hsm HX.out).mono ?_
          rintro e w1 ⟨rfl, hb1⟩
          have hown1 := owns_below hown hb1
          have hb2 := hb.trans (hb1.mono hbs)
          have hbs2 := Nat.le_trans hbs hb1.size
          go_wp2_with (at_builtin; refine wpList_append_own _ rfl _ _ 39 rfl (w.heap.size + 1) 9 i0 (.string ByteArray.empty) 1 16 Try.underlying39 hi hz0 hz1 hz2 rfl (by decide) _ _ _ rfl (hown1.alloc _) ⟨w1.heap.size, 0, none⟩ 1 1 [.string x.list[k].text] rfl rfl (news_one w1 _ _) (one_string _) (by unfold maxLen; omega) (by omega) (by simp; omega) ?_)
          intro v' w2 hown2 hgrow _
          have hb3 := (hb2.alloc hbs2 _).grown hgrow (by simp; omega) (fun k hk => (hown1.lt k hk).1)
          rw [strs_map, ← HS.out] at hown2
          have HO := Lib.hid hown2
          clear hown2 hown1 hown
          go_wp2
          go_roundw
          case rel => exact ⟨k + 1, by omega, by go_num, HO.out, hb3⟩
          case measure => simp [Go.RowKit.intOf]; omega
        · have hkl : k = x.list.length := by omega
          subst hkl
          rw [List.take_length] at hown
          conv at hown => arg 6; rw [← HTL.out]
          obtain ⟨B, d, rfl, hS⟩ := strs_own hown
          have HS := Lib.hid hS
          clear hS hown
          go_wp2_with fail
          refine (specJoin B d _ ⟨#[32]⟩ _ HS.out (by have := HSZ.out; have := HTL.out; omega) (by decide)).mono ?_
          rintro e w1 ⟨rfl, hb1⟩
          have hb2 := hbw.trans (hb1.mono hbw.size)
          go_wp2
          go_ret
          exact ⟨ret_str (by rw [HT.out]), hb2⟩
    · rw [if_neg ha] at hte
      have HT := Lib.hid hte
      have hnem := nonempty_of ha
      clear hte hl
      go_enter Try.func66, Try.ntmps66
      go_wp2
      go_ret
      exact ⟨ret_str (by rw [HT.out]), (Below.refl _ _).alloc (Nat.le_refl _) _⟩
end Go.Proofs.Ytbcfeoobhemdcaa
namespace Go.Proofs.Ytbcfeoobhemdcaa
open Go.RowKit Go.Lib

def SX.valid (x : SX) : Bool := decide (x.nodes ≤ 900) && x.form && decide (x.depth ≤ 14)
mutual
theorem SX.form_wt : ∀ (x : SX), x.form = true → x.wt + 1 ≤ 13 * x.nodes
  | .mk a l => fun h => by
    rw [SX.form] at h
    rw [SX.wt, SX.nodes]
    split at h
    · have := SX.formL_wt l h; omega
    · rw [Bool.and_eq_true, okAtom, Bool.and_eq_true, decide_eq_true_eq, decide_eq_true_eq] at h
      rw [List.eq_nil_of_length_eq_zero h.2, SX.wtL, SX.nodesL]
      omega
theorem SX.formL_wt : ∀ (l : List SX), SX.formL l = true → SX.wtL l ≤ 13 * SX.nodesL l
  | [] => fun _ => by rw [SX.wtL]; omega
  | x :: r => fun h => by
    rw [SX.formL, Bool.and_eq_true] at h
    have := SX.form_wt x h.1
    have := SX.formL_wt r h.2
    rw [SX.wtL, SX.nodesL]; omega
end
theorem SX.valid_iff {x : SX} : x.valid = true ↔ x.nodes ≤ 900 ∧ x.form = true ∧ x.depth ≤ 14 := by
  rw [SX.valid, Bool.and_eq_true, Bool.and_eq_true, decide_eq_true_eq, decide_eq_true_eq, and_assoc]
theorem SX.valid_wt {x : SX} (h : x.valid = true) : x.wt + 3 * x.nodes ≤ 1048576 := by
  obtain ⟨h1, h2, _⟩ := SX.valid_iff.1 h
  have := SX.form_wt x h2
  omega

/-- The boxed parameter, loaded whole. -/
theorem boxed_grow {w : World} {t : TypeId} {a : ByteArray} {A : Option Addr} {n c : Nat} {l : List SX} (hl : ListAt w (Lt w.heap.size) A l) :
    ListAt (w.alloc (.cells #[.string a, .slice A n c] t)) (Lt (w.alloc (.cells #[.string a, .slice A n c] t)).heap.size) A l := boxedList hl (Below.refl _ _)

set_option maxRecDepth 100000 in
set_option maxHeartbeats 1000000 in
theorem validX (x : SX) (A : Option Addr) (c : Nat) (w : World) (hm : x.nodes ≤ 4294967296) (hok : x.ok) (hl : ListAt w (Lt w.heap.size) A x.list) :
    Calls Try.prog 20 #[.agg #[.string x.atom, .slice A x.list.length c]] w fun e w' => e = .returned (.bool x.valid) ∧ Below w.heap.size w w' := by
  have hl0 := @boxed_grow w 26 x.atom A x.list.length c x.list hl
  have hb0 : Below w.heap.size w (w.alloc (.cells #[.string x.atom, .slice A x.list.length c] 26)) := (Below.refl _ _).alloc (Nat.le_refl _) _
  have HL := Lib.hid hl0
  clear hl hl0
  by_cases hn : x.nodes ≤ 900
  · have hlf : leftOf 900 x.nodes = ((900 - x.nodes : Nat) : Int) := left_some hn
    have HLF := Lib.hid hlf
    clear hlf
    go_enter Try.func20, Try.ntmps20
    go_wp2_with fail
    refine (leftX _ x A c 900 _ (Nat.le_refl _) hm (by decide) HL.out).mono ?_
    rintro e w1 ⟨rfl, hb1⟩
    rw [HLF.out]
    have hb2 := hb0.trans (hb1.mono hb0.size)
    have hl1 := HL.out.grow hb1
    have hc0 := (boxed hb1).1
    have hc1 := (boxed hb1).2.1
    have HL1 := Lib.hid hl1
    clear hl1
    go_wp2_with fail
    refine (formX _ x A c _ (Nat.le_refl _) hm hok HL1.out).mono ?_
    rintro e w2 ⟨rfl, hb3⟩
    have hb4 := hb2.trans (hb3.mono hb2.size)
    have hb13 := hb1.trans (hb3.mono hb1.size)
    have hl2 := HL1.out.grow hb3
    have hd0 := (boxed hb13).1
    have hd1 := (boxed hb13).2.1
    have HL2 := Lib.hid hl2
    clear hl2
    cases hf : x.form with
    | true =>
      have HF := Lib.hid hf
      clear hf
      go_wp2_with fail
      refine (depthX _ x A c _ (Nat.le_refl _) hm HL2.out).mono ?_
      rintro e w3 ⟨rfl, hb5⟩
      have hb6 := hb4.trans (hb5.mono hb4.size)
      go_wp2
      go_ret
      refine ⟨congrArg (fun b => Ending.returned (.bool b)) ?_, hb6⟩
      rw [SX.valid, HF.out, Bool.and_true, Bool.eq_iff_iff]
      simp only [Bool.and_eq_true, decide_eq_true_eq]
      omega
    | false =>
      have HF := Lib.hid hf
      clear hf
      go_wp2
      go_ret
      refine ⟨congrArg (fun b => Ending.returned (.bool b)) ?_, hb4⟩
      rw [SX.valid, HF.out]
      simp
  · have hlf : leftOf 900 x.nodes = -1 := left_none (by omega)
    have HLF := Lib.hid hlf
    clear hlf
    go_enter Try.func20, Try.ntmps20
    go_wp2_with fail
    refine (leftX _ x A c 900 _ (Nat.le_refl _) hm (by decide) HL.out).mono ?_
    rintro e w1 ⟨rfl, hb1⟩
    rw [HLF.out]
    have hb2 := hb0.trans (hb1.mono hb0.size)
    go_wp2
    go_ret
    refine ⟨congrArg (fun b => Ending.returned (.bool b)) ?_, hb2⟩
    rw [SX.valid]
    simp
    omega

/-- What a valid expression's text is; "" for another. -/
def SX.said (x : SX) : ByteArray := if x.valid then x.text else ByteArray.empty

set_option maxRecDepth 100000 in
set_option maxHeartbeats 1000000 in
theorem formatX (x : SX) (A : Option Addr) (c : Nat) (w : World) (hm : x.nodes ≤ 4294967296) (hok : x.ok) (hl : ListAt w (Lt w.heap.size) A x.list) :
    Calls Try.prog 18 #[.agg #[.string x.atom, .slice A x.list.length c]] w fun e w' => e = .returned (.string x.said) ∧ Below w.heap.size w w' := by
  have hl0 := @boxed_grow w 26 x.atom A x.list.length c x.list hl
  have hb0 : Below w.heap.size w (w.alloc (.cells #[.string x.atom, .slice A x.list.length c] 26)) := (Below.refl _ _).alloc (Nat.le_refl _) _
  have HL := Lib.hid hl0
  clear hl hl0
  go_enter Try.func18, Try.ntmps18
  go_wp2_with fail
  refine (validX x A c _ hm hok HL.out).mono ?_
  rintro e w1 ⟨rfl, hb1⟩
  have hb2 := hb0.trans (hb1.mono hb0.size)
  have hl1 := HL.out.grow hb1
  have hc0 := (boxed hb1).1
  have hc1 := (boxed hb1).2.1
  have HL1 := Lib.hid hl1
  clear hl1
  cases hv : x.valid with
  | true =>
    have hs : x.said = x.text := by rw [SX.said, if_pos hv]
    have hwt := SX.valid_wt hv
    have HS := Lib.hid hs
    clear hv hs
    go_wp2_with fail
    refine (textX _ x A c _ (Nat.le_refl _) hwt HL1.out).mono ?_
    rintro e w2 ⟨rfl, hb3⟩
    have hb4 := hb2.trans (hb3.mono hb2.size)
    go_wp2
    go_ret
    exact ⟨ret_str (by rw [HS.out]), hb4⟩
  | false =>
    have hs : x.said = ByteArray.empty := by rw [SX.said, if_neg (by rw [hv]; decide)]
    have HS := Lib.hid hs
    clear hv hs
    go_wp2
    go_ret
    exact ⟨ret_str (by rw [HS.out]; rfl), hb2⟩
end Go.Proofs.Ytbcfeoobhemdcaa
namespace Go.Proofs.Ytbcfeoobhemdcaa
open Go.RowKit Go.Lib

mutual
/-- One expression read: what is left of the bytes, and how many were counted; none: it failed. -/
def readX : Nat → List UInt8 → Nat → Nat → Option (SX × List UInt8 × Nat)
  | 0, _, _, _ => none
  | n + 1, rest, d, z =>
    if skipW rest = [] ∨ 900 < z + 1 then none
    else if (skipW rest).takeWhile okByte ≠ [] then some (.mk ⟨((skipW rest).takeWhile okByte).toArray⟩ [], (skipW rest).dropWhile okByte, z + 1)
    else if (skipW rest).head? ≠ some 40 ∨ d = 14 then none
    else readL n (skipW rest).tail (d + 1) (z + 1) []
def readL : Nat → List UInt8 → Nat → Nat → List SX → Option (SX × List UInt8 × Nat)
  | 0, _, _, _, _ => none
  | n + 1, rest, d, z, acc =>
    if (skipW rest).head? = some 41 then some (.mk ByteArray.empty acc, (skipW rest).tail, z)
    else match readX n (skipW rest) d z with
      | none => none
      | some (y, rest', z') => readL n rest' d z' (acc ++ [y])
end

theorem skipW_head {l : List UInt8} {c : UInt8} (h : (skipW l).head? = some c) : isW c = false := by
  induction l with
  | nil => simp [skipW] at h
  | cons a r ih =>
    cases ha : isW a with
    | true => rw [skipW_yes ha] at h; exact ih h
    | false => rw [skipW_no ha] at h; simp at h; subst h; exact ha
theorem skipW_idem (l : List UInt8) : skipW (skipW l) = skipW l := by
  cases h : skipW l with
  | nil => rfl
  | cons a r => exact skipW_no (skipW_head (l := l) (by rw [h]; rfl))

mutual
theorem readX_less : ∀ (n : Nat) (rest : List UInt8) (d z : Nat) {x : SX} {r : List UInt8} {z' : Nat}, readX n rest d z = some (x, r, z') → r.length < rest.length
  | 0, _, _, _, _, _, _, h => by rw [readX] at h; cases h
  | n + 1, rest, d, z, x, r, z', h => by
    rw [readX] at h
    have hl := skipW_le rest
    split at h
    · cases h
    · split at h
      · rename_i h1 h2
        injection h with h; injection h with h h'; injection h' with h' h''
        subst h'
        have e := congrArg List.length (List.takeWhile_append_dropWhile (p := okByte) (l := skipW rest))
        rw [List.length_append] at e
        have := List.length_pos_iff.2 h2
        omega
      · split at h
        · cases h
        · rename_i h1 _ _
          have := readL_less n _ _ _ _ h
          have h3 : skipW rest ≠ [] := fun e => h1 (.inl e)
          have := List.length_pos_iff.2 h3
          rw [List.length_tail] at *
          omega
theorem readL_less : ∀ (n : Nat) (rest : List UInt8) (d z : Nat) (acc : List SX) {x : SX} {r : List UInt8} {z' : Nat}, readL n rest d z acc = some (x, r, z') → r.length < rest.length
  | 0, _, _, _, _, _, _, _, h => by rw [readL] at h; cases h
  | n + 1, rest, d, z, acc, x, r, z', h => by
    rw [readL] at h
    have hl := skipW_le rest
    split at h
    · rename_i h1
      injection h with h; injection h with h h'; injection h' with h' h''
      subst h'
      have h3 : skipW rest ≠ [] := fun e => by rw [e] at h1; cases h1
      have := List.length_pos_iff.2 h3
      rw [List.length_tail]
      omega
    · split at h
      · cases h
      · rename_i h1
        have := readX_less n _ _ _ h1
        have := readL_less n _ _ _ _ h
        omega
end
end Go.Proofs.Ytbcfeoobhemdcaa
namespace Go.Proofs.Ytbcfeoobhemdcaa
open Go.RowKit Go.Lib

theorem infoSx : (Try.prog.info? 26).map (fun i => (i.zero, i.size, i.bytes)) = some (some (.agg #[.string ByteArray.empty, .slice none 0 0]), 2, 40) := by kernel_rfl

/-- Blocks from B on, below C. -/
def New (B C : Nat) (b : Nat) : Prop := B ≤ b ∧ b < C
/-- The cells vs are these expressions, one after another. -/
def Elems (w : World) (P : Nat → Prop) : List SX → List Value → Prop
  | [], vs => vs = []
  | x :: r, vs => ∃ A c rest, vs = .string x.atom :: .slice A x.list.length c :: rest ∧ ListAt w P A x.list ∧ Elems w P r rest
theorem Elems.snoc {w : World} {P : Nat → Prop} : ∀ {l : List SX} {vs : List Value}, Elems w P l vs → ∀ {x : SX} {A : Option Addr} {c : Nat}, ListAt w P A x.list → Elems w P (l ++ [x]) (vs ++ [.string x.atom, .slice A x.list.length c])
  | [], vs, h, x, A, c, hl => by
    rw [Elems] at h; subst h
    exact ⟨A, c, [], rfl, hl, rfl⟩
  | y :: r, vs, h, x, A, c, hl => by
    obtain ⟨A', c', rest, rfl, h1, h2⟩ := h
    exact ⟨A', c', rest ++ _, rfl, h1, h2.snoc hl⟩
theorem Elems.frame {w w' : World} {P Q : Nat → Prop} (hPQ : ∀ b, P b → Q b) (hk : ∀ b o, P b → w'.cell? ⟨b, o, none⟩ = w.cell? ⟨b, o, none⟩) : ∀ {l : List SX} {vs : List Value}, Elems w P l vs → Elems w' Q l vs
  | [], vs, h => h
  | y :: r, vs, h => by
    obtain ⟨A', c', rest, rfl, h1, h2⟩ := h
    exact ⟨A', c', rest, rfl, h1.frame hPQ hk, h2.frame hPQ hk⟩
theorem Elems.at_ {w : World} {P : Nat → Prop} : ∀ {l : List SX} {vs : List Value}, Elems w P l vs → ∀ (j : Nat) (h : j < l.length), vs[j * 2]? = some (.string l[j].atom) ∧ ∃ A c, vs[j * 2 + 1]? = some (.slice A l[j].list.length c) ∧ ListAt w P A l[j].list
  | y :: r, vs, h, 0, _ => by
    obtain ⟨A', c', rest, rfl, h1, h2⟩ := h
    exact ⟨rfl, A', c', rfl, h1⟩
  | y :: r, vs, h, j + 1, hj => by
    obtain ⟨A', c', rest, rfl, h1, h2⟩ := h
    have h3 := h2.at_ j (by simpa using hj)
    rw [show (j + 1) * 2 = j * 2 + 1 + 1 by omega]
    simpa using h3
/-- A row of the call's own that holds these expressions reads as them. -/
theorem list_own {w : World} {P : Nat → Prop} {B : Nat} {e : TypeId} {v : Value} {l : List SX} {vs : List Value} (h : w.ownsRow B e 2 v l.length vs) (he : Elems w P l vs) (hP : ∀ b, v.ownBlock = some b → P b) :
    ∃ A c, v = .slice A l.length c ∧ ListAt w P A l := by
  rcases h.2 with ⟨rfl, h0⟩ | ⟨g, cap, cur, rfl, _⟩
  · exact ⟨none, 0, by rw [h0], .inl (List.eq_nil_of_length_eq_zero h0)⟩
  · refine ⟨_, cap, rfl, .inr ⟨g, 0, rfl, hP g rfl, RdE_of l g 0 fun j hj => ?_⟩⟩
    obtain ⟨h0, A, c, h1, h2⟩ := he.at_ j hj
    refine RdX_iff.2 ⟨?_, A, c, ?_, h2⟩
    · rw [Nat.zero_add, World.ownsRow.cellAt h _ (by omega), h0]
    · rw [Nat.zero_add, World.ownsRow.cellAt h _ (by omega), h1]
/-- The cells of one expression, just laid into a new block. -/
theorem news_sx (w : World) (t : TypeId) (a b : Value) : ∀ (j : Nat) (u : Value), [a, b][j]? = some u → (w.alloc (.cells #[a, b] t)).cell? ((⟨w.heap.size, 0, none⟩ : Addr).add j) = some u := by
  intro j u hj
  match j, hj with
  | 0, hj => simp at hj; subst hj; simp [Addr.add]
  | 1, hj => simp at hj; subst hj; simp [Addr.add]
theorem one_sx (x : ByteArray) (A : Option Addr) (n c : Nat) : ∀ u ∈ [Value.string x, Value.slice A n c], u.oneCell' = true := by
  intro u hu
  simp at hu
  rcases hu with rfl | rfl <;> rfl
end Go.Proofs.Ytbcfeoobhemdcaa
namespace Go.Proofs.Ytbcfeoobhemdcaa
open Go.RowKit Go.Lib

mutual
theorem readX_more : ∀ (n : Nat) (rest : List UInt8) (d z : Nat) {x : SX} {r : List UInt8} {z' : Nat}, readX n rest d z = some (x, r, z') → z < z' ∧ z' ≤ 900
  | 0, _, _, _, _, _, _, h => by rw [readX] at h; cases h
  | n + 1, rest, d, z, x, r, z', h => by
    rw [readX] at h
    split at h
    · cases h
    · rename_i h0
      have hz : ¬ 900 < z + 1 := fun e => h0 (.inr e)
      split at h
      · injection h with h; injection h with h h'; injection h' with h' h''
        omega
      · split at h
        · cases h
        · have := readL_more n _ _ _ _ h
          omega
theorem readL_more : ∀ (n : Nat) (rest : List UInt8) (d z : Nat) (acc : List SX) {x : SX} {r : List UInt8} {z' : Nat}, readL n rest d z acc = some (x, r, z') → z ≤ z' ∧ (z ≤ 900 → z' ≤ 900)
  | 0, _, _, _, _, _, _, _, h => by rw [readL] at h; cases h
  | n + 1, rest, d, z, acc, x, r, z', h => by
    rw [readL] at h
    split at h
    · injection h with h; injection h with h h'; injection h' with h' h''
      omega
    · split at h
      · cases h
      · rename_i h1
        have := readX_more n _ _ _ h1
        have := readL_more n _ _ _ _ h
        omega
end

theorem Whole.but {w w' : World} {g h : Nat} {t : TypeId} {cs : Array Value} (hw : Whole w h t cs) (hb : But g w w') (hne : h ≠ g) : Whole w' h t cs := (hb.block h hw.lt hne).trans hw
theorem Whole.drewN_ {w : World} {h : Nat} {t : TypeId} {cs : Array Value} (hw : Whole w h t cs) (n : Nat) : Whole (w.drewN n) h t cs := hw
theorem Cells.but_ {w w' : World} {g h : Nat} {s : ByteArray} {k : Nat} {d z : Int} {b : Bool} (hw : Cells w g s k d z b) (hb : But h w w') (hne : g ≠ h) : Cells w' g s k d z b := Whole.but hw hb hne
theorem Whole.of_alloc {w : World} {h : Nat} {t : TypeId} {cs : Array Value} (hw : Whole w h t cs) (o : Obj) : Whole (w.alloc o) h t cs := (Below.heap_alloc w o h hw.lt).trans hw
theorem But.far {g : Nat} {a w : World} (h : But g a w) {p : Addr} (hp : a.heap.size ≤ p.block) (v : Value) : But g a (w.setCell p v) := by
  obtain ⟨h1, h2, h3, h4, h5⟩ := h
  refine ⟨h1, h2, h3, by simpa using h4, fun k hk hne => ?_⟩
  rw [Below.heap_setCell _ _ _ _ (by omega)]
  exact h5 k hk hne
theorem But.alloc_ {g : Nat} {a w : World} (h : But g a w) (o : Obj) : But g a (w.alloc o) := h.trans (But.of_below ((Below.refl _ _).alloc (Nat.le_refl _) o))
theorem But.grown {g : Nat} {a w w' : World} {row : Option Nat} (h : But g a w) (hg : w.grownBy w' row) (hrow : ∀ k, row = some k → a.heap.size ≤ k) : But g a w' :=
  ⟨hg.os.trans h.os, hg.tape.trans h.tape, hg.output.trans h.output, Nat.le_trans h.size hg.size, fun k hk hne =>
    (hg.block k (Nat.lt_of_lt_of_le hk h.size) (fun e => by have := hrow k e.symm; omega)).trans (h.block k hk hne)⟩
theorem But.under {g : Nat} {a w : World} {o : Obj} (h : But g (a.alloc o) w) : But g a w := (But.of_below ((Below.refl _ _).alloc (Nat.le_refl _) o)).trans h

/-- What a reading leaves of the reader. -/
def After (w : World) (g : Nat) (s : ByteArray) (d : Nat) (y : SX) : Option (SX × List UInt8 × Nat) → Prop
  | some (x, r, z) => y = x ∧ z ≤ 900 ∧ ∃ k, k ≤ s.size ∧ s.data.toList.drop k = r ∧ Cells w g s k d z false
  | none => ∃ (k : Nat) (d' z' : Int), k ≤ s.size ∧ Cells w g s k d' z' true
/-- What a reading returns. -/
def Gave (g : Nat) (s : ByteArray) (d : Nat) (w : World) (o : Option (SX × List UInt8 × Nat)) (e : Ending) (w' : World) : Prop :=
  ∃ (y : SX) (A : Option Addr) (c : Nat), e = .returned (.agg #[.string y.atom, .slice A y.list.length c]) ∧ ListAt w' (New w.heap.size w'.heap.size) A y.list ∧ But g w w' ∧ After w' g s d y o

/-- The result, out of its block. -/
theorem giveX {Q : Ending → World → Prop} {act : Act} {w' : World} {W : Nat} {a : ByteArray} {A : Option Addr} {n c : Nat} (h2 : act.tmps[2]? = some (.pointer (some ⟨W, 0, none⟩))) (hd : act.defers = [])
    (hr : Whole w' W 26 #[.string a, .slice A n c]) (hq : Q (.returned (.agg #[.string a, .slice A n c])) w') : bodyPost Try.prog Try.f89 Q .ret act w' := by
  have e0 : w'.cell? ⟨W, 0, none⟩ = some (.string a) := by rw [hr.cell]; rfl
  have e1 : w'.cell? ⟨W, 1, none⟩ = some (.slice A n c) := by rw [hr.cell]; rfl
  exact bodyPost_ret (v := .agg #[.string a, .slice A n c]) (by simp [results, Try.results89, go_sem, h2, e0, e1]) hd hq

theorem byteQ {c : UInt8} {b : Bool} (h : okByte c = b) (w : World) (n : Nat) : Calls Try.prog 130 #[.int .u8 c.toNat] (w.drewN n) fun e w'' => e = .returned (.bool b) ∧ ∃ m, w'' = w.drewN m :=
  (byteIs c _).mono fun e w' ⟨he, hw⟩ => ⟨by rw [he, h], n, hw.symm⟩
theorem drop_len (s : ByteArray) (k : Nat) : (s.data.toList.drop k).length = s.size - k := by simp
/-- Where a scan ends, and what it has passed. -/
theorem word_of (s : ByteArray) {a b : Nat} (hab : a ≤ b) (hb : b ≤ s.size) (h : s.data.toList.drop b = (s.data.toList.drop a).dropWhile okByte) :
    (⟨((s.data.toList.drop a).takeWhile okByte).toArray⟩ : ByteArray) = s.extract a b ∧ ((s.data.toList.drop a).takeWhile okByte ≠ [] ↔ a < b) := by
  have e := List.takeWhile_append_dropWhile (p := okByte) (l := s.data.toList.drop a)
  have el := congrArg List.length e
  rw [List.length_append, ← h, drop_len, drop_len] at el
  have e2 : (s.data.toList.drop a).takeWhile okByte = (s.data.toList.drop a).take (b - a) := by
    conv => rhs; rw [← e]
    rw [List.take_append_of_le_length (by omega), List.take_of_length_le (by omega)]
  refine ⟨?_, ?_⟩
  · rw [e2]
    apply ByteArray.ext
    apply Array.toList_inj.1
    rw [extract_data]
  · constructor
    · intro h0
      have := List.length_pos_iff.2 h0
      omega
    · intro h0 e0
      rw [e0] at el
      simp at el
      omega

/-- The ending where it has failed. -/
theorem giveNone {act : Act} {g d k n : Nat} {d0 z0 : Int} {b : Bool} {s : ByteArray} {w wr : World} {a0 : ByteArray} {A0 : Option Addr} {n0 c0 : Nat} {R : Option (SX × List UInt8 × Nat)} (h2 : act.tmps[2]? = some (.pointer (some ⟨w.heap.size, 0, none⟩))) (hd : act.defers = []) (hg : g < w.heap.size)
    (hb : But g w wr) (hr : Whole wr w.heap.size 26 #[.string a0, .slice A0 n0 c0]) (hc : Cells wr g s k d0 z0 b) (hk : k ≤ s.size) (hR : R = none) :
    bodyPost Try.prog Try.f89 (Gave g s d w R) .ret act ((((wr.drewN n).setCell ⟨g, 4, none⟩ (.bool true)).setCell ⟨w.heap.size, 0, none⟩ (.string ⟨#[]⟩)).setCell ⟨w.heap.size, 1, none⟩ (.slice none 0 0)) := by
  have hfin : Whole ((((wr.drewN n).setCell ⟨g, 4, none⟩ (.bool true)).setCell ⟨w.heap.size, 0, none⟩ (.string ⟨#[]⟩)).setCell ⟨w.heap.size, 1, none⟩ (.slice none 0 0)) w.heap.size 26 #[.string ⟨#[]⟩, .slice none 0 0] := by
    have h1 := ((hr.drewN_ n).but (But.set_ g (wr.drewN n) 4 (.bool true)) (by omega)).set_ 0 (.string ⟨#[]⟩)
    have h2 := h1.set_ 1 (.slice none 0 0)
    simpa using h2
  have hbf := (((hb.drewN_s n).trans (But.set_ g _ 4 (.bool true))).far (p := ⟨w.heap.size, 0, none⟩) (Nat.le_refl _) (.string ⟨#[]⟩)).far (p := ⟨w.heap.size, 1, none⟩) (Nat.le_refl _) (.slice none 0 0)
  have hcf := ((((hc.drewN n).set4 true).but_ (But.set_ w.heap.size _ 0 (.string ⟨#[]⟩)) (by omega)).but_ (But.set_ w.heap.size _ 1 (.slice none 0 0)) (by omega))
  exact giveX h2 hd hfin ⟨.mk ByteArray.empty [], none, 0, rfl, .inl rfl, hbf, by rw [hR]; exact ⟨_, _, _, hk, hcf⟩⟩
/-- The ending where it was an atom. -/
theorem giveWord {act : Act} {g d z k1 j n : Nat} {s : ByteArray} {w wr : World} {a0 : ByteArray} {A0 : Option Addr} {n0 c0 : Nat} {R : Option (SX × List UInt8 × Nat)} (h2 : act.tmps[2]? = some (.pointer (some ⟨w.heap.size, 0, none⟩))) (hd : act.defers = []) (hg : g < w.heap.size)
    (hb : But g w wr) (hr : Whole wr w.heap.size 26 #[.string a0, .slice A0 n0 c0]) (hc : Cells wr g s j d ((z : Int) + 1) false) (hj : j ≤ s.size) (hz : z + 1 ≤ 900) (hR : R = some (.mk (s.extract k1 j) [], s.data.toList.drop j, z + 1)) :
    bodyPost Try.prog Try.f89 (Gave g s d w R) .ret act (((wr.drewN n).setCell ⟨w.heap.size, 0, none⟩ (.string (s.extract k1 j))).setCell ⟨w.heap.size, 1, none⟩ (.slice none 0 0)) := by
  have hfin : Whole (((wr.drewN n).setCell ⟨w.heap.size, 0, none⟩ (.string (s.extract k1 j))).setCell ⟨w.heap.size, 1, none⟩ (.slice none 0 0)) w.heap.size 26 #[.string (s.extract k1 j), .slice none 0 0] := by
    have h2 := ((hr.drewN_ n).set_ 0 (.string (s.extract k1 j))).set_ 1 (.slice none 0 0)
    simpa using h2
  have hbf := ((hb.drewN_s n).far (p := ⟨w.heap.size, 0, none⟩) (Nat.le_refl _) (.string (s.extract k1 j))).far (p := ⟨w.heap.size, 1, none⟩) (Nat.le_refl _) (.slice none 0 0)
  have hcf := (((hc.drewN n).but_ (But.set_ w.heap.size _ 0 (.string (s.extract k1 j))) (by omega)).but_ (But.set_ w.heap.size _ 1 (.slice none 0 0)) (by omega))
  exact giveX h2 hd hfin ⟨.mk (s.extract k1 j) [], none, 0, rfl, .inl rfl, hbf, by rw [hR]; exact ⟨rfl, hz, j, hj, rfl, hcf⟩⟩

/-- What a reading is, case by case. -/
def ask (m : Nat) (l : List UInt8) (d z : Nat) : Option (SX × List UInt8 × Nat) :=
  if l = [] ∨ 900 < z + 1 then none
  else if l.takeWhile okByte ≠ [] then some (.mk ⟨(l.takeWhile okByte).toArray⟩ [], l.dropWhile okByte, z + 1)
  else if l.head? ≠ some 40 ∨ d = 14 then none
  else readL m l.tail (d + 1) (z + 1) []
theorem ask_word {m d z a b : Nat} {s : ByteArray} (hz : z + 1 ≤ 900) (hab : a < b) (hb : b ≤ s.size) (h : s.data.toList.drop b = (s.data.toList.drop a).dropWhile okByte) :
    ask m (s.data.toList.drop a) d z = some (.mk (s.extract a b) [], s.data.toList.drop b, z + 1) := by
  obtain ⟨e1, e2⟩ := word_of s (Nat.le_of_lt hab) hb h
  rw [ask, if_neg, if_pos (e2.2 hab), e1, h]
  rintro (h0 | h0)
  · have := congrArg List.length h0
    rw [drop_len] at this
    simp at this
    omega
  · omega
theorem ask_sign {m d z a : Nat} {s : ByteArray} (hz : z + 1 ≤ 900) (ha : a < s.size) (h : okByte s[a] = false) :
    ask m (s.data.toList.drop a) d z = if s[a] ≠ 40 ∨ d = 14 then none else readL m (s.data.toList.drop (a + 1)) (d + 1) (z + 1) [] := by
  rw [ask, drop_step s a ha, if_neg (by simp; omega), if_neg (by simp [h])]
  simp

/-- Blocks from B on, below C, but the row's own. -/
def Own (V : Value) (B C : Nat) (b : Nat) : Prop := New B C b ∧ V.ownBlock ≠ some b
/-- While a list's elements are read. -/
def Going (g : Nat) (s : ByteArray) (d N X : Nat) (w : World) (R : Option (SX × List UInt8 × Nat)) (wr : World) : Prop :=
  ∃ (V : Value) (acc : List SX) (vs : List Value) (k : Nat), k ≤ s.size ∧ acc.length ≤ 901 ∧ Whole wr X 26 #[.string ⟨#[]⟩, V] ∧ wr.ownsRow (X + 1) 26 2 V acc.length vs ∧ Elems wr (Own V (X + 1) wr.heap.size) acc vs ∧
    Whole wr w.heap.size 26 #[.string ByteArray.empty, .slice none 0 0] ∧ But g w wr ∧
    ((∃ (m z : Nat), 2 * (s.data.toList.drop k).length + 2 ≤ m ∧ m ≤ N ∧ z ≤ 900 ∧ acc.length ≤ z ∧ Cells wr g s k ((d : Int) + 1) z false ∧ readL m (s.data.toList.drop k) (d + 1) z acc = R) ∨ (R = none ∧ ∃ d' z' : Int, Cells wr g s k d' z' true))
/-- What a round lowers. -/
def stillAt (wr : World) (g : Nat) (s : ByteArray) : Nat := match wr.cell? ⟨g, 4, none⟩ with | some (.bool true) => 0 | _ => s.size + 1 - numAt wr g 1

def ReadC (N : Nat) : Prop := ∀ (n : Nat) (g : Nat) (s : ByteArray) (k d z : Nat) (w : World), n ≤ N → s.size ≤ 4294967296 → k ≤ s.size → d ≤ 14 → z ≤ 900 → 2 * (s.data.toList.drop k).length + 1 ≤ n → Cells w g s k d z false →
  Calls Try.prog 89 #[.pointer (some ⟨g, 0, none⟩)] w (Gave g s d w (readX n (s.data.toList.drop k) d z))


end Go.Proofs.Ytbcfeoobhemdcaa
namespace Go.Proofs.Ytbcfeoobhemdcaa
open Go.RowKit Go.Lib

theorem goingStart {g d z N m j n : Nat} {s : ByteArray} {w wr : World} {R : Option (SX × List UInt8 × Nat)} (hg : g < w.heap.size) (hb : But g w wr) (hr : Whole wr w.heap.size 26 #[.string ByteArray.empty, .slice none 0 0])
    (hc : Cells wr g s j d ((z : Int) + 1) false) (hj : j < s.size) (hz : z + 1 ≤ 900) (hm : m ≤ N) (hf : 2 * (s.data.toList.drop (j + 1)).length + 2 ≤ m) (hR : readL m (s.data.toList.drop (j + 1)) (d + 1) (z + 1) [] = R) :
    Going g s d N wr.heap.size w R ((((wr.drewN n).setCell ⟨g, 1, none⟩ (.int .i64 ((j : Int) + 1))).setCell ⟨g, 2, none⟩ (.int .i64 ((d : Int) + 1))).alloc (.cells #[.string ⟨#[]⟩, .slice none 0 0] 26)) := by
  have hlt := hr.lt
  have hc1 : Cells (((wr.drewN n).setCell ⟨g, 1, none⟩ (.int .i64 ((j : Int) + 1))).setCell ⟨g, 2, none⟩ (.int .i64 ((d : Int) + 1))) g s (j + 1) ((d : Int) + 1) ((z : Int) + 1) false := ((hc.drewN n).set1 (j + 1)).set2 ((d : Int) + 1)
  have hb1 := (hb.drewN_s n).trans ((But.set_ g (wr.drewN n) 1 (.int .i64 ((j : Int) + 1))).trans (But.set_ g _ 2 (.int .i64 ((d : Int) + 1))))
  have hr1 := (hr.drewN_ n).but ((But.set_ g (wr.drewN n) 1 (.int .i64 ((j : Int) + 1))).trans (But.set_ g _ 2 (.int .i64 ((d : Int) + 1)))) (by omega)
  have hsz : (((wr.drewN n).setCell ⟨g, 1, none⟩ (.int .i64 ((j : Int) + 1))).setCell ⟨g, 2, none⟩ (.int .i64 ((d : Int) + 1))).heap.size = wr.heap.size := by simp
  generalize ((wr.drewN n).setCell ⟨g, 1, none⟩ (.int .i64 ((j : Int) + 1))).setCell ⟨g, 2, none⟩ (.int .i64 ((d : Int) + 1)) = w5 at *
  have hal : But g w5 (w5.alloc (.cells #[.string ⟨#[]⟩, .slice none 0 0] 26)) := (But.refl g w5).alloc_ _
  have hlt' := hb.size
  refine ⟨.slice none 0 0, [], [], j + 1, by omega, by simp, ?_, World.ownsRow_nil _ _ _ _, rfl, hr1.of_alloc _, hb1.alloc_ _, .inl ⟨m, z + 1, hf, hm, hz, by simp, ?_, hR⟩⟩
  · have h := Whole.new w5 26 #[.string ⟨#[]⟩, .slice none 0 0]
    rw [hsz] at h
    exact h
  · exact Whole.of_alloc hc1 _

/-- The ending at a failure inside the list. -/
theorem goingBad {act : Act} {g d X k : Nat} {s : ByteArray} {w wr : World} {R : Option (SX × List UInt8 × Nat)} {V : Value} {acc : List SX} {vs : List Value} {d0 z0 : Int} (h2 : act.tmps[2]? = some (.pointer (some ⟨w.heap.size, 0, none⟩))) (hd : act.defers = []) (hg : g < w.heap.size) (hX : w.heap.size < X)
    (hk : k ≤ s.size) (hown : wr.ownsRow (X + 1) 26 2 V acc.length vs) (he : Elems wr (Own V (X + 1) wr.heap.size) acc vs) (hr : Whole wr w.heap.size 26 #[.string ByteArray.empty, .slice none 0 0]) (hb : But g w wr) (hR : R = none)
    (hc : Cells wr g s k d0 z0 true) :
    bodyPost Try.prog Try.f89 (Gave g s d w R) .ret act ((wr.setCell ⟨w.heap.size, 0, none⟩ (.string ⟨#[]⟩)).setCell ⟨w.heap.size, 1, none⟩ V) := by
  obtain ⟨A, c, rfl, hl⟩ := list_own hown (he.frame (Q := New (X + 1) wr.heap.size) (fun b h => h.1) (fun _ _ _ => rfl)) (fun b hb => ⟨(hown.lt b hb).1, (hown.lt b hb).2⟩)
  have hfin : Whole ((wr.setCell ⟨w.heap.size, 0, none⟩ (.string ⟨#[]⟩)).setCell ⟨w.heap.size, 1, none⟩ (.slice A acc.length c)) w.heap.size 26 #[.string ⟨#[]⟩, .slice A acc.length c] := by
    have h2 := (hr.set_ 0 (.string ⟨#[]⟩)).set_ 1 (.slice A acc.length c)
    simpa using h2
  have hset : But w.heap.size wr ((wr.setCell ⟨w.heap.size, 0, none⟩ (.string ⟨#[]⟩)).setCell ⟨w.heap.size, 1, none⟩ (.slice A acc.length c)) := (But.set_ _ _ 0 _).trans (But.set_ _ _ 1 _)
  have hbf := (hb.far (p := ⟨w.heap.size, 0, none⟩) (Nat.le_refl _) (.string ⟨#[]⟩)).far (p := ⟨w.heap.size, 1, none⟩) (Nat.le_refl _) (.slice A acc.length c)
  have hcf := hc.but_ hset (by omega)
  refine giveX h2 hd hfin ⟨.mk ByteArray.empty acc, A, c, rfl, ?_, hbf, by rw [hR]; exact ⟨k, _, _, hk, hcf⟩⟩
  exact hl.frame (fun b hP => ⟨by have := hP.1; omega, Nat.lt_of_lt_of_le hP.2 hset.size⟩) fun b o hP => World.cell?_of_block (a := ⟨b, o, none⟩) (hset.block b hP.2 (by have := hP.1; omega))
/-- The ending at the closing parenthesis. -/
theorem goingDone {act : Act} {g d X k n : Nat} {s : ByteArray} {w wr : World} {R : Option (SX × List UInt8 × Nat)} {V : Value} {acc : List SX} {vs : List Value} {z : Nat} (h2 : act.tmps[2]? = some (.pointer (some ⟨w.heap.size, 0, none⟩))) (hd : act.defers = []) (hg : g < w.heap.size) (hX : w.heap.size < X)
    (hk : k < s.size) (hz : z ≤ 900) (hown : wr.ownsRow (X + 1) 26 2 V acc.length vs) (he : Elems wr (Own V (X + 1) wr.heap.size) acc vs) (hr : Whole wr w.heap.size 26 #[.string ByteArray.empty, .slice none 0 0]) (hb : But g w wr)
    (hR : R = some (.mk ByteArray.empty acc, s.data.toList.drop (k + 1), z)) (hc : Cells wr g s k ((d : Int) + 1) z false) :
    bodyPost Try.prog Try.f89 (Gave g s d w R) .ret act (((((wr.drewN n).setCell ⟨g, 1, none⟩ (.int .i64 ((k : Int) + 1))).setCell ⟨g, 2, none⟩ (.int .i64 d)).setCell ⟨w.heap.size, 0, none⟩ (.string ⟨#[]⟩)).setCell ⟨w.heap.size, 1, none⟩ V) := by
  obtain ⟨A, c, rfl, hl⟩ := list_own hown (he.frame (Q := New (X + 1) wr.heap.size) (fun b h => h.1) (fun _ _ _ => rfl)) (fun b hb => ⟨(hown.lt b hb).1, (hown.lt b hb).2⟩)
  have hc1 : Cells (((wr.drewN n).setCell ⟨g, 1, none⟩ (.int .i64 ((k : Int) + 1))).setCell ⟨g, 2, none⟩ (.int .i64 d)) g s (k + 1) d z false := ((hc.drewN n).set1 (k + 1)).set2 (d : Int)
  have hb0 : But g wr (((wr.drewN n).setCell ⟨g, 1, none⟩ (.int .i64 ((k : Int) + 1))).setCell ⟨g, 2, none⟩ (.int .i64 d)) := ((But.refl g wr).drewN_s n).trans ((But.set_ g (wr.drewN n) 1 (.int .i64 ((k : Int) + 1))).trans (But.set_ g _ 2 (.int .i64 d)))
  have hr1 := hr.but hb0 (by omega)
  have hl1 : ListAt (((wr.drewN n).setCell ⟨g, 1, none⟩ (.int .i64 ((k : Int) + 1))).setCell ⟨g, 2, none⟩ (.int .i64 d)) (New (X + 1) wr.heap.size) A acc :=
    hl.frame (fun b hP => hP) fun b o hP => World.cell?_of_block (a := ⟨b, o, none⟩) (hb0.block b hP.2 (by have := hP.1; omega))
  have hb1 := hb.trans hb0
  have hsz := hb0.size
  generalize ((wr.drewN n).setCell ⟨g, 1, none⟩ (.int .i64 ((k : Int) + 1))).setCell ⟨g, 2, none⟩ (.int .i64 d) = w5 at *
  have hfin : Whole ((w5.setCell ⟨w.heap.size, 0, none⟩ (.string ⟨#[]⟩)).setCell ⟨w.heap.size, 1, none⟩ (.slice A acc.length c)) w.heap.size 26 #[.string ⟨#[]⟩, .slice A acc.length c] := by
    have h2 := (hr1.set_ 0 (.string ⟨#[]⟩)).set_ 1 (.slice A acc.length c)
    simpa using h2
  have hset : But w.heap.size w5 ((w5.setCell ⟨w.heap.size, 0, none⟩ (.string ⟨#[]⟩)).setCell ⟨w.heap.size, 1, none⟩ (.slice A acc.length c)) := (But.set_ _ _ 0 _).trans (But.set_ _ _ 1 _)
  have hbf := (hb1.far (p := ⟨w.heap.size, 0, none⟩) (Nat.le_refl _) (.string ⟨#[]⟩)).far (p := ⟨w.heap.size, 1, none⟩) (Nat.le_refl _) (.slice A acc.length c)
  have hcf := hc1.but_ hset (by omega)
  refine giveX h2 hd hfin ⟨.mk ByteArray.empty acc, A, c, rfl, ?_, hbf, by rw [hR]; exact ⟨rfl, hz, k + 1, by omega, rfl, hcf⟩⟩
  exact hl1.frame (fun b hP => ⟨by have := hP.1; omega, Nat.lt_of_lt_of_le hP.2 (Nat.le_trans hsz hset.size)⟩) fun b o hP => World.cell?_of_block (a := ⟨b, o, none⟩) (hset.block b (Nat.lt_of_lt_of_le hP.2 hsz) (by have := hP.1; omega))

theorem own_shape {w : World} {B : Nat} {e : TypeId} {size n : Nat} {v : Value} {xs : List Value} (h : w.ownsRow B e size v n xs) : ∃ A c, v = .slice A n c := by
  rcases h.2 with ⟨rfl, rfl⟩ | ⟨g, cap, cur, rfl, _⟩
  · exact ⟨_, _, rfl⟩
  · exact ⟨_, _, rfl⟩
theorem own_but {w w' : World} {g B : Nat} {e : TypeId} {size n : Nat} {v : Value} {xs : List Value} (h : w.ownsRow B e size v n xs) (hb : But g w w') (hg : g < B) : w'.ownsRow B e size v n xs :=
  h.kept (row := some g) ⟨hb.os, hb.tape, hb.output, hb.size, fun k hk hne => hb.block k hk (fun e => hne (by rw [e]))⟩ (by
    cases hv : v.ownBlock with
    | none => exact .inl rfl
    | some b => exact .inr (by intro e; injection e with e; have := (h.lt b hv).1; omega))
theorem elems_but {w w' : World} {g B : Nat} {l : List SX} {vs : List Value} {V : Value} (h : Elems w (Own V B w.heap.size) l vs) (hb : But g w w') (hg : g < B) : Elems w' (Own V B w'.heap.size) l vs :=
  h.frame (fun b hP => ⟨⟨hP.1.1, Nat.lt_of_lt_of_le hP.1.2 hb.size⟩, hP.2⟩) fun b o hP => World.cell?_of_block (a := ⟨b, o, none⟩) (hb.block b hP.1.2 (by have := hP.1.1; omega))
theorem ask_close {m d z k k3 : Nat} {s : ByteArray} {acc : List SX} (hlt : k3 < s.size) (h : s[k3] = 41) (hs : s.data.toList.drop k3 = skipW (s.data.toList.drop k)) :
    readL (m + 1) (s.data.toList.drop k) d z acc = some (.mk ByteArray.empty acc, s.data.toList.drop (k3 + 1), z) := by
  rw [readL, ← hs, drop_step s k3 hlt, if_pos (by rw [h]; rfl)]
  rfl
def more (m d : Nat) (acc : List SX) : Option (SX × List UInt8 × Nat) → Option (SX × List UInt8 × Nat)
  | none => none
  | some (y, rest', z') => readL m rest' d z' (acc ++ [y])
theorem ask_more {m d z k k3 : Nat} {s : ByteArray} {acc : List SX} (h : (s.data.toList.drop k3).head? ≠ some 41) (hs : s.data.toList.drop k3 = skipW (s.data.toList.drop k)) :
    readL (m + 1) (s.data.toList.drop k) d z acc = more m d acc (readX m (s.data.toList.drop k3) d z) := by
  rw [readL, ← hs, if_neg h]
  cases readX m (s.data.toList.drop k3) d z with
  | none => rfl
  | some p => rfl
/-- Behind the inner reading: the list's own row and variable. -/
theorem behind {g d X n : Nat} {s : ByteArray} {wr w6 : World} {V : Value} {o : Option (SX × List UInt8 × Nat)} {e : Ending} {k : Nat} {vs : List Value} (hg : g < X) (hx : Whole wr X 26 #[.string ⟨#[]⟩, V]) (hown : wr.ownsRow (X + 1) 26 2 V k vs)
    (h : Gave g s d (wr.drewN n) o e w6) : ∃ (y : SX) (A : Option Addr) (c : Nat), e = .returned (.agg #[.string y.atom, .slice A y.list.length c]) ∧ w6.cell? ⟨X, 1, none⟩ = some V ∧ w6.frozen? ⟨X, 1, none⟩ = false ∧ w6.ownsRow (X + 1) 26 2 V k vs ∧ X < w6.heap.size ∧
      But g wr w6 ∧ ListAt w6 (New wr.heap.size w6.heap.size) A y.list ∧ After w6 g s d y o := by
  obtain ⟨y, A, c, rfl, hl, hb, ha⟩ := h
  have hb' : But g wr w6 := ((But.refl g wr).drewN_s n).trans hb
  have hx6 := hx.but hb' (by omega)
  exact ⟨y, A, c, rfl, by rw [hx6.cell]; rfl, hx6.frozen 1, own_but hown hb' (by omega), hx6.lt, hb', hl, ha⟩
/-- Behind the append: the variable. -/
theorem behind2 {X k : Nat} {w6 w7 : World} {V v : Value} {vs : List Value} {o : Obj} {e : TypeId} (hc : w6.cell? ⟨X, 1, none⟩ = some v) (hf : w6.frozen? ⟨X, 1, none⟩ = false) (hown : w6.ownsRow (X + 1) e 2 V k vs) (hX : X < w6.heap.size) (hg : (w6.alloc o).grownBy w7 V.ownBlock) :
    w7.cell? ⟨X, 1, none⟩ = some v ∧ w7.frozen? ⟨X, 1, none⟩ = false := by
  have hb : w7.heap[X]? = w6.heap[X]? := (hg.block X (by simp; omega) (fun e => by have := (hown.lt X e.symm).1; omega)).trans (Below.heap_alloc _ _ _ hX)
  exact ⟨(World.cell?_of_block (a := ⟨X, 1, none⟩) hb).trans hc, (World.frozen?_of_block (a := ⟨X, 1, none⟩) hb).trans hf⟩
/-- One element more, or the failure. -/
theorem goingMore {g d N X k m z g' cap' H : Nat} {s : ByteArray} {w wr w3 w4 : World} {R : Option (SX × List UInt8 × Nat)} {V : Value} {acc : List SX} {vs : List Value} {y : SX} {A : Option Addr} {c : Nat} (hg : g < w.heap.size) (hX : w.heap.size < X)
    (hal : acc.length ≤ 900) (hk : k ≤ s.size) (hx : Whole wr X 26 #[.string ⟨#[]⟩, V]) (hown : wr.ownsRow (X + 1) 26 2 V acc.length vs) (he : Elems wr (Own V (X + 1) wr.heap.size) acc vs)
    (hr : Whole wr w.heap.size 26 #[.string ByteArray.empty, .slice none 0 0]) (hb : But g w wr) (hm : 2 * (s.data.toList.drop k).length + 1 ≤ m) (hmN : m ≤ N) (_hz : z ≤ 900) (haz : acc.length ≤ z)
    (hR : more m (d + 1) acc (readX m (s.data.toList.drop k) (d + 1) z) = R)
    (hb3 : But g wr w3) (hl3 : ListAt w3 (New wr.heap.size w3.heap.size) A y.list) (ha : After w3 g s (d + 1) y (readX m (s.data.toList.drop k) (d + 1) z))
    (hgrow : (w3.alloc (.cells #[.string y.atom, .slice A y.list.length c] 26)).grownBy w4 V.ownBlock) (hown4 : w4.ownsRow (X + 1) 26 2 (.slice (some ⟨g', 0, none⟩) (acc.length + 1) cap') (acc.length + 1) (vs ++ [.string y.atom, .slice A y.list.length c]))
    (hat : V.ownBlock = some g' ∨ g' = H) (hH : w3.heap.size < H) :
    Going g s d N X w R (w4.setCell ⟨X, 1, none⟩ (.slice (some ⟨g', 0, none⟩) (acc.length + 1) cap')) ∧ (∀ k0, k0 ≤ k → stillAt (w4.setCell ⟨X, 1, none⟩ (.slice (some ⟨g', 0, none⟩) (acc.length + 1) cap')) g s < s.size + 1 - k0) := by
  have hXw := hx.lt
  have hsz3 := hb3.size
  have hsz4 : w3.heap.size + 1 ≤ w4.heap.size := by have := hgrow.size; simpa using this
  have hVlt := hown.lt
  have hn4 : ∀ b, b < w3.heap.size → V.ownBlock ≠ some b → w4.heap[b]? = w3.heap[b]? := fun b hb hne =>
    (hgrow.block b (by simp; omega) (fun e => hne e.symm)).trans (Below.heap_alloc _ _ _ hb)
  have hlow : ∀ b, b ≤ X → V.ownBlock ≠ some b := fun b hb e => by have := (hVlt b e).1; omega
  have hw5 : ∀ b, b < w3.heap.size → V.ownBlock ≠ some b → b ≠ X → (w4.setCell ⟨X, 1, none⟩ (.slice (some ⟨g', 0, none⟩) (acc.length + 1) cap')).heap[b]? = w3.heap[b]? := fun b hb hne hX =>
    (Below.heap_setCell _ _ _ _ hX).trans (hn4 b hb hne)
  have hx4 : Whole w4 X 26 #[.string ⟨#[]⟩, V] := (hn4 X (by omega) (hlow X (Nat.le_refl _))).trans (hx.but hb3 (by omega))
  have hx5 : Whole (w4.setCell ⟨X, 1, none⟩ (.slice (some ⟨g', 0, none⟩) (acc.length + 1) cap')) X 26 #[.string ⟨#[]⟩, .slice (some ⟨g', 0, none⟩) (acc.length + 1) cap'] := by
    have h := hx4.set_ 1 (.slice (some ⟨g', 0, none⟩) (acc.length + 1) cap')
    simpa using h
  have hr5 : Whole (w4.setCell ⟨X, 1, none⟩ (.slice (some ⟨g', 0, none⟩) (acc.length + 1) cap')) w.heap.size 26 #[.string ByteArray.empty, .slice none 0 0] :=
    (hw5 _ (by omega) (hlow _ (by omega)) (by omega)).trans (hr.but hb3 (by omega))
  have hown5 : (w4.setCell ⟨X, 1, none⟩ (.slice (some ⟨g', 0, none⟩) (acc.length + 1) cap')).ownsRow (X + 1) 26 2 (.slice (some ⟨g', 0, none⟩) (acc.length + 1) cap') (acc ++ [y]).length (vs ++ [.string y.atom, .slice A y.list.length c]) := by
    rw [List.length_append]
    exact ownsRow_setCell_below hown4 (by simp) _
  have hb4 : But g w w4 := ((hb.trans hb3).alloc_ _).grown hgrow (fun k hk => by have := (hVlt k hk).1; omega)
  have hb5 : But g w (w4.setCell ⟨X, 1, none⟩ (.slice (some ⟨g', 0, none⟩) (acc.length + 1) cap')) := hb4.far (p := ⟨X, 1, none⟩) (Nat.le_of_lt hX) _
  have hne' : ∀ b, b < w3.heap.size → V.ownBlock ≠ some b → (Value.slice (some ⟨g', 0, none⟩) (acc.length + 1) cap').ownBlock ≠ some b := fun b hb hne e => by
    have e' : g' = b := by simpa [Value.ownBlock] using e
    rcases hat with h | h
    · exact hne (by rw [h, e'])
    · omega
  have hsz5 : (w4.setCell ⟨X, 1, none⟩ (.slice (some ⟨g', 0, none⟩) (acc.length + 1) cap')).heap.size = w4.heap.size := by simp
  have he5 : Elems (w4.setCell ⟨X, 1, none⟩ (.slice (some ⟨g', 0, none⟩) (acc.length + 1) cap')) (Own (.slice (some ⟨g', 0, none⟩) (acc.length + 1) cap') (X + 1) (w4.setCell ⟨X, 1, none⟩ (.slice (some ⟨g', 0, none⟩) (acc.length + 1) cap')).heap.size) (acc ++ [y]) (vs ++ [.string y.atom, .slice A y.list.length c]) := by
    refine Elems.snoc ?_ ?_
    · refine (elems_but he hb3 (by omega)).frame (fun b hP => ⟨⟨hP.1.1, by rw [hsz5]; have := hP.1.2; omega⟩, hne' b hP.1.2 hP.2⟩) fun b o hP => World.cell?_of_block (a := ⟨b, o, none⟩) (hw5 b hP.1.2 hP.2 (by have := hP.1.1; omega))
    · have hVb : ∀ b, wr.heap.size ≤ b → V.ownBlock ≠ some b := fun b hb e => by have := (hVlt b e).2; omega
      exact hl3.frame (fun b hP => ⟨⟨by have := hP.1; omega, by rw [hsz5]; have := hP.2; omega⟩, hne' b hP.2 (hVb b hP.1)⟩) fun b o hP => World.cell?_of_block (a := ⟨b, o, none⟩) (hw5 b hP.2 (hVb b hP.1) (by have := hP.1; omega))
  have hcell : ∀ {k d' z' b'}, Cells w3 g s k d' z' b' → Cells (w4.setCell ⟨X, 1, none⟩ (.slice (some ⟨g', 0, none⟩) (acc.length + 1) cap')) g s k d' z' b' := fun h =>
    (hw5 g (by omega) (hlow g (by omega)) (by omega)).trans h
  generalize w4.setCell ⟨X, 1, none⟩ (.slice (some ⟨g', 0, none⟩) (acc.length + 1) cap') = w5 at *
  cases ho : readX m (s.data.toList.drop k) (d + 1) z with
  | none =>
    rw [ho] at ha hR
    obtain ⟨k', d', z', hk', hc'⟩ := ha
    refine ⟨⟨_, acc ++ [y], _, k', hk', by simp; omega, hx5, hown5, he5, hr5, hb5, .inr ⟨hR.symm, d', z', hcell hc'⟩⟩, fun k0 hk0 => ?_⟩
    rw [stillAt, (hcell hc').at_.2.2.2.2]
    show 0 < _
    omega
  | some p =>
    obtain ⟨x, r, z'⟩ := p
    rw [ho] at ha hR
    obtain ⟨rfl, hz', k', hk', hr', hc'⟩ := ha
    subst hr'
    have hless := readX_less _ _ _ _ ho
    have hmore := readX_more _ _ _ _ ho
    rw [drop_len, drop_len] at hless
    refine ⟨⟨_, acc ++ [y], _, k', hk', by simp; omega, hx5, hown5, he5, hr5, hb5, .inl ⟨m, z', ?_, hmN, hz', by simp; omega, hcell hc', hR⟩⟩, fun k0 hk0 => ?_⟩
    · rw [drop_len] at *; omega
    · rw [stillAt, (hcell hc').at_.2.2.2.2, (hcell hc').num]
      show s.size + 1 - k' < _
      omega
end Go.Proofs.Ytbcfeoobhemdcaa
namespace Go.Proofs.Ytbcfeoobhemdcaa
open Go.RowKit

/-- The last element taken off a row of the call's own. -/
theorem own_pop {w : World} {B g cap n size : Nat} {e : TypeId} {xs ys : List Value} (h : w.ownsRow B e size (.slice (some ⟨g, 0, none⟩) (n + 1) cap) (n + 1) (xs ++ ys)) (hx : xs.length = n * size) (_hy : ys.length = size) :
    w.ownsRow B e size (.slice (some ⟨g, 0, none⟩) n cap) n xs ∧ (∀ j, j < size → w.cell? ⟨g, n * size + j, none⟩ = ys[j]?) ∧ n + 1 ≤ cap ∧ cap ≤ maxLen ∧ B ≤ g ∧ g < w.heap.size := by
  have hc : ∀ j, j < size → w.cell? ⟨g, n * size + j, none⟩ = ys[j]? := fun j hj => by
    rw [World.ownsRow.cellAt h _ (by rw [Nat.add_mul]; omega), List.getElem?_append_right (by omega)]
    congr 1
    omega
  have hlt := h.lt g rfl
  rcases h.2 with ⟨h', _⟩ | ⟨g', cap', cur, h', hb, hg, hnc, hcm, hcs, htake⟩
  · simp at h'
  · simp only [Value.slice.injEq, Option.some.injEq, Addr.mk.injEq, and_true, true_and] at h'
    obtain ⟨rfl, rfl⟩ := h'
    refine ⟨⟨hx, .inr ⟨g, cap, cur, rfl, hb, hg, by omega, hcm, hcs, ?_⟩⟩, hc, hnc, hcm, hb, hlt.2⟩
    have h2 := congrArg (List.take (n * size)) htake
    rw [List.take_take, Nat.min_eq_left (Nat.mul_le_mul_right _ (by omega)), List.take_append_of_le_length (by omega), List.take_of_length_le (l := xs) (by omega)] at h2
    exact h2
theorem own_nil {w : World} {B size : Nat} {e : TypeId} {v : Value} {n : Nat} {xs : List Value} (h : w.ownsRow B e size v n xs) : ∃ A c, v = .slice A n c := by
  rcases h.2 with ⟨rfl, rfl⟩ | ⟨g, cap, cur, rfl, _⟩
  · exact ⟨_, _, rfl⟩
  · exact ⟨_, _, rfl⟩
theorem own_some {w : World} {B size : Nat} {e : TypeId} {v : Value} {n : Nat} {xs : List Value} (h : w.ownsRow B e size v (n + 1) xs) : ∃ g c, v = .slice (some ⟨g, 0, none⟩) (n + 1) c := by
  rcases h.2 with ⟨_, h0⟩ | ⟨g, cap, cur, rfl, _⟩
  · omega
  · exact ⟨_, _, rfl⟩

theorem one_slice (A : Option Addr) (n c : Nat) : ∀ u ∈ [Value.slice A n c], u.oneCell' = true := by
  intro u hu
  simp at hu
  subst hu
  rfl
theorem concat_cases {α : Type} (st : List α) : st = [] ∨ ∃ st0 l, st = st0 ++ [l] := by
  rcases List.eq_nil_or_concat st with h | ⟨a, b, h⟩
  · exact .inl h
  · exact .inr ⟨a, b, by rw [h, List.concat_eq_append]⟩

theorem wpListIn_append_at {F : Fence} {n : Nat} {P : Program} (w : World) {ops : Array Oper} {rest : List Oper} {o : Oper} {a : Act} {Q : Exit → Act → World → Prop}
    (hg : o.guard = none) (s x : Operand) (t : TypeId) (hop : o.op = Op.call { callee := Callee.builtin Builtin.append, args := #[s, x], argTypes := #[t, t] })
    (base : Nat) (e : TypeId) (i : TypeInfo) (z : Value) (size bytes : Nat) (h1 : P.underlying t = some (.slice e)) (h2 : P.info? e = some i) (h3 : i.zero = some z) (h4 : i.size = size) (h5 : i.bytes = bytes) (h6 : z.cells.size = size) (h7 : 0 < size)
    (v : Value) (k : Nat) (xs : List Value) (hs : a.eval s = v) (hown : w.ownsRow base e size v k xs) (ad : Addr) (m c : Nat) (news : List Value) (hx : a.eval x = .slice (some ad) m c) (hn : news.length = m * size)
    (hc : ∀ j u, news[j]? = some u → w.cell? (ad.add j) = some u) (h1c : ∀ u ∈ news, u.oneCell' = true) (b1 : k + m ≤ maxLen) (b2 : (k + m) * bytes ≤ 140737488355328) (b3 : base ≤ w.heap.size)
    (hK : ∀ v' w', w'.ownsRow base e size v' (k + m) (xs ++ news) → w.grownBy w' v.ownBlock → (v'.ownBlock = v.ownBlock ∨ v'.ownBlock = some w.heap.size) → wpListIn F n P ops Q rest (a.put o.dst v') w') :
    wpListIn F n P ops Q (o :: rest) a w := by
  refine wpListIn_plain hg fun K hK' => ?_
  obtain ⟨v', w', hrun, r1, r2, _, r3⟩ := run_append_own_at (P := P) w base t o.type e i z size bytes h1 h2 h3 h4 h5 h6 h7 v k xs hown ad m c news hn hc h1c b1 b2 b3
  unfold Oper.wpIn
  refine ⟨?_, ?_⟩
  · simp [Oper.about, hop, resolve, Target.leads, Sem.run_pure]
  · rw [Oper.semAt_plain F _ _ (by rw [hop]; intro c hc'; cases hc')]
    simp [execOp, hop, resolve, invoke, builtin, hs, hx, hrun, Result.andThen]
    exact hK' _ _ (hK v' w' r1 r2 r3)
end Go.Proofs.Ytbcfeoobhemdcaa
namespace Go.Proofs.Ytbcfeoobhemdcaa
open Go.RowKit Go.Lib

/-- The cells vs are these lists, one after another. -/
def Lists (w : World) (P : Nat → Prop) : List (List SX) → List Value → Prop
  | [], vs => vs = []
  | l :: r, vs => ∃ A c rest, vs = .slice A l.length c :: rest ∧ ListAt w P A l ∧ Lists w P r rest
theorem Lists.length {w : World} {P : Nat → Prop} : ∀ {st : List (List SX)} {vs : List Value}, Lists w P st vs → vs.length = st.length
  | [], vs, h => by rw [Lists] at h; subst h; rfl
  | l :: r, vs, h => by
    obtain ⟨A, c, rest, rfl, _, h2⟩ := h
    rw [List.length_cons, List.length_cons, h2.length]
theorem Lists.snoc {w : World} {P : Nat → Prop} : ∀ {st : List (List SX)} {vs : List Value}, Lists w P st vs → ∀ {l : List SX} {A : Option Addr} {c : Nat}, ListAt w P A l → Lists w P (st ++ [l]) (vs ++ [.slice A l.length c])
  | [], vs, h, l, A, c, hl => by
    rw [Lists] at h; subst h
    exact ⟨A, c, [], rfl, hl, rfl⟩
  | y :: r, vs, h, l, A, c, hl => by
    obtain ⟨A', c', rest, rfl, h1, h2⟩ := h
    exact ⟨A', c', rest ++ _, rfl, h1, h2.snoc hl⟩
theorem Lists.last {w : World} {P : Nat → Prop} : ∀ {st : List (List SX)} {l : List SX} {vs : List Value}, Lists w P (st ++ [l]) vs → ∃ vs0 A c, vs = vs0 ++ [.slice A l.length c] ∧ Lists w P st vs0 ∧ ListAt w P A l
  | [], l, vs, h => by
    obtain ⟨A', c', rest, rfl, h1, h2⟩ := h
    rw [Lists] at h2; subst h2
    exact ⟨[], A', c', rfl, rfl, h1⟩
  | y :: r, l, vs, h => by
    obtain ⟨A', c', rest, rfl, h1, h2⟩ := h
    obtain ⟨vs0, A, c, rfl, h3, h4⟩ := Lists.last (st := r) h2
    exact ⟨_ :: vs0, A, c, rfl, ⟨A', c', vs0, rfl, h1, h3⟩, h4⟩
end Go.Proofs.Ytbcfeoobhemdcaa
namespace Go.Proofs.Ytbcfeoobhemdcaa
open Go.RowKit Go.Lib

mutual
/-- The two cells v0, v1 are this expression; its rows lie in just the blocks bs. -/
def OwX (w : World) (B : Nat) : SX → Value → Value → List Nat → Prop
  | .mk a l, v0, v1, bs => v0 = .string a ∧ ∃ (xs : List Value) (bs' : List Nat), w.ownsRow B 26 2 v1 l.length xs ∧ OwE w B l xs bs' ∧ bs = v1.ownBlock.toList ++ bs'
def OwE (w : World) (B : Nat) : List SX → List Value → List Nat → Prop
  | [], xs, bs => xs = [] ∧ bs = []
  | x :: r, xs, bs => ∃ (v0 v1 : Value) (xs' : List Value) (b1 b2 : List Nat), xs = v0 :: v1 :: xs' ∧ bs = b1 ++ b2 ∧ OwX w B x v0 v1 b1 ∧ OwE w B r xs' b2
end
mutual
theorem OwX_frame {w w' : World} {B : Nat} : ∀ (x : SX) {v0 v1 : Value} {bs : List Nat}, (∀ b ∈ bs, w'.heap[b]? = w.heap[b]?) → OwX w B x v0 v1 bs → OwX w' B x v0 v1 bs
  | .mk a l, v0, v1, bs, hb, h => by
    rw [OwX] at h ⊢
    obtain ⟨h0, xs, bs', h1, h2, rfl⟩ := h
    exact ⟨h0, xs, bs', own_same h1 fun b hv => hb b (by rw [hv]; simp), OwE_frame l (fun b hm => hb b (List.mem_append_right _ hm)) h2, rfl⟩
theorem OwE_frame {w w' : World} {B : Nat} : ∀ (l : List SX) {xs : List Value} {bs : List Nat}, (∀ b ∈ bs, w'.heap[b]? = w.heap[b]?) → OwE w B l xs bs → OwE w' B l xs bs
  | [], xs, bs, _, h => by rw [OwE] at h ⊢; exact h
  | x :: r, xs, bs, hb, h => by
    rw [OwE] at h ⊢
    obtain ⟨v0, v1, xs', b1, b2, rfl, rfl, h1, h2⟩ := h
    exact ⟨v0, v1, xs', b1, b2, rfl, rfl, OwX_frame x (fun b hm => hb b (List.mem_append_left _ hm)) h1, OwE_frame r (fun b hm => hb b (List.mem_append_right _ hm)) h2⟩
end
theorem OwE_length {w : World} {B : Nat} : ∀ {l : List SX} {xs : List Value} {bs : List Nat}, OwE w B l xs bs → xs.length = l.length * 2
  | [], xs, bs, h => by rw [OwE] at h; rw [h.1]; rfl
  | x :: r, xs, bs, h => by
    rw [OwE] at h
    obtain ⟨v0, v1, xs', b1, b2, rfl, rfl, _, h2⟩ := h
    have := OwE_length h2
    rw [List.length_cons, List.length_cons, List.length_cons]; omega
theorem OwE_snoc {w : World} {B : Nat} : ∀ {l : List SX} {xs : List Value} {bs : List Nat}, OwE w B l xs bs → ∀ {x : SX} {v0 v1 : Value} {bx : List Nat}, OwX w B x v0 v1 bx → OwE w B (l ++ [x]) (xs ++ [v0, v1]) (bs ++ bx)
  | [], xs, bs, h, x, v0, v1, bx, hx => by
    rw [OwE] at h
    obtain ⟨rfl, rfl⟩ := h
    rw [List.nil_append, OwE]
    exact ⟨v0, v1, [], bx, [], rfl, by simp, hx, by rw [OwE]; exact ⟨rfl, rfl⟩⟩
  | y :: r, xs, bs, h, x, v0, v1, bx, hx => by
    rw [OwE] at h
    obtain ⟨u0, u1, xs', b1, b2, rfl, rfl, h1, h2⟩ := h
    rw [List.cons_append, OwE]
    exact ⟨u0, u1, _, b1, b2 ++ bx, by simp, by simp, h1, OwE_snoc h2 hx⟩
/-- A word. -/
theorem OwX_word (w : World) (B : Nat) (a : ByteArray) : OwX w B (.mk a []) (.string a) (.slice none 0 0) [] := by
  rw [OwX]
  exact ⟨rfl, [], [], World.ownsRow_nil _ _ _ _, by rw [OwE]; exact ⟨rfl, rfl⟩, rfl⟩
theorem OwX_form {w : World} {B : Nat} {x : SX} {v0 v1 : Value} {bs : List Nat} (h : OwX w B x v0 v1 bs) : ∃ A c, v0 = .string x.atom ∧ v1 = .slice A x.list.length c := by
  cases x with
  | mk a l =>
    rw [OwX] at h
    obtain ⟨h0, xs, bs', h1, _, _⟩ := h
    obtain ⟨A, c, rfl⟩ := own_nil h1
    exact ⟨A, c, h0, rfl⟩

mutual
/-- What is owned reads as what it is. -/
theorem OwX_list {w : World} {B : Nat} {P : Nat → Prop} : ∀ (x : SX) {v0 : Value} {A : Option Addr} {n c : Nat} {bs : List Nat}, (∀ b ∈ bs, P b) → OwX w B x v0 (.slice A n c) bs → ListAt w P A x.list
  | .mk a l, v0, A, n, c, bs, hP, h => by
    rw [OwX] at h
    obtain ⟨h0, xs, bs', h1, h2, rfl⟩ := h
    rcases h1.2 with ⟨hv, hn⟩ | ⟨g, cap, cur, hv, _⟩
    · exact .inl (List.eq_nil_of_length_eq_zero hn)
    · injection hv with hA hn hc
      subst hA hn hc
      refine .inr ⟨g, 0, rfl, hP g (by simp [Value.ownBlock]), ?_⟩
      refine OwE_read l g 0 (fun b hm => hP b (List.mem_append_right _ hm)) h2 fun j hj => ?_
      rw [Nat.zero_add, World.ownsRow.cellAt h1 j (by have := OwE_length h2; omega)]
theorem OwE_read {w : World} {B : Nat} {P : Nat → Prop} : ∀ (l : List SX) (g o : Nat) {xs : List Value} {bs : List Nat}, (∀ b ∈ bs, P b) → OwE w B l xs bs → (∀ j, j < xs.length → w.cell? ⟨g, o + j, none⟩ = xs[j]?) → RdE w P l g o
  | [], _, _, _, _, _, _, _ => by rw [RdE]; trivial
  | x :: r, g, o, xs, bs, hP, h, hc => by
    rw [OwE] at h
    obtain ⟨v0, v1, xs', b1, b2, rfl, rfl, h1, h2⟩ := h
    obtain ⟨A, c, rfl, rfl⟩ := OwX_form h1
    rw [RdE]
    refine ⟨RdX_iff.2 ⟨(hc 0 (by simp)), A, c, (hc 1 (by simp)), OwX_list x (fun b hm => hP b (List.mem_append_left _ hm)) h1⟩, ?_⟩
    refine OwE_read r g (o + 2) (fun b hm => hP b (List.mem_append_right _ hm)) h2 fun j hj => ?_
    have := hc (j + 2) (by simp; omega)
    rw [show o + 2 + j = o + (j + 2) by omega, this]
    simp
end

/-- Lists under way, each in a row of its own, outermost first. -/
def Levs (w : World) (B : Nat) : List (List SX) → List Value → List Nat → Prop
  | [], vs, bs => vs = [] ∧ bs = []
  | t :: r, vs, bs => ∃ (v : Value) (vs' : List Value) (b1 b2 : List Nat), vs = v :: vs' ∧ bs = b1 ++ b2 ∧ OwX w B (.mk ByteArray.empty t) (.string ByteArray.empty) v b1 ∧ Levs w B r vs' b2
theorem Levs.frame {w w' : World} {B : Nat} : ∀ {st : List (List SX)} {vs : List Value} {bs : List Nat}, (∀ b ∈ bs, w'.heap[b]? = w.heap[b]?) → Levs w B st vs bs → Levs w' B st vs bs
  | [], vs, bs, _, h => h
  | t :: r, vs, bs, hb, h => by
    obtain ⟨v, vs', b1, b2, rfl, rfl, h1, h2⟩ := h
    exact ⟨v, vs', b1, b2, rfl, rfl, OwX_frame _ (fun b hm => hb b (List.mem_append_left _ hm)) h1, Levs.frame (fun b hm => hb b (List.mem_append_right _ hm)) h2⟩
theorem Levs.snoc {w : World} {B : Nat} : ∀ {st : List (List SX)} {vs : List Value} {bs : List Nat}, Levs w B st vs bs → ∀ {t : List SX} {v : Value} {bt : List Nat}, OwX w B (.mk ByteArray.empty t) (.string ByteArray.empty) v bt → Levs w B (st ++ [t]) (vs ++ [v]) (bs ++ bt)
  | [], vs, bs, h, t, v, bt, ht => by
    obtain ⟨rfl, rfl⟩ := h
    exact ⟨v, [], bt, [], rfl, by simp, ht, rfl, rfl⟩
  | u :: r, vs, bs, h, t, v, bt, ht => by
    obtain ⟨v', vs', b1, b2, rfl, rfl, h1, h2⟩ := h
    exact ⟨v', _, b1, b2 ++ bt, rfl, by simp, h1, h2.snoc ht⟩
theorem Levs.last {w : World} {B : Nat} : ∀ {st : List (List SX)} {t : List SX} {vs : List Value} {bs : List Nat}, Levs w B (st ++ [t]) vs bs → ∃ vs0 v b0 bt, vs = vs0 ++ [v] ∧ bs = b0 ++ bt ∧ Levs w B st vs0 b0 ∧ OwX w B (.mk ByteArray.empty t) (.string ByteArray.empty) v bt
  | [], t, vs, bs, h => by
    obtain ⟨v', vs', b1, b2, rfl, rfl, h1, h2⟩ := h
    obtain ⟨rfl, rfl⟩ := h2
    exact ⟨[], v', [], b1, rfl, by simp, ⟨rfl, rfl⟩, h1⟩
  | u :: r, t, vs, bs, h => by
    obtain ⟨v', vs', b1, b2, rfl, rfl, h1, h2⟩ := h
    obtain ⟨vs0, v, b0, bt, rfl, rfl, h3, h4⟩ := Levs.last (st := r) h2
    exact ⟨v' :: vs0, v, b1 ++ b0, bt, rfl, by simp, ⟨v', vs0, b1, b0, rfl, rfl, h1, h3⟩, h4⟩
theorem Levs.length {w : World} {B : Nat} : ∀ {st : List (List SX)} {vs : List Value} {bs : List Nat}, Levs w B st vs bs → vs.length = st.length
  | [], vs, bs, h => by rw [h.1]; rfl
  | t :: r, vs, bs, h => by
    obtain ⟨v', vs', b1, b2, rfl, rfl, h1, h2⟩ := h
    rw [List.length_cons, List.length_cons, h2.length]
end Go.Proofs.Ytbcfeoobhemdcaa
namespace Go.Proofs.Ytbcfeoobhemdcaa
open Go.RowKit Go.Lib

/-- Blocks from B on that are there, neither the row's own nor X. -/
def Off (V : Value) (B X C : Nat) (b : Nat) : Prop := New B C b ∧ V.ownBlock ≠ some b ∧ b ≠ X
/-- V is a row of the call's own, from B on, and not X, that holds just these. -/
def RowX (B X : Nat) (V : Value) (acc : List SX) (w : World) : Prop :=
  ∃ vs, w.ownsRow B 26 2 V acc.length vs ∧ Elems w (Off V B X w.heap.size) acc vs ∧ V.ownBlock ≠ some X
theorem RowX.nil (B X : Nat) (w : World) : RowX B X (.slice none 0 0) [] w := ⟨[], World.ownsRow_nil _ _ _ _, rfl, by simp [Value.ownBlock]⟩
theorem RowX.shape {B X : Nat} {V : Value} {acc : List SX} {w : World} (h : RowX B X V acc w) : ∃ A c, V = .slice A acc.length c := by
  obtain ⟨vs, h1, _⟩ := h
  exact own_shape h1
theorem RowX.keep {B X : Nat} {V : Value} {acc : List SX} {w w' : World} (h : RowX B X V acc w) (hsz : w.heap.size ≤ w'.heap.size) (hk : ∀ b, B ≤ b → b < w.heap.size → b ≠ X → w'.heap[b]? = w.heap[b]?) : RowX B X V acc w' := by
  obtain ⟨vs, h1, h2, h3⟩ := h
  refine ⟨vs, own_same h1 fun b hb => hk b (h1.lt b hb).1 (h1.lt b hb).2 (fun e => h3 (by rw [hb, e])), h2.frame (fun b hP => ⟨⟨hP.1.1, by have := hP.1.2; omega⟩, hP.2⟩) (fun b o hP => World.cell?_of_block (a := ⟨b, o, none⟩) (hk b hP.1.1 hP.1.2 hP.2.2)), h3⟩
theorem RowX.below {B X : Nat} {V : Value} {acc : List SX} {w w' : World} (h : RowX B X V acc w) (hb : Below w.heap.size w w') : RowX B X V acc w' := h.keep hb.size fun b _ h2 _ => hb.block b h2
theorem RowX.but {B X k : Nat} {V : Value} {acc : List SX} {w w' : World} (h : RowX B X V acc w) (hb : But k w w') (hk : k < B ∨ k = X) : RowX B X V acc w' := h.keep hb.size fun b h1 h2 h3 => hb.block b h2 (by omega)
theorem RowX.list {B X : Nat} {A : Option Addr} {n c : Nat} {acc : List SX} {w : World} (h : RowX B X (.slice A n c) acc w) : ListAt w (fun b => New B w.heap.size b ∧ b ≠ X) A acc := by
  obtain ⟨vs, h1, h2, h3⟩ := h
  obtain ⟨A', c', hv, hl⟩ := list_own h1 (h2.frame (Q := fun b => New B w.heap.size b ∧ b ≠ X) (fun b hP => ⟨hP.1, hP.2.2⟩) fun _ _ _ => rfl) (fun b hb => ⟨⟨(h1.lt b hb).1, (h1.lt b hb).2⟩, fun e => h3 (by rw [hb, e])⟩)
  injection hv with hA _ _
  subst hA
  exact hl
/-- Further down, and apart from a block that is not there yet. -/
theorem RowX.wide {B B' X X' : Nat} {V : Value} {acc : List SX} {w : World} (h : RowX B X V acc w) (hB : B' ≤ B) (hX : X' < B ∨ w.heap.size ≤ X' ∨ X' = X) : RowX B' X' V acc w := by
  obtain ⟨vs, h1, h2, h3⟩ := h
  refine ⟨vs, ?_, h2.frame (fun b hP => ⟨⟨by have := hP.1.1; omega, hP.1.2⟩, hP.2.1, by have := hP.1.1; have := hP.1.2; have := hP.2.2; omega⟩) fun _ _ _ => rfl, ?_⟩
  · refine ⟨h1.1, ?_⟩
    rcases h1.2 with hn | ⟨g, cap, cur, rfl, hbg, rest⟩
    · exact .inl hn
    · exact .inr ⟨g, cap, cur, rfl, by omega, rest⟩
  · intro e
    have := h1.lt X' e
    rcases hX with h | h | h
    · omega
    · omega
    · subst h; exact h3 e
/-- One expression more. -/
theorem RowX.more_ {B X g' cap' : Nat} {V : Value} {acc : List SX} {w3 w4 : World} {y : SX} {A : Option Addr} {c : Nat} {vs : List Value} (hel : Elems w3 (Off V B X w3.heap.size) acc vs) (hVX : V.ownBlock ≠ some X) (hX : X < w3.heap.size ∨ ∃ k, X = w4.heap.size + k)
    (hl : ListAt w3 (Off V B X w3.heap.size) A y.list) (hsz4 : w3.heap.size ≤ w4.heap.size) (hn4 : ∀ b, b < w3.heap.size → V.ownBlock ≠ some b → w4.heap[b]? = w3.heap[b]?)
    (hown4 : w4.ownsRow B 26 2 (.slice (some ⟨g', 0, none⟩) (acc.length + 1) cap') (acc.length + 1) (vs ++ [.string y.atom, .slice A y.list.length c])) (hat : V.ownBlock = some g' ∨ w3.heap.size ≤ g') :
    RowX B X (.slice (some ⟨g', 0, none⟩) (acc.length + 1) cap') (acc ++ [y]) w4 := by
  have hne' : ∀ b, b < w3.heap.size → V.ownBlock ≠ some b → (Value.slice (some ⟨g', 0, none⟩) (acc.length + 1) cap').ownBlock ≠ some b := fun b hb hne e => by
    have e' : g' = b := by simpa [Value.ownBlock] using e
    rcases hat with h | h
    · exact hne (by rw [h, e'])
    · omega
  have step : ∀ b, Off V B X w3.heap.size b → Off (.slice (some ⟨g', 0, none⟩) (acc.length + 1) cap') B X w4.heap.size b := fun b hP => ⟨⟨hP.1.1, by have := hP.1.2; omega⟩, hne' b hP.1.2 hP.2.1, hP.2.2⟩
  refine ⟨_, by rw [List.length_append]; exact hown4, Elems.snoc ?_ ?_, ?_⟩
  · exact hel.frame step fun b o hP => World.cell?_of_block (a := ⟨b, o, none⟩) (hn4 b hP.1.2 hP.2.1)
  · exact hl.frame step fun b o hP => World.cell?_of_block (a := ⟨b, o, none⟩) (hn4 b hP.1.2 hP.2.1)
  · rcases hX with hX | ⟨k, rfl⟩
    · exact hne' X hX hVX
    · intro e
      have := (hown4.lt _ e).2
      omega
theorem RowX.more {B X g' cap' H : Nat} {V : Value} {acc : List SX} {w3 w4 : World} {y : SX} {A : Option Addr} {c : Nat} {vs : List Value} (hel : Elems w3 (Off V B X w3.heap.size) acc vs) (hVX : V.ownBlock ≠ some X) (hX : X < w3.heap.size)
    (hl : ListAt w3 (Off V B X w3.heap.size) A y.list) (hgrow : (w3.alloc (.cells #[.string y.atom, .slice A y.list.length c] 26)).grownBy w4 V.ownBlock)
    (hown4 : w4.ownsRow B 26 2 (.slice (some ⟨g', 0, none⟩) (acc.length + 1) cap') (acc.length + 1) (vs ++ [.string y.atom, .slice A y.list.length c])) (hat : V.ownBlock = some g' ∨ g' = H) (hH : w3.heap.size < H) :
    RowX B X (.slice (some ⟨g', 0, none⟩) (acc.length + 1) cap') (acc ++ [y]) w4 :=
  RowX.more_ hel hVX (.inl hX) hl (by have := hgrow.size; simp at this; omega) (fun b hb hne => (hgrow.block b (by simp; omega) (fun e => hne e.symm)).trans (Below.heap_alloc _ _ _ hb)) hown4 (hat.imp id fun h => by omega)
/-- What a row with its variable turns into when another expression is appended to the variable. -/
theorem cur_but {w w' : World} {B g k : Nat} (h : Cur w B g) (hb : But k w w') (hk : g < k) : Cur w' B g := by
  have hlt := h.lt
  have ho := h.own
  obtain ⟨A, n, c, i, x, hc⟩ := h
  refine ⟨A, n, c, i, x, ⟨hc.cells.but hb (by omega), ho, fun j hj => ?_, hc.size, hc.lo, hc.hi⟩⟩
  obtain ⟨b, o, z, hA, hl, h0, h1, hz⟩ := hc.bytes j hj
  exact ⟨b, o, z, hA, hl, h0, h1, (World.cell?_of_block (a := ⟨b, o + j, none⟩) (hb.block b (by omega) (by omega))).trans hz⟩
end Go.Proofs.Ytbcfeoobhemdcaa
namespace Go.Proofs.Ytbcfeoobhemdcaa
open Go.RowKit Go.Lib

mutual
/-- An expression marked from k on. -/
def SX.mrk (k : Nat) : SX → SX
  | .mk _ l => .mk (mark k) (mrkL (k + 1) l)
def mrkL (k : Nat) : List SX → List SX
  | [] => []
  | x :: r => x.mrk k :: mrkL (k + x.nodes) r
end
theorem mrk_eq (k : Nat) (x : SX) : x.mrk k = .mk (mark k) (mrkL (k + 1) x.list) := by cases x; rw [SX.mrk]; rfl
theorem mrkL_length : ∀ (l : List SX) (k : Nat), (mrkL k l).length = l.length
  | [], _ => by rw [mrkL]
  | x :: r, k => by rw [mrkL, List.length_cons, List.length_cons, mrkL_length r]
theorem mrkL_take : ∀ (l : List SX) (k i : Nat) (h : i < l.length), mrkL k (l.take (i + 1)) = mrkL k (l.take i) ++ [l[i].mrk (k + SX.nodesL (l.take i))]
  | x :: r, k, 0, _ => by simp [mrkL, SX.nodesL]
  | x :: r, k, i + 1, h => by
    rw [List.take_succ_cons, List.take_succ_cons, mrkL, mrkL, mrkL_take r _ i (by simpa using h), SX.nodesL]
    simp [Nat.add_assoc]
theorem mrkL_at : ∀ (l : List SX) (k i : Nat) (h : i < l.length), (mrkL k l)[i]? = some (l[i].mrk (k + SX.nodesL (l.take i)))
  | x :: r, k, 0, _ => by simp [mrkL, SX.nodesL]
  | x :: r, k, i + 1, h => by
    rw [mrkL, List.getElem?_cons_succ, mrkL_at r _ i (by simpa using h), List.take_succ_cons, SX.nodesL]
    simp [Nat.add_assoc]
theorem nodesL_step : ∀ (l : List SX) (j : Nat) (h : j < l.length), SX.nodesL (l.take (j + 1)) = SX.nodesL (l.take j) + l[j].nodes
  | x :: r, 0, _ => by simp [SX.nodesL]
  | x :: r, j + 1, h => by
    have := nodesL_step r j (by simpa using h)
    rw [List.take_succ_cons, List.take_succ_cons, SX.nodesL, SX.nodesL, this]
    simp; omega
theorem nodesL_part : ∀ (l : List SX) (j : Nat), SX.nodesL (l.take j) ≤ SX.nodesL l
  | [], j => by simp
  | x :: r, 0 => by simp [SX.nodesL]
  | x :: r, j + 1 => by
    have := nodesL_part r j
    rw [List.take_succ_cons, SX.nodesL, SX.nodesL]; omega
theorem nodesL_count : ∀ (l : List SX), l.length ≤ SX.nodesL l
  | [] => by simp [SX.nodesL]
  | x :: r => by have := nodesL_count r; have := SX.nodes_eq x; rw [SX.nodesL, List.length_cons]; omega

/-- All blocks but these are as they were. -/
structure ButL (bs : List Nat) (w w' : World) : Prop where
  os : w'.os = w.os
  tape : w'.tape = w.tape
  output : w'.output = w.output
  size : w.heap.size ≤ w'.heap.size
  block : ∀ b, b < w.heap.size → b ∉ bs → w'.heap[b]? = w.heap[b]?
theorem ButL.refl (bs : List Nat) (w : World) : ButL bs w w := ⟨rfl, rfl, rfl, Nat.le_refl _, fun _ _ _ => rfl⟩
theorem ButL.trans {bs : List Nat} {a b c : World} (h : ButL bs a b) (k : ButL bs b c) : ButL bs a c :=
  ⟨k.os.trans h.os, k.tape.trans h.tape, k.output.trans h.output, Nat.le_trans h.size k.size, fun i hi hn => (k.block i (Nat.lt_of_lt_of_le hi h.size) hn).trans (h.block i hi hn)⟩
theorem ButL.of_below {bs : List Nat} {w w' : World} (h : Below w.heap.size w w') : ButL bs w w' := ⟨h.os, h.tape, h.output, h.size, fun b hb _ => h.block b hb⟩
theorem ButL.more {bs cs : List Nat} {w w' : World} (h : ButL bs w w') (hs : ∀ b ∈ bs, b ∈ cs) : ButL cs w w' := ⟨h.os, h.tape, h.output, h.size, fun b hb hn => h.block b hb fun hm => hn (hs b hm)⟩

theorem OwE_split {w : World} {B : Nat} : ∀ (p : List SX) {x : SX} {q : List SX} {xs : List Value} {bs : List Nat}, OwE w B (p ++ x :: q) xs bs →
    ∃ xp v0 v1 xq bp bx bq, xs = xp ++ v0 :: v1 :: xq ∧ bs = bp ++ (bx ++ bq) ∧ OwE w B p xp bp ∧ OwX w B x v0 v1 bx ∧ OwE w B q xq bq
  | [], x, q, xs, bs, h => by
    rw [List.nil_append, OwE] at h
    obtain ⟨v0, v1, xs', b1, b2, rfl, rfl, h1, h2⟩ := h
    exact ⟨[], v0, v1, xs', [], b1, b2, rfl, rfl, by rw [OwE]; exact ⟨rfl, rfl⟩, h1, h2⟩
  | y :: p, x, q, xs, bs, h => by
    rw [List.cons_append, OwE] at h
    obtain ⟨u0, u1, xs', b1, b2, rfl, rfl, h1, h2⟩ := h
    obtain ⟨xp, v0, v1, xq, bp, bx, bq, rfl, rfl, h3, h4, h5⟩ := OwE_split p h2
    refine ⟨u0 :: u1 :: xp, v0, v1, xq, b1 ++ bp, bx, bq, rfl, by simp, ?_, h4, h5⟩
    rw [OwE]
    exact ⟨u0, u1, xp, b1, bp, rfl, rfl, h1, h3⟩
theorem OwE_join {w : World} {B : Nat} : ∀ (p : List SX) {x : SX} {q : List SX} {xp xq : List Value} {v0 v1 : Value} {bp bx bq : List Nat}, OwE w B p xp bp → OwX w B x v0 v1 bx → OwE w B q xq bq →
    OwE w B (p ++ x :: q) (xp ++ v0 :: v1 :: xq) (bp ++ (bx ++ bq))
  | [], x, q, xp, xq, v0, v1, bp, bx, bq, h, hx, hq => by
    rw [OwE] at h
    obtain ⟨rfl, rfl⟩ := h
    rw [List.nil_append, List.nil_append, List.nil_append, OwE]
    exact ⟨v0, v1, xq, bx, bq, rfl, rfl, hx, hq⟩
  | y :: p, x, q, xp, xq, v0, v1, bp, bx, bq, h, hx, hq => by
    rw [OwE] at h
    obtain ⟨u0, u1, xs', b1, b2, rfl, rfl, h1, h2⟩ := h
    rw [List.cons_append, OwE]
    exact ⟨u0, u1, _, b1, _, rfl, by rw [List.append_assoc], h1, OwE_join p h2 hx hq⟩
theorem OwX_bare {w : World} {B : Nat} {x : SX} {v0 v1 : Value} {bs : List Nat} (h : OwX w B x v0 v1 bs) : OwX w B (.mk ByteArray.empty x.list) (.string ByteArray.empty) v1 bs := by
  cases x with
  | mk a l =>
    rw [OwX] at h ⊢
    exact ⟨rfl, h.2⟩
theorem OwX_dress {w : World} {B : Nat} {a : ByteArray} {l : List SX} {v1 : Value} {bs : List Nat} (h : OwX w B (.mk ByteArray.empty l) (.string ByteArray.empty) v1 bs) : OwX w B (.mk a l) (.string a) v1 bs := by
  rw [OwX] at h ⊢
  exact ⟨rfl, h.2⟩

def MarkS (N : Nat) : Prop := ∀ (l : List SX) (A : Option Addr) (c k B : Nat) (bs : List Nat) (w : World), SX.nodesL l ≤ N → OwX w B (.mk ByteArray.empty l) (.string ByteArray.empty) (.slice A l.length c) bs → bs.Nodup → (∀ b ∈ bs, b < w.heap.size) → 0 < k → k + SX.nodesL l ≤ 4294967296 →
  Calls Try.prog 91 #[.slice A l.length c, .int .i64 k] w fun e w' => e = .returned (.int .i64 (k + SX.nodesL l : Nat)) ∧ OwX w' B (.mk ByteArray.empty (mrkL k l)) (.string ByteArray.empty) (.slice A l.length c) bs ∧ ButL bs w w'

set_option maxRecDepth 100000 in
set_option maxHeartbeats 2000000 in
theorem markS_step (N : Nat) (ih : MarkS N) : MarkS (N + 1) := by
  intro l A c k B bs w hn hO hnd hlt0 hk0 hkn
  have hcount := nodesL_count l
  have HO := Lib.hid hO
  have HND := Lib.hid hnd
  have HLT := Lib.hid hlt0
  have HN := Lib.hid hn
  clear hO hnd hlt0 hn
  go_enter Try.func91, Try.ntmps91
  go_wp2
  go_loopw [1, 5] (fun kv iv wr => ∃ i kk : Nat, i ≤ l.length ∧ iv = .int .i64 i ∧ kk = k + SX.nodesL (l.take i) ∧ kv = .int .i64 kk ∧ OwX wr B (.mk ByteArray.empty (mrkL k (l.take i) ++ l.drop i)) (.string ByteArray.empty) (.slice A l.length c) bs ∧ ButL bs w wr) (fun _ iv _ => l.length - (Go.RowKit.intOf iv).toNat)
  case atStart => exact ⟨0, k, Nat.zero_le _, rfl, by simp [SX.nodesL], rfl, by simpa [mrkL] using HO.out, ButL.refl _ _⟩
  case round =>
    obtain ⟨i, kk, hi, rfl, hkke, rfl, hOi, hb⟩ := hrel
    by_cases hlt : i < l.length
    · rw [List.drop_eq_getElem_cons hlt, OwX] at hOi
      obtain ⟨-, xs, bs', hown, hE, hbs⟩ := hOi
      obtain ⟨xp, v0, v1, xq, bp, bx, bq, rfl, rfl, hp, hx, hq⟩ := OwE_split _ hE
      obtain ⟨Ax, cx, rfl, rfl⟩ := OwX_form hx
      have hlen : (mrkL k (l.take i) ++ l[i] :: l.drop (i + 1)).length = l.length := by rw [List.length_append, mrkL_length, List.length_take, List.length_cons, List.length_drop]; omega
      rw [hlen] at hown
      have hxpl : xp.length = i * 2 := by rw [OwE_length hp, mrkL_length, List.length_take]; omega
      have hl1 : ∃ n', l.length = n' + 1 := ⟨l.length - 1, by omega⟩
      obtain ⟨g, rfl⟩ : ∃ g, A = some ⟨g, 0, none⟩ := by
        rcases hown.2 with ⟨_, h0⟩ | ⟨g, cap, cur, hv, _⟩
        · omega
        · injection hv with hA; exact ⟨g, hA⟩
      have hc0 : wr.cell? ⟨g, i * 2, none⟩ = some (.string l[i].atom) := by
        rw [World.ownsRow.cellAt hown _ (by omega), List.getElem?_append_right (by omega), hxpl, Nat.sub_self]; rfl
      have hst := nodesL_step l i hlt
      have hle := nodesL_part l (i + 1)
      have hne := SX.nodes_eq l[i]
      have hNx : SX.nodesL l[i].list ≤ N := by have := HN.out; omega
      have hk1 : kk + 1 + SX.nodesL l[i].list ≤ 4294967296 := by omega
      have hkk : ((kk : Nat) : Int) + 1 = ((kk + 1 : Nat) : Int) := by omega
      have hk0 : 0 < kk := by omega
      have hi0 : (0 : Int) ≤ i := by omega
      have HOW := Lib.hid hown
      have HP := Lib.hid hp
      have HX := Lib.hid hx
      have HQ := Lib.hid hq
      have HXP := Lib.hid hxpl
      have HST := Lib.hid hst
      have HNE := Lib.hid hne
      have HKK := Lib.hid hkk
      have HBS := Lib.hid hbs
      have hkb : kk ≤ 4294967296 := by omega
      have HKE := Lib.hid hkke
      clear hown hp hx hq hxpl hst hne hkk hE hlen hbs hl1 hle hkke
      go_wp2_with fail
      refine (markText (kk) _ (by omega) (by omega)).mono ?_
      rintro e w1 ⟨rfl, hb1⟩
      have hown1 := owns_below HOW.out hb1
      have c0 : w1.cell? ⟨g, i * 2, none⟩ = some (.string l[i].atom) := (hb1.cell (p := ⟨g, i * 2, none⟩) (HOW.out.lt g rfl).2).trans hc0
      have f0 : w1.frozen? ⟨g, i * 2, none⟩ = false := hown1.frozenAt _
      have c1 : w1.cell? ⟨g, i * 2 + 1, none⟩ = some (.slice Ax l[i].list.length cx) := by
        rw [World.ownsRow.cellAt hown1 _ (by omega), List.getElem?_append_right (by have := HXP.out; omega), HXP.out, Nat.add_sub_cancel_left]; rfl
      have hnd2 := HND.out
      rw [HBS.out] at hnd2
      simp only [Value.ownBlock, Option.toList_some, List.singleton_append, List.nodup_cons] at hnd2
      have hlt2 := HLT.out
      rw [HBS.out] at hlt2
      have hbxlt : ∀ b ∈ bx, b < w1.heap.size := fun b hb' => by have := hlt2 b (by simp [hb']); have := hb.size; have := hb1.size; omega
      have hbxg : ∀ b ∈ bx, b ≠ g := fun b hb' e => hnd2.1 (by rw [← e]; simp [hb'])
      have hbxr : ∀ b ∈ bx, (w1.setCell ⟨g, i * 2, none⟩ (.string (mark (kk)))).heap[b]? = wr.heap[b]? := fun b hb' => by
        rw [Below.heap_setCell _ _ _ _ (by exact hbxg b hb')]
        exact hb1.block b (by have := hlt2 b (by simp [hb']); have := hb.size; omega)
      have hOx : OwX (w1.setCell ⟨g, i * 2, none⟩ (.string (mark (kk)))) B (.mk ByteArray.empty l[i].list) (.string ByteArray.empty) (.slice Ax l[i].list.length cx) bx := OwX_bare (OwX_frame _ hbxr HX.out)
      have hndx : bx.Nodup := by
        have h := hnd2.2
        rw [List.nodup_append, List.nodup_append] at h
        exact h.2.1.1
      have HOX := Lib.hid hOx
      have HNDX := Lib.hid hndx
      have HND2 := Lib.hid hnd2
      have HLT2 := Lib.hid hlt2
      have HBL := Lib.hid hbxlt
      have HOW1 := Lib.hid hown1
      clear hOx hndx hnd2 hlt2 hbxlt hbxg hbxr hown1 hc0
      go_wp2_with fail
      rw [HKK.out]
      refine (ih l[i].list Ax cx (kk + 1) B bx _ hNx HOX.out HNDX.out (by simpa using HBL.out) (by omega) (by omega)).mono ?_
      rintro e w3 ⟨rfl, hO3, hb3⟩
      have hgx : g ∉ bx := fun hm => HND2.out.1 (by simp [hm])
      have hg1 := (HOW1.out.lt g rfl).2
      have hown3 : w3.ownsRow B 26 2 (.slice (some ⟨g, 0, none⟩) l.length c) l.length (xp ++ .string (mark (kk)) :: .slice Ax l[i].list.length cx :: xq) := by
        have h := (HOW1.out.stored (i * 2) (.string (mark (kk)))).1
        rw [List.set_append_right _ _ (by have := HXP.out; omega), HXP.out, Nat.sub_self] at h
        refine own_same (by simpa using h) fun b hb' => ?_
        have : b = g := by simpa [Value.ownBlock] using hb'.symm
        subst this
        exact hb3.block b (by simpa using hg1) hgx
      have hkeep : ∀ b, b < wr.heap.size → b ≠ g → b ∉ bx → w3.heap[b]? = wr.heap[b]? := fun b h1 h2 h3 => by
        rw [hb3.block b (by have := hb1.size; simp; omega) h3, Below.heap_setCell _ _ _ _ (by exact h2)]
        exact hb1.block b h1
      have hnn := HND2.out.2
      rw [List.nodup_append, List.nodup_append] at hnn
      obtain ⟨n1, ⟨n2, n3, n4⟩, n5⟩ := hnn
      have hltb := HLT2.out
      have hwr := hb.size
      have hfin : OwX w3 B (.mk ByteArray.empty (mrkL k (l.take (i + 1)) ++ l.drop (i + 1))) (.string ByteArray.empty) (.slice (some ⟨g, 0, none⟩) l.length c) bs := by
        rw [mrkL_take l k i hlt, ← HKE.out, List.append_assoc, List.singleton_append, OwX]
        refine ⟨rfl, xp ++ .string (mark kk) :: .slice Ax l[i].list.length cx :: xq, _, ?_, OwE_join _ (OwE_frame _ (fun b hb' => hkeep b (by have := hltb b (by simp [hb']); omega) (fun e => HND2.out.1 (by rw [← e]; simp [hb'])) (fun hm => n5 b hb' b (by simp [hm]) rfl)) HP.out) ?_ (OwE_frame _ (fun b hb' => hkeep b (by have := hltb b (by simp [hb']); omega) (fun e => HND2.out.1 (by rw [← e]; simp [hb'])) (fun hm => n4 b hm b hb' rfl)) HQ.out), HBS.out⟩
        · rw [List.length_append, mrkL_length, List.length_take, List.length_cons, List.length_drop, show min i l.length + (l.length - (i + 1) + 1) = l.length by omega]
          exact hown3
        · rw [mrk_eq]
          exact OwX_dress hO3
      have hbf : ButL bs w w3 := by
        refine hb.trans ⟨hb3.os.trans hb1.os, hb3.tape.trans hb1.tape, hb3.output.trans hb1.output, by have := hb1.size; have := hb3.size; simp at this; omega, fun b h1 h2 => hkeep b h1 ?_ ?_⟩
        · rintro rfl; exact h2 (by rw [HBS.out]; simp [Value.ownBlock])
        · intro hm; exact h2 (by rw [HBS.out]; simp [hm])
      have HF := Lib.hid hfin
      clear hfin hown3 hkeep hO3 hb3 hltb hgx c0 c1 f0 n1 n2 n3 n4 n5
      go_wp2
      go_roundw
      case rel => exact ⟨i + 1, kk + 1 + SX.nodesL l[i].list, by omega, by go_num, by rw [HST.out, HNE.out, HKE.out]; omega, rfl, HF.out, hbf⟩
      case measure => simp [Go.RowKit.intOf]; omega
    · have hil : i = l.length := by omega
      subst hil
      rw [List.take_length, List.drop_length, List.append_nil] at hOi
      rw [List.take_length] at hkke
      subst hkke
      have HF := Lib.hid hOi
      clear hOi
      go_wp2
      go_ret
      exact ⟨rfl, HF.out, hb⟩
theorem markSAll : ∀ N, MarkS N
  | 0 => by
    intro l A c k B bs w hn hO hnd hlt0 hk0 hkn
    have hc := nodesL_count l
    have hl : l = [] := List.eq_nil_of_length_eq_zero (by omega)
    subst hl
    have HO := Lib.hid hO
    clear hO
    go_enter Try.func91, Try.ntmps91
    go_wp2
    refine wp_loop_rounds 1 ?_
    rw [rounds_succ]
    go_wp2
    go_ret
    exact ⟨rfl, HO.out, ButL.refl _ _⟩
  | N + 1 => markS_step N (markSAll N)
end Go.Proofs.Ytbcfeoobhemdcaa

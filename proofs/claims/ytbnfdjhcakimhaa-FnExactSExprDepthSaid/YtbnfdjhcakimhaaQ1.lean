/- Texts that the claims share, joined. -/
import Derived.WalkKit
import Derived.Laws.BytesArg
import Derived.Laws.OwnMore
import Derived.Test.YtbnfdjhcakimhaaProg
import Derived.Outline
import Derived.Lib.Hide
import Derived.OwnWalkIn
import Derived.Maps.AppendAt
import Derived.BigQuiet
import Derived.Deep.QuietTactic
import Derived.Lib.Join
import Derived.Lib.AppendStr
import Derived.Laws.IdiomStrings
import Derived.Laws.MakeOwn
import Derived.Lib.QuietBelow
import Derived.Deep.RegionWith
import Derived.Laws.RangeAny
namespace Go.Proofs.Ytbnfdjhcakimhaa
open Go.RowKit

/-- A slice of one byte, just made, becomes the string of that byte. -/
theorem conv_one {P : Program} {src dst e : TypeId} (hs : P.underlying src = some (.slice e)) (he : P.underlying e = some (.int .u8)) (hd : P.underlying dst = some .string) (w : World) (z : Int) :
    (convert src dst (.slice (some ⟨w.heap.size, 0, none⟩) 1 1)).run P (w.alloc (.cells #[.int .u8 z] e)) = .ok (.string ⟨#[UInt8.ofNat z.toNat]⟩) (w.alloc (.cells #[.int .u8 z] e)) := by
  have h := run_convert_bytes_arg (P := P) (w.alloc (.cells #[.int .u8 z] e)) src e hs he w.heap.size 0 1 1 [z] rfl (fun i hi => by
    obtain rfl : i = 0 := by omega
    simp) dst hd
  rw [h]
  rfl
theorem append_byte (b : UInt8) (l : List UInt8) : (⟨#[b]⟩ : ByteArray) ++ (⟨l.toArray⟩ : ByteArray) = ⟨(b :: l).toArray⟩ := by
  apply ByteArray.ext
  simp
theorem ret_str {a b : ByteArray} (h : a = b) : Ending.returned (.string a) = .returned (.string b) := by rw [h]
theorem ret_int {k : IntKind} {a b : Int} (h : a = b) : Ending.returned (.int k a) = .returned (.int k b) := by rw [h]
theorem int_of {k : IntKind} {a b : Int} (h : a = b) : Value.int k a = .int k b := by rw [h]
theorem str_of {a b : ByteArray} (h : a = b) : Value.string a = .string b := by rw [h]

/-- Two new cells, then a world that only grew: what they hold. -/
theorem two_cells {w w1 : World} {a b : Value} {s t : TypeId} (h : Below ((w.alloc (.cells #[a] s)).alloc (.cells #[b] t)).heap.size ((w.alloc (.cells #[a] s)).alloc (.cells #[b] t)) w1) :
    w1.cell? ⟨w.heap.size, 0, none⟩ = some a ∧ w1.frozen? ⟨w.heap.size, 0, none⟩ = false ∧ w1.cell? ⟨w.heap.size + 1, 0, none⟩ = some b ∧ w1.frozen? ⟨w.heap.size + 1, 0, none⟩ = false ∧ Below w.heap.size w w1 ∧ w.heap.size + 1 < w1.heap.size := by
  have hz := h.size
  simp at hz
  refine ⟨(h.cell (p := ⟨w.heap.size, 0, none⟩) (by simp; omega)).trans (by simp [go_sem]), (h.frozen (p := ⟨w.heap.size, 0, none⟩) (by simp; omega)).trans (by simp [go_sem]),
    (h.cell (p := ⟨w.heap.size + 1, 0, none⟩) (by simp)).trans (by simp [go_sem]), (h.frozen (p := ⟨w.heap.size + 1, 0, none⟩) (by simp)).trans (by simp [go_sem]), ?_, by omega⟩
  exact (((Below.refl w.heap.size w).alloc (Nat.le_refl _) _).alloc (by simp) _).trans (h.mono (by simp; omega))
/-- The two cells written: what they hold. -/
theorem two_set {w w1 : World} {a b u v : Value} {B : Nat} (c1 : w1.cell? ⟨w.heap.size, 0, none⟩ = some a) (c2 : w1.cell? ⟨w.heap.size + 1, 0, none⟩ = some b) (hb : Below w.heap.size w w1) (hB : B = w.heap.size) :
    ((w1.setCell ⟨w.heap.size, 0, none⟩ u).setCell ⟨w.heap.size + 1, 0, none⟩ v).cell? ⟨w.heap.size, 0, none⟩ = some u ∧ ((w1.setCell ⟨w.heap.size, 0, none⟩ u).setCell ⟨w.heap.size + 1, 0, none⟩ v).cell? ⟨w.heap.size + 1, 0, none⟩ = some v ∧
      Below B w ((w1.setCell ⟨w.heap.size, 0, none⟩ u).setCell ⟨w.heap.size + 1, 0, none⟩ v) := by
  subst hB
  have hne : (⟨w.heap.size + 1, 0, none⟩ : Addr) ≠ ⟨w.heap.size, 0, none⟩ := by intro e; injection e with e; omega
  have c2' : (w1.setCell ⟨w.heap.size, 0, none⟩ u).cell? ⟨w.heap.size + 1, 0, none⟩ = some b := (World.cell?_setCell_other w1 _ _ _ (Ne.symm hne)).trans c2
  refine ⟨(World.cell?_setCell_other _ _ _ _ hne).trans (World.cell?_setCell_same _ _ _ c1), World.cell?_setCell_same _ _ _ c2', (hb.setCell (by simp) _).setCell (by simp) _⟩
end Go.Proofs.Ytbnfdjhcakimhaa
namespace Go.Proofs.Ytbnfdjhcakimhaa
open Go.RowKit

/-- The slice at A reads as these strings. -/
def Strs (w : World) (A : Option Addr) (ss : List ByteArray) : Prop :=
  ss = [] ∨ ∃ g o, A = some ⟨g, o, none⟩ ∧ g < w.heap.size ∧ ∀ j s, ss[j]? = some s → w.cell? ⟨g, o + j, none⟩ = some (.string s)
theorem Strs.below {w w' : World} {A : Option Addr} {ss : List ByteArray} (h : Strs w A ss) (hb : Below w.heap.size w w') : Strs w' A ss := by
  rcases h with h | ⟨g, o, hA, hg, hc⟩
  · exact .inl h
  · exact .inr ⟨g, o, hA, Nat.lt_of_lt_of_le hg hb.size, fun j s hj => (hb.cell (p := ⟨g, o + j, none⟩) hg).trans (hc j s hj)⟩
/-- Where there is a string at j: the address, and what lies there. -/
theorem Strs.at_ {w : World} {A : Option Addr} {ss : List ByteArray} (h : Strs w A ss) {j : Nat} (hj : j < ss.length) :
    ∃ g o, A = some ⟨g, o, none⟩ ∧ w.cell? ⟨g, o + j, none⟩ = some (.string ss[j]) := by
  rcases h with h | ⟨g, o, hA, _, hc⟩
  · subst h; simp at hj
  · exact ⟨g, o, hA, hc j _ (List.getElem?_eq_getElem hj)⟩

/-- A block known whole: just these cells of this type, none closed to writing. -/
def Whole (w : World) (g : Nat) (t : TypeId) (cs : Array Value) : Prop := w.heap[g]? = some (.cells cs t (0, 0))
theorem Whole.lt {w : World} {g : Nat} {t : TypeId} {cs : Array Value} (h : Whole w g t cs) : g < w.heap.size := by
  unfold Whole at h
  rcases Nat.lt_or_ge g w.heap.size with h1 | h1
  · exact h1
  · rw [Array.getElem?_eq_none h1] at h; cases h
theorem Whole.cell {w : World} {g : Nat} {t : TypeId} {cs : Array Value} (h : Whole w g t cs) (i : Nat) : w.cell? ⟨g, i, none⟩ = cs[i]? := by
  unfold Whole at h
  simp [World.cell?, h]
theorem Whole.frozen {w : World} {g : Nat} {t : TypeId} {cs : Array Value} (h : Whole w g t cs) (i : Nat) : w.frozen? ⟨g, i, none⟩ = false := by
  unfold Whole at h
  simp [World.frozen?, h]
theorem Whole.new (w : World) (t : TypeId) (cs : Array Value) : Whole (w.alloc (.cells cs t)) w.heap.size t cs := by
  show (w.heap.push _)[w.heap.size]? = _
  simp
theorem Whole.below {w w' : World} {g B : Nat} {t : TypeId} {cs : Array Value} (h : Whole w g t cs) (hb : Below B w w') (hg : g < B) : Whole w' g t cs := (hb.block g hg).trans h
theorem Whole.set_ {w : World} {g : Nat} {t : TypeId} {cs : Array Value} (h : Whole w g t cs) (i : Nat) (v : Value) : Whole (w.setCell ⟨g, i, none⟩ v) g t (cs.setIfInBounds i v) := by
  unfold Whole at h ⊢
  simp [World.setCell, Array.getElem?_modify, h]
theorem Whole.strs {w : World} {g : Nat} {t : TypeId} {ss : List ByteArray} (h : Whole w g t (ss.map Value.string).toArray) : Strs w (some ⟨g, 0, none⟩) ss :=
  .inr ⟨g, 0, rfl, h.lt, fun j s hj => by rw [h.cell, Nat.zero_add]; simp [hj]⟩

/-- A store elsewhere. -/
theorem cell_far {w : World} {p : Addr} {v : Value} {b o : Nat} (h : p.block ≠ b) : (w.setCell p v).cell? ⟨b, o, none⟩ = w.cell? ⟨b, o, none⟩ :=
  World.cell?_setCell_other _ _ _ _ (fun e => h (by rw [e]))
/-- All blocks but g are as they were; the streams are as they were. -/
structure But (g : Nat) (w w' : World) : Prop where
  os : w'.os = w.os
  tape : w'.tape = w.tape
  output : w'.output = w.output
  size : w.heap.size ≤ w'.heap.size
  block : ∀ k, k < w.heap.size → k ≠ g → w'.heap[k]? = w.heap[k]?
theorem But.refl (g : Nat) (w : World) : But g w w := ⟨rfl, rfl, rfl, Nat.le_refl _, fun _ _ _ => rfl⟩
theorem But.trans {g : Nat} {a b c : World} (h : But g a b) (k : But g b c) : But g a c :=
  ⟨k.os.trans h.os, k.tape.trans h.tape, k.output.trans h.output, Nat.le_trans h.size k.size, fun i hi hg => (k.block i (Nat.lt_of_lt_of_le hi h.size) hg).trans (h.block i hi hg)⟩
theorem But.of_below {g : Nat} {w w' : World} (h : Below w.heap.size w w') : But g w w' := ⟨h.os, h.tape, h.output, h.size, fun k hk _ => h.block k hk⟩
theorem But.set_ (g : Nat) (w : World) (i : Nat) (v : Value) : But g w (w.setCell ⟨g, i, none⟩ v) :=
  ⟨rfl, rfl, rfl, by simp [World.setCell], fun k _ hg => Below.heap_setCell _ _ _ _ hg⟩
theorem But.to_below {g B : Nat} {w w' : World} (h : But g w w') (hg : B ≤ g) (hB : B ≤ w.heap.size) : Below B w w' :=
  ⟨h.os, h.tape, h.output, h.size, fun k hk => h.block k (by omega) (by omega)⟩
theorem But.strs {g b o : Nat} {w w' : World} {ss : List ByteArray} (hb : But g w w') (h : ∀ j s, ss[j]? = some s → w.cell? ⟨b, o + j, none⟩ = some (.string s)) (hlt : b < w.heap.size) (hne : b ≠ g) : Strs w' (some ⟨b, o, none⟩) ss :=
  .inr ⟨b, o, rfl, Nat.lt_of_lt_of_le hlt hb.size, fun j s hj => (World.cell?_of_block (w := w) (w' := w') (a := ⟨b, o + j, none⟩) (hb.block b hlt hne)).trans (h j s hj)⟩

/-- The result's two cells written. -/
theorem res_set {w w1 : World} {a b : Value} {t : TypeId} (hw : Whole w1 w.heap.size t #[a, b]) (hb : Below w.heap.size w w1) (u v : Value) :
    ∀ w2, w2 = (w1.setCell ⟨w.heap.size, 0, none⟩ u).setCell ⟨w.heap.size, 1, none⟩ v → w2.cell? ⟨w.heap.size, 0, none⟩ = some u ∧ w2.cell? ⟨w.heap.size, 1, none⟩ = some v ∧ Below w.heap.size w w2 ∧ (∀ k, k ≠ w.heap.size → w2.heap[k]? = w1.heap[k]?) ∧ w2.heap.size = w1.heap.size := by
  rintro w2 rfl
  have h := (hw.set_ 0 u).set_ 1 v
  refine ⟨by rw [h.cell]; rfl, by rw [h.cell]; rfl, (hb.setCell (by simp) _).setCell (by simp) _, fun k hk => ?_, by simp⟩
  rw [Below.heap_setCell _ _ _ _ (by exact hk), Below.heap_setCell _ _ _ _ (by exact hk)]
end Go.Proofs.Ytbnfdjhcakimhaa
namespace Go.Proofs.Ytbnfdjhcakimhaa
open Go.RowKit

theorem infoString : (Try.prog.info? 9).map (fun i => (i.zero, i.size, i.bytes)) = some (some (.string ByteArray.empty), 1, 16) := by kernel_rfl
theorem news_one (w : World) (t : TypeId) (x : Value) : ∀ (j : Nat) (u : Value), [x][j]? = some u → (w.alloc (.cells #[x] t)).cell? ((⟨w.heap.size, 0, none⟩ : Addr).add j) = some u := by
  intro j u hj
  match j, hj with
  | 0, hj => simp at hj; subst hj; simp [Addr.add]
theorem one_string (x : ByteArray) : ∀ u ∈ [Value.string x], u.oneCell' = true := by
  intro u hu
  simp at hu
  subst hu
  rfl
theorem strs_map (d : List ByteArray) (x : ByteArray) : d.map Value.string ++ [.string x] = (d ++ [x]).map Value.string := by simp

/-- What is owned stays so under a call that turns nothing that was there. -/
theorem owns_below {B : Nat} {e : TypeId} {k : Nat} {v : Value} {n : Nat} {xs : List Value} {w w' : World} (h : w.ownsRow B e k v n xs) (hb : Below w.heap.size w w') : w'.ownsRow B e k v n xs :=
  h.kept (row := none) ⟨hb.os, hb.tape, hb.output, hb.size, fun j hj _ => hb.block j hj⟩ (by cases hv : v.ownBlock <;> simp)
/-- An owned row of strings reads as them. -/
theorem strs_own {w : World} {B : Nat} {e : TypeId} {v : Value} {d : List ByteArray} (h : w.ownsRow B e 1 v d.length (d.map Value.string)) : ∃ A c, v = .slice A d.length c ∧ Strs w A d := by
  rcases h.2 with ⟨rfl, h0⟩ | ⟨g, cap, cur, rfl, _⟩
  · exact ⟨none, 0, by rw [h0], .inl (List.eq_nil_of_length_eq_zero h0)⟩
  · refine ⟨_, cap, rfl, .inr ⟨g, 0, rfl, (h.lt g rfl).2, fun j s hj => ?_⟩⟩
    have hjl : j < d.length := by
      rcases Nat.lt_or_ge j d.length with h | h
      · exact h
      · rw [List.getElem?_eq_none h] at hj; cases hj
    rw [Nat.zero_add, World.ownsRow.cellAt h j (by omega), List.getElem?_map, hj]
    rfl
theorem own_same {w w' : World} {B size n : Nat} {e : TypeId} {v : Value} {xs : List Value} (h : w.ownsRow B e size v n xs) (hb : ∀ b, v.ownBlock = some b → w'.heap[b]? = w.heap[b]?) : w'.ownsRow B e size v n xs := by
  refine ⟨h.1, ?_⟩
  rcases h.2 with hn | ⟨g, cap, cur, rfl, hbg, hg, rest⟩
  · exact .inl hn
  · exact .inr ⟨g, cap, cur, rfl, hbg, (hb g rfl).trans hg, rest⟩
end Go.Proofs.Ytbnfdjhcakimhaa
namespace Go.Proofs.Ytbnfdjhcakimhaa
open Go.RowKit

inductive SX where
  | mk (atom : ByteArray) (list : List SX)
def SX.atom : SX → ByteArray | .mk a _ => a
def SX.list : SX → List SX | .mk _ l => l

mutual
def SX.nodes : SX → Nat
  | .mk _ l => 1 + SX.nodesL l
def SX.nodesL : List SX → Nat
  | [] => 0
  | x :: r => x.nodes + SX.nodesL r
end
mutual
/-- What the laws' guard counts. -/
def SX.wt : SX → Nat
  | .mk a l => a.size + SX.wtL l
def SX.wtL : List SX → Nat
  | [] => 0
  | x :: r => 1 + x.wt + SX.wtL r
end
mutual
/-- No text and no list is longer than a Go int. -/
def SX.ok : SX → Prop
  | .mk a l => a.size ≤ 9223372036854775807 ∧ l.length ≤ 9223372036854775807 ∧ SX.okL l
def SX.okL : List SX → Prop
  | [] => True
  | x :: r => x.ok ∧ SX.okL r
end
theorem SX.nodes_eq (x : SX) : x.nodes = 1 + SX.nodesL x.list := by cases x; rw [SX.nodes]; rfl
theorem SX.wt_eq (x : SX) : x.wt = x.atom.size + SX.wtL x.list := by cases x; rw [SX.wt]; rfl
theorem SX.nodesL_at : ∀ (l : List SX) (j : Nat) (h : j < l.length), l[j].nodes ≤ SX.nodesL l
  | x :: r, 0, _ => by rw [SX.nodesL]; simp
  | x :: r, j + 1, h => by
    have := SX.nodesL_at r j (by simpa using h)
    rw [SX.nodesL]; simp; omega
theorem SX.wtL_take : ∀ (l : List SX) (j : Nat) (h : j < l.length), SX.wtL (l.take (j + 1)) = SX.wtL (l.take j) + 1 + l[j].wt
  | x :: r, 0, _ => by simp [SX.wtL]
  | x :: r, j + 1, h => by
    have := SX.wtL_take r j (by simpa using h)
    rw [List.take_succ_cons, List.take_succ_cons, SX.wtL, SX.wtL, this]
    simp; omega
theorem SX.wtL_le : ∀ (l : List SX) (j : Nat), SX.wtL (l.take j) ≤ SX.wtL l
  | [], j => by simp
  | x :: r, 0 => by simp [SX.wtL]
  | x :: r, j + 1 => by
    have := SX.wtL_le r j
    rw [List.take_succ_cons, SX.wtL, SX.wtL]; omega
theorem SX.wtL_length : ∀ (l : List SX), l.length ≤ SX.wtL l
  | [] => by simp [SX.wtL]
  | x :: r => by have := SX.wtL_length r; rw [SX.wtL, List.length_cons]; omega
theorem SX.wtL_at (l : List SX) (j : Nat) (h : j < l.length) : 1 + l[j].wt ≤ SX.wtL l := by
  have h1 := SX.wtL_take l j h
  have h2 := SX.wtL_le l (j + 1)
  omega
theorem SX.wtL_rest : ∀ (l : List SX) (j : Nat), j ≤ l.length → SX.wtL (l.take j) + (l.length - j) ≤ SX.wtL l
  | [], j, h => by simp at h; subst h; simp [SX.wtL]
  | x :: r, 0, _ => by have := SX.wtL_length (x :: r); simp [SX.wtL] at this ⊢; omega
  | x :: r, j + 1, h => by
    have := SX.wtL_rest r j (by simpa using h)
    rw [List.take_succ_cons, SX.wtL, SX.wtL, List.length_cons]; omega
theorem SX.okL_at : ∀ (l : List SX), SX.okL l → ∀ (j : Nat) (h : j < l.length), l[j].ok
  | x :: r, ho, 0, _ => by rw [SX.okL] at ho; exact ho.1
  | x :: r, ho, j + 1, h => by rw [SX.okL] at ho; exact SX.okL_at r ho.2 j (by simpa using h)
theorem SX.ok_eq (x : SX) (h : x.ok) : x.atom.size ≤ 9223372036854775807 ∧ x.list.length ≤ 9223372036854775807 ∧ SX.okL x.list := by
  cases x; rw [SX.ok] at h; exact h

mutual
/-- The two cells at (b, o) are this expression; the rows that it leads to lie in blocks of P. -/
def RdX (w : World) (P : Nat → Prop) : SX → Nat → Nat → Prop
  | .mk a l, b, o => w.cell? ⟨b, o, none⟩ = some (.string a) ∧ ∃ A c, w.cell? ⟨b, o + 1, none⟩ = some (.slice A l.length c) ∧ (l = [] ∨ ∃ b' o', A = some ⟨b', o', none⟩ ∧ P b' ∧ RdE w P l b' o')
def RdE (w : World) (P : Nat → Prop) : List SX → Nat → Nat → Prop
  | [], _, _ => True
  | x :: r, b, o => RdX w P x b o ∧ RdE w P r b (o + 2)
end
/-- The slice at A reads as this list. -/
def ListAt (w : World) (P : Nat → Prop) (A : Option Addr) (l : List SX) : Prop := l = [] ∨ ∃ b o, A = some ⟨b, o, none⟩ ∧ P b ∧ RdE w P l b o

theorem RdX_iff {w : World} {P : Nat → Prop} {x : SX} {b o : Nat} : RdX w P x b o ↔ w.cell? ⟨b, o, none⟩ = some (.string x.atom) ∧ ∃ A c, w.cell? ⟨b, o + 1, none⟩ = some (.slice A x.list.length c) ∧ ListAt w P A x.list := by
  cases x with
  | mk a l => rw [RdX]; rfl
theorem RdE_at {w : World} {P : Nat → Prop} : ∀ (l : List SX) (b o : Nat), RdE w P l b o → ∀ (j : Nat) (h : j < l.length), RdX w P l[j] b (o + j * 2)
  | x :: r, b, o, hr, 0, _ => by rw [RdE] at hr; simpa using hr.1
  | x :: r, b, o, hr, j + 1, h => by
    rw [RdE] at hr
    have := RdE_at r b (o + 2) hr.2 j (by simpa using h)
    rw [show o + (j + 1) * 2 = o + 2 + j * 2 by omega]
    simpa using this
theorem RdE_of {w : World} {P : Nat → Prop} : ∀ (l : List SX) (b o : Nat), (∀ (j : Nat) (h : j < l.length), RdX w P l[j] b (o + j * 2)) → RdE w P l b o
  | [], _, _, _ => by rw [RdE]; trivial
  | x :: r, b, o, hr => by
    rw [RdE]
    refine ⟨by have h0 := hr 0 (by simp); rw [Nat.zero_mul, Nat.add_zero] at h0; exact h0, RdE_of r b (o + 2) fun j h => ?_⟩
    have := hr (j + 1) (by simpa using h)
    rw [show o + (j + 1) * 2 = o + 2 + j * 2 by omega] at this
    simpa using this

mutual
theorem RdX_frame {w w' : World} {P Q : Nat → Prop} (hPQ : ∀ b, P b → Q b) (hk : ∀ b o, P b → w'.cell? ⟨b, o, none⟩ = w.cell? ⟨b, o, none⟩) :
    ∀ (x : SX) (b o : Nat), w'.cell? ⟨b, o, none⟩ = w.cell? ⟨b, o, none⟩ → w'.cell? ⟨b, o + 1, none⟩ = w.cell? ⟨b, o + 1, none⟩ → RdX w P x b o → RdX w' Q x b o
  | .mk a l, b, o, h0, h1, h => by
    rw [RdX] at h ⊢
    obtain ⟨ha, A, c, hc, hl⟩ := h
    refine ⟨h0.trans ha, A, c, h1.trans hc, ?_⟩
    rcases hl with hl | ⟨b', o', hA, hP, hr⟩
    · exact .inl hl
    · exact .inr ⟨b', o', hA, hPQ b' hP, RdE_frame hPQ hk l b' o' (fun k => hk b' k hP) hr⟩
theorem RdE_frame {w w' : World} {P Q : Nat → Prop} (hPQ : ∀ b, P b → Q b) (hk : ∀ b o, P b → w'.cell? ⟨b, o, none⟩ = w.cell? ⟨b, o, none⟩) :
    ∀ (l : List SX) (b o : Nat), (∀ k, w'.cell? ⟨b, k, none⟩ = w.cell? ⟨b, k, none⟩) → RdE w P l b o → RdE w' Q l b o
  | [], _, _, _, _ => by rw [RdE]; trivial
  | x :: r, b, o, hb, h => by
    rw [RdE] at h ⊢
    exact ⟨RdX_frame hPQ hk x b o (hb o) (hb (o + 1)) h.1, RdE_frame hPQ hk r b (o + 2) hb h.2⟩
end
theorem ListAt.frame {w w' : World} {P Q : Nat → Prop} {A : Option Addr} {l : List SX} (h : ListAt w P A l) (hPQ : ∀ b, P b → Q b) (hk : ∀ b o, P b → w'.cell? ⟨b, o, none⟩ = w.cell? ⟨b, o, none⟩) : ListAt w' Q A l := by
  rcases h with h | ⟨b, o, hA, hP, hr⟩
  · exact .inl h
  · exact .inr ⟨b, o, hA, hPQ b hP, RdE_frame hPQ hk l b o (fun k => hk b k hP) hr⟩
/-- Where there is an element at j: where it lies, and what it is. -/
theorem ListAt.at_ {w : World} {P : Nat → Prop} {A : Option Addr} {l : List SX} (h : ListAt w P A l) {j : Nat} (hj : j < l.length) :
    ∃ b o A' c', A = some ⟨b, o, none⟩ ∧ P b ∧ w.cell? ⟨b, o + j * 2, none⟩ = some (.string l[j].atom) ∧ w.cell? ⟨b, o + j * 2 + 1, none⟩ = some (.slice A' l[j].list.length c') ∧ ListAt w P A' l[j].list := by
  rcases h with h | ⟨b, o, hA, hP, hr⟩
  · subst h; simp at hj
  · obtain ⟨h0, A', c', h1, hl⟩ := RdX_iff.1 (RdE_at l b o hr j hj)
    exact ⟨b, o, A', c', hA, hP, h0, h1, hl⟩
/-- Below a block number. -/
def Lt (B : Nat) (b : Nat) : Prop := b < B
theorem ListAt.below {w w' : World} {B : Nat} {A : Option Addr} {l : List SX} (h : ListAt w (Lt B) A l) (hb : Below B w w') : ListAt w' (Lt B) A l :=
  h.frame (fun _ h => h) fun b o hP => hb.cell (p := ⟨b, o, none⟩) hP
theorem ListAt.grow {w w' : World} {A : Option Addr} {l : List SX} (h : ListAt w (Lt w.heap.size) A l) (hb : Below w.heap.size w w') : ListAt w' (Lt w'.heap.size) A l :=
  h.frame (fun _ h => Nat.lt_of_lt_of_le h hb.size) fun b o hP => hb.cell (p := ⟨b, o, none⟩) hP
end Go.Proofs.Ytbnfdjhcakimhaa
namespace Go.Proofs.Ytbnfdjhcakimhaa
open Go.RowKit Go.Lib

theorem infoSx : (Try.prog.info? 26).map (fun i => (i.zero, i.size, i.bytes)) = some (some (.agg #[.string ByteArray.empty, .slice none 0 0]), 2, 40) := by kernel_rfl

/-- Blocks from B on, below C. -/
def New (B C : Nat) (b : Nat) : Prop := B ≤ b ∧ b < C
/-- The cells vs are these expressions, one after another. -/
def Elems (w : World) (P : Nat → Prop) : List SX → List Value → Prop
  | [], vs => vs = []
  | x :: r, vs => ∃ A c rest, vs = .string x.atom :: .slice A x.list.length c :: rest ∧ ListAt w P A x.list ∧ Elems w P r rest
theorem Elems.snoc {w : World} {P : Nat → Prop} : ∀ {l : List SX} {vs : List Value}, Elems w P l vs → ∀ {x : SX} {A : Option Addr} {c : Nat}, ListAt w P A x.list → Elems w P (l ++ [x]) (vs ++ [.string x.atom, .slice A x.list.length c])
  | [], vs, h, x, A, c, hl => by
    rw [Elems] at h; subst h
    exact ⟨A, c, [], rfl, hl, rfl⟩
  | y :: r, vs, h, x, A, c, hl => by
    obtain ⟨A', c', rest, rfl, h1, h2⟩ := h
    exact ⟨A', c', rest ++ _, rfl, h1, h2.snoc hl⟩
theorem Elems.frame {w w' : World} {P Q : Nat → Prop} (hPQ : ∀ b, P b → Q b) (hk : ∀ b o, P b → w'.cell? ⟨b, o, none⟩ = w.cell? ⟨b, o, none⟩) : ∀ {l : List SX} {vs : List Value}, Elems w P l vs → Elems w' Q l vs
  | [], vs, h => h
  | y :: r, vs, h => by
    obtain ⟨A', c', rest, rfl, h1, h2⟩ := h
    exact ⟨A', c', rest, rfl, h1.frame hPQ hk, h2.frame hPQ hk⟩
theorem Elems.at_ {w : World} {P : Nat → Prop} : ∀ {l : List SX} {vs : List Value}, Elems w P l vs → ∀ (j : Nat) (h : j < l.length), vs[j * 2]? = some (.string l[j].atom) ∧ ∃ A c, vs[j * 2 + 1]? = some (.slice A l[j].list.length c) ∧ ListAt w P A l[j].list
  | y :: r, vs, h, 0, _ => by
    obtain ⟨A', c', rest, rfl, h1, h2⟩ := h
    exact ⟨rfl, A', c', rfl, h1⟩
  | y :: r, vs, h, j + 1, hj => by
    obtain ⟨A', c', rest, rfl, h1, h2⟩ := h
    have h3 := h2.at_ j (by simpa using hj)
    rw [show (j + 1) * 2 = j * 2 + 1 + 1 by omega]
    simpa using h3
/-- A row of the call's own that holds these expressions reads as them. -/
theorem list_own {w : World} {P : Nat → Prop} {B : Nat} {e : TypeId} {v : Value} {l : List SX} {vs : List Value} (h : w.ownsRow B e 2 v l.length vs) (he : Elems w P l vs) (hP : ∀ b, v.ownBlock = some b → P b) :
    ∃ A c, v = .slice A l.length c ∧ ListAt w P A l := by
  rcases h.2 with ⟨rfl, h0⟩ | ⟨g, cap, cur, rfl, _⟩
  · exact ⟨none, 0, by rw [h0], .inl (List.eq_nil_of_length_eq_zero h0)⟩
  · refine ⟨_, cap, rfl, .inr ⟨g, 0, rfl, hP g rfl, RdE_of l g 0 fun j hj => ?_⟩⟩
    obtain ⟨h0, A, c, h1, h2⟩ := he.at_ j hj
    refine RdX_iff.2 ⟨?_, A, c, ?_, h2⟩
    · rw [Nat.zero_add, World.ownsRow.cellAt h _ (by omega), h0]
    · rw [Nat.zero_add, World.ownsRow.cellAt h _ (by omega), h1]
/-- The cells of one expression, just laid into a new block. -/
theorem news_sx (w : World) (t : TypeId) (a b : Value) : ∀ (j : Nat) (u : Value), [a, b][j]? = some u → (w.alloc (.cells #[a, b] t)).cell? ((⟨w.heap.size, 0, none⟩ : Addr).add j) = some u := by
  intro j u hj
  match j, hj with
  | 0, hj => simp at hj; subst hj; simp [Addr.add]
  | 1, hj => simp at hj; subst hj; simp [Addr.add]
theorem one_sx (x : ByteArray) (A : Option Addr) (n c : Nat) : ∀ u ∈ [Value.string x, Value.slice A n c], u.oneCell' = true := by
  intro u hu
  simp at hu
  rcases hu with rfl | rfl <;> rfl
end Go.Proofs.Ytbnfdjhcakimhaa
namespace Go.Proofs.Ytbnfdjhcakimhaa
open Go.RowKit

/-- The last element taken off a row of the call's own. -/
theorem own_pop {w : World} {B g cap n size : Nat} {e : TypeId} {xs ys : List Value} (h : w.ownsRow B e size (.slice (some ⟨g, 0, none⟩) (n + 1) cap) (n + 1) (xs ++ ys)) (hx : xs.length = n * size) (_hy : ys.length = size) :
    w.ownsRow B e size (.slice (some ⟨g, 0, none⟩) n cap) n xs ∧ (∀ j, j < size → w.cell? ⟨g, n * size + j, none⟩ = ys[j]?) ∧ n + 1 ≤ cap ∧ cap ≤ maxLen ∧ B ≤ g ∧ g < w.heap.size := by
  have hc : ∀ j, j < size → w.cell? ⟨g, n * size + j, none⟩ = ys[j]? := fun j hj => by
    rw [World.ownsRow.cellAt h _ (by rw [Nat.add_mul]; omega), List.getElem?_append_right (by omega)]
    congr 1
    omega
  have hlt := h.lt g rfl
  rcases h.2 with ⟨h', _⟩ | ⟨g', cap', cur, h', hb, hg, hnc, hcm, hcs, htake⟩
  · simp at h'
  · simp only [Value.slice.injEq, Option.some.injEq, Addr.mk.injEq, and_true, true_and] at h'
    obtain ⟨rfl, rfl⟩ := h'
    refine ⟨⟨hx, .inr ⟨g, cap, cur, rfl, hb, hg, by omega, hcm, hcs, ?_⟩⟩, hc, hnc, hcm, hb, hlt.2⟩
    have h2 := congrArg (List.take (n * size)) htake
    rw [List.take_take, Nat.min_eq_left (Nat.mul_le_mul_right _ (by omega)), List.take_append_of_le_length (by omega), List.take_of_length_le (l := xs) (by omega)] at h2
    exact h2
theorem own_nil {w : World} {B size : Nat} {e : TypeId} {v : Value} {n : Nat} {xs : List Value} (h : w.ownsRow B e size v n xs) : ∃ A c, v = .slice A n c := by
  rcases h.2 with ⟨rfl, rfl⟩ | ⟨g, cap, cur, rfl, _⟩
  · exact ⟨_, _, rfl⟩
  · exact ⟨_, _, rfl⟩
theorem own_some {w : World} {B size : Nat} {e : TypeId} {v : Value} {n : Nat} {xs : List Value} (h : w.ownsRow B e size v (n + 1) xs) : ∃ g c, v = .slice (some ⟨g, 0, none⟩) (n + 1) c := by
  rcases h.2 with ⟨_, h0⟩ | ⟨g, cap, cur, rfl, _⟩
  · omega
  · exact ⟨_, _, rfl⟩

theorem one_slice (A : Option Addr) (n c : Nat) : ∀ u ∈ [Value.slice A n c], u.oneCell' = true := by
  intro u hu
  simp at hu
  subst hu
  rfl
theorem concat_cases {α : Type} (st : List α) : st = [] ∨ ∃ st0 l, st = st0 ++ [l] := by
  rcases List.eq_nil_or_concat st with h | ⟨a, b, h⟩
  · exact .inl h
  · exact .inr ⟨a, b, by rw [h, List.concat_eq_append]⟩

theorem wpListIn_append_at {F : Fence} {n : Nat} {P : Program} (w : World) {ops : Array Oper} {rest : List Oper} {o : Oper} {a : Act} {Q : Exit → Act → World → Prop}
    (hg : o.guard = none) (s x : Operand) (t : TypeId) (hop : o.op = Op.call { callee := Callee.builtin Builtin.append, args := #[s, x], argTypes := #[t, t] })
    (base : Nat) (e : TypeId) (i : TypeInfo) (z : Value) (size bytes : Nat) (h1 : P.underlying t = some (.slice e)) (h2 : P.info? e = some i) (h3 : i.zero = some z) (h4 : i.size = size) (h5 : i.bytes = bytes) (h6 : z.cells.size = size) (h7 : 0 < size)
    (v : Value) (k : Nat) (xs : List Value) (hs : a.eval s = v) (hown : w.ownsRow base e size v k xs) (ad : Addr) (m c : Nat) (news : List Value) (hx : a.eval x = .slice (some ad) m c) (hn : news.length = m * size)
    (hc : ∀ j u, news[j]? = some u → w.cell? (ad.add j) = some u) (h1c : ∀ u ∈ news, u.oneCell' = true) (b1 : k + m ≤ maxLen) (b2 : (k + m) * bytes ≤ 140737488355328) (b3 : base ≤ w.heap.size)
    (hK : ∀ v' w', w'.ownsRow base e size v' (k + m) (xs ++ news) → w.grownBy w' v.ownBlock → (v'.ownBlock = v.ownBlock ∨ v'.ownBlock = some w.heap.size) → wpListIn F n P ops Q rest (a.put o.dst v') w') :
    wpListIn F n P ops Q (o :: rest) a w := by
  refine wpListIn_plain hg fun K hK' => ?_
  obtain ⟨v', w', hrun, r1, r2, _, r3⟩ := run_append_own_at (P := P) w base t o.type e i z size bytes h1 h2 h3 h4 h5 h6 h7 v k xs hown ad m c news hn hc h1c b1 b2 b3
  unfold Oper.wpIn
  refine ⟨?_, ?_⟩
  · simp [Oper.about, hop, resolve, Target.leads, Sem.run_pure]
  · rw [Oper.semAt_plain F _ _ (by rw [hop]; intro c hc'; cases hc')]
    simp [execOp, hop, resolve, invoke, builtin, hs, hx, hrun, Result.andThen]
    exact hK' _ _ (hK v' w' r1 r2 r3)
end Go.Proofs.Ytbnfdjhcakimhaa
namespace Go.Proofs.Ytbnfdjhcakimhaa
open Go.RowKit Go.Lib

/-- The cells vs are these lists, one after another. -/
def Lists (w : World) (P : Nat → Prop) : List (List SX) → List Value → Prop
  | [], vs => vs = []
  | l :: r, vs => ∃ A c rest, vs = .slice A l.length c :: rest ∧ ListAt w P A l ∧ Lists w P r rest
theorem Lists.length {w : World} {P : Nat → Prop} : ∀ {st : List (List SX)} {vs : List Value}, Lists w P st vs → vs.length = st.length
  | [], vs, h => by rw [Lists] at h; subst h; rfl
  | l :: r, vs, h => by
    obtain ⟨A, c, rest, rfl, _, h2⟩ := h
    rw [List.length_cons, List.length_cons, h2.length]
theorem Lists.snoc {w : World} {P : Nat → Prop} : ∀ {st : List (List SX)} {vs : List Value}, Lists w P st vs → ∀ {l : List SX} {A : Option Addr} {c : Nat}, ListAt w P A l → Lists w P (st ++ [l]) (vs ++ [.slice A l.length c])
  | [], vs, h, l, A, c, hl => by
    rw [Lists] at h; subst h
    exact ⟨A, c, [], rfl, hl, rfl⟩
  | y :: r, vs, h, l, A, c, hl => by
    obtain ⟨A', c', rest, rfl, h1, h2⟩ := h
    exact ⟨A', c', rest ++ _, rfl, h1, h2.snoc hl⟩
theorem Lists.last {w : World} {P : Nat → Prop} : ∀ {st : List (List SX)} {l : List SX} {vs : List Value}, Lists w P (st ++ [l]) vs → ∃ vs0 A c, vs = vs0 ++ [.slice A l.length c] ∧ Lists w P st vs0 ∧ ListAt w P A l
  | [], l, vs, h => by
    obtain ⟨A', c', rest, rfl, h1, h2⟩ := h
    rw [Lists] at h2; subst h2
    exact ⟨[], A', c', rfl, rfl, h1⟩
  | y :: r, l, vs, h => by
    obtain ⟨A', c', rest, rfl, h1, h2⟩ := h
    obtain ⟨vs0, A, c, rfl, h3, h4⟩ := Lists.last (st := r) h2
    exact ⟨_ :: vs0, A, c, rfl, ⟨A', c', vs0, rfl, h1, h3⟩, h4⟩
end Go.Proofs.Ytbnfdjhcakimhaa
namespace Go.Proofs.Ytbnfdjhcakimhaa
open Go.RowKit

/-- A byte of an atom. -/
def okByte (c : UInt8) : Bool := (decide (97 ≤ c.toNat) && decide (c.toNat ≤ 122)) || (decide (48 ≤ c.toNat) && decide (c.toNat ≤ 57)) || (c.toNat == 39) || (c.toNat == 45) || (c.toNat == 43) || (c.toNat == 42) || (c.toNat == 60) || (c.toNat == 61) || (c.toNat == 46)

set_option maxRecDepth 100000 in
set_option maxHeartbeats 1000000 in
theorem byteIs (c : UInt8) (w : World) : Calls Try.prog 58 #[.int .u8 c.toNat] w fun e w' => e = .returned (.bool (okByte c)) ∧ w = w' := by
  go_enter Try.func58, Try.ntmps58
  go_wp2
  go_ways
  all_goals (
    go_ret
    refine ⟨congrArg (fun b => Ending.returned (.bool b)) ?_, rfl⟩
    rw [Bool.eq_iff_iff]
    simp only [okByte, Bool.or_eq_true, Bool.and_eq_true, decide_eq_true_eq, beq_iff_eq, true_iff]
    omega)

theorem within (x lo hi : Int) (w : World) : Calls Try.prog 59 #[.int .i64 x, .int .i64 lo, .int .i64 hi] w fun e w' => e = .returned (.bool (decide (lo ≤ x ∧ x ≤ hi))) ∧ w = w' := by
  by_cases h1 : lo ≤ x
  · go_enter Try.func59, Try.ntmps59
    go_wp2
    go_ret
    refine ⟨congrArg (fun b => Ending.returned (.bool b)) ?_, rfl⟩
    rw [Bool.eq_iff_iff]
    simp [h1]
  · go_enter Try.func59, Try.ntmps59
    go_wp2
    go_ret
    refine ⟨congrArg (fun b => Ending.returned (.bool b)) ?_, rfl⟩
    rw [Bool.eq_iff_iff]
    simp
    omega
/-- What an atom is. -/
def okAtom (a : ByteArray) : Bool := a.data.toList.all okByte && decide (1 ≤ a.size ∧ a.size ≤ 12)
theorem all_take_snoc (s : ByteArray) (k : Nat) (h : k < s.size) : (s.data.toList.take (k + 1)).all okByte = ((s.data.toList.take k).all okByte && okByte s[k]) := by
  rw [List.take_succ_eq_append_getElem (by simpa using h)]
  simp
  rfl
theorem all_not {s : ByteArray} {k : Nat} (h : k < s.size) (hc : okByte s[k] = false) : okAtom s = false := by
  have : s.data.toList.all okByte = false := by
    rw [List.all_eq_false]
    exact ⟨s[k], by simp [Array.mem_iff_getElem]; exact ⟨k, h, rfl⟩, by simp [hc]⟩
  rw [okAtom, this, Bool.false_and]

set_option maxRecDepth 100000 in
set_option maxHeartbeats 1000000 in
theorem validAtom (s : ByteArray) (w : World) (hs : s.size ≤ 9223372036854775807) : Calls Try.prog 28 #[.string s] w fun e w' => e = .returned (.bool (okAtom s)) ∧ w = w' := by
  go_enter Try.func28, Try.ntmps28
  go_wp2
  go_loopw [3] (fun iv wr => ∃ k : Nat, k ≤ s.size ∧ iv = .int .i64 k ∧ (s.data.toList.take k).all okByte = true ∧ w = wr) (fun iv _ => s.size - (Go.RowKit.intOf iv).toNat)
  case atStart => exact ⟨0, Nat.zero_le _, rfl, rfl, rfl⟩
  case round =>
    obtain ⟨k, hk, rfl, ha, rfl⟩ := hrel
    by_cases hlt : k < s.size
    · have hst := all_take_snoc s k hlt
      have hno := @all_not s k hlt
      rw [ha, Bool.true_and] at hst
      have HS := Lib.hid hst
      have HN := Lib.hid hno
      have HA := Lib.hid ha
      clear hst hno ha
      go_wp2_with fail
      refine (byteIs s[k] _).mono ?_
      rintro e w1 ⟨rfl, rfl⟩
      cases hc : okByte s[k] with
      | true =>
        have HC := Lib.hid hc
        clear hc
        go_wp2
        go_roundw
        case rel => exact ⟨k + 1, by omega, by go_num, by rw [HS.out, HC.out], trivial⟩
        case measure => simp [Go.RowKit.intOf]; omega
      | false =>
        have HC := Lib.hid hc
        clear hc
        go_wp2
        go_ret
        exact ⟨congrArg (fun b => Ending.returned (.bool b)) (HN.out HC.out).symm, rfl⟩
    · have hkl : k = s.size := by omega
      subst hkl
      have hall : s.data.toList.all okByte = true := by rw [List.take_of_length_le (by simp)] at ha; exact ha
      have HA := Lib.hid hall
      clear ha hall
      go_wp2_with fail
      refine (within _ _ _ _).mono ?_
      rintro e w1 ⟨rfl, rfl⟩
      go_wp2
      go_ret
      refine ⟨congrArg (fun b => Ending.returned (.bool b)) ?_, rfl⟩
      rw [okAtom, HA.out, Bool.true_and]
      rw [Bool.eq_iff_iff]
      simp only [Bool.and_eq_true, decide_eq_true_eq]
      omega
end Go.Proofs.Ytbnfdjhcakimhaa
namespace Go.Proofs.Ytbnfdjhcakimhaa
open Go.RowKit

/-- White space. -/
def isW (c : UInt8) : Bool := c == 32 || c == 10
def skipW (l : List UInt8) : List UInt8 := l.dropWhile isW
theorem skipW_nil : skipW [] = [] := rfl
theorem skipW_yes {c : UInt8} {l : List UInt8} (h : isW c = true) : skipW (c :: l) = skipW l := by rw [skipW, List.dropWhile_cons, if_pos h]; rfl
theorem skipW_no {c : UInt8} {l : List UInt8} (h : isW c = false) : skipW (c :: l) = c :: l := by rw [skipW, List.dropWhile_cons, if_neg (by rw [h]; decide)]
theorem skipW_le : ∀ l : List UInt8, (skipW l).length ≤ l.length
  | [] => by simp [skipW]
  | c :: l => by
    cases h : isW c with
    | true => rw [skipW_yes h, List.length_cons]; have := skipW_le l; omega
    | false => rw [skipW_no h]; exact Nat.le_refl _
theorem drop_step (s : ByteArray) (k : Nat) (h : k < s.size) : s.data.toList.drop k = s[k] :: s.data.toList.drop (k + 1) := by
  rw [List.drop_eq_getElem_cons (by simpa using h)]; rfl
theorem drop_done (s : ByteArray) {k : Nat} (h : s.size ≤ k) : s.data.toList.drop k = [] := by
  rw [List.drop_eq_nil_iff]; simpa using h

theorem But.drewN_s {g : Nat} {a w : World} (h : But g a w) (k : Nat) : But g a (w.drewN k) := h.trans ⟨rfl, rfl, rfl, Nat.le_refl _, fun _ _ _ => rfl⟩
/-- The reader's five cells: the text, how far, how deep, how many, whether it has failed. -/
def Cells (w : World) (g : Nat) (s : ByteArray) (k : Nat) (d z : Int) (b : Bool) : Prop := Whole w g 60 #[.string s, .int .i64 k, .int .i64 d, .int .i64 z, .bool b]
theorem Cells.at_ {w : World} {g : Nat} {s : ByteArray} {k : Nat} {d z : Int} {b : Bool} (h : Cells w g s k d z b) :
    w.cell? ⟨g, 0, none⟩ = some (.string s) ∧ w.cell? ⟨g, 1, none⟩ = some (.int .i64 k) ∧ w.cell? ⟨g, 2, none⟩ = some (.int .i64 d) ∧ w.cell? ⟨g, 3, none⟩ = some (.int .i64 z) ∧ w.cell? ⟨g, 4, none⟩ = some (.bool b) :=
  ⟨by rw [Whole.cell h]; rfl, by rw [Whole.cell h]; rfl, by rw [Whole.cell h]; rfl, by rw [Whole.cell h]; rfl, by rw [Whole.cell h]; rfl⟩
theorem Cells.drewN {w : World} {g : Nat} {s : ByteArray} {k : Nat} {d z : Int} {b : Bool} (h : Cells w g s k d z b) (n : Nat) : Cells (w.drewN n) g s k d z b := h
theorem Cells.set1 {w : World} {g : Nat} {s : ByteArray} {k : Nat} {d z : Int} {b : Bool} (h : Cells w g s k d z b) (k' : Nat) : Cells (w.setCell ⟨g, 1, none⟩ (.int .i64 k')) g s k' d z b := by
  have := Whole.set_ h 1 (.int .i64 k'); simp at this; exact this
theorem Cells.set2 {w : World} {g : Nat} {s : ByteArray} {k : Nat} {d z : Int} {b : Bool} (h : Cells w g s k d z b) (d' : Int) : Cells (w.setCell ⟨g, 2, none⟩ (.int .i64 d')) g s k d' z b := by
  have := Whole.set_ h 2 (.int .i64 d'); simp at this; exact this
theorem Cells.set3 {w : World} {g : Nat} {s : ByteArray} {k : Nat} {d z : Int} {b : Bool} (h : Cells w g s k d z b) (z' : Int) : Cells (w.setCell ⟨g, 3, none⟩ (.int .i64 z')) g s k d z' b := by
  have := Whole.set_ h 3 (.int .i64 z'); simp at this; exact this
theorem Cells.set4 {w : World} {g : Nat} {s : ByteArray} {k : Nat} {d z : Int} {b : Bool} (h : Cells w g s k d z b) (b' : Bool) : Cells (w.setCell ⟨g, 4, none⟩ (.bool b')) g s k d z b' := by
  have := Whole.set_ h 4 (.bool b'); simp at this; exact this

/-- The number in a cell. -/
def numAt (w : World) (g i : Nat) : Nat := match w.cell? ⟨g, i, none⟩ with | some (.int _ z) => z.toNat | _ => 0
theorem Cells.num {w : World} {g : Nat} {s : ByteArray} {k : Nat} {d z : Int} {b : Bool} (h : Cells w g s k d z b) : numAt w g 1 = k := by rw [numAt, h.at_.2.1]; rfl

set_option maxRecDepth 100000 in
set_option maxHeartbeats 1000000 in
theorem skipX (g : Nat) (s : ByteArray) (k : Nat) (d z : Int) (b : Bool) (w : World) (hs : s.size ≤ 4294967296) (hk : k ≤ s.size) (hw : Cells w g s k d z b) :
    Calls Try.prog 53 #[.pointer (some ⟨g, 0, none⟩)] w fun e w' => e = .returned (.tuple #[]) ∧ (∃ k', k ≤ k' ∧ k' ≤ s.size ∧ s.data.toList.drop k' = skipW (s.data.toList.drop k) ∧ Cells w' g s k' d z b) ∧ But g w w' := by
  go_enter Try.func53, Try.ntmps53
  go_wp2
  go_loopw [] (fun wr => ∃ j : Nat, k ≤ j ∧ j ≤ s.size ∧ skipW (s.data.toList.drop j) = skipW (s.data.toList.drop k) ∧ Cells wr g s j d z b ∧ But g w wr) (fun wr => s.size - numAt wr g 1)
  case atStart => exact ⟨k, Nat.le_refl _, hk, rfl, hw, But.refl g w⟩
  case round =>
    obtain ⟨j, hkj, hj, he, hc, hb⟩ := hrel
    obtain ⟨c0, c1, c2, c3, c4⟩ := hc.at_
    have hj0 : (0 : Int) ≤ j := by omega
    have f1 : wr.frozen? ⟨g, 1, none⟩ = false := Whole.frozen hc 1
    by_cases hlt : j < s.size
    · have hd := drop_step s j hlt
      by_cases h32 : s[j] = 32
      · have q1 : ((s[j].toNat : Int) == 32) = true := by rw [h32]; rfl
        have hn : skipW (s.data.toList.drop (j + 1)) = skipW (s.data.toList.drop k) := by rw [← he, hd, skipW_yes (by rw [isW, h32]; rfl)]
        have HN := Lib.hid hn
        clear hn he hd h32
        go_wp2
        go_quiet (fail)
        go_wp2
        go_roundw
        case rel => exact ⟨j + 1, by omega, by omega, HN.out, (hc.drewN _).set1 (j + 1), (hb.drewN_s _).trans (But.set_ g _ 1 _)⟩
        case measure =>
          rw [hc.num]; refine Nat.lt_of_le_of_lt (Nat.le_of_eq (congrArg (s.size - ·) (Cells.num ((hc.drewN _).set1 (j + 1))))) ?_; omega
      · have q1 : ((s[j].toNat : Int) == 32) = false := by
          rw [beq_eq_false_iff_ne]; intro e
          exact h32 (UInt8.toNat_inj.1 (by have e2 : (32 : UInt8).toNat = 32 := rfl; omega))
        by_cases h10 : s[j] = 10
        · have q2 : ((s[j].toNat : Int) == 10) = true := by rw [h10]; rfl
          have hn : skipW (s.data.toList.drop (j + 1)) = skipW (s.data.toList.drop k) := by rw [← he, hd, skipW_yes (by rw [isW, h10]; rfl)]
          have HN := Lib.hid hn
          clear hn he hd h32 h10
          go_wp2
          go_quiet (fail)
          go_wp2
          go_roundw
          case rel => exact ⟨j + 1, by omega, by omega, HN.out, (hc.drewN _).set1 (j + 1), (hb.drewN_s _).trans (But.set_ g _ 1 _)⟩
          case measure =>
            rw [hc.num]; refine Nat.lt_of_le_of_lt (Nat.le_of_eq (congrArg (s.size - ·) (Cells.num ((hc.drewN _).set1 (j + 1))))) ?_; omega
        · have q2 : ((s[j].toNat : Int) == 10) = false := by
            rw [beq_eq_false_iff_ne]; intro e
            exact h10 (UInt8.toNat_inj.1 (by have e2 : (10 : UInt8).toNat = 10 := rfl; omega))
          have hn : s.data.toList.drop j = skipW (s.data.toList.drop k) := by rw [← he, hd, skipW_no (by rw [isW, Bool.or_eq_false_iff, beq_eq_false_iff_ne, beq_eq_false_iff_ne]; exact ⟨h32, h10⟩)]
          have HN := Lib.hid hn
          clear hn he hd h32 h10
          go_wp2
          go_quiet (fail)
          go_wp2
          go_end0
          exact ⟨rfl, ⟨j, hkj, hj, HN.out, hc.drewN _⟩, hb.drewN_s _⟩
    · have hjs : j = s.size := by omega
      have hn : s.data.toList.drop j = skipW (s.data.toList.drop k) := by rw [← he, drop_done s (by omega)]; rfl
      have HN := Lib.hid hn
      clear hn he
      go_wp2
      go_quiet (fail)
      go_wp2
      go_end0
      exact ⟨rfl, ⟨j, hkj, hj, HN.out, hc.drewN _⟩, hb.drewN_s _⟩
end Go.Proofs.Ytbnfdjhcakimhaa
namespace Go.Proofs.Ytbnfdjhcakimhaa
open Go.RowKit

set_option maxRecDepth 100000 in
set_option maxHeartbeats 1000000 in
theorem maxOf (a b : Nat) (w : World) : Calls Try.prog 57 #[.int .i64 a, .int .i64 b] w fun e w' => e = .returned (.int .i64 (max a b : Nat)) ∧ w = w' := by
  by_cases h1 : b < a
  · go_enter Try.func57, Try.ntmps57
    go_wp2
    go_ret
    exact ⟨ret_int (by omega), rfl⟩
  · go_enter Try.func57, Try.ntmps57
    go_wp2
    go_ret
    exact ⟨ret_int (by omega), rfl⟩
end Go.Proofs.Ytbnfdjhcakimhaa
namespace Go.Proofs.Ytbnfdjhcakimhaa
open Go.RowKit

/-- The boxed parameter's block, and what the loop reads of it. -/
theorem boxed {w wr : World} {t : TypeId} {a : ByteArray} {A : Option Addr} {n c : Nat} (hb : Below (w.alloc (.cells #[.string a, .slice A n c] t)).heap.size (w.alloc (.cells #[.string a, .slice A n c] t)) wr) :
    wr.cell? ⟨w.heap.size, 0, none⟩ = some (.string a) ∧ wr.cell? ⟨w.heap.size, 1, none⟩ = some (.slice A n c) ∧ Below w.heap.size w wr := by
  have h := (Whole.new w t #[.string a, .slice A n c]).below hb (by simp)
  refine ⟨by rw [h.cell]; rfl, by rw [h.cell]; rfl, ?_⟩
  exact ((Below.refl _ _).alloc (Nat.le_refl _) _).trans (hb.mono (by simp))
theorem boxedList {w wr : World} {t : TypeId} {a : ByteArray} {A : Option Addr} {n c : Nat} {l : List SX} (hl : ListAt w (Lt w.heap.size) A l) (hb : Below (w.alloc (.cells #[.string a, .slice A n c] t)).heap.size (w.alloc (.cells #[.string a, .slice A n c] t)) wr) : ListAt wr (Lt wr.heap.size) A l := by
  have h1 : Below w.heap.size w wr := (boxed hb).2.2
  exact hl.grow h1

def SizeX (N : Nat) : Prop := ∀ (x : SX) (A : Option Addr) (c : Nat) (w : World), x.nodes ≤ N → x.nodes ≤ 4294967296 → ListAt w (Lt w.heap.size) A x.list →
  Calls Try.prog 33 #[.agg #[.string x.atom, .slice A x.list.length c]] w fun e w' => e = .returned (.int .i64 x.nodes) ∧ Below w.heap.size w w'

theorem SX.nodesL_take : ∀ (l : List SX) (j : Nat) (h : j < l.length), SX.nodesL (l.take (j + 1)) = SX.nodesL (l.take j) + l[j].nodes
  | x :: r, 0, _ => by simp [SX.nodesL]
  | x :: r, j + 1, h => by
    have := SX.nodesL_take r j (by simpa using h)
    rw [List.take_succ_cons, List.take_succ_cons, SX.nodesL, SX.nodesL, this]
    simp; omega
theorem SX.nodesL_le : ∀ (l : List SX) (j : Nat), SX.nodesL (l.take j) ≤ SX.nodesL l
  | [], j => by simp
  | x :: r, 0 => by simp [SX.nodesL]
  | x :: r, j + 1 => by
    have := SX.nodesL_le r j
    rw [List.take_succ_cons, SX.nodesL, SX.nodesL]; omega
theorem SX.nodesL_length : ∀ (l : List SX), l.length ≤ SX.nodesL l
  | [] => by simp [SX.nodesL]
  | x :: r => by have := SX.nodesL_length r; have := SX.nodes_eq x; rw [SX.nodesL, List.length_cons]; omega

set_option maxRecDepth 100000 in
set_option maxHeartbeats 1000000 in
theorem sizeX : ∀ N, SizeX N
  | 0 => fun x A c w hn => by rw [SX.nodes_eq] at hn; omega
  | N + 1 => by
    intro x A c w hn hm hl
    have ih := sizeX N
    have hne := SX.nodes_eq x
    have hll := SX.nodesL_length x.list
    have hlen : x.list.length ≤ 4294967296 := by omega
    have HL := Lib.hid hl
    have HE := Lib.hid hne
    clear hl hne
    go_enter Try.func33, Try.ntmps33
    go_wp2
    go_loopw [3, 4] (fun nv iv wr => ∃ k : Nat, k ≤ x.list.length ∧ iv = .int .i64 k ∧ nv = .int .i64 (1 + SX.nodesL (x.list.take k) : Nat) ∧ Below (w.alloc (.cells #[.string x.atom, .slice A x.list.length c] 26)).heap.size (w.alloc (.cells #[.string x.atom, .slice A x.list.length c] 26)) wr) (fun _ iv _ => x.list.length - (Go.RowKit.intOf iv).toNat)
    case atStart => exact ⟨0, Nat.zero_le _, rfl, by simp [SX.nodesL], Below.refl _ _⟩
    case round =>
      obtain ⟨k, hk, rfl, rfl, hb⟩ := hrel
      obtain ⟨b0, b1, hbw⟩ := boxed hb
      by_cases hlt : k < x.list.length
      · obtain ⟨b, o, A', c', rfl, hP, hc0, hc1, hl'⟩ := (boxedList HL.out hb).at_ hlt
        have hst := SX.nodesL_take x.list k hlt
        have hle := SX.nodesL_le x.list (k + 1)
        have hx : x.list[k].nodes ≤ N := by have := SX.nodesL_at x.list k hlt; have := HE.out; omega
        have hsum : 1 + SX.nodesL (x.list.take k) + x.list[k].nodes ≤ 4294967296 := by have := HE.out; omega
        have HS := Lib.hid hst
        have HX := Lib.hid hl'
        clear hst hle hl'
        go_wp2_with fail
        refine (ih x.list[k] A' c' _ hx (by omega) HX.out).mono ?_
        rintro e w1 ⟨rfl, hb1⟩
        have hb2 := hb.trans (hb1.mono hb.size)
        go_wp2
        go_roundw
        case rel => exact ⟨k + 1, by omega, by go_num, int_of (by rw [HS.out]; omega), hb2⟩
        case measure => simp [Go.RowKit.intOf]; omega
      · have hkl : k = x.list.length := by omega
        subst hkl
        rw [List.take_length]
        go_wp2
        go_ret
        exact ⟨ret_int (by rw [HE.out]), hbw⟩
end Go.Proofs.Ytbnfdjhcakimhaa
namespace Go.Proofs.Ytbnfdjhcakimhaa
open Go.RowKit

mutual
def SX.depth : SX → Nat
  | .mk a l => if a.size = 0 then SX.depthL l + 1 else 0
def SX.depthL : List SX → Nat
  | [] => 0
  | x :: r => max x.depth (SX.depthL r)
end
theorem SX.depth_eq (x : SX) : x.depth = if x.atom.size = 0 then SX.depthL x.list + 1 else 0 := by cases x; rw [SX.depth]; rfl
theorem SX.depthL_take : ∀ (l : List SX) (j : Nat) (h : j < l.length), SX.depthL (l.take (j + 1)) = max (SX.depthL (l.take j)) l[j].depth
  | x :: r, 0, _ => by simp [SX.depthL]
  | x :: r, j + 1, h => by
    have := SX.depthL_take r j (by simpa using h)
    rw [List.take_succ_cons, List.take_succ_cons, SX.depthL, SX.depthL, this]
    simp
mutual
theorem SX.depth_le : ∀ (x : SX), x.depth ≤ x.nodes
  | .mk a l => by have := SX.depthL_le l; rw [SX.depth, SX.nodes]; split <;> omega
theorem SX.depthL_le : ∀ (l : List SX), SX.depthL l ≤ SX.nodesL l
  | [] => by rw [SX.depthL, SX.nodesL]; omega
  | x :: r => by have := SX.depth_le x; have := SX.depthL_le r; rw [SX.depthL, SX.nodesL]; omega
end
theorem empty_of {a : ByteArray} (h : a.size = 0) : a = ByteArray.empty := ByteArray.size_eq_zero_iff.1 h
theorem nonempty_of {a : ByteArray} (h : a.size ≠ 0) : a.toList.isEmpty = false := by
  rw [ByteArray.toList_eq, List.isEmpty_eq_false_iff]; intro e; apply h; have := congrArg List.length e; simpa using this

def DepthX (N : Nat) : Prop := ∀ (x : SX) (A : Option Addr) (c : Nat) (w : World), x.nodes ≤ N → x.nodes ≤ 4294967296 → ListAt w (Lt w.heap.size) A x.list →
  Calls Try.prog 27 #[.agg #[.string x.atom, .slice A x.list.length c]] w fun e w' => e = .returned (.int .i64 x.depth) ∧ Below w.heap.size w w'

set_option maxRecDepth 100000 in
set_option maxHeartbeats 1000000 in
theorem depthX : ∀ N, DepthX N
  | 0 => fun x A c w hn => by rw [SX.nodes_eq] at hn; omega
  | N + 1 => by
    intro x A c w hn hm hl
    have ih := depthX N
    have hne := SX.nodes_eq x
    have hll := SX.nodesL_length x.list
    have hdn := SX.depthL_le x.list
    have hlen : x.list.length ≤ 4294967296 := by omega
    have hde := SX.depth_eq x
    by_cases ha : x.atom.size = 0
    · rw [if_pos ha] at hde
      have HL := Lib.hid hl
      have HE := Lib.hid hne
      have HD := Lib.hid hde
      have HN := Lib.hid hdn
      clear hl hne hde hdn
      rw [empty_of ha]
      clear ha
      go_enter Try.func27, Try.ntmps27
      go_wp2
      go_loopw [3, 4] (fun nv iv wr => ∃ k : Nat, k ≤ x.list.length ∧ iv = .int .i64 k ∧ nv = .int .i64 (SX.depthL (x.list.take k) : Nat) ∧ Below (w.alloc (.cells #[.string ByteArray.empty, .slice A x.list.length c] 26)).heap.size (w.alloc (.cells #[.string ByteArray.empty, .slice A x.list.length c] 26)) wr) (fun _ iv _ => x.list.length - (Go.RowKit.intOf iv).toNat)
      case atStart => exact ⟨0, Nat.zero_le _, rfl, by simp [SX.depthL], Below.refl _ _⟩
      case round =>
        obtain ⟨k, hk, rfl, rfl, hb⟩ := hrel
        obtain ⟨b0, b1, hbw⟩ := boxed hb
        by_cases hlt : k < x.list.length
        · obtain ⟨b, o, A', c', rfl, hP, hc0, hc1, hl'⟩ := (boxedList HL.out hb).at_ hlt
          have hst := SX.depthL_take x.list k hlt
          have hx : x.list[k].nodes ≤ N := by have := SX.nodesL_at x.list k hlt; have := HE.out; omega
          have hsm : x.list[k].nodes ≤ 4294967296 := by have := SX.nodesL_at x.list k hlt; have := HE.out; omega
          have HS := Lib.hid hst
          have HX := Lib.hid hl'
          clear hst hl'
          go_wp2_with fail
          refine (ih x.list[k] A' c' _ hx hsm HX.out).mono ?_
          rintro e w1 ⟨rfl, hb1⟩
          have hb2 := hb.trans (hb1.mono hb.size)
          go_wp2_with fail
          refine (maxOf _ _ _).mono ?_
          rintro e w2 ⟨rfl, rfl⟩
          go_wp2
          go_roundw
          case rel => exact ⟨k + 1, by omega, by go_num, int_of (by rw [HS.out]), hb2⟩
          case measure => simp [Go.RowKit.intOf]; omega
        · have hkl : k = x.list.length := by omega
          subst hkl
          rw [List.take_length]
          have hdb : SX.depthL x.list ≤ 4294967296 := by have := HN.out; have := HE.out; omega
          go_wp2
          go_ret
          exact ⟨ret_int (by rw [HD.out]; omega), hbw⟩
    · rw [if_neg ha] at hde
      have HD := Lib.hid hde
      have hne := nonempty_of ha
      clear hde hl
      go_enter Try.func27, Try.ntmps27
      go_wp2
      go_ret
      exact ⟨ret_int (by rw [HD.out]; rfl), (Below.refl _ _).alloc (Nat.le_refl _) _⟩
end Go.Proofs.Ytbnfdjhcakimhaa
namespace Go.Proofs.Ytbnfdjhcakimhaa
open Go.RowKit

/-- What is left: -1 where there was more. -/
def leftOf (L n : Nat) : Int := if n ≤ L then (L : Int) - n else -1
theorem leftOf_yes {L n : Nat} (h : n ≤ L) : leftOf L n = (L : Int) - n := by rw [leftOf, if_pos h]
theorem leftOf_no {L n : Nat} (h : L < n) : leftOf L n = -1 := by rw [leftOf, if_neg (by omega)]

def SzX (N : Nat) : Prop := ∀ (x : SX) (A : Option Addr) (c L : Nat) (w : World), x.nodes ≤ N → x.ok → ListAt w (Lt w.heap.size) A x.list → L ≤ 1048576 →
  Calls Try.prog 30 #[.agg #[.string x.atom, .slice A x.list.length c], .int .i64 L] w fun e w' => e = .returned (.int .i64 (leftOf L x.wt)) ∧ Below w.heap.size w w'
def SzL (N : Nat) : Prop := ∀ (l : List SX) (A : Option Addr) (c L : Nat) (w : World), SX.nodesL l ≤ N → SX.okL l → l.length ≤ 9223372036854775807 → ListAt w (Lt w.heap.size) A l → L ≤ 1048576 →
  Calls Try.prog 60 #[.slice A l.length c, .int .i64 L] w fun e w' => e = .returned (.int .i64 (leftOf L (SX.wtL l))) ∧ Below w.heap.size w w'

set_option maxRecDepth 100000 in
set_option maxHeartbeats 1000000 in
theorem szX_step (N : Nat) (ih : SzL N) : SzX (N + 1) := by
  intro x A c L w hn hok hl hL
  have hn' : SX.nodesL x.list ≤ N := by rw [SX.nodes_eq] at hn; omega
  obtain ⟨ho1, ho2, ho3⟩ := SX.ok_eq x hok
  have hw := SX.wt_eq x
  have hb0 : Below w.heap.size w (w.alloc (.cells #[.string x.atom, .slice A x.list.length c] 38)) := (Below.refl _ _).alloc (Nat.le_refl _) _
  have HL := Lib.hid (hl.grow hb0)
  have HO := Lib.hid ho3
  clear hl hn hok ho3
  by_cases h1 : x.atom.size ≤ L
  · have hnn : ¬ (L : Int) - x.atom.size < 0 := by omega
    have hcast : (L : Int) - x.atom.size = ((L - x.atom.size : Nat) : Int) := by omega
    have HC := Lib.hid hcast
    have HW := Lib.hid hw
    clear hcast hw
    go_enter Try.func30, Try.ntmps30
    go_wp2_with fail
    rw [HC.out]
    refine (ih x.list A c (L - x.atom.size) _ hn' HO.out ho2 HL.out (by omega)).mono ?_
    rintro e w1 ⟨rfl, hb1⟩
    have hb : Below w.heap.size w w1 := hb0.trans (hb1.mono hb0.size)
    by_cases h2 : SX.wtL x.list ≤ L - x.atom.size
    · rw [leftOf_yes h2]
      have h3 : x.wt ≤ L := by rw [HW.out]; omega
      have hnn2 : ¬ ((L - x.atom.size : Nat) : Int) - (SX.wtL x.list : Nat) < 0 := by omega
      go_wp2
      go_ret
      exact ⟨ret_int (by rw [leftOf_yes h3, HW.out]; omega), hb⟩
    · rw [leftOf_no (by omega)]
      have h3 : L < x.wt := by rw [HW.out]; omega
      go_wp2
      go_ret
      exact ⟨ret_int (leftOf_no h3).symm, hb⟩
  · have hnn : (L : Int) - x.atom.size < 0 := by omega
    have h3 : L < x.wt := by omega
    clear hw
    go_enter Try.func30, Try.ntmps30
    go_wp2
    go_ret
    exact ⟨ret_int (leftOf_no h3).symm, hb0⟩

set_option maxRecDepth 100000 in
set_option maxHeartbeats 1000000 in
theorem szL_step (N : Nat) (ih : SzX N) : SzL N := by
  intro l A c L w hn hok hlen hl hL
  have HL := Lib.hid hl
  have HO := Lib.hid hok
  have HN := Lib.hid hn
  clear hl hok hn
  by_cases hfst : L < l.length
  · have hnn : (L : Int) - l.length < 0 := by omega
    have h3 : L < SX.wtL l := by have := SX.wtL_length l; omega
    go_enter Try.func60, Try.ntmps60
    go_wp2
    go_ret
    exact ⟨ret_int (leftOf_no h3).symm, Below.refl _ _⟩
  · have hnn : ¬ (L : Int) - l.length < 0 := by omega
    go_enter Try.func60, Try.ntmps60
    go_wp2
    go_loopw [1, 5] (fun qv iv wr => ∃ k q : Nat, k ≤ l.length ∧ iv = .int .i64 k ∧ qv = .int .i64 q ∧ q + l.length + SX.wtL (l.take k) = L + k ∧ Below w.heap.size w wr) (fun _ iv _ => l.length - (Go.RowKit.intOf iv).toNat)
    case atStart => exact ⟨0, L - l.length, Nat.zero_le _, rfl, int_of (by omega), by simp [SX.wtL]; omega, Below.refl _ _⟩
    case round =>
      obtain ⟨k, q, hk, rfl, rfl, hq, hb⟩ := hrel
      by_cases hlt : k < l.length
      · obtain ⟨b, o, A', c', rfl, hP, hc0, hc1, hl'⟩ := (HL.out.below hb).at_ hlt
        have hst := SX.wtL_take l k hlt
        have hre := SX.wtL_rest l (k + 1) hlt
        have HX := Lib.hid (hl'.frame (Q := Lt wr.heap.size) (fun _ h => Nat.lt_of_lt_of_le h hb.size) (fun _ _ _ => rfl))
        have HOX := Lib.hid (SX.okL_at l HO.out k hlt)
        have HNX := Lib.hid (Nat.le_trans (SX.nodesL_at l k hlt) HN.out)
        have hqL : q ≤ 1048576 := by have := SX.wtL_le l k; omega
        have HQ := Lib.hid hq
        have HS := Lib.hid hst
        have HR := Lib.hid hre
        clear hl' hq hst hre
        go_wp2_with fail
        refine (ih l[k] A' c' q _ HNX.out HOX.out HX.out hqL).mono ?_
        rintro e w1 ⟨rfl, hb1⟩
        have hb2 : Below w.heap.size w w1 := hb.trans (hb1.mono hb.size)
        by_cases h2 : l[k].wt ≤ q
        · rw [leftOf_yes h2]
          have hnn2 : ¬ (q : Int) - (l[k].wt : Nat) < 0 := by omega
          have hq3 : q - l[k].wt + l.length + SX.wtL (l.take (k + 1)) = L + (k + 1) := by rw [HS.out]; have := HQ.out; omega
          have HQ3 := Lib.hid hq3
          clear hq3
          go_wp2
          go_roundw
          case rel => exact ⟨k + 1, q - l[k].wt, by omega, by go_num, int_of (by omega), HQ3.out, hb2⟩
          case measure => simp [Go.RowKit.intOf]; omega
        · rw [leftOf_no (by omega)]
          have h3 : L < SX.wtL l := by have := HQ.out; have := HS.out; have := HR.out; omega
          go_wp2
          go_ret
          exact ⟨ret_int (leftOf_no h3).symm, hb2⟩
      · have hkl : k = l.length := by omega
        have h3 : q + SX.wtL l = L := by
          have := hq
          rw [hkl, List.take_length] at this
          omega
        have H3 := Lib.hid h3
        clear hq h3
        go_wp2
        go_ret
        exact ⟨ret_int (by have := H3.out; rw [leftOf_yes (by omega)]; omega), hb⟩

theorem szAll : ∀ N, SzX N ∧ SzL N
  | 0 => by
    have hx : SzX 0 := fun x A c L w hn => by rw [SX.nodes_eq] at hn; omega
    exact ⟨hx, szL_step 0 hx⟩
  | N + 1 => ⟨szX_step N (szAll N).2, szL_step (N + 1) (szX_step N (szAll N).2)⟩
theorem szX (x : SX) (A : Option Addr) (c L : Nat) (w : World) (hok : x.ok) (hl : ListAt w (Lt w.heap.size) A x.list) (hL : L ≤ 1048576) :
    Calls Try.prog 30 #[.agg #[.string x.atom, .slice A x.list.length c], .int .i64 L] w fun e w' => e = .returned (.int .i64 (leftOf L x.wt)) ∧ Below w.heap.size w w' :=
  (szAll x.nodes).1 x A c L w (Nat.le_refl _) hok hl hL
end Go.Proofs.Ytbnfdjhcakimhaa
namespace Go.Proofs.Ytbnfdjhcakimhaa
open Go.RowKit

mutual
def SX.form : SX → Bool
  | .mk a l => if a.size = 0 then SX.formL l else okAtom a && decide (l.length = 0)
def SX.formL : List SX → Bool
  | [] => true
  | x :: r => x.form && SX.formL r
end
theorem SX.form_eq (x : SX) : x.form = if x.atom.size = 0 then SX.formL x.list else okAtom x.atom && decide (x.list.length = 0) := by cases x; rw [SX.form]; rfl
theorem SX.formL_take : ∀ (l : List SX) (j : Nat) (h : j < l.length), SX.formL (l.take (j + 1)) = (SX.formL (l.take j) && l[j].form)
  | x :: r, 0, _ => by simp [SX.formL]
  | x :: r, j + 1, h => by
    have := SX.formL_take r j (by simpa using h)
    rw [List.take_succ_cons, List.take_succ_cons, SX.formL, SX.formL, this]
    simp [Bool.and_assoc]
theorem SX.formL_false : ∀ (l : List SX) (j : Nat) (h : j < l.length), l[j].form = false → SX.formL l = false
  | x :: r, 0, _, hf => by rw [SX.formL]; simp at hf; rw [hf]; rfl
  | x :: r, j + 1, h, hf => by rw [SX.formL, SX.formL_false r j (by simpa using h) (by simpa using hf), Bool.and_false]

def FormX (N : Nat) : Prop := ∀ (x : SX) (A : Option Addr) (c : Nat) (w : World), x.nodes ≤ N → x.nodes ≤ 4294967296 → x.ok → ListAt w (Lt w.heap.size) A x.list →
  Calls Try.prog 45 #[.agg #[.string x.atom, .slice A x.list.length c]] w fun e w' => e = .returned (.bool x.form) ∧ Below w.heap.size w w'

set_option maxRecDepth 100000 in
set_option maxHeartbeats 1000000 in
theorem formX : ∀ N, FormX N
  | 0 => fun x A c w hn => by rw [SX.nodes_eq] at hn; omega
  | N + 1 => by
    intro x A c w hn hm hok hl
    have ih := formX N
    have hne := SX.nodes_eq x
    have hll := SX.nodesL_length x.list
    have hlen : x.list.length ≤ 4294967296 := by omega
    have hfe := SX.form_eq x
    obtain ⟨hza, -, hol⟩ := SX.ok_eq x hok
    by_cases ha : x.atom.size = 0
    · rw [if_pos ha] at hfe
      have HL := Lib.hid hl
      have HE := Lib.hid hne
      have HF := Lib.hid hfe
      have HO := Lib.hid hol
      clear hl hne hfe hol hok
      rw [empty_of ha]
      clear ha
      go_enter Try.func45, Try.ntmps45
      go_wp2
      go_loopw [3] (fun iv wr => ∃ k : Nat, k ≤ x.list.length ∧ iv = .int .i64 k ∧ SX.formL (x.list.take k) = true ∧ Below (w.alloc (.cells #[.string ByteArray.empty, .slice A x.list.length c] 26)).heap.size (w.alloc (.cells #[.string ByteArray.empty, .slice A x.list.length c] 26)) wr) (fun iv _ => x.list.length - (Go.RowKit.intOf iv).toNat)
      case atStart => exact ⟨0, Nat.zero_le _, rfl, by simp [SX.formL], Below.refl _ _⟩
      case round =>
        obtain ⟨k, hk, rfl, hf, hb⟩ := hrel
        obtain ⟨b0, b1, hbw⟩ := boxed hb
        have HT := Lib.hid hf
        clear hf
        by_cases hlt : k < x.list.length
        · obtain ⟨b, o, A', c', rfl, hP, hc0, hc1, hl'⟩ := (boxedList HL.out hb).at_ hlt
          have hst := SX.formL_take x.list k hlt
          have hno := SX.formL_false x.list k hlt
          rw [HT.out, Bool.true_and] at hst
          have hx : x.list[k].nodes ≤ N := by have := SX.nodesL_at x.list k hlt; have := HE.out; omega
          have hsm : x.list[k].nodes ≤ 4294967296 := by have := SX.nodesL_at x.list k hlt; have := HE.out; omega
          have HS := Lib.hid hst
          have HX := Lib.hid hl'
          have HNo := Lib.hid hno
          clear hst hl' hno
          go_wp2_with fail
          refine (ih x.list[k] A' c' _ hx hsm (SX.okL_at _ HO.out k hlt) HX.out).mono ?_
          rintro e w1 ⟨rfl, hb1⟩
          have hb2 := hb.trans (hb1.mono hb.size)
          cases hc : x.list[k].form with
          | true =>
            have HC := Lib.hid hc
            clear hc
            go_wp2
            go_roundw
            case rel => exact ⟨k + 1, by omega, by go_num, by rw [HS.out, HC.out], hb2⟩
            case measure => simp [Go.RowKit.intOf]; omega
          | false =>
            have HC := Lib.hid hc
            clear hc
            have hbw2 := hbw.trans (hb1.mono hbw.size)
            go_wp2
            go_ret
            exact ⟨congrArg (fun b => Ending.returned (.bool b)) (HF.out.trans (HNo.out HC.out)).symm, hbw2⟩
        · have hkl : k = x.list.length := by omega
          subst hkl
          have ht := HT.out
          rw [List.take_length] at ht
          have HT' := Lib.hid ht
          clear ht
          go_wp2
          go_ret
          exact ⟨congrArg (fun b => Ending.returned (.bool b)) (HF.out.trans HT'.out).symm, hbw⟩
    · rw [if_neg ha] at hfe
      have HF := Lib.hid hfe
      have hnem := nonempty_of ha
      clear hfe hl
      cases hc : okAtom x.atom with
      | true =>
        have HC := Lib.hid hc
        clear hc
        go_enter Try.func45, Try.ntmps45
        go_wp2_with fail
        refine (validAtom x.atom _ hza).mono ?_
        rintro e w1 ⟨rfl, rfl⟩
        have hc := HC.out
        rw [hc]
        clear hc
        go_wp2
        go_ret
        refine ⟨congrArg (fun b => Ending.returned (.bool b)) ?_, (Below.refl _ _).alloc (Nat.le_refl _) _⟩
        rw [HF.out, HC.out, Bool.true_and]
        rw [Bool.eq_iff_iff]; simp
      | false =>
        have HC := Lib.hid hc
        clear hc
        go_enter Try.func45, Try.ntmps45
        go_wp2_with fail
        refine (validAtom x.atom _ hza).mono ?_
        rintro e w1 ⟨rfl, rfl⟩
        have hc := HC.out
        rw [hc]
        clear hc
        go_wp2
        go_ret
        refine ⟨congrArg (fun b => Ending.returned (.bool b)) ?_, (Below.refl _ _).alloc (Nat.le_refl _) _⟩
        rw [HF.out, HC.out, Bool.false_and]

def LeftX (N : Nat) : Prop := ∀ (x : SX) (A : Option Addr) (c L : Nat) (w : World), x.nodes ≤ N → x.nodes ≤ 4294967296 → L ≤ 4294967296 → ListAt w (Lt w.heap.size) A x.list →
  Calls Try.prog 44 #[.agg #[.string x.atom, .slice A x.list.length c], .int .i64 L] w fun e w' => e = .returned (.int .i64 (leftOf L x.nodes)) ∧ Below w.heap.size w w'

theorem left_some {L n : Nat} (h : n ≤ L) : leftOf L n = ((L - n : Nat) : Int) := by rw [leftOf]; split <;> omega
theorem left_none {L n : Nat} (h : L < n) : leftOf L n = -1 := by rw [leftOf]; split <;> omega

set_option maxRecDepth 100000 in
set_option maxHeartbeats 1000000 in
theorem leftX : ∀ N, LeftX N
  | 0 => fun x A c L w hn => by rw [SX.nodes_eq] at hn; omega
  | N + 1 => by
    intro x A c L w hn hm hL hl
    have ih := leftX N
    have hne := SX.nodes_eq x
    have hll := SX.nodesL_length x.list
    have hlen : x.list.length ≤ 4294967296 := by omega
    have HL := Lib.hid hl
    have HE := Lib.hid hne
    clear hl hne
    go_enter Try.func44, Try.ntmps44
    go_wp2
    go_loopw [1, 5] (fun lv iv wr => ∃ k : Nat, k ≤ x.list.length ∧ iv = .int .i64 k ∧ lv = .int .i64 (leftOf L (1 + SX.nodesL (x.list.take k))) ∧ Below (w.alloc (.cells #[.string x.atom, .slice A x.list.length c] 26)).heap.size (w.alloc (.cells #[.string x.atom, .slice A x.list.length c] 26)) wr) (fun _ iv _ => x.list.length - (Go.RowKit.intOf iv).toNat)
    case atStart =>
      refine ⟨0, Nat.zero_le _, rfl, int_of ?_, Below.refl _ _⟩
      rw [List.take_zero, SX.nodesL]
      by_cases h0 : L = 0
      · subst h0; rw [left_none (by omega)]; rfl
      · rw [left_some (by omega)]; omega
    case round =>
      obtain ⟨k, hk, rfl, rfl, hb⟩ := hrel
      obtain ⟨b0, b1, hbw⟩ := boxed hb
      by_cases hlt : k < x.list.length
      · by_cases hle : 1 + SX.nodesL (x.list.take k) ≤ L
        · obtain ⟨b, o, A', c', rfl, hP, hc0, hc1, hl'⟩ := (boxedList HL.out hb).at_ hlt
          have hst := SX.nodesL_take x.list k hlt
          have hx : x.list[k].nodes ≤ N := by have := SX.nodesL_at x.list k hlt; have := HE.out; omega
          have hsm : x.list[k].nodes ≤ 4294967296 := by have := SX.nodesL_at x.list k hlt; have := HE.out; omega
          have hnew : leftOf (L - (1 + SX.nodesL (x.list.take k))) x.list[k].nodes = leftOf L (1 + SX.nodesL (x.list.take (k + 1))) := by
            rw [hst, leftOf, leftOf]; split <;> split <;> omega
          have HS := Lib.hid hnew
          have HX := Lib.hid hl'
          clear hst hl' hnew
          rw [left_some hle]
          go_wp2_with fail
          refine (ih x.list[k] A' c' (L - (1 + SX.nodesL (x.list.take k))) _ hx hsm (by omega) HX.out).mono ?_
          rintro e w1 ⟨rfl, hb1⟩
          have hb2 := hb.trans (hb1.mono hb.size)
          go_wp2
          go_roundw
          case rel => exact ⟨k + 1, by omega, by go_num, int_of (by rw [HS.out]), hb2⟩
          case measure => simp [Go.RowKit.intOf]; omega
        · have hr : leftOf L x.nodes = -1 := left_none (by have := HE.out; have := SX.nodesL_le x.list k; omega)
          have HR := Lib.hid hr
          clear hr
          rw [left_none (by omega)]
          go_wp2
          go_ret
          exact ⟨ret_int (by rw [HR.out]), hbw⟩
      · have hkl : k = x.list.length := by omega
        subst hkl
        have hr : leftOf L x.nodes = leftOf L (1 + SX.nodesL (x.list.take x.list.length)) := by rw [HE.out, List.take_length]
        have HR := Lib.hid hr
        clear hr
        go_wp2
        go_ret
        exact ⟨ret_int (by rw [HR.out]), hbw⟩
end Go.Proofs.Ytbnfdjhcakimhaa
namespace Go.Proofs.Ytbnfdjhcakimhaa
open Go.RowKit Go.Lib

def sizes (ss : List ByteArray) : Nat := (ss.map (·.size)).sum
theorem sizes_take (ss : List ByteArray) (k : Nat) (h : k < ss.length) : sizes (ss.take (k + 1)) = sizes (ss.take k) + ss[k].size := by
  rw [List.take_succ_eq_append_getElem h, sizes, List.map_append, List.sum_append]
  simp [sizes]
theorem sizes_le (ss : List ByteArray) (k : Nat) : sizes (ss.take k) ≤ sizes ss := by
  have h : ss = ss.take k ++ ss.drop k := (List.take_append_drop k ss).symm
  have h2 : sizes ss = sizes (ss.take k) + sizes (ss.drop k) := by
    conv => lhs; rw [h]
    simp only [sizes, List.map_append, List.sum_append]
  omega

theorem join_take_one (d : List (List UInt8)) (sep : List UInt8) (h : 0 < d.length) : join (d.take 1) sep = d[0] := by
  match d, h with
  | x :: r, _ => rw [List.take_succ_cons, List.take_zero, join_one]; rfl
theorem join_take_succ (d : List (List UInt8)) (sep : List UInt8) (k : Nat) (h0 : 0 < k) (h : k < d.length) : join (d.take (k + 1)) sep = join (d.take k) sep ++ sep ++ d[k] := by
  match d, k, h0, h with
  | x :: r, k + 1, _, h =>
    have hr : k < r.length := by simp at h; omega
    rw [List.take_succ_cons, List.take_succ_cons, join_cons, join_cons, joinTail_take_succ sep r k r[k] (List.getElem?_eq_getElem hr)]
    simp [List.append_assoc]
theorem join_length_le (d : List (List UInt8)) (sep : List UInt8) : (join d sep).length ≤ sep.length * d.length + lens d := by
  cases d with
  | nil => simp [join_nil]
  | cons x r =>
    rw [join_length, List.length_cons, Nat.mul_add]
    omega
theorem lens_sizes (ss : List ByteArray) : lens (ss.map (·.data.toList)) = sizes ss := by
  simp [lens, sizes, Function.comp_def]
/-- How long what is joined may become. -/
theorem joined_le (ss : List ByteArray) (sep : ByteArray) (k : Nat) (h1 : ss.length + sizes ss ≤ 1048576) (h2 : sep.size ≤ 1048576) : (join ((ss.map (·.data.toList)).take k) sep.data.toList).length ≤ 1099512676352 := by
  have h := join_length_le ((ss.map (·.data.toList)).take k) sep.data.toList
  have hl := lens_take_le (ss.map (·.data.toList)) k
  rw [lens_sizes] at hl
  have hn : ((ss.map (·.data.toList)).take k).length ≤ 1048576 := by
    have := List.length_take_le k (ss.map (·.data.toList))
    rw [List.length_take, List.length_map]
    omega
  have hs : sep.data.toList.length ≤ 1048576 := by simpa using h2
  have hm := Nat.mul_le_mul hs hn
  omega
end Go.Proofs.Ytbnfdjhcakimhaa
namespace Go.Proofs.Ytbnfdjhcakimhaa
open Go.RowKit Go.Lib

theorem infoByte : (Try.prog.info? 5).map (fun i => (i.zero, i.size, i.bytes)) = some (some (.int .u8 0), 1, 1) := by kernel_rfl
def bv (b : UInt8) : Value := .int .u8 b.toNat
theorem strCells_bv (s : ByteArray) : strCells s = s.data.toList.map bv := rfl

set_option maxRecDepth 100000 in
set_option maxHeartbeats 2000000 in
theorem specJoin (A : Option Addr) (c : Nat) (ss : List ByteArray) (sep : ByteArray) (w : World) (hA : Strs w A ss) (h1 : ss.length + sizes ss ≤ 1048576) (h2 : sep.size ≤ 1048576) :
    Calls Try.prog 72 #[.slice A ss.length c, .string sep] w fun e w' => e = .returned (.string ⟨(join (ss.map (·.data.toList)) sep.data.toList).toArray⟩) ∧ Below w.heap.size w w' := by
  obtain ⟨i0, hi, hz0, hz1, hz2⟩ := info_parts infoByte
  have HA := Lib.hid hA
  have hbl := fun k => joined_le ss sep k h1 h2
  have HBL := Lib.hid hbl
  have hml : (ss.map (·.data.toList)).length = ss.length := by simp
  have HML := Lib.hid hml
  clear hA hbl hml
  go_enter Try.func72, Try.ntmps72
  go_wp2
  go_loopw [5, 6] (fun v iv wr => ∃ k : Nat, k ≤ ss.length ∧ iv = .int .i64 k ∧ wr.ownsRow w.heap.size 5 1 v (join ((ss.map (·.data.toList)).take k) sep.data.toList).length ((join ((ss.map (·.data.toList)).take k) sep.data.toList).map bv) ∧ Below w.heap.size w wr) (fun _ iv _ => ss.length - (Go.RowKit.intOf iv).toNat)
  case atStart => exact ⟨0, Nat.zero_le _, rfl, World.ownsRow_made w #[] 0 (Nat.le_refl _) (by decide) rfl, (Below.refl _ _).alloc (Nat.le_refl _) _⟩
  case round =>
    obtain ⟨k, hk, rfl, hown, hb⟩ := hrel
    by_cases hlt : k < ss.length
    · have hkm : k < (ss.map (·.data.toList)).length := by rw [HML.out]; exact hlt
      have hkd : (ss.map (·.data.toList))[k] = ss[k].data.toList := by simp
      have hz : ss[k].size ≤ 1048576 := by have := sizes_take ss k hlt; have := sizes_le ss (k + 1); omega
      by_cases h0 : 0 < k
      · have hst := join_take_succ (ss.map (·.data.toList)) sep.data.toList k h0 hkm
        rw [hkd] at hst
        have HS := Lib.hid hst
        have hb0 := HBL.out k
        have hb1 := HBL.out (k + 1)
        have hk1 : (join ((ss.map (·.data.toList)).take k) sep.data.toList).length ≤ 1099512676352 := hb0
        clear hst hkd hkm hb0 hb1
        generalize hJ : join ((ss.map (·.data.toList)).take k) sep.data.toList = J at *
        have HJ := Lib.hid hJ
        clear hJ
        go_wp2_with (at_builtin; refine wpList_append_own_string _ rfl _ _ 22 9 rfl w.heap.size 5 i0 Try.underlying22 Try.underlying9 hi hz0 hz1 hz2 _ _ _ rfl hown sep rfl (by unfold maxLen; omega) (by omega) hb.size ?_)
        intro v1 w1 hown1 hgrow1 _
        have hbe1 : Below w.heap.size w w1 := hb.grown hgrow1 hb.size (fun q hq => (hown.lt q hq).1)
        obtain ⟨g, o, rfl, hc⟩ := (HA.out.below hbe1).at_ hlt
        go_wp2_with (at_builtin; refine wpList_append_own_string _ rfl _ _ 22 9 rfl w.heap.size 5 i0 Try.underlying22 Try.underlying9 hi hz0 hz1 hz2 _ _ _ rfl hown1 ss[k] rfl (by unfold maxLen; omega) (by omega) hbe1.size ?_)
        intro v2 w2 hown2 hgrow2 _
        have hbe2 : Below w.heap.size w w2 := hbe1.grown hgrow2 hbe1.size (fun q hq => (hown1.lt q hq).1)
        have e1 : (J ++ sep.data.toList ++ ss[k].data.toList).length = J.length + sep.size + ss[k].size := by simp [List.length_append]; omega
        have e2 : (J ++ sep.data.toList ++ ss[k].data.toList).map bv = J.map bv ++ (strCells sep ++ strCells ss[k]) := by simp [strCells_bv]
        rw [← e1, ← e2, ← HS.out] at hown2
        have HO := Lib.hid hown2
        clear e1 e2 hown hown1 hown2 hgrow1 hgrow2
        go_wp2
        go_roundw
        case rel => exact ⟨k + 1, by omega, by go_num, HO.out, hbe2⟩
        case measure => simp [Go.RowKit.intOf]; omega
      · have hk0 : k = 0 := by omega
        subst hk0
        obtain ⟨g, o, rfl, hc⟩ := (HA.out.below hb).at_ hlt
        rw [Nat.add_zero] at hc
        have hst := join_take_one (ss.map (·.data.toList)) sep.data.toList hkm
        rw [hkd] at hst
        have HS := Lib.hid hst
        have hown0 := hown
        simp only [List.take_zero, join_nil, List.length_nil, List.map_nil] at hown0
        clear hst hkd hkm
        go_wp2_with (at_builtin; refine wpList_append_own_string _ rfl _ _ 22 9 rfl w.heap.size 5 i0 Try.underlying22 Try.underlying9 hi hz0 hz1 hz2 _ _ _ rfl hown0 ss[0] rfl (by unfold maxLen; omega) (by omega) hb.size ?_)
        intro v2 w2 hown2 hgrow2 _
        have hbe2 : Below w.heap.size w w2 := hb.grown hgrow2 hb.size (fun q hq => (hown.lt q hq).1)
        have hown3 : w2.ownsRow w.heap.size 5 1 v2 (join ((ss.map (·.data.toList)).take 1) sep.data.toList).length ((join ((ss.map (·.data.toList)).take 1) sep.data.toList).map bv) := by
          rw [HS.out]
          simpa [join_nil, strCells_bv] using hown2
        have HO := Lib.hid hown3
        clear hown hown0 hown2 hown3 hgrow2
        go_wp2
        go_roundw
        case rel => exact ⟨1, by omega, rfl, HO.out, hbe2⟩
        case measure => simp [Go.RowKit.intOf]; omega
    · have hkl : k = ss.length := by omega
      subst hkl
      have hall : (ss.map (·.data.toList)).take ss.length = ss.map (·.data.toList) := List.take_of_length_le (by rw [HML.out]; exact Nat.le_refl _)
      rw [hall] at hown
      clear hall
      generalize hJ : join (ss.map (·.data.toList)) sep.data.toList = J at *
      have HJ := Lib.hid hJ
      clear hJ
      rcases hown.2 with ⟨rfl, hj0⟩ | ⟨g, cap, cur, rfl, _⟩
      · have hJ0 : J = [] := List.eq_nil_of_length_eq_zero hj0
        subst hJ0
        have kc := run_convert_bytes_nil (P := Try.prog) wr 22 5 Try.underlying22 Try.underlying5 0 0 9 Try.underlying9
        go_wp2
        go_ret
        exact ⟨ret_str (by rw [HJ.out]; rfl), hb⟩
      · have kc := run_convert_bytes_back (P := Try.prog) wr 22 9 5 ⟨g, 0, none⟩ cap J Try.underlying22 Try.underlying5 Try.underlying9 (fun j hj => by
          have h := hown.cells (g := g) rfl j (bv J[j]) (by rw [List.getElem?_map, List.getElem?_eq_getElem hj]; rfl)
          exact h)
        go_wp2
        go_ret
        exact ⟨ret_str (by rw [HJ.out]), hb⟩
end Go.Proofs.Ytbnfdjhcakimhaa
namespace Go.Proofs.Ytbnfdjhcakimhaa
open Go.RowKit Go.Lib

mutual
def SX.text : SX → ByteArray
  | .mk a l => if a.size = 0 then (⟨#[40]⟩ : ByteArray) ++ ⟨(join ((SX.textL l).map (·.data.toList)) [32]).toArray⟩ ++ ⟨#[41]⟩ else a
def SX.textL : List SX → List ByteArray
  | [] => []
  | x :: r => x.text :: SX.textL r
end
theorem SX.text_eq (x : SX) : x.text = if x.atom.size = 0 then (⟨#[40]⟩ : ByteArray) ++ ⟨(join ((SX.textL x.list).map (·.data.toList)) [32]).toArray⟩ ++ ⟨#[41]⟩ else x.atom := by cases x; rw [SX.text]; rfl
theorem SX.textL_length : ∀ (l : List SX), (SX.textL l).length = l.length
  | [] => rfl
  | x :: r => by rw [SX.textL, List.length_cons, List.length_cons, SX.textL_length r]
theorem SX.textL_take : ∀ (l : List SX) (j : Nat) (h : j < l.length), SX.textL (l.take (j + 1)) = SX.textL (l.take j) ++ [l[j].text]
  | x :: r, 0, _ => by simp [SX.textL]
  | x :: r, j + 1, h => by
    have := SX.textL_take r j (by simpa using h)
    rw [List.take_succ_cons, List.take_succ_cons, SX.textL, SX.textL, this]
    simp
mutual
/-- How long a text may be. -/
theorem SX.text_le : ∀ (x : SX), x.text.size ≤ x.wt + 3 * x.nodes
  | .mk a l => by
    rw [SX.text, SX.wt, SX.nodes]
    split
    · have h := SX.textL_le l
      have hj := join_length_le ((SX.textL l).map (·.data.toList)) [32]
      rw [lens_sizes] at hj
      have hn := SX.textL_length l
      simp only [List.length_map, hn, List.length_singleton, Nat.one_mul] at hj
      simp only [ByteArray.size_append]
      have e1 : (⟨(join ((SX.textL l).map (·.data.toList)) [32]).toArray⟩ : ByteArray).size = (join ((SX.textL l).map (·.data.toList)) [32]).length := by simp [ByteArray.size]
      have e2 : (⟨#[40]⟩ : ByteArray).size = 1 := rfl
      have e3 : (⟨#[41]⟩ : ByteArray).size = 1 := rfl
      omega
    · omega
theorem SX.textL_le : ∀ (l : List SX), l.length + sizes (SX.textL l) ≤ SX.wtL l + 3 * SX.nodesL l
  | [] => by simp [SX.textL, sizes]
  | x :: r => by
    have h1 := SX.text_le x
    have h2 := SX.textL_le r
    have h3 : sizes (SX.textL (x :: r)) = x.text.size + sizes (SX.textL r) := by rw [SX.textL]; simp [sizes]
    rw [h3, SX.wtL, SX.nodesL, List.length_cons]
    omega
end

def TextX (N : Nat) : Prop := ∀ (x : SX) (A : Option Addr) (c : Nat) (w : World), x.nodes ≤ N → x.wt + 3 * x.nodes ≤ 1048576 → ListAt w (Lt w.heap.size) A x.list →
  Calls Try.prog 42 #[.agg #[.string x.atom, .slice A x.list.length c]] w fun e w' => e = .returned (.string x.text) ∧ Below w.heap.size w w'

theorem wt_nodes_at (l : List SX) (j : Nat) (h : j < l.length) : l[j].wt + 3 * l[j].nodes ≤ SX.wtL l + 3 * SX.nodesL l := by
  have := SX.wtL_at l j h
  have := SX.nodesL_at l j h
  omega

set_option maxRecDepth 100000 in
set_option maxHeartbeats 2000000 in
theorem textX : ∀ N, TextX N
  | 0 => fun x A c w hn => by rw [SX.nodes_eq] at hn; omega
  | N + 1 => by
    intro x A c w hn hm hl
    have ih := textX N
    obtain ⟨i0, hi, hz0, hz1, hz2⟩ := info_parts infoString
    have hne := SX.nodes_eq x
    have hwe := SX.wt_eq x
    have hll := SX.wtL_length x.list
    have hlen : x.list.length ≤ 1048576 := by omega
    have hte := SX.text_eq x
    by_cases ha : x.atom.size = 0
    · rw [if_pos ha] at hte
      have htl := SX.textL_length x.list
      have hsz := SX.textL_le x.list
      have hjl : (join ((SX.textL x.list).map (·.data.toList)) [32]).length ≤ 1048576 := by
        have h1 := SX.text_le x
        have h2 : x.text.size = 1 + (join ((SX.textL x.list).map (·.data.toList)) [32]).length + 1 := by rw [hte]; simp only [ByteArray.size_append]; rw [show (⟨(join ((SX.textL x.list).map (·.data.toList)) [32]).toArray⟩ : ByteArray).size = (join ((SX.textL x.list).map (·.data.toList)) [32]).length by simp [ByteArray.size]]; rfl
        omega
      have hm2 : SX.wtL x.list + 3 * SX.nodesL x.list ≤ 1048576 := by omega
      have hn2 : SX.nodesL x.list ≤ N := by omega
      have HL := Lib.hid hl
      have HT := Lib.hid hte
      have HTL := Lib.hid htl
      have HSZ := Lib.hid hsz
      clear hl hne hwe hll hte htl hsz hm hn
      rw [empty_of ha]
      clear ha
      have hb0 : Below w.heap.size w ((w.alloc (.cells #[.string ByteArray.empty, .slice A x.list.length c] 26)).alloc (.cells #[] 9)) := ((Below.refl _ _).alloc (Nat.le_refl _) _).alloc (by simp) _
      go_enter Try.func42, Try.ntmps42
      go_wp2
      go_loopw [3, 4] (fun v iv wr => ∃ k : Nat, k ≤ x.list.length ∧ iv = .int .i64 k ∧ wr.ownsRow (w.heap.size + 1) 9 1 v k ((SX.textL (x.list.take k)).map Value.string) ∧ Below (w.heap.size + 1) (w.alloc (.cells #[.string ByteArray.empty, .slice A x.list.length c] 26)) wr) (fun _ iv _ => x.list.length - (Go.RowKit.intOf iv).toNat)
      case atStart => exact ⟨0, Nat.zero_le _, rfl, (by have h := World.ownsRow_made (base := w.heap.size + 1) (size := 1) (e := 9) (w.alloc (.cells #[.string ByteArray.empty, .slice A x.list.length c] 26)) #[] 0 (by simp) (by decide) rfl; rw [World.size_alloc] at h; exact h), (Below.refl (w.heap.size + 1) (w.alloc (.cells #[.string ByteArray.empty, .slice A x.list.length c] 26))).alloc (by simp) _⟩
      case round =>
        obtain ⟨k, hk, rfl, hown, hb⟩ := hrel
        have hbs : w.heap.size + 1 ≤ wr.heap.size := by simpa using hb.size
        obtain ⟨b0, b1, hbw⟩ := boxed (hb.mono (by simp))
        by_cases hlt : k < x.list.length
        · obtain ⟨b, o, A', c', rfl, hP, hc0, hc1, hl'⟩ := (boxedList HL.out (hb.mono (by simp))).at_ hlt
          have hst := SX.textL_take x.list k hlt
          have hx : x.list[k].nodes ≤ N := by have := SX.nodesL_at x.list k hlt; omega
          have hsm : x.list[k].wt + 3 * x.list[k].nodes ≤ 1048576 := by have := wt_nodes_at x.list k hlt; omega
          have HS := Lib.hid hst
          have HX := Lib.hid hl'
          clear hst hl'
          go_wp2_with fail
          refine (ih x.list[k] A' c' _ hx hsm HX.out).mono ?_
          rintro e w1 ⟨rfl, hb1⟩
          have hown1 := owns_below hown hb1
          have hb2 := hb.trans (hb1.mono hbs)
          have hbs2 := Nat.le_trans hbs hb1.size
          go_wp2_with (at_builtin; refine wpList_append_own _ rfl _ _ 57 rfl (w.heap.size + 1) 9 i0 (.string ByteArray.empty) 1 16 Try.underlying57 hi hz0 hz1 hz2 rfl (by decide) _ _ _ rfl (hown1.alloc _) ⟨w1.heap.size, 0, none⟩ 1 1 [.string x.list[k].text] rfl rfl (news_one w1 _ _) (one_string _) (by unfold maxLen; omega) (by omega) (by simp; omega) ?_)
          intro v' w2 hown2 hgrow _
          have hb3 := (hb2.alloc hbs2 _).grown hgrow (by simp; omega) (fun k hk => (hown1.lt k hk).1)
          rw [strs_map, ← HS.out] at hown2
          have HO := Lib.hid hown2
          clear hown2 hown1 hown
          go_wp2
          go_roundw
          case rel => exact ⟨k + 1, by omega, by go_num, HO.out, hb3⟩
          case measure => simp [Go.RowKit.intOf]; omega
        · have hkl : k = x.list.length := by omega
          subst hkl
          rw [List.take_length] at hown
          conv at hown => arg 6; rw [← HTL.out]
          obtain ⟨B, d, rfl, hS⟩ := strs_own hown
          have HS := Lib.hid hS
          clear hS hown
          go_wp2_with fail
          refine (specJoin B d _ ⟨#[32]⟩ _ HS.out (by have := HSZ.out; have := HTL.out; omega) (by decide)).mono ?_
          rintro e w1 ⟨rfl, hb1⟩
          have hb2 := hbw.trans (hb1.mono hbw.size)
          go_wp2
          go_ret
          exact ⟨ret_str (by rw [HT.out]), hb2⟩
    · rw [if_neg ha] at hte
      have HT := Lib.hid hte
      have hnem := nonempty_of ha
      clear hte hl
      go_enter Try.func42, Try.ntmps42
      go_wp2
      go_ret
      exact ⟨ret_str (by rw [HT.out]), (Below.refl _ _).alloc (Nat.le_refl _) _⟩
end Go.Proofs.Ytbnfdjhcakimhaa
namespace Go.Proofs.Ytbnfdjhcakimhaa
open Go.RowKit Go.Lib

def SX.valid (x : SX) : Bool := decide (x.nodes ≤ 900) && x.form && decide (x.depth ≤ 14)
mutual
theorem SX.form_wt : ∀ (x : SX), x.form = true → x.wt + 1 ≤ 13 * x.nodes
  | .mk a l => fun h => by
    rw [SX.form] at h
    rw [SX.wt, SX.nodes]
    split at h
    · have := SX.formL_wt l h; omega
    · rw [Bool.and_eq_true, okAtom, Bool.and_eq_true, decide_eq_true_eq, decide_eq_true_eq] at h
      rw [List.eq_nil_of_length_eq_zero h.2, SX.wtL, SX.nodesL]
      omega
theorem SX.formL_wt : ∀ (l : List SX), SX.formL l = true → SX.wtL l ≤ 13 * SX.nodesL l
  | [] => fun _ => by rw [SX.wtL]; omega
  | x :: r => fun h => by
    rw [SX.formL, Bool.and_eq_true] at h
    have := SX.form_wt x h.1
    have := SX.formL_wt r h.2
    rw [SX.wtL, SX.nodesL]; omega
end
theorem SX.valid_iff {x : SX} : x.valid = true ↔ x.nodes ≤ 900 ∧ x.form = true ∧ x.depth ≤ 14 := by
  rw [SX.valid, Bool.and_eq_true, Bool.and_eq_true, decide_eq_true_eq, decide_eq_true_eq, and_assoc]
theorem SX.valid_wt {x : SX} (h : x.valid = true) : x.wt + 3 * x.nodes ≤ 1048576 := by
  obtain ⟨h1, h2, _⟩ := SX.valid_iff.1 h
  have := SX.form_wt x h2
  omega

/-- The boxed parameter, loaded whole. -/
theorem boxed_grow {w : World} {t : TypeId} {a : ByteArray} {A : Option Addr} {n c : Nat} {l : List SX} (hl : ListAt w (Lt w.heap.size) A l) :
    ListAt (w.alloc (.cells #[.string a, .slice A n c] t)) (Lt (w.alloc (.cells #[.string a, .slice A n c] t)).heap.size) A l := boxedList hl (Below.refl _ _)

set_option maxRecDepth 100000 in
set_option maxHeartbeats 1000000 in
theorem validX (x : SX) (A : Option Addr) (c : Nat) (w : World) (hm : x.nodes ≤ 4294967296) (hok : x.ok) (hl : ListAt w (Lt w.heap.size) A x.list) :
    Calls Try.prog 19 #[.agg #[.string x.atom, .slice A x.list.length c]] w fun e w' => e = .returned (.bool x.valid) ∧ Below w.heap.size w w' := by
  have hl0 := @boxed_grow w 26 x.atom A x.list.length c x.list hl
  have hb0 : Below w.heap.size w (w.alloc (.cells #[.string x.atom, .slice A x.list.length c] 26)) := (Below.refl _ _).alloc (Nat.le_refl _) _
  have HL := Lib.hid hl0
  clear hl hl0
  by_cases hn : x.nodes ≤ 900
  · have hlf : leftOf 900 x.nodes = ((900 - x.nodes : Nat) : Int) := left_some hn
    have HLF := Lib.hid hlf
    clear hlf
    go_enter Try.func19, Try.ntmps19
    go_wp2_with fail
    refine (leftX _ x A c 900 _ (Nat.le_refl _) hm (by decide) HL.out).mono ?_
    rintro e w1 ⟨rfl, hb1⟩
    rw [HLF.out]
    have hb2 := hb0.trans (hb1.mono hb0.size)
    have hl1 := HL.out.grow hb1
    have hc0 := (boxed hb1).1
    have hc1 := (boxed hb1).2.1
    have HL1 := Lib.hid hl1
    clear hl1
    go_wp2_with fail
    refine (formX _ x A c _ (Nat.le_refl _) hm hok HL1.out).mono ?_
    rintro e w2 ⟨rfl, hb3⟩
    have hb4 := hb2.trans (hb3.mono hb2.size)
    have hb13 := hb1.trans (hb3.mono hb1.size)
    have hl2 := HL1.out.grow hb3
    have hd0 := (boxed hb13).1
    have hd1 := (boxed hb13).2.1
    have HL2 := Lib.hid hl2
    clear hl2
    cases hf : x.form with
    | true =>
      have HF := Lib.hid hf
      clear hf
      go_wp2_with fail
      refine (depthX _ x A c _ (Nat.le_refl _) hm HL2.out).mono ?_
      rintro e w3 ⟨rfl, hb5⟩
      have hb6 := hb4.trans (hb5.mono hb4.size)
      go_wp2
      go_ret
      refine ⟨congrArg (fun b => Ending.returned (.bool b)) ?_, hb6⟩
      rw [SX.valid, HF.out, Bool.and_true, Bool.eq_iff_iff]
      simp only [Bool.and_eq_true, decide_eq_true_eq]
      omega
    | false =>
      have HF := Lib.hid hf
      clear hf
      go_wp2
      go_ret
      refine ⟨congrArg (fun b => Ending.returned (.bool b)) ?_, hb4⟩
      rw [SX.valid, HF.out]
      simp
  · have hlf : leftOf 900 x.nodes = -1 := left_none (by omega)
    have HLF := Lib.hid hlf
    clear hlf
    go_enter Try.func19, Try.ntmps19
    go_wp2_with fail
    refine (leftX _ x A c 900 _ (Nat.le_refl _) hm (by decide) HL.out).mono ?_
    rintro e w1 ⟨rfl, hb1⟩
    rw [HLF.out]
    have hb2 := hb0.trans (hb1.mono hb0.size)
    go_wp2
    go_ret
    refine ⟨congrArg (fun b => Ending.returned (.bool b)) ?_, hb2⟩
    rw [SX.valid]
    simp
    omega

/-- What a valid expression's text is; "" for another. -/
def SX.said (x : SX) : ByteArray := if x.valid then x.text else ByteArray.empty

set_option maxRecDepth 100000 in
set_option maxHeartbeats 1000000 in
theorem formatX (x : SX) (A : Option Addr) (c : Nat) (w : World) (hm : x.nodes ≤ 4294967296) (hok : x.ok) (hl : ListAt w (Lt w.heap.size) A x.list) :
    Calls Try.prog 17 #[.agg #[.string x.atom, .slice A x.list.length c]] w fun e w' => e = .returned (.string x.said) ∧ Below w.heap.size w w' := by
  have hl0 := @boxed_grow w 26 x.atom A x.list.length c x.list hl
  have hb0 : Below w.heap.size w (w.alloc (.cells #[.string x.atom, .slice A x.list.length c] 26)) := (Below.refl _ _).alloc (Nat.le_refl _) _
  have HL := Lib.hid hl0
  clear hl hl0
  go_enter Try.func17, Try.ntmps17
  go_wp2_with fail
  refine (validX x A c _ hm hok HL.out).mono ?_
  rintro e w1 ⟨rfl, hb1⟩
  have hb2 := hb0.trans (hb1.mono hb0.size)
  have hl1 := HL.out.grow hb1
  have hc0 := (boxed hb1).1
  have hc1 := (boxed hb1).2.1
  have HL1 := Lib.hid hl1
  clear hl1
  cases hv : x.valid with
  | true =>
    have hs : x.said = x.text := by rw [SX.said, if_pos hv]
    have hwt := SX.valid_wt hv
    have HS := Lib.hid hs
    clear hv hs
    go_wp2_with fail
    refine (textX _ x A c _ (Nat.le_refl _) hwt HL1.out).mono ?_
    rintro e w2 ⟨rfl, hb3⟩
    have hb4 := hb2.trans (hb3.mono hb2.size)
    go_wp2
    go_ret
    exact ⟨ret_str (by rw [HS.out]), hb4⟩
  | false =>
    have hs : x.said = ByteArray.empty := by rw [SX.said, if_neg (by rw [hv]; decide)]
    have HS := Lib.hid hs
    clear hv hs
    go_wp2
    go_ret
    exact ⟨ret_str (by rw [HS.out]; rfl), hb2⟩
end Go.Proofs.Ytbnfdjhcakimhaa
namespace Go.Proofs.Ytbnfdjhcakimhaa
open Go.RowKit Go.Lib

mutual
/-- One expression read: what is left of the bytes, and how many were counted; none: it failed. -/
def readX : Nat → List UInt8 → Nat → Nat → Option (SX × List UInt8 × Nat)
  | 0, _, _, _ => none
  | n + 1, rest, d, z =>
    if skipW rest = [] ∨ 900 < z + 1 then none
    else if (skipW rest).takeWhile okByte ≠ [] then some (.mk ⟨((skipW rest).takeWhile okByte).toArray⟩ [], (skipW rest).dropWhile okByte, z + 1)
    else if (skipW rest).head? ≠ some 40 ∨ d = 14 then none
    else readL n (skipW rest).tail (d + 1) (z + 1) []
def readL : Nat → List UInt8 → Nat → Nat → List SX → Option (SX × List UInt8 × Nat)
  | 0, _, _, _, _ => none
  | n + 1, rest, d, z, acc =>
    if (skipW rest).head? = some 41 then some (.mk ByteArray.empty acc, (skipW rest).tail, z)
    else match readX n (skipW rest) d z with
      | none => none
      | some (y, rest', z') => readL n rest' d z' (acc ++ [y])
end

theorem skipW_head {l : List UInt8} {c : UInt8} (h : (skipW l).head? = some c) : isW c = false := by
  induction l with
  | nil => simp [skipW] at h
  | cons a r ih =>
    cases ha : isW a with
    | true => rw [skipW_yes ha] at h; exact ih h
    | false => rw [skipW_no ha] at h; simp at h; subst h; exact ha
theorem skipW_idem (l : List UInt8) : skipW (skipW l) = skipW l := by
  cases h : skipW l with
  | nil => rfl
  | cons a r => exact skipW_no (skipW_head (l := l) (by rw [h]; rfl))

mutual
theorem readX_less : ∀ (n : Nat) (rest : List UInt8) (d z : Nat) {x : SX} {r : List UInt8} {z' : Nat}, readX n rest d z = some (x, r, z') → r.length < rest.length
  | 0, _, _, _, _, _, _, h => by rw [readX] at h; cases h
  | n + 1, rest, d, z, x, r, z', h => by
    rw [readX] at h
    have hl := skipW_le rest
    split at h
    · cases h
    · split at h
      · rename_i h1 h2
        injection h with h; injection h with h h'; injection h' with h' h''
        subst h'
        have e := congrArg List.length (List.takeWhile_append_dropWhile (p := okByte) (l := skipW rest))
        rw [List.length_append] at e
        have := List.length_pos_iff.2 h2
        omega
      · split at h
        · cases h
        · rename_i h1 _ _
          have := readL_less n _ _ _ _ h
          have h3 : skipW rest ≠ [] := fun e => h1 (.inl e)
          have := List.length_pos_iff.2 h3
          rw [List.length_tail] at *
          omega
theorem readL_less : ∀ (n : Nat) (rest : List UInt8) (d z : Nat) (acc : List SX) {x : SX} {r : List UInt8} {z' : Nat}, readL n rest d z acc = some (x, r, z') → r.length < rest.length
  | 0, _, _, _, _, _, _, _, h => by rw [readL] at h; cases h
  | n + 1, rest, d, z, acc, x, r, z', h => by
    rw [readL] at h
    have hl := skipW_le rest
    split at h
    · rename_i h1
      injection h with h; injection h with h h'; injection h' with h' h''
      subst h'
      have h3 : skipW rest ≠ [] := fun e => by rw [e] at h1; cases h1
      have := List.length_pos_iff.2 h3
      rw [List.length_tail]
      omega
    · split at h
      · cases h
      · rename_i h1
        have := readX_less n _ _ _ h1
        have := readL_less n _ _ _ _ h
        omega
end
end Go.Proofs.Ytbnfdjhcakimhaa
namespace Go.Proofs.Ytbnfdjhcakimhaa
open Go.RowKit

def EqX (N : Nat) : Prop := ∀ (x : SX) (A B : Option Addr) (c d : Nat) (w : World), x.nodes ≤ N → x.wt ≤ 1048576 → ListAt w (Lt w.heap.size) A x.list → ListAt w (Lt w.heap.size) B x.list →
  Calls Try.prog 32 #[.agg #[.string x.atom, .slice A x.list.length c], .agg #[.string x.atom, .slice B x.list.length d]] w fun e w' => e = .returned (.bool true) ∧ Below w.heap.size w w'
def EqL (N : Nat) : Prop := ∀ (l : List SX) (A B : Option Addr) (c d : Nat) (w : World), SX.nodesL l ≤ N → SX.wtL l ≤ 1048576 → ListAt w (Lt w.heap.size) A l → ListAt w (Lt w.heap.size) B l →
  Calls Try.prog 62 #[.slice A l.length c, .slice B l.length d] w fun e w' => e = .returned (.bool true) ∧ Below w.heap.size w w'

set_option maxRecDepth 100000 in
set_option maxHeartbeats 1000000 in
theorem eqX_step (N : Nat) (ih : EqL N) : EqX (N + 1) := by
  intro x A B c d w hn hw hA hB
  have hn' : SX.nodesL x.list ≤ N := by rw [SX.nodes_eq] at hn; omega
  have hw' : SX.wtL x.list ≤ 1048576 := by rw [SX.wt_eq] at hw; omega
  have hb2 : Below w.heap.size w ((w.alloc (.cells #[.string x.atom, .slice A x.list.length c] 26)).alloc (.cells #[.string x.atom, .slice B x.list.length d] 26)) :=
    ((Below.refl _ _).alloc (Nat.le_refl _) _).alloc (by simp) _
  have HA := Lib.hid (hA.grow hb2)
  have HB := Lib.hid (hB.grow hb2)
  clear hn hw hA hB
  go_enter Try.func32, Try.ntmps32
  go_wp2_with fail
  refine (ih x.list A B c d _ hn' hw' HA.out HB.out).mono ?_
  rintro e w1 ⟨rfl, hb1⟩
  have hb : Below w.heap.size w w1 := hb2.trans (hb1.mono hb2.size)
  go_wp2
  go_ret
  exact ⟨rfl, hb⟩

set_option maxRecDepth 100000 in
set_option maxHeartbeats 1000000 in
theorem eqL_step (N : Nat) (ih : EqX N) : EqL N := by
  intro l A B c d w hn hw hA hB
  have hlen := SX.wtL_length l
  have HA := Lib.hid hA
  have HB := Lib.hid hB
  have HN := Lib.hid hn
  have HW := Lib.hid hw
  clear hn hA hB
  go_enter Try.func62, Try.ntmps62
  go_wp2
  go_loopw [5] (fun iv wr => ∃ k : Nat, k ≤ l.length ∧ iv = .int .i64 k ∧ Below w.heap.size w wr) (fun iv _ => l.length - (Go.RowKit.intOf iv).toNat)
  case atStart => exact ⟨0, Nat.zero_le _, rfl, Below.refl _ _⟩
  case round =>
    obtain ⟨k, hk, rfl, hb⟩ := hrel
    by_cases hlt : k < l.length
    · obtain ⟨b, o, A', c', rfl, hP, hc0, hc1, hl'⟩ := (HA.out.below hb).at_ hlt
      obtain ⟨b2, o2, B', d', rfl, hP2, hd0, hd1, hm'⟩ := (HB.out.below hb).at_ hlt
      have hx := hl'.frame (Q := Lt wr.heap.size) (fun _ h => Nat.lt_of_lt_of_le h hb.size) (fun _ _ _ => rfl)
      have hy := hm'.frame (Q := Lt wr.heap.size) (fun _ h => Nat.lt_of_lt_of_le h hb.size) (fun _ _ _ => rfl)
      have hnx := Nat.le_trans (SX.nodesL_at l k hlt) HN.out
      have hwx : l[k].wt ≤ 1048576 := by have := SX.wtL_at l k hlt; omega
      have cE : ∀ dr os, Calls Try.prog 32 #[.agg #[.string l[k].atom, .slice A' l[k].list.length c'], .agg #[.string l[k].atom, .slice B' l[k].list.length d']] (Go.Sort.grow (redrawn wr dr) os) fun e w'' => e = .returned (.bool true) ∧ ∃ p : Regrown, w'' = Go.Sort.grow (redrawn wr p.d) p.os :=
        fun dr os => Calls.regrown_of (ih l[k] A' B' c' d' _ hnx hwx (hx.grow (below_regrown wr dr os)) (hy.grow (below_regrown wr dr os)))
      have k0 := cell_regrown hc0
      have k1 := cell_regrown hc1
      have k2 := cell_regrown hd0
      have k3 := cell_regrown hd1
      have hk0 : (0 : Int) ≤ k := by omega
      clear hx hy hl' hm' hnx
      go_wp2
      refine wp_region_quiet_below (by kernel_rfl) (by kernel_rfl) ?_
      repeat (quiet_step (exact cE _ _))
      refine wpQuiet_nil ?_
      intro _ hw'
      obtain ⟨⟨dq, osq⟩, hw''⟩ := hw'
      subst hw''
      have hb3 := hb.trans ((below_regrown wr dq osq).mono hb.size)
      clear cE k0 k1 k2 k3
      go_wp2
      go_roundw
      case rel => exact ⟨k + 1, by omega, by go_num, hb3⟩
      case measure => simp [Go.RowKit.intOf]; omega
    · go_wp2
      go_ret
      exact ⟨rfl, hb⟩

theorem eqAll : ∀ N, EqX N ∧ EqL N
  | 0 => by
    have hx : EqX 0 := fun x A B c d w hn => by rw [SX.nodes_eq] at hn; omega
    exact ⟨hx, eqL_step 0 hx⟩
  | N + 1 => ⟨eqX_step N (eqAll N).2, eqL_step (N + 1) (eqX_step N (eqAll N).2)⟩
theorem eqX (x : SX) (A B : Option Addr) (c d : Nat) (w : World) (hw : x.wt ≤ 1048576) (hA : ListAt w (Lt w.heap.size) A x.list) (hB : ListAt w (Lt w.heap.size) B x.list) :
    Calls Try.prog 32 #[.agg #[.string x.atom, .slice A x.list.length c], .agg #[.string x.atom, .slice B x.list.length d]] w fun e w' => e = .returned (.bool true) ∧ Below w.heap.size w w' :=
  (eqAll x.nodes).1 x A B c d w (Nat.le_refl _) hw hA hB
end Go.Proofs.Ytbnfdjhcakimhaa
namespace Go.Proofs.Ytbnfdjhcakimhaa
open Go.RowKit

theorem cells3 {w : World} {g : Nat} {t : TypeId} {a b c : Value} (h : Whole w g t #[a, b, c]) : w.cell? ⟨g, 0, none⟩ = some a ∧ w.cell? ⟨g, 1, none⟩ = some b ∧ w.cell? ⟨g, 2, none⟩ = some c :=
  ⟨by rw [h.cell]; rfl, by rw [h.cell]; rfl, by rw [h.cell]; rfl⟩
theorem whole_keep {w w' : World} {g : Nat} {t : TypeId} {cs : Array Value} (h : Whole w g t cs) (hb : Below w.heap.size w w') : Whole w' g t cs := h.below hb h.lt
end Go.Proofs.Ytbnfdjhcakimhaa
namespace Go.Proofs.Ytbnfdjhcakimhaa
open Go.RowKit Go.Lib

inductive Tok where
  | lp | rp | bad
  | word (l : List UInt8)
/-- A word that has ended; a byte that is none of a word. -/
def fl (l : List UInt8) : List Tok := if l = [] then [] else [.word l]
def mk1 (c : UInt8) : List Tok := if isW c then [] else if c = 40 then [.lp] else if c = 41 then [.rp] else [.bad]
/-- The tokens, a word under way. -/
def tk : List UInt8 → List UInt8 → List Tok
  | pend, [] => fl pend
  | pend, c :: r => if okByte c then tk (pend ++ [c]) r else fl pend ++ (mk1 c ++ tk [] r)
def tok (l : List UInt8) : List Tok := tk [] l
theorem fl_nil : fl [] = [] := rfl
theorem fl_some {l : List UInt8} (h : l ≠ []) : fl l = [.word l] := if_neg h
theorem tk_ok {pend r : List UInt8} {c : UInt8} (h : okByte c = true) : tk pend (c :: r) = tk (pend ++ [c]) r := by rw [tk, if_pos h]
theorem tk_no {pend r : List UInt8} {c : UInt8} (h : okByte c = false) : tk pend (c :: r) = fl pend ++ (mk1 c ++ tk [] r) := by rw [tk, if_neg (by rw [h]; decide)]
theorem tok_nil : tok [] = [] := rfl
theorem tk_word : ∀ (l pend : List UInt8), tk pend l = fl (pend ++ l.takeWhile okByte) ++ tok (l.dropWhile okByte)
  | [], pend => by simp [tk, tok, fl]
  | c :: r, pend => by
    cases h : okByte c with
    | true => rw [tk_ok h, tk_word r (pend ++ [c]), List.takeWhile_cons, if_pos h, List.dropWhile_cons, if_pos h]; simp
    | false => rw [List.takeWhile_cons, if_neg (by rw [h]; decide), List.dropWhile_cons, if_neg (by rw [h]; decide), tok, tk_no h, tk_no h]; simp [fl_nil]
/-- Cut at a byte that is none of a word. -/
theorem tk_cut {c : UInt8} (h : okByte c = false) : ∀ (l pend r : List UInt8), tk pend (l ++ c :: r) = tk pend l ++ (mk1 c ++ tok r)
  | [], pend, r => by rw [List.nil_append, tk_no h]; rfl
  | d :: l, pend, r => by
    cases hd : okByte d with
    | true => rw [List.cons_append, tk_ok hd, tk_ok hd, tk_cut h l _ r]
    | false => rw [List.cons_append, tk_no hd, tk_no hd, tk_cut h l [] r]; simp
theorem white_no {c : UInt8} (h : isW c = true) : okByte c = false := by
  rw [isW, Bool.or_eq_true, beq_iff_eq, beq_iff_eq] at h
  rcases h with rfl | rfl <;> rfl
theorem mk1_white {c : UInt8} (h : isW c = true) : mk1 c = [] := if_pos h
theorem tok_skip : ∀ (l : List UInt8), tok (skipW l) = tok l
  | [] => rfl
  | c :: r => by
    cases h : isW c with
    | true => rw [skipW_yes h, tok_skip r]; conv => rhs; rw [tok, tk_no (white_no h), mk1_white h]
              rfl
    | false => rw [skipW_no h]
theorem mk1_not {c : UInt8} (h : isW c = false) : mk1 c ≠ [] := by
  rw [mk1, if_neg (by rw [h]; decide)]
  split
  · simp
  · split <;> simp
theorem tok_end {l : List UInt8} (h : tok l = []) : skipW l = [] := by
  rw [← tok_skip] at h
  cases hs : skipW l with
  | nil => rfl
  | cons c r =>
    have hw := skipW_head (l := l) (c := c) (by rw [hs]; rfl)
    rw [hs] at h
    cases hc : okByte c with
    | true =>
      rw [tok, tk_ok hc, tk_word] at h
      rw [fl_some (by simp)] at h
      simp at h
    | false =>
      rw [tok, tk_no hc, fl_nil] at h
      simp at h
      exact absurd h.1 (mk1_not hw)

mutual
/-- An expression's tokens. -/
def xt : SX → List Tok
  | .mk a l => if a.size = 0 then .lp :: (xtL l ++ [.rp]) else [.word a.data.toList]
def xtL : List SX → List Tok
  | [] => []
  | x :: r => xt x ++ xtL r
end
theorem xt_list {a : ByteArray} {l : List SX} (h : a.size = 0) : xt (.mk a l) = .lp :: (xtL l ++ [.rp]) := by rw [xt, if_pos h]
theorem xt_word {a : ByteArray} {l : List SX} (h : ¬ a.size = 0) : xt (.mk a l) = [.word a.data.toList] := by rw [xt, if_neg h]
theorem xtL_snoc : ∀ (l : List SX) (x : SX), xtL (l ++ [x]) = xtL l ++ xt x
  | [], x => by simp [xtL]
  | y :: r, x => by rw [List.cons_append, xtL, xtL, xtL_snoc r x, List.append_assoc]
theorem xt_head (x : SX) : ∃ t ts, xt x = t :: ts ∧ t ≠ .rp := by
  cases x with
  | mk a l =>
    by_cases h : a.size = 0
    · exact ⟨.lp, _, xt_list h, by simp⟩
    · exact ⟨_, [], xt_word h, by simp⟩
/-- What a first token says of the text. -/
theorem tok_lp {l : List UInt8} {ts : List Tok} (h : tok l = .lp :: ts) : ∃ r, skipW l = 40 :: r ∧ tok r = ts := by
  rw [← tok_skip] at h
  cases hs : skipW l with
  | nil => rw [hs] at h; simp [tok_nil] at h
  | cons c r =>
    have hw := skipW_head (l := l) (c := c) (by rw [hs]; rfl)
    rw [hs] at h
    cases hc : okByte c with
    | true =>
      rw [tok, tk_ok hc, tk_word, fl_some (by simp)] at h
      simp at h
    | false =>
      rw [tok, tk_no hc, fl_nil, List.nil_append, mk1, if_neg (by rw [hw]; decide)] at h
      by_cases h40 : c = 40
      · subst h40
        simp at h
        exact ⟨r, rfl, h⟩
      · rw [if_neg h40] at h
        split at h <;> simp at h
theorem tok_rp {l : List UInt8} {ts : List Tok} (h : tok l = .rp :: ts) : ∃ r, skipW l = 41 :: r ∧ tok r = ts := by
  rw [← tok_skip] at h
  cases hs : skipW l with
  | nil => rw [hs] at h; simp [tok_nil] at h
  | cons c r =>
    have hw := skipW_head (l := l) (c := c) (by rw [hs]; rfl)
    rw [hs] at h
    cases hc : okByte c with
    | true =>
      rw [tok, tk_ok hc, tk_word, fl_some (by simp)] at h
      simp at h
    | false =>
      rw [tok, tk_no hc, fl_nil, List.nil_append, mk1, if_neg (by rw [hw]; decide)] at h
      by_cases h40 : c = 40
      · subst h40
        simp at h
      · rw [if_neg h40] at h
        by_cases h41 : c = 41
        · subst h41
          simp at h
          exact ⟨r, rfl, h⟩
        · rw [if_neg h41] at h
          simp at h
theorem tok_word {l a : List UInt8} {ts : List Tok} (h : tok l = .word a :: ts) : (skipW l).takeWhile okByte = a ∧ a ≠ [] ∧ tok ((skipW l).dropWhile okByte) = ts := by
  rw [← tok_skip, tok, tk_word, List.nil_append] at h
  by_cases he : (skipW l).takeWhile okByte = []
  · rw [he, fl_nil, List.nil_append] at h
    cases hs : skipW l with
    | nil => rw [hs] at h; simp [tok_nil] at h
    | cons c r =>
      have hw := skipW_head (l := l) (c := c) (by rw [hs]; rfl)
      have hc : okByte c = false := by
        cases hc : okByte c with
        | false => rfl
        | true => rw [hs, List.takeWhile_cons, if_pos hc] at he; simp at he
      rw [hs, List.dropWhile_cons, if_neg (by rw [hc]; decide), tok, tk_no hc, fl_nil, List.nil_append, mk1, if_neg (by rw [hw]; decide)] at h
      split at h
      · simp at h
      · split at h <;> simp at h
  · rw [fl_some he] at h
    simp at h
    exact ⟨h.1, by rw [← h.1]; exact he, h.2⟩
theorem tok_of_lp {l r : List UInt8} (h : skipW l = 40 :: r) : tok l = .lp :: tok r := by
  rw [← tok_skip, h, tok, tk_no (by rfl), fl_nil]; rfl
theorem tok_of_rp {l r : List UInt8} (h : skipW l = 41 :: r) : tok l = .rp :: tok r := by
  rw [← tok_skip, h, tok, tk_no (by rfl), fl_nil]; rfl
theorem tok_of_word {l : List UInt8} (h : (skipW l).takeWhile okByte ≠ []) : tok l = .word ((skipW l).takeWhile okByte) :: tok ((skipW l).dropWhile okByte) := by
  rw [← tok_skip, tok, tk_word, List.nil_append, fl_some h]; rfl
end Go.Proofs.Ytbnfdjhcakimhaa
namespace Go.Proofs.Ytbnfdjhcakimhaa
open Go.RowKit

def letterR (r : Int) : Bool := decide (97 ≤ r) && decide (r ≤ 122)
def digitR (r : Int) : Bool := decide (48 ≤ r) && decide (r ≤ 57)

set_option maxRecDepth 100000 in
theorem letterIs (r : Int) (w : World) : Calls Try.prog 69 #[.int .i32 r] w fun e w' => e = .returned (.bool (letterR r)) ∧ w = w' := by
  by_cases h1 : 97 ≤ r
  all_goals (
    go_enter Try.func69, Try.ntmps69
    go_wp2
    go_ret
    refine ⟨congrArg (fun b => Ending.returned (.bool b)) ?_, rfl⟩
    (simp [letterR, h1]; try omega))
set_option maxRecDepth 100000 in
theorem digitIs (r : Int) (w : World) : Calls Try.prog 70 #[.int .i32 r] w fun e w' => e = .returned (.bool (digitR r)) ∧ w = w' := by
  by_cases h1 : 48 ≤ r
  all_goals (
    go_enter Try.func70, Try.ntmps70
    go_wp2
    go_ret
    refine ⟨congrArg (fun b => Ending.returned (.bool b)) ?_, rfl⟩
    (simp [digitR, h1]; try omega))
end Go.Proofs.Ytbnfdjhcakimhaa
namespace Go.Proofs.Ytbnfdjhcakimhaa
open Go.RowKit

/-- A rune of an atom. -/
def okRune (r : Int) : Bool := (decide (97 ≤ r) && decide (r ≤ 122)) || (decide (48 ≤ r) && decide (r ≤ 57)) || (r == 39) || (r == 45) || (r == 43) || (r == 42) || (r == 60) || (r == 61) || (r == 46)
theorem okRune_iff (r : Int) : okRune r = true ↔ (97 ≤ r ∧ r ≤ 122) ∨ (48 ≤ r ∧ r ≤ 57) ∨ r = 39 ∨ r = 45 ∨ r = 43 ∨ r = 42 ∨ r = 60 ∨ r = 61 ∨ r = 46 := by
  simp only [okRune, Bool.or_eq_true, Bool.and_eq_true, decide_eq_true_eq, beq_iff_eq, or_assoc]
theorem okByte_iff (c : UInt8) : okByte c = true ↔ (97 ≤ c.toNat ∧ c.toNat ≤ 122) ∨ (48 ≤ c.toNat ∧ c.toNat ≤ 57) ∨ c.toNat = 39 ∨ c.toNat = 45 ∨ c.toNat = 43 ∨ c.toNat = 42 ∨ c.toNat = 60 ∨ c.toNat = 61 ∨ c.toNat = 46 := by
  simp only [okByte, Bool.or_eq_true, Bool.and_eq_true, decide_eq_true_eq, beq_iff_eq, or_assoc]
theorem okRune_byte (c : UInt8) : okRune (c.toNat : Int) = okByte c := by
  rw [Bool.eq_iff_iff, okRune_iff, okByte_iff]; omega
theorem okRune_high {r : Int} (h : 128 ≤ r) : okRune r = false := by
  rw [← Bool.not_eq_true, okRune_iff]; omega
theorem decode_ok {s : ByteArray} {k : Nat} (h : k < s.size) (hc : okByte s[k] = true) : Utf8.decode s k = (s[k].toNat, 1) :=
  decode_ascii s k h (by rw [okByte_iff] at hc; omega)
theorem decode_bad {s : ByteArray} {k : Nat} (h : k < s.size) (hc : okByte s[k] = false) : okRune ((Utf8.decode s k).1 : Int) = false := by
  by_cases ha : s[k].toNat < 128
  · rw [decode_ascii s k h ha, okRune_byte]; exact hc
  · exact okRune_high (by have := (decode_high s k h (by omega)).1; omega)

set_option maxRecDepth 100000 in
set_option maxHeartbeats 1000000 in
theorem runeIs (r : Int) (w : World) : Calls Try.prog 38 #[.int .i32 r] w fun e w' => e = .returned (.bool (okRune r)) ∧ w = w' := by
  by_cases hs : r = 39 ∨ r = 45 ∨ r = 43 ∨ r = 42 ∨ r = 60 ∨ r = 61 ∨ r = 46
  · rcases hs with rfl | rfl | rfl | rfl | rfl | rfl | rfl
    all_goals (
      go_enter Try.func38, Try.ntmps38
      go_wp2
      go_ret
      exact ⟨rfl, rfl⟩)
  · have hok : okRune r = (letterR r || digitR r) := by
      rw [Bool.eq_iff_iff, okRune_iff]
      simp only [letterR, digitR, Bool.or_eq_true, Bool.and_eq_true, decide_eq_true_eq]
      omega
    have HOK := Lib.hid hok
    clear hok
    simp only [not_or] at hs
    obtain ⟨h1, h2, h3, h4, h5, h6, h7⟩ := hs
    have q1 : (r == 39) = false := by simpa using h1
    have q2 : (r == 45) = false := by simpa using h2
    have q3 : (r == 43) = false := by simpa using h3
    have q4 : (r == 42) = false := by simpa using h4
    have q5 : (r == 60) = false := by simpa using h5
    have q6 : (r == 61) = false := by simpa using h6
    have q7 : (r == 46) = false := by simpa using h7
    cases hl : letterR r with
    | true =>
      have HL := Lib.hid hl
      clear hl
      go_enter Try.func38, Try.ntmps38
      go_wp2_with fail
      refine (letterIs _ _).mono ?_
      rw [HL.out]
      rintro e w1 ⟨rfl, rfl⟩
      go_wp2
      go_ret
      exact ⟨congrArg (fun b => Ending.returned (.bool b)) (by rw [HOK.out, HL.out]; rfl), rfl⟩
    | false =>
      have HL := Lib.hid hl
      clear hl
      go_enter Try.func38, Try.ntmps38
      go_wp2_with fail
      refine (letterIs _ _).mono ?_
      rw [HL.out]
      rintro e w1 ⟨rfl, rfl⟩
      go_wp2_with fail
      refine (digitIs _ _).mono ?_
      rintro e w1 ⟨rfl, rfl⟩
      go_wp2
      go_ret
      exact ⟨congrArg (fun b => Ending.returned (.bool b)) (by rw [HOK.out, HL.out]; rfl), rfl⟩
end Go.Proofs.Ytbnfdjhcakimhaa
namespace Go.Proofs.Ytbnfdjhcakimhaa
open Go.RowKit

theorem okAtom_short {s : ByteArray} (h : ¬ (1 ≤ s.size ∧ s.size ≤ 12)) : okAtom s = false := by rw [okAtom, decide_eq_false h, Bool.and_false]
theorem okAtom_all {s : ByteArray} (h : 1 ≤ s.size ∧ s.size ≤ 12) (ha : s.data.toList.all okByte = true) : okAtom s = true := by rw [okAtom, decide_eq_true h, ha]; rfl

set_option maxRecDepth 100000 in
set_option maxHeartbeats 1000000 in
theorem implAtom (s : ByteArray) (w : World) (hs : s.size ≤ 9223372036854775807) : Calls Try.prog 29 #[.string s] w fun e w' => e = .returned (.bool (okAtom s)) ∧ Below w.heap.size w w' := by
  by_cases h1 : 1 ≤ s.size ∧ s.size ≤ 12
  · have hall := @okAtom_all s h1
    have HA := Lib.hid hall
    clear hall
    obtain ⟨h2, h3⟩ := h1
    go_enter Try.func29, Try.ntmps29
    go_wp2
    go_loopw [] (fun wr => ∃ k : Nat, k ≤ s.size ∧ (s.data.toList.take k).all okByte = true ∧ wr = w.iter s k) (fun wr => s.size - wr.iterPos w.heap.size)
    case atStart => exact ⟨0, Nat.zero_le _, rfl, rfl⟩
    case round =>
      obtain ⟨k, hk, ha, rfl⟩ := hrel
      have HT := Lib.hid ha
      clear ha
      have hb : Below w.heap.size w (w.iter s k) := (Below.refl _ _).alloc (Nat.le_refl _) _
      by_cases hlt : k < s.size
      · cases hc : okByte s[k] with
        | true =>
          have hst := all_take_snoc s k hlt
          rw [HT.out, hc] at hst
          have hd := decode_ok hlt hc
          have hnx := fun ty => run_next_any (P := Try.prog) w s k ty hlt
          rw [hd] at hnx
          have ho : okRune (s[k].toNat : Int) = true := by rw [okRune_byte, hc]
          have HS := Lib.hid hst
          have HO := Lib.hid ho
          clear hst hd hc ho
          go_wp2_with fail
          refine (runeIs _ _).mono ?_
          rintro e w1 ⟨rfl, rfl⟩
          rw [HO.out]
          go_wp2
          go_roundw
          case rel => exact ⟨k + 1, by omega, HS.out, rfl⟩
          case measure => simp; omega
        | false =>
          have hno := all_not hlt hc
          have hd := decode_bad hlt hc
          have hnx := fun ty => run_next_any (P := Try.prog) w s k ty hlt
          have hw1 : ∀ j, Below w.heap.size w (w.iter s j) := fun j => (Below.refl _ _).alloc (Nat.le_refl _) _
          have HN := Lib.hid hno
          have HD := Lib.hid hd
          clear hno hd hc
          go_wp2_with fail
          refine (runeIs _ _).mono ?_
          rintro e w1 ⟨rfl, rfl⟩
          rw [HD.out]
          go_wp2
          go_ret
          exact ⟨congrArg (fun b => Ending.returned (.bool b)) HN.out.symm, hw1 _⟩
      · have hkl : k = s.size := by omega
        subst hkl
        have hall : s.data.toList.all okByte = true := by have := HT.out; rw [List.take_of_length_le (by simp)] at this; exact this
        have hok := HA.out hall
        have HK := Lib.hid hok
        clear hok hall
        have hnx := fun ty => run_next_end (P := Try.prog) w s s.size ty (Nat.lt_irrefl _)
        go_wp2
        go_ret
        exact ⟨congrArg (fun b => Ending.returned (.bool b)) HK.out.symm, hb⟩
  · have hno := okAtom_short h1
    have HN := Lib.hid hno
    clear hno
    by_cases h2 : s.size < 1
    · go_enter Try.func29, Try.ntmps29
      go_wp2
      go_ret
      exact ⟨congrArg (fun b => Ending.returned (.bool b)) HN.out.symm, Below.refl _ _⟩
    · have h3 : 12 < s.size := by omega
      clear h1
      go_enter Try.func29, Try.ntmps29
      go_wp2
      go_ret
      exact ⟨congrArg (fun b => Ending.returned (.bool b)) HN.out.symm, Below.refl _ _⟩
end Go.Proofs.Ytbnfdjhcakimhaa
namespace Go.Proofs.Ytbnfdjhcakimhaa
open Go.RowKit Go.Lib

mutual
def SX.same : SX → SX → Bool
  | .mk a l, .mk b m => decide (a = b) && decide (l.length = m.length) && SX.sameL l m
def SX.sameL : List SX → List SX → Bool
  | [], _ => true
  | _ :: _, [] => true
  | x :: r, y :: s => x.same y && SX.sameL r s
end
theorem SX.same_eq (x y : SX) : x.same y = (decide (x.atom = y.atom) && decide (x.list.length = y.list.length) && SX.sameL x.list y.list) := by cases x; cases y; rw [SX.same]; rfl
theorem SX.sameL_take : ∀ (l m : List SX) (j : Nat) (h : j < l.length) (h' : j < m.length), SX.sameL (l.take (j + 1)) (m.take (j + 1)) = (SX.sameL (l.take j) (m.take j) && l[j].same m[j])
  | x :: r, y :: s, 0, _, _ => by simp [SX.sameL]
  | x :: r, y :: s, j + 1, h, h' => by
    have := SX.sameL_take r s j (by simpa using h) (by simpa using h')
    rw [List.take_succ_cons, List.take_succ_cons, List.take_succ_cons, List.take_succ_cons, SX.sameL, SX.sameL, this]
    simp [Bool.and_assoc]
theorem SX.sameL_false : ∀ (l m : List SX) (j : Nat) (h : j < l.length) (h' : j < m.length), l[j].same m[j] = false → SX.sameL l m = false
  | x :: r, y :: s, 0, _, _, hf => by rw [SX.sameL]; simp at hf; rw [hf]; rfl
  | x :: r, y :: s, j + 1, h, h', hf => by rw [SX.sameL, SX.sameL_false r s j (by simpa using h) (by simpa using h') (by simpa using hf), Bool.and_false]
mutual
theorem SX.same_iff : ∀ (x y : SX), x.same y = true ↔ x = y
  | .mk a l, .mk b m => by
    rw [SX.same, Bool.and_eq_true, Bool.and_eq_true, decide_eq_true_eq, decide_eq_true_eq, SX.mk.injEq]
    constructor
    · rintro ⟨⟨h1, h2⟩, h3⟩; exact ⟨h1, (SX.sameL_iff l m h2).1 h3⟩
    · rintro ⟨h1, h2⟩; subst h2; exact ⟨⟨h1, rfl⟩, (SX.sameL_iff l l rfl).2 rfl⟩
theorem SX.sameL_iff : ∀ (l m : List SX), l.length = m.length → (SX.sameL l m = true ↔ l = m)
  | [], m, h => by rw [SX.sameL]; simp; exact List.eq_nil_of_length_eq_zero h.symm
  | x :: r, [], h => by simp at h
  | x :: r, y :: s, h => by rw [SX.sameL, Bool.and_eq_true, SX.same_iff x y, SX.sameL_iff r s (by simpa using h), List.cons.injEq]
end

theorem bytes_ne {a b : ByteArray} (h : a ≠ b) : (a.toList == b.toList) = false := by
  rw [beq_eq_false_iff_ne]
  intro e
  rw [ByteArray.toList_eq, ByteArray.toList_eq] at e
  exact h (ByteArray.ext (Array.toList_inj.1 e))
/-- Two boxed parameters, and what the loop reads of them. -/
theorem boxed2 {w wr : World} {t : TypeId} {a a' : ByteArray} {A A' : Option Addr} {n c n' c' : Nat}
    (hb : Below (w.heap.size + 2) ((w.alloc (.cells #[.string a, .slice A n c] t)).alloc (.cells #[.string a', .slice A' n' c'] t)) wr) :
    wr.cell? ⟨w.heap.size, 0, none⟩ = some (.string a) ∧ wr.cell? ⟨w.heap.size, 1, none⟩ = some (.slice A n c) ∧
    wr.cell? ⟨w.heap.size + 1, 0, none⟩ = some (.string a') ∧ wr.cell? ⟨w.heap.size + 1, 1, none⟩ = some (.slice A' n' c') ∧ Below w.heap.size w wr := by
  have hw : Below (w.heap.size + 1) (w.alloc (.cells #[.string a, .slice A n c] t)) wr := ((Below.refl _ _).alloc (by simp) _).trans (hb.mono (by omega))
  obtain ⟨h0, h1, h2⟩ := boxed (hw.mono (by simp))
  have h := (Whole.new (w.alloc (.cells #[.string a, .slice A n c] t)) t #[.string a', .slice A' n' c']).below hb (by simp)
  rw [World.size_alloc] at h
  exact ⟨h0, h1, by rw [h.cell]; rfl, by rw [h.cell]; rfl, h2⟩

def SameX (N : Nat) : Prop := ∀ (x y : SX) (A B : Option Addr) (c d : Nat) (w : World), x.nodes ≤ N → x.nodes ≤ 4294967296 → y.nodes ≤ 4294967296 → ListAt w (Lt w.heap.size) A x.list → ListAt w (Lt w.heap.size) B y.list →
  Calls Try.prog 20 #[.agg #[.string x.atom, .slice A x.list.length c], .agg #[.string y.atom, .slice B y.list.length d]] w fun e w' => e = .returned (.bool (x.same y)) ∧ Below w.heap.size w w'

set_option maxRecDepth 100000 in
set_option maxHeartbeats 2000000 in
theorem sameX : ∀ N, SameX N
  | 0 => fun x y A B c d w hn => by rw [SX.nodes_eq] at hn; omega
  | N + 1 => by
    intro x y A B c d w hn hmx hmy hA hB
    have ih := sameX N
    have hne := SX.nodes_eq x
    have hny := SX.nodes_eq y
    have hlx := SX.nodesL_length x.list
    have hly := SX.nodesL_length y.list
    have hxl : x.list.length ≤ 4294967296 := by omega
    have hyl : y.list.length ≤ 4294967296 := by omega
    have hsq := SX.same_eq x y
    have hb2 : Below w.heap.size w ((w.alloc (.cells #[.string x.atom, .slice A x.list.length c] 26)).alloc (.cells #[.string y.atom, .slice B y.list.length d] 26)) :=
      ((Below.refl _ _).alloc (Nat.le_refl _) _).alloc (by simp) _
    have HA := Lib.hid hA
    have HB := Lib.hid hB
    have HE := Lib.hid hne
    have HF := Lib.hid hny
    clear hA hB hne hny
    by_cases hat : x.atom = y.atom
    case neg =>
      rw [decide_eq_false hat, Bool.false_and, Bool.false_and] at hsq
      have HS := Lib.hid hsq
      have hq := bytes_ne hat
      clear hsq hat
      go_enter Try.func20, Try.ntmps20
      go_wp2
      go_ret
      exact ⟨congrArg (fun b => Ending.returned (.bool b)) HS.out.symm, hb2⟩
    case pos =>
      rw [decide_eq_true hat, Bool.true_and] at hsq
      by_cases hlen : x.list.length = y.list.length
      · rw [decide_eq_true hlen, Bool.true_and] at hsq
        have HS := Lib.hid hsq
        have HL := Lib.hid hlen
        rw [hat, ← hlen]
        clear hsq hat hlen
        go_enter Try.func20, Try.ntmps20
        go_wp2
        go_loopw [5] (fun iv wr => ∃ k : Nat, k ≤ x.list.length ∧ iv = .int .i64 k ∧ SX.sameL (x.list.take k) (y.list.take k) = true ∧ Below (w.heap.size + 2) ((w.alloc (.cells #[.string y.atom, .slice A x.list.length c] 26)).alloc (.cells #[.string y.atom, .slice B x.list.length d] 26)) wr) (fun iv _ => x.list.length - (Go.RowKit.intOf iv).toNat)
        case atStart => exact ⟨0, Nat.zero_le _, rfl, by simp [SX.sameL], Below.refl _ _⟩
        case round =>
          obtain ⟨k, hk, rfl, hs, hb⟩ := hrel
          obtain ⟨a0, a1, c0, c1, hbw⟩ := boxed2 hb
          have hbs : w.heap.size + 2 ≤ wr.heap.size := by simpa using hb.size
          have HT := Lib.hid hs
          clear hs
          by_cases hlt : k < x.list.length
          · have hlt2 : k < y.list.length := by have := HL.out; omega
            obtain ⟨b, o, A', c', rfl, hP, hc0, hc1, hl'⟩ := (HA.out.below hbw).at_ hlt
            obtain ⟨b2, o2, B', d', rfl, hP2, hd0, hd1, hm'⟩ := (HB.out.below hbw).at_ hlt2
            have hx := hl'.frame (Q := Lt wr.heap.size) (fun b h => Nat.lt_of_lt_of_le h hbw.size) (fun _ _ _ => rfl)
            have hy := hm'.frame (Q := Lt wr.heap.size) (fun b h => Nat.lt_of_lt_of_le h hbw.size) (fun _ _ _ => rfl)
            have hst := SX.sameL_take x.list y.list k hlt hlt2
            have hno := SX.sameL_false x.list y.list k hlt hlt2
            rw [HT.out, Bool.true_and] at hst
            have hnx : x.list[k].nodes ≤ N := by have := SX.nodesL_at x.list k hlt; have := HE.out; omega
            have hnm : x.list[k].nodes ≤ 4294967296 := by have := SX.nodesL_at x.list k hlt; have := HE.out; omega
            have hny : y.list[k].nodes ≤ 4294967296 := by have := SX.nodesL_at y.list k hlt2; have := HF.out; omega
            have cE : ∀ dr os, Calls Try.prog 20 #[.agg #[.string x.list[k].atom, .slice A' x.list[k].list.length c'], .agg #[.string y.list[k].atom, .slice B' y.list[k].list.length d']] (Go.Sort.grow (redrawn wr dr) os) fun e w'' => e = .returned (.bool (x.list[k].same y.list[k])) ∧ ∃ p : Regrown, w'' = Go.Sort.grow (redrawn wr p.d) p.os :=
              fun dr os => Calls.regrown_of (ih x.list[k] y.list[k] A' B' c' d' _ hnx hnm hny (hx.grow (below_regrown wr dr os)) (hy.grow (below_regrown wr dr os)))
            have k0 := cell_regrown hc0
            have k1 := cell_regrown hc1
            have k2 := cell_regrown hd0
            have k3 := cell_regrown hd1
            have k4 := cell_regrown a1
            have k5 := cell_regrown c1
            have hk0 : (0 : Int) ≤ k := by omega
            have HSt := Lib.hid hst
            have HNo := Lib.hid hno
            clear hx hy hl' hm' hnx hst hno
            go_wp2
            refine wp_region_quiet_below (by kernel_rfl) (by kernel_rfl) ?_
            repeat (quiet_step (exact cE _ _))
            refine wpQuiet_nil ?_
            intro _ hw'
            obtain ⟨⟨dq, osq⟩, hw''⟩ := hw'
            subst hw''
            have hb3 := hb.trans ((below_regrown wr dq osq).mono hbs)
            have hbw3 := hbw.trans ((below_regrown wr dq osq).mono hbw.size)
            clear cE k0 k1 k2 k3 k4 k5
            cases hc : x.list[k].same y.list[k] with
            | true =>
              have HC := Lib.hid hc
              clear hc
              go_wp2
              go_roundw
              case rel => exact ⟨k + 1, by omega, by go_num, by rw [HSt.out, HC.out], hb3⟩
              case measure => simp [Go.RowKit.intOf]; omega
            | false =>
              have HC := Lib.hid hc
              clear hc
              go_wp2
              go_ret
              exact ⟨congrArg (fun b => Ending.returned (.bool b)) (HS.out.trans (HNo.out HC.out)).symm, hbw3⟩
          · have hkl : k = x.list.length := by omega
            subst hkl
            have ht := HT.out
            rw [List.take_length, HL.out, List.take_length] at ht
            have HT' := Lib.hid ht
            clear ht
            go_wp2
            go_ret
            exact ⟨congrArg (fun b => Ending.returned (.bool b)) (HS.out.trans HT'.out).symm, hbw⟩
      · rw [decide_eq_false hlen, Bool.false_and] at hsq
        have HS := Lib.hid hsq
        have hlz : ((x.list.length : Int) == y.list.length) = false := by rw [beq_eq_false_iff_ne]; omega
        clear hsq
        rw [hat] at hb2 ⊢
        clear hat
        go_enter Try.func20, Try.ntmps20
        go_wp2
        go_ret
        exact ⟨congrArg (fun b => Ending.returned (.bool b)) HS.out.symm, hb2⟩
end Go.Proofs.Ytbnfdjhcakimhaa

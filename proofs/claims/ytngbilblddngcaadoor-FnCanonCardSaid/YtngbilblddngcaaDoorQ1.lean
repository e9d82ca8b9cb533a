/- Texts that the claims share, joined. -/
import Derived.WalkKit
import Derived.Laws.BytesArg
import Derived.Laws.OwnMore
import Derived.Tactics
import Derived.Maps.AppendAt
import Derived.OwnWalkIn
import Derived.Test.YtngbilblddngcaaDoorProg
import Derived.Outline
import Derived.Lib.Hide
import Derived.Laws.MakeOwn
import Derived.Laws.ResultCell
import Derived.Lib.QuietBelow
import Derived.BigQuiet
import Derived.Deep.RegionWith
import Derived.Deep.LoopGhost
import Derived.Deep.CutRange
import Derived.RegionTactic
import Derived.Maps.OwnOps
import Derived.Maps.Views
import Derived.Deep.QuietTactic
import Derived.Deep.RegionHeld3
import Derived.Laws.BitsLemmas
import Derived.IntWalk
import Derived.MapKept
import Derived.Lib.ItoaNum
import Derived.Lib.ItoaLen
namespace Go.Proofs.YtngbilblddngcaaDoor
open Go.RowKit

/-- A slice of one byte, just made, becomes the string of that byte. -/
theorem conv_one {P : Program} {src dst e : TypeId} (hs : P.underlying src = some (.slice e)) (he : P.underlying e = some (.int .u8)) (hd : P.underlying dst = some .string) (w : World) (z : Int) :
    (convert src dst (.slice (some ⟨w.heap.size, 0, none⟩) 1 1)).run P (w.alloc (.cells #[.int .u8 z] e)) = .ok (.string ⟨#[UInt8.ofNat z.toNat]⟩) (w.alloc (.cells #[.int .u8 z] e)) := by
  have h := run_convert_bytes_arg (P := P) (w.alloc (.cells #[.int .u8 z] e)) src e hs he w.heap.size 0 1 1 [z] rfl (fun i hi => by
    obtain rfl : i = 0 := by omega
    simp) dst hd
  rw [h]
  rfl
theorem append_byte (b : UInt8) (l : List UInt8) : (⟨#[b]⟩ : ByteArray) ++ (⟨l.toArray⟩ : ByteArray) = ⟨(b :: l).toArray⟩ := by
  apply ByteArray.ext
  simp
theorem ret_str {a b : ByteArray} (h : a = b) : Ending.returned (.string a) = .returned (.string b) := by rw [h]
theorem ret_int {k : IntKind} {a b : Int} (h : a = b) : Ending.returned (.int k a) = .returned (.int k b) := by rw [h]
theorem int_of {k : IntKind} {a b : Int} (h : a = b) : Value.int k a = .int k b := by rw [h]
theorem str_of {a b : ByteArray} (h : a = b) : Value.string a = .string b := by rw [h]

/-- Two new cells, then a world that only grew: what they hold. -/
theorem two_cells {w w1 : World} {a b : Value} {s t : TypeId} (h : Below ((w.alloc (.cells #[a] s)).alloc (.cells #[b] t)).heap.size ((w.alloc (.cells #[a] s)).alloc (.cells #[b] t)) w1) :
    w1.cell? ⟨w.heap.size, 0, none⟩ = some a ∧ w1.frozen? ⟨w.heap.size, 0, none⟩ = false ∧ w1.cell? ⟨w.heap.size + 1, 0, none⟩ = some b ∧ w1.frozen? ⟨w.heap.size + 1, 0, none⟩ = false ∧ Below w.heap.size w w1 ∧ w.heap.size + 1 < w1.heap.size := by
  have hz := h.size
  simp at hz
  refine ⟨(h.cell (p := ⟨w.heap.size, 0, none⟩) (by simp; omega)).trans (by simp [go_sem]), (h.frozen (p := ⟨w.heap.size, 0, none⟩) (by simp; omega)).trans (by simp [go_sem]),
    (h.cell (p := ⟨w.heap.size + 1, 0, none⟩) (by simp)).trans (by simp [go_sem]), (h.frozen (p := ⟨w.heap.size + 1, 0, none⟩) (by simp)).trans (by simp [go_sem]), ?_, by omega⟩
  exact (((Below.refl w.heap.size w).alloc (Nat.le_refl _) _).alloc (by simp) _).trans (h.mono (by simp; omega))
/-- The two cells written: what they hold. -/
theorem two_set {w w1 : World} {a b u v : Value} {B : Nat} (c1 : w1.cell? ⟨w.heap.size, 0, none⟩ = some a) (c2 : w1.cell? ⟨w.heap.size + 1, 0, none⟩ = some b) (hb : Below w.heap.size w w1) (hB : B = w.heap.size) :
    ((w1.setCell ⟨w.heap.size, 0, none⟩ u).setCell ⟨w.heap.size + 1, 0, none⟩ v).cell? ⟨w.heap.size, 0, none⟩ = some u ∧ ((w1.setCell ⟨w.heap.size, 0, none⟩ u).setCell ⟨w.heap.size + 1, 0, none⟩ v).cell? ⟨w.heap.size + 1, 0, none⟩ = some v ∧
      Below B w ((w1.setCell ⟨w.heap.size, 0, none⟩ u).setCell ⟨w.heap.size + 1, 0, none⟩ v) := by
  subst hB
  have hne : (⟨w.heap.size + 1, 0, none⟩ : Addr) ≠ ⟨w.heap.size, 0, none⟩ := by intro e; injection e with e; omega
  have c2' : (w1.setCell ⟨w.heap.size, 0, none⟩ u).cell? ⟨w.heap.size + 1, 0, none⟩ = some b := (World.cell?_setCell_other w1 _ _ _ (Ne.symm hne)).trans c2
  refine ⟨(World.cell?_setCell_other _ _ _ _ hne).trans (World.cell?_setCell_same _ _ _ c1), World.cell?_setCell_same _ _ _ c2', (hb.setCell (by simp) _).setCell (by simp) _⟩
end Go.Proofs.YtngbilblddngcaaDoor
namespace Go.Proofs.YtngbilblddngcaaDoor
open Go.RowKit

/-- The slice at A reads as these strings. -/
def Strs (w : World) (A : Option Addr) (ss : List ByteArray) : Prop :=
  ss = [] ∨ ∃ g o, A = some ⟨g, o, none⟩ ∧ g < w.heap.size ∧ ∀ j s, ss[j]? = some s → w.cell? ⟨g, o + j, none⟩ = some (.string s)
theorem Strs.below {w w' : World} {A : Option Addr} {ss : List ByteArray} (h : Strs w A ss) (hb : Below w.heap.size w w') : Strs w' A ss := by
  rcases h with h | ⟨g, o, hA, hg, hc⟩
  · exact .inl h
  · exact .inr ⟨g, o, hA, Nat.lt_of_lt_of_le hg hb.size, fun j s hj => (hb.cell (p := ⟨g, o + j, none⟩) hg).trans (hc j s hj)⟩
/-- Where there is a string at j: the address, and what lies there. -/
theorem Strs.at_ {w : World} {A : Option Addr} {ss : List ByteArray} (h : Strs w A ss) {j : Nat} (hj : j < ss.length) :
    ∃ g o, A = some ⟨g, o, none⟩ ∧ w.cell? ⟨g, o + j, none⟩ = some (.string ss[j]) := by
  rcases h with h | ⟨g, o, hA, _, hc⟩
  · subst h; simp at hj
  · exact ⟨g, o, hA, hc j _ (List.getElem?_eq_getElem hj)⟩

/-- A block known whole: just these cells of this type, none closed to writing. -/
def Whole (w : World) (g : Nat) (t : TypeId) (cs : Array Value) : Prop := w.heap[g]? = some (.cells cs t (0, 0))
theorem Whole.lt {w : World} {g : Nat} {t : TypeId} {cs : Array Value} (h : Whole w g t cs) : g < w.heap.size := by
  unfold Whole at h
  rcases Nat.lt_or_ge g w.heap.size with h1 | h1
  · exact h1
  · rw [Array.getElem?_eq_none h1] at h; cases h
theorem Whole.cell {w : World} {g : Nat} {t : TypeId} {cs : Array Value} (h : Whole w g t cs) (i : Nat) : w.cell? ⟨g, i, none⟩ = cs[i]? := by
  unfold Whole at h
  simp [World.cell?, h]
theorem Whole.frozen {w : World} {g : Nat} {t : TypeId} {cs : Array Value} (h : Whole w g t cs) (i : Nat) : w.frozen? ⟨g, i, none⟩ = false := by
  unfold Whole at h
  simp [World.frozen?, h]
theorem Whole.new (w : World) (t : TypeId) (cs : Array Value) : Whole (w.alloc (.cells cs t)) w.heap.size t cs := by
  show (w.heap.push _)[w.heap.size]? = _
  simp
theorem Whole.below {w w' : World} {g B : Nat} {t : TypeId} {cs : Array Value} (h : Whole w g t cs) (hb : Below B w w') (hg : g < B) : Whole w' g t cs := (hb.block g hg).trans h
theorem Whole.set_ {w : World} {g : Nat} {t : TypeId} {cs : Array Value} (h : Whole w g t cs) (i : Nat) (v : Value) : Whole (w.setCell ⟨g, i, none⟩ v) g t (cs.setIfInBounds i v) := by
  unfold Whole at h ⊢
  simp [World.setCell, Array.getElem?_modify, h]
theorem Whole.strs {w : World} {g : Nat} {t : TypeId} {ss : List ByteArray} (h : Whole w g t (ss.map Value.string).toArray) : Strs w (some ⟨g, 0, none⟩) ss :=
  .inr ⟨g, 0, rfl, h.lt, fun j s hj => by rw [h.cell, Nat.zero_add]; simp [hj]⟩

/-- A store elsewhere. -/
theorem cell_far {w : World} {p : Addr} {v : Value} {b o : Nat} (h : p.block ≠ b) : (w.setCell p v).cell? ⟨b, o, none⟩ = w.cell? ⟨b, o, none⟩ :=
  World.cell?_setCell_other _ _ _ _ (fun e => h (by rw [e]))
/-- All blocks but g are as they were; the streams are as they were. -/
structure But (g : Nat) (w w' : World) : Prop where
  os : w'.os = w.os
  tape : w'.tape = w.tape
  output : w'.output = w.output
  size : w.heap.size ≤ w'.heap.size
  block : ∀ k, k < w.heap.size → k ≠ g → w'.heap[k]? = w.heap[k]?
theorem But.refl (g : Nat) (w : World) : But g w w := ⟨rfl, rfl, rfl, Nat.le_refl _, fun _ _ _ => rfl⟩
theorem But.trans {g : Nat} {a b c : World} (h : But g a b) (k : But g b c) : But g a c :=
  ⟨k.os.trans h.os, k.tape.trans h.tape, k.output.trans h.output, Nat.le_trans h.size k.size, fun i hi hg => (k.block i (Nat.lt_of_lt_of_le hi h.size) hg).trans (h.block i hi hg)⟩
theorem But.of_below {g : Nat} {w w' : World} (h : Below w.heap.size w w') : But g w w' := ⟨h.os, h.tape, h.output, h.size, fun k hk _ => h.block k hk⟩
theorem But.set_ (g : Nat) (w : World) (i : Nat) (v : Value) : But g w (w.setCell ⟨g, i, none⟩ v) :=
  ⟨rfl, rfl, rfl, by simp [World.setCell], fun k _ hg => Below.heap_setCell _ _ _ _ hg⟩
theorem But.to_below {g B : Nat} {w w' : World} (h : But g w w') (hg : B ≤ g) (hB : B ≤ w.heap.size) : Below B w w' :=
  ⟨h.os, h.tape, h.output, h.size, fun k hk => h.block k (by omega) (by omega)⟩
theorem But.strs {g b o : Nat} {w w' : World} {ss : List ByteArray} (hb : But g w w') (h : ∀ j s, ss[j]? = some s → w.cell? ⟨b, o + j, none⟩ = some (.string s)) (hlt : b < w.heap.size) (hne : b ≠ g) : Strs w' (some ⟨b, o, none⟩) ss :=
  .inr ⟨b, o, rfl, Nat.lt_of_lt_of_le hlt hb.size, fun j s hj => (World.cell?_of_block (w := w) (w' := w') (a := ⟨b, o + j, none⟩) (hb.block b hlt hne)).trans (h j s hj)⟩

/-- The result's two cells written. -/
theorem res_set {w w1 : World} {a b : Value} {t : TypeId} (hw : Whole w1 w.heap.size t #[a, b]) (hb : Below w.heap.size w w1) (u v : Value) :
    ∀ w2, w2 = (w1.setCell ⟨w.heap.size, 0, none⟩ u).setCell ⟨w.heap.size, 1, none⟩ v → w2.cell? ⟨w.heap.size, 0, none⟩ = some u ∧ w2.cell? ⟨w.heap.size, 1, none⟩ = some v ∧ Below w.heap.size w w2 ∧ (∀ k, k ≠ w.heap.size → w2.heap[k]? = w1.heap[k]?) ∧ w2.heap.size = w1.heap.size := by
  rintro w2 rfl
  have h := (hw.set_ 0 u).set_ 1 v
  refine ⟨by rw [h.cell]; rfl, by rw [h.cell]; rfl, (hb.setCell (by simp) _).setCell (by simp) _, fun k hk => ?_, by simp⟩
  rw [Below.heap_setCell _ _ _ _ (by exact hk), Below.heap_setCell _ _ _ _ (by exact hk)]
end Go.Proofs.YtngbilblddngcaaDoor
namespace Go.Proofs.YtngbilblddngcaaDoor
open Go.RowKit

theorem run_append_nil {P : Program} {w : World} (base : Nat) (t ty e : TypeId) (i : TypeInfo) (size : Nat) (ht : P.underlying t = some (.slice e)) (hi : P.info? e = some i)
    (v : Value) (n c : Nat) (xs : List Value) (hown : w.ownsRow base e size v n xs) :
    (Builtin.append_ #[t, t] ty #[v, .slice none 0 c]).run P w = .ok v w := by
  rcases hown.2 with ⟨rfl, rfl⟩ | ⟨g, cap, cur, rfl, _, _, hnc, _⟩
  · simp [Builtin.append_, run_underlying ht, sizeOf, typeInfo, hi, Builtin.lenOf, Builtin.firstCells]
  · simp [Builtin.append_, run_underlying ht, sizeOf, typeInfo, hi, Builtin.lenOf, Builtin.firstCells, hnc, storeCells]

theorem wp_append_any {P : Program} {w : World} {o : Oper} {a : Act} {K : Act → World → Prop} {Q : Exit → Act → World → Prop} (s x : Operand) (t : TypeId)
    (ho : o.op = .call { callee := .builtin .append, args := #[s, x], argTypes := #[t, t] })
    (base : Nat) (e : TypeId) (i : TypeInfo) (z : Value) (size bytes : Nat) (ht : P.underlying t = some (.slice e)) (hi : P.info? e = some i) (hz : i.zero = some z)
    (hsize : i.size = size) (hby : i.bytes = bytes) (hzs : z.cells.size = size) (hsz : 0 < size)
    (v : Value) (n : Nat) (xs : List Value) (hs : a.eval s = v) (hown : w.ownsRow base e size v n xs)
    (A : Option Addr) (m c : Nat) (news : List Value) (hx : a.eval x = .slice A m c) (hl : news.length = m * size)
    (hA : m = 0 ∨ ∃ ad, A = some ad ∧ ∀ (j : Nat) (u : Value), news[j]? = some u → w.cell? (ad.add j) = some u) (h1 : ∀ u ∈ news, u.oneCell' = true)
    (h63 : n + m ≤ maxLen) (hbytes : (n + m) * bytes ≤ 140737488355328) (hbase : base ≤ w.heap.size) (H : Nat) (hH : w.heap.size = H)
    (h : ∀ v' w', w'.ownsRow base e size v' (n + m) (xs ++ news) → w.grownBy w' v.ownBlock → (v'.ownBlock = v.ownBlock ∨ v'.ownBlock = some H) → K (a.put o.dst v') w') : o.wp P a w K Q := by
  subst hH
  cases A with
  | none =>
    have hm0 : m = 0 := by
      rcases hA with hA | ⟨ad, hA, _⟩
      · exact hA
      · cases hA
    subst hm0
    have hn : news = [] := List.eq_nil_of_length_eq_zero (by rw [hl, Nat.zero_mul])
    subst hn
    have hrun := run_append_nil (P := P) (w := w) base t o.type e i size ht hi v n c xs hown
    unfold Oper.wp
    simp [execOp, ho, resolve, invoke, builtin, hs, hx, hrun, Result.andThen]
    refine h v w ?_ ⟨rfl, rfl, rfl, Nat.le_refl _, fun _ _ _ => rfl⟩ (.inl rfl)
    simpa using hown
  | some ad =>
    have hc : ∀ (j : Nat) (u : Value), news[j]? = some u → w.cell? (ad.add j) = some u := by
      rcases hA with hA | ⟨ad', hA, hc⟩
      · subst hA
        have hn : news = [] := List.eq_nil_of_length_eq_zero (by rw [hl, Nat.zero_mul])
        subst hn
        intro j u hj
        simp at hj
      · injection hA with hA; subst hA; exact hc
    obtain ⟨v', w', hr, h2, h3, _, h5⟩ := run_append_own_at (P := P) w base t o.type e i z size bytes ht hi hz hsize hby hzs hsz v n xs hown ad m c news hl hc h1 h63 hbytes hbase
    unfold Oper.wp execOp
    simp only [ho, resolve, invoke, builtin, Sem.run_bind, Sem.run_pure, Result.andThen_ok, List.map_toArray, List.map_cons, List.map_nil, hs, hx, hr]
    exact h v' w' h2 h3 h5

/-- At a step of a region that draws its order. -/
theorem step_append_any {P : Program} {w : World} {ops : Array Oper} {o : Oper} {a : Act} {K : Act → World → Prop} {Q : Exit → Act → World → Prop} {E : Prop} (hgd : o.guard = none) (s x : Operand) (t : TypeId)
    (ho : o.op = .call { callee := .builtin .append, args := #[s, x], argTypes := #[t, t] })
    (base : Nat) (e : TypeId) (i : TypeInfo) (z : Value) (size bytes : Nat) (ht : P.underlying t = some (.slice e)) (hi : P.info? e = some i) (hz : i.zero = some z)
    (hsize : i.size = size) (hby : i.bytes = bytes) (hzs : z.cells.size = size) (hsz : 0 < size)
    (v : Value) (n : Nat) (xs : List Value) (hs : a.eval s = v) (hown : w.ownsRow base e size v n xs)
    (A : Option Addr) (m c : Nat) (news : List Value) (hx : a.eval x = .slice A m c) (hl : news.length = m * size)
    (hA : m = 0 ∨ ∃ ad, A = some ad ∧ ∀ (j : Nat) (u : Value), news[j]? = some u → w.cell? (ad.add j) = some u) (h1 : ∀ u ∈ news, u.oneCell' = true)
    (h63 : n + m ≤ maxLen) (hbytes : (n + m) * bytes ≤ 140737488355328) (hbase : base ≤ w.heap.size) (H : Nat) (hH : w.heap.size = H)
    (h : ∀ v' w', w'.ownsRow base e size v' (n + m) (xs ++ news) → w.grownBy w' v.ownBlock → (v'.ownBlock = v.ownBlock ∨ v'.ownBlock = some H) → K (a.put o.dst v') w') :
    if Region.wanted o (yielded ops a.tmps) = true then Oper.wp P o a w K Q else E := by
  have hw : Region.wanted o (yielded ops a.tmps) = true := by simp [Region.wanted, hgd]
  rw [if_pos hw]
  exact wp_append_any s x t ho base e i z size bytes ht hi hz hsize hby hzs hsz v n xs hs hown A m c news hx hl hA h1 h63 hbytes hbase H hH h
end Go.Proofs.YtngbilblddngcaaDoor
namespace Go.Proofs.YtngbilblddngcaaDoor
open Go.RowKit

/-- The last element taken off a row of the call's own. -/
theorem own_pop {w : World} {B g cap n size : Nat} {e : TypeId} {xs ys : List Value} (h : w.ownsRow B e size (.slice (some ⟨g, 0, none⟩) (n + 1) cap) (n + 1) (xs ++ ys)) (hx : xs.length = n * size) (_hy : ys.length = size) :
    w.ownsRow B e size (.slice (some ⟨g, 0, none⟩) n cap) n xs ∧ (∀ j, j < size → w.cell? ⟨g, n * size + j, none⟩ = ys[j]?) ∧ n + 1 ≤ cap ∧ cap ≤ maxLen ∧ B ≤ g ∧ g < w.heap.size := by
  have hc : ∀ j, j < size → w.cell? ⟨g, n * size + j, none⟩ = ys[j]? := fun j hj => by
    rw [World.ownsRow.cellAt h _ (by rw [Nat.add_mul]; omega), List.getElem?_append_right (by omega)]
    congr 1
    omega
  have hlt := h.lt g rfl
  rcases h.2 with ⟨h', _⟩ | ⟨g', cap', cur, h', hb, hg, hnc, hcm, hcs, htake⟩
  · simp at h'
  · simp only [Value.slice.injEq, Option.some.injEq, Addr.mk.injEq, and_true, true_and] at h'
    obtain ⟨rfl, rfl⟩ := h'
    refine ⟨⟨hx, .inr ⟨g, cap, cur, rfl, hb, hg, by omega, hcm, hcs, ?_⟩⟩, hc, hnc, hcm, hb, hlt.2⟩
    have h2 := congrArg (List.take (n * size)) htake
    rw [List.take_take, Nat.min_eq_left (Nat.mul_le_mul_right _ (by omega)), List.take_append_of_le_length (by omega), List.take_of_length_le (l := xs) (by omega)] at h2
    exact h2
theorem own_nil {w : World} {B size : Nat} {e : TypeId} {v : Value} {n : Nat} {xs : List Value} (h : w.ownsRow B e size v n xs) : ∃ A c, v = .slice A n c := by
  rcases h.2 with ⟨rfl, rfl⟩ | ⟨g, cap, cur, rfl, _⟩
  · exact ⟨_, _, rfl⟩
  · exact ⟨_, _, rfl⟩
theorem own_some {w : World} {B size : Nat} {e : TypeId} {v : Value} {n : Nat} {xs : List Value} (h : w.ownsRow B e size v (n + 1) xs) : ∃ g c, v = .slice (some ⟨g, 0, none⟩) (n + 1) c := by
  rcases h.2 with ⟨_, h0⟩ | ⟨g, cap, cur, rfl, _⟩
  · omega
  · exact ⟨_, _, rfl⟩

theorem one_slice (A : Option Addr) (n c : Nat) : ∀ u ∈ [Value.slice A n c], u.oneCell' = true := by
  intro u hu
  simp at hu
  subst hu
  rfl
theorem concat_cases {α : Type} (st : List α) : st = [] ∨ ∃ st0 l, st = st0 ++ [l] := by
  rcases List.eq_nil_or_concat st with h | ⟨a, b, h⟩
  · exact .inl h
  · exact .inr ⟨a, b, by rw [h, List.concat_eq_append]⟩

theorem wpListIn_append_at {F : Fence} {n : Nat} {P : Program} (w : World) {ops : Array Oper} {rest : List Oper} {o : Oper} {a : Act} {Q : Exit → Act → World → Prop}
    (hg : o.guard = none) (s x : Operand) (t : TypeId) (hop : o.op = Op.call { callee := Callee.builtin Builtin.append, args := #[s, x], argTypes := #[t, t] })
    (base : Nat) (e : TypeId) (i : TypeInfo) (z : Value) (size bytes : Nat) (h1 : P.underlying t = some (.slice e)) (h2 : P.info? e = some i) (h3 : i.zero = some z) (h4 : i.size = size) (h5 : i.bytes = bytes) (h6 : z.cells.size = size) (h7 : 0 < size)
    (v : Value) (k : Nat) (xs : List Value) (hs : a.eval s = v) (hown : w.ownsRow base e size v k xs) (ad : Addr) (m c : Nat) (news : List Value) (hx : a.eval x = .slice (some ad) m c) (hn : news.length = m * size)
    (hc : ∀ j u, news[j]? = some u → w.cell? (ad.add j) = some u) (h1c : ∀ u ∈ news, u.oneCell' = true) (b1 : k + m ≤ maxLen) (b2 : (k + m) * bytes ≤ 140737488355328) (b3 : base ≤ w.heap.size)
    (hK : ∀ v' w', w'.ownsRow base e size v' (k + m) (xs ++ news) → w.grownBy w' v.ownBlock → (v'.ownBlock = v.ownBlock ∨ v'.ownBlock = some w.heap.size) → wpListIn F n P ops Q rest (a.put o.dst v') w') :
    wpListIn F n P ops Q (o :: rest) a w := by
  refine wpListIn_plain hg fun K hK' => ?_
  obtain ⟨v', w', hrun, r1, r2, _, r3⟩ := run_append_own_at (P := P) w base t o.type e i z size bytes h1 h2 h3 h4 h5 h6 h7 v k xs hown ad m c news hn hc h1c b1 b2 b3
  unfold Oper.wpIn
  refine ⟨?_, ?_⟩
  · simp [Oper.about, hop, resolve, Target.leads, Sem.run_pure]
  · rw [Oper.semAt_plain F _ _ (by rw [hop]; intro c hc'; cases hc')]
    simp [execOp, hop, resolve, invoke, builtin, hs, hx, hrun, Result.andThen]
    exact hK' _ _ (hK v' w' r1 r2 r3)
end Go.Proofs.YtngbilblddngcaaDoor
namespace Go.Proofs.YtngbilblddngcaaDoor
open Go.RowKit

theorem infoString : (Tryd.prog.info? 9).map (fun i => (i.zero, i.size, i.bytes)) = some (some (.string ByteArray.empty), 1, 16) := by kernel_rfl
theorem news_one (w : World) (t : TypeId) (x : Value) : ∀ (j : Nat) (u : Value), [x][j]? = some u → (w.alloc (.cells #[x] t)).cell? ((⟨w.heap.size, 0, none⟩ : Addr).add j) = some u := by
  intro j u hj
  match j, hj with
  | 0, hj => simp at hj; subst hj; simp [Addr.add]
theorem one_string (x : ByteArray) : ∀ u ∈ [Value.string x], u.oneCell' = true := by
  intro u hu
  simp at hu
  subst hu
  rfl
theorem strs_map (d : List ByteArray) (x : ByteArray) : d.map Value.string ++ [.string x] = (d ++ [x]).map Value.string := by simp

/-- What is owned stays so under a call that turns nothing that was there. -/
theorem owns_below {B : Nat} {e : TypeId} {k : Nat} {v : Value} {n : Nat} {xs : List Value} {w w' : World} (h : w.ownsRow B e k v n xs) (hb : Below w.heap.size w w') : w'.ownsRow B e k v n xs :=
  h.kept (row := none) ⟨hb.os, hb.tape, hb.output, hb.size, fun j hj _ => hb.block j hj⟩ (by cases hv : v.ownBlock <;> simp)
/-- An owned row of strings reads as them. -/
theorem strs_own {w : World} {B : Nat} {e : TypeId} {v : Value} {d : List ByteArray} (h : w.ownsRow B e 1 v d.length (d.map Value.string)) : ∃ A c, v = .slice A d.length c ∧ Strs w A d := by
  rcases h.2 with ⟨rfl, h0⟩ | ⟨g, cap, cur, rfl, _⟩
  · exact ⟨none, 0, by rw [h0], .inl (List.eq_nil_of_length_eq_zero h0)⟩
  · refine ⟨_, cap, rfl, .inr ⟨g, 0, rfl, (h.lt g rfl).2, fun j s hj => ?_⟩⟩
    have hjl : j < d.length := by
      rcases Nat.lt_or_ge j d.length with h | h
      · exact h
      · rw [List.getElem?_eq_none h] at hj; cases hj
    rw [Nat.zero_add, World.ownsRow.cellAt h j (by omega), List.getElem?_map, hj]
    rfl
theorem own_same {w w' : World} {B size n : Nat} {e : TypeId} {v : Value} {xs : List Value} (h : w.ownsRow B e size v n xs) (hb : ∀ b, v.ownBlock = some b → w'.heap[b]? = w.heap[b]?) : w'.ownsRow B e size v n xs := by
  refine ⟨h.1, ?_⟩
  rcases h.2 with hn | ⟨g, cap, cur, rfl, hbg, hg, rest⟩
  · exact .inl hn
  · exact .inr ⟨g, cap, cur, rfl, hbg, (hb g rfl).trans hg, rest⟩
end Go.Proofs.YtngbilblddngcaaDoor
namespace Go.Proofs.YtngbilblddngcaaDoor
open Go.RowKit

/-- What a cell holds: a plain value, or a slice: its elements, each the data of its k cells; e: the elements' type. -/
inductive DV where
  | pl (u : Value)
  | row (e : TypeId) (k : Nat) (xs : List (List DV))

mutual
def DV.nodes : DV → Nat
  | .pl _ => 0
  | .row _ _ xs => DV.nodesE xs
def DV.nodesL : List DV → Nat
  | [] => 0
  | d :: r => d.nodes + DV.nodesL r
def DV.nodesE : List (List DV) → Nat
  | [] => 0
  | x :: r => 1 + DV.nodesL x + DV.nodesE r
end
def uwt : Value → Nat
  | .string s => s.size
  | _ => 0
mutual
/-- What the laws' guard counts. -/
def DV.wt : DV → Nat
  | .pl u => uwt u
  | .row _ _ xs => DV.wtE xs
def DV.wtL : List DV → Nat
  | [] => 0
  | d :: r => d.wt + DV.wtL r
def DV.wtE : List (List DV) → Nat
  | [] => 0
  | x :: r => 1 + DV.wtL x + DV.wtE r
end

mutual
/-- The value v is this; the rows that it leads to lie in blocks of P. -/
def RdV (w : World) (P : Nat → Prop) : DV → Value → Prop
  | .pl u, v => v = u
  | .row _ k xs, v => ∃ A cap, v = .slice A xs.length cap ∧ xs.length ≤ cap ∧ cap ≤ 9223372036854775807 ∧
      (xs = [] ∨ ∃ b o, A = some ⟨b, o, none⟩ ∧ P b ∧ ∃ vs, RdVE w P k xs vs ∧ ∀ i v, vs[i]? = some v → w.cell? ⟨b, o + i, none⟩ = some v)
def RdVs (w : World) (P : Nat → Prop) : List DV → List Value → Prop
  | [], vs => vs = []
  | d :: r, vs => ∃ v vs', vs = v :: vs' ∧ RdV w P d v ∧ RdVs w P r vs'
def RdVE (w : World) (P : Nat → Prop) (k : Nat) : List (List DV) → List Value → Prop
  | [], vs => vs = []
  | x :: r, vs => ∃ v1 v2, vs = v1 ++ v2 ∧ x.length = k ∧ RdVs w P x v1 ∧ RdVE w P k r v2
end
theorem RdV_pl {w : World} {P : Nat → Prop} {u v : Value} : RdV w P (.pl u) v ↔ v = u := by rw [RdV]
theorem RdV_row {w : World} {P : Nat → Prop} {e : TypeId} {k : Nat} {xs : List (List DV)} {v : Value} : RdV w P (.row e k xs) v ↔ ∃ A cap, v = .slice A xs.length cap ∧ xs.length ≤ cap ∧ cap ≤ 9223372036854775807 ∧
      (xs = [] ∨ ∃ b o, A = some ⟨b, o, none⟩ ∧ P b ∧ ∃ vs, RdVE w P k xs vs ∧ ∀ i v, vs[i]? = some v → w.cell? ⟨b, o + i, none⟩ = some v) := by rw [RdV]
theorem RdV_e {w : World} {P : Nat → Prop} {e e' : TypeId} {k : Nat} {xs : List (List DV)} {v : Value} (h : RdV w P (.row e k xs) v) : RdV w P (.row e' k xs) v := by rw [RdV] at h ⊢; exact h
theorem RdVs_length {w : World} {P : Nat → Prop} : ∀ {ds : List DV} {vs : List Value}, RdVs w P ds vs → vs.length = ds.length
  | [], vs, h => by rw [RdVs] at h; rw [h]; rfl
  | d :: r, vs, h => by
    rw [RdVs] at h
    obtain ⟨v, vs', rfl, _, h2⟩ := h
    rw [List.length_cons, List.length_cons, RdVs_length h2]
theorem RdVE_length {w : World} {P : Nat → Prop} {k : Nat} : ∀ {xs : List (List DV)} {vs : List Value}, RdVE w P k xs vs → vs.length = xs.length * k
  | [], vs, h => by rw [RdVE] at h; rw [h]; simp
  | x :: r, vs, h => by
    rw [RdVE] at h
    obtain ⟨v1, v2, rfl, hk, h1, h2⟩ := h
    rw [List.length_append, RdVs_length h1, RdVE_length h2, hk, List.length_cons, Nat.add_mul]; omega
theorem RdVE_at {w : World} {P : Nat → Prop} {k : Nat} : ∀ {xs : List (List DV)} {vs : List Value}, RdVE w P k xs vs → ∀ (j : Nat) (h : j < xs.length), ∃ ws, RdVs w P xs[j] ws ∧ xs[j].length = k ∧ ∀ i v, ws[i]? = some v → vs[j * k + i]? = some v
  | x :: r, vs, h, 0, _ => by
    rw [RdVE] at h
    obtain ⟨v1, v2, rfl, hk, h1, h2⟩ := h
    refine ⟨v1, h1, hk, fun i v hi => ?_⟩
    rw [Nat.zero_mul, Nat.zero_add, List.getElem?_append_left]
    · exact hi
    · exact (List.getElem?_eq_some_iff.1 hi).1
  | x :: r, vs, h, j + 1, hj => by
    rw [RdVE] at h
    obtain ⟨v1, v2, rfl, hk, h1, h2⟩ := h
    obtain ⟨ws, h3, h4, h5⟩ := RdVE_at h2 j (by simpa using hj)
    refine ⟨ws, by simpa using h3, by simpa using h4, fun i v hi => ?_⟩
    have hl : v1.length = k := by rw [RdVs_length h1, hk]
    rw [List.getElem?_append_right (by rw [hl, Nat.add_mul]; omega), hl, show (j + 1) * k + i - k = j * k + i by rw [Nat.add_mul]; omega]
    exact h5 i v hi
/-- Where there is an element at j: where it lies, and what it is. -/
theorem RdV.at_ {w : World} {P : Nat → Prop} {e : TypeId} {k : Nat} {xs : List (List DV)} {A : Option Addr} {n cap : Nat} (h : RdV w P (.row e k xs) (.slice A n cap)) {j : Nat} (hj : j < xs.length) :
    ∃ b o ws, A = some ⟨b, o, none⟩ ∧ P b ∧ RdVs w P xs[j] ws ∧ ∀ i v, ws[i]? = some v → w.cell? ⟨b, o + j * k + i, none⟩ = some v := by
  rw [RdV] at h
  obtain ⟨A', cap', hv, _, _, h⟩ := h
  injection hv with hA _ _
  subst hA
  rcases h with h | ⟨b, o, hA, hP, vs, hE, hc⟩
  · subst h; simp at hj
  · obtain ⟨ws, h1, _, h3⟩ := RdVE_at hE j hj
    exact ⟨b, o, ws, hA, hP, h1, fun i v hi => by rw [Nat.add_assoc]; exact hc _ _ (h3 i v hi)⟩
theorem RdV.shape {w : World} {P : Nat → Prop} {e : TypeId} {k : Nat} {xs : List (List DV)} {v : Value} (h : RdV w P (.row e k xs) v) : ∃ A cap, v = .slice A xs.length cap ∧ xs.length ≤ cap ∧ cap ≤ 9223372036854775807 := by
  rw [RdV] at h
  obtain ⟨A, cap, hv, h1, h2, _⟩ := h
  exact ⟨A, cap, hv, h1, h2⟩

mutual
theorem RdV_frame {w w' : World} {P Q : Nat → Prop} (hPQ : ∀ b, P b → Q b) (hk : ∀ b o, P b → w'.cell? ⟨b, o, none⟩ = w.cell? ⟨b, o, none⟩) : ∀ (d : DV) {v : Value}, RdV w P d v → RdV w' Q d v
  | .pl u, v, h => by rw [RdV] at h ⊢; exact h
  | .row e k xs, v, h => by
    rw [RdV] at h ⊢
    obtain ⟨A, cap, hv, h1, h2, h⟩ := h
    refine ⟨A, cap, hv, h1, h2, ?_⟩
    rcases h with h | ⟨b, o, hA, hP, vs, hE, hc⟩
    · exact .inl h
    · exact .inr ⟨b, o, hA, hPQ b hP, vs, RdVE_frame hPQ hk xs hE, fun i v hi => (hk b _ hP).trans (hc i v hi)⟩
theorem RdVs_frame {w w' : World} {P Q : Nat → Prop} (hPQ : ∀ b, P b → Q b) (hk : ∀ b o, P b → w'.cell? ⟨b, o, none⟩ = w.cell? ⟨b, o, none⟩) : ∀ (ds : List DV) {vs : List Value}, RdVs w P ds vs → RdVs w' Q ds vs
  | [], vs, h => by rw [RdVs] at h ⊢; exact h
  | d :: r, vs, h => by
    rw [RdVs] at h ⊢
    obtain ⟨v, vs', rfl, h1, h2⟩ := h
    exact ⟨v, vs', rfl, RdV_frame hPQ hk d h1, RdVs_frame hPQ hk r h2⟩
theorem RdVE_frame {w w' : World} {P Q : Nat → Prop} (hPQ : ∀ b, P b → Q b) (hk : ∀ b o, P b → w'.cell? ⟨b, o, none⟩ = w.cell? ⟨b, o, none⟩) {k : Nat} : ∀ (xs : List (List DV)) {vs : List Value}, RdVE w P k xs vs → RdVE w' Q k xs vs
  | [], vs, h => by rw [RdVE] at h ⊢; exact h
  | x :: r, vs, h => by
    rw [RdVE] at h ⊢
    obtain ⟨v1, v2, rfl, hk1, h1, h2⟩ := h
    exact ⟨v1, v2, rfl, hk1, RdVs_frame hPQ hk x h1, RdVE_frame hPQ hk r h2⟩
end
/-- Below a block number. -/
def Und (B : Nat) (b : Nat) : Prop := b < B
theorem RdV.grow {w w' : World} {d : DV} {v : Value} (h : RdV w (Und w.heap.size) d v) (hb : Below w.heap.size w w') : RdV w' (Und w'.heap.size) d v :=
  RdV_frame (fun _ h => Nat.lt_of_lt_of_le h hb.size) (fun b o hP => hb.cell (p := ⟨b, o, none⟩) hP) d h
theorem RdVs.grow {w w' : World} {d : List DV} {v : List Value} (h : RdVs w (Und w.heap.size) d v) (hb : Below w.heap.size w w') : RdVs w' (Und w'.heap.size) d v :=
  RdVs_frame (fun _ h => Nat.lt_of_lt_of_le h hb.size) (fun b o hP => hb.cell (p := ⟨b, o, none⟩) hP) d h

mutual
/-- The value v is this; its rows, all the call's own, lie in just the blocks bs. -/
def OwV (w : World) (B : Nat) : DV → Value → List Nat → Prop
  | .pl u, v, bs => v = u ∧ bs = []
  | .row e k xs, v, bs => ∃ (vs : List Value) (bs' : List Nat), w.ownsRow B e k v xs.length vs ∧ OwVE w B k xs vs bs' ∧ bs = v.ownBlock.toList ++ bs'
def OwVs (w : World) (B : Nat) : List DV → List Value → List Nat → Prop
  | [], vs, bs => vs = [] ∧ bs = []
  | d :: r, vs, bs => ∃ (v : Value) (vs' : List Value) (b1 b2 : List Nat), vs = v :: vs' ∧ bs = b1 ++ b2 ∧ OwV w B d v b1 ∧ OwVs w B r vs' b2
def OwVE (w : World) (B : Nat) (k : Nat) : List (List DV) → List Value → List Nat → Prop
  | [], vs, bs => vs = [] ∧ bs = []
  | x :: r, vs, bs => ∃ (v1 v2 : List Value) (b1 b2 : List Nat), vs = v1 ++ v2 ∧ bs = b1 ++ b2 ∧ x.length = k ∧ OwVs w B x v1 b1 ∧ OwVE w B k r v2 b2
end
theorem OwVs_length {w : World} {B : Nat} : ∀ {ds : List DV} {vs : List Value} {bs : List Nat}, OwVs w B ds vs bs → vs.length = ds.length
  | [], vs, bs, h => by rw [OwVs] at h; rw [h.1]; rfl
  | d :: r, vs, bs, h => by
    rw [OwVs] at h
    obtain ⟨v, vs', b1, b2, rfl, _, _, h2⟩ := h
    rw [List.length_cons, List.length_cons, OwVs_length h2]
theorem OwVE_length {w : World} {B k : Nat} : ∀ {xs : List (List DV)} {vs : List Value} {bs : List Nat}, OwVE w B k xs vs bs → vs.length = xs.length * k
  | [], vs, bs, h => by rw [OwVE] at h; rw [h.1]; simp
  | x :: r, vs, bs, h => by
    rw [OwVE] at h
    obtain ⟨v1, v2, b1, b2, rfl, _, hk, h1, h2⟩ := h
    rw [List.length_append, OwVs_length h1, OwVE_length h2, hk, List.length_cons, Nat.add_mul]; omega
mutual
theorem OwV_frame {w w' : World} {B : Nat} : ∀ (d : DV) {v : Value} {bs : List Nat}, (∀ b ∈ bs, w'.heap[b]? = w.heap[b]?) → OwV w B d v bs → OwV w' B d v bs
  | .pl u, v, bs, _, h => by rw [OwV] at h ⊢; exact h
  | .row e k xs, v, bs, hb, h => by
    rw [OwV] at h ⊢
    obtain ⟨vs, bs', h1, h2, rfl⟩ := h
    exact ⟨vs, bs', own_same h1 fun b hv => hb b (by rw [hv]; simp), OwVE_frame xs (fun b hm => hb b (List.mem_append_right _ hm)) h2, rfl⟩
theorem OwVs_frame {w w' : World} {B : Nat} : ∀ (ds : List DV) {vs : List Value} {bs : List Nat}, (∀ b ∈ bs, w'.heap[b]? = w.heap[b]?) → OwVs w B ds vs bs → OwVs w' B ds vs bs
  | [], vs, bs, _, h => by rw [OwVs] at h ⊢; exact h
  | d :: r, vs, bs, hb, h => by
    rw [OwVs] at h ⊢
    obtain ⟨v, vs', b1, b2, rfl, rfl, h1, h2⟩ := h
    exact ⟨v, vs', b1, b2, rfl, rfl, OwV_frame d (fun b hm => hb b (List.mem_append_left _ hm)) h1, OwVs_frame r (fun b hm => hb b (List.mem_append_right _ hm)) h2⟩
theorem OwVE_frame {w w' : World} {B k : Nat} : ∀ (xs : List (List DV)) {vs : List Value} {bs : List Nat}, (∀ b ∈ bs, w'.heap[b]? = w.heap[b]?) → OwVE w B k xs vs bs → OwVE w' B k xs vs bs
  | [], vs, bs, _, h => by rw [OwVE] at h ⊢; exact h
  | x :: r, vs, bs, hb, h => by
    rw [OwVE] at h ⊢
    obtain ⟨v1, v2, b1, b2, rfl, rfl, hk, h1, h2⟩ := h
    exact ⟨v1, v2, b1, b2, rfl, rfl, hk, OwVs_frame x (fun b hm => hb b (List.mem_append_left _ hm)) h1, OwVE_frame r (fun b hm => hb b (List.mem_append_right _ hm)) h2⟩
end
mutual
/-- Its blocks are from B on, and are there. -/
theorem OwV_lt {w : World} {B : Nat} : ∀ (d : DV) {v : Value} {bs : List Nat}, OwV w B d v bs → ∀ b ∈ bs, B ≤ b ∧ b < w.heap.size
  | .pl u, v, bs, h => by rw [OwV] at h; rw [h.2]; simp
  | .row e k xs, v, bs, h => by
    rw [OwV] at h
    obtain ⟨vs, bs', h1, h2, rfl⟩ := h
    intro b hb
    rcases List.mem_append.1 hb with hb | hb
    · exact h1.lt b (by simpa using hb)
    · exact OwVE_lt xs h2 b hb
theorem OwVs_lt {w : World} {B : Nat} : ∀ (ds : List DV) {vs : List Value} {bs : List Nat}, OwVs w B ds vs bs → ∀ b ∈ bs, B ≤ b ∧ b < w.heap.size
  | [], vs, bs, h => by rw [OwVs] at h; rw [h.2]; simp
  | d :: r, vs, bs, h => by
    rw [OwVs] at h
    obtain ⟨v, vs', b1, b2, rfl, rfl, h1, h2⟩ := h
    intro b hb
    rcases List.mem_append.1 hb with hb | hb
    · exact OwV_lt d h1 b hb
    · exact OwVs_lt r h2 b hb
theorem OwVE_lt {w : World} {B k : Nat} : ∀ (xs : List (List DV)) {vs : List Value} {bs : List Nat}, OwVE w B k xs vs bs → ∀ b ∈ bs, B ≤ b ∧ b < w.heap.size
  | [], vs, bs, h => by rw [OwVE] at h; rw [h.2]; simp
  | x :: r, vs, bs, h => by
    rw [OwVE] at h
    obtain ⟨v1, v2, b1, b2, rfl, rfl, hk, h1, h2⟩ := h
    intro b hb
    rcases List.mem_append.1 hb with hb | hb
    · exact OwVs_lt x h1 b hb
    · exact OwVE_lt r h2 b hb
end
mutual
/-- What is owned from B on is owned from further down on. -/
theorem OwV_wide {w : World} {B B' : Nat} (hB : B' ≤ B) : ∀ (d : DV) {v : Value} {bs : List Nat}, OwV w B d v bs → OwV w B' d v bs
  | .pl u, v, bs, h => by rw [OwV] at h ⊢; exact h
  | .row e k xs, v, bs, h => by
    rw [OwV] at h ⊢
    obtain ⟨vs, bs', h1, h2, rfl⟩ := h
    refine ⟨vs, bs', ⟨h1.1, ?_⟩, OwVE_wide hB xs h2, rfl⟩
    rcases h1.2 with hn | ⟨g, cap, cur, rfl, hbg, rest⟩
    · exact .inl hn
    · exact .inr ⟨g, cap, cur, rfl, by omega, rest⟩
theorem OwVs_wide {w : World} {B B' : Nat} (hB : B' ≤ B) : ∀ (ds : List DV) {vs : List Value} {bs : List Nat}, OwVs w B ds vs bs → OwVs w B' ds vs bs
  | [], vs, bs, h => by rw [OwVs] at h ⊢; exact h
  | d :: r, vs, bs, h => by
    rw [OwVs] at h ⊢
    obtain ⟨v, vs', b1, b2, rfl, rfl, h1, h2⟩ := h
    exact ⟨v, vs', b1, b2, rfl, rfl, OwV_wide hB d h1, OwVs_wide hB r h2⟩
theorem OwVE_wide {w : World} {B B' : Nat} (hB : B' ≤ B) {k : Nat} : ∀ (xs : List (List DV)) {vs : List Value} {bs : List Nat}, OwVE w B k xs vs bs → OwVE w B' k xs vs bs
  | [], vs, bs, h => by rw [OwVE] at h ⊢; exact h
  | x :: r, vs, bs, h => by
    rw [OwVE] at h ⊢
    obtain ⟨v1, v2, b1, b2, rfl, rfl, hk, h1, h2⟩ := h
    exact ⟨v1, v2, b1, b2, rfl, rfl, hk, OwVs_wide hB x h1, OwVE_wide hB r h2⟩
end
mutual
/-- What is owned reads as what it is. -/
theorem OwV_read {w : World} {B : Nat} {P : Nat → Prop} : ∀ (d : DV) {v : Value} {bs : List Nat}, (∀ b ∈ bs, P b) → OwV w B d v bs → RdV w P d v
  | .pl u, v, bs, _, h => by rw [OwV] at h; rw [RdV]; exact h.1
  | .row e k xs, v, bs, hP, h => by
    rw [OwV] at h
    rw [RdV]
    obtain ⟨vs, bs', h1, h2, rfl⟩ := h
    have hE := OwVE_read xs (fun b hm => hP b (List.mem_append_right _ hm)) h2
    rcases h1.2 with ⟨rfl, hn⟩ | ⟨g, cap, cur, rfl, hbg, hg, hnc, hcm, rest⟩
    · exact ⟨none, 0, by rw [hn], by omega, by omega, .inl (List.eq_nil_of_length_eq_zero hn)⟩
    · refine ⟨_, cap, rfl, hnc, by unfold maxLen at hcm; omega, .inr ⟨g, 0, rfl, hP g (by simp [Value.ownBlock]), vs, hE, fun i v hi => ?_⟩⟩
      have hil : i < xs.length * k := by rw [← h1.1]; exact (List.getElem?_eq_some_iff.1 hi).1
      rw [Nat.zero_add, World.ownsRow.cellAt h1 i hil]
      exact hi
theorem OwVs_read {w : World} {B : Nat} {P : Nat → Prop} : ∀ (ds : List DV) {vs : List Value} {bs : List Nat}, (∀ b ∈ bs, P b) → OwVs w B ds vs bs → RdVs w P ds vs
  | [], vs, bs, _, h => by rw [OwVs] at h; rw [RdVs]; exact h.1
  | d :: r, vs, bs, hP, h => by
    rw [OwVs] at h
    rw [RdVs]
    obtain ⟨v, vs', b1, b2, rfl, rfl, h1, h2⟩ := h
    exact ⟨v, vs', rfl, OwV_read d (fun b hm => hP b (List.mem_append_left _ hm)) h1, OwVs_read r (fun b hm => hP b (List.mem_append_right _ hm)) h2⟩
theorem OwVE_read {w : World} {B k : Nat} {P : Nat → Prop} : ∀ (xs : List (List DV)) {vs : List Value} {bs : List Nat}, (∀ b ∈ bs, P b) → OwVE w B k xs vs bs → RdVE w P k xs vs
  | [], vs, bs, _, h => by rw [OwVE] at h; rw [RdVE]; exact h.1
  | x :: r, vs, bs, hP, h => by
    rw [OwVE] at h
    rw [RdVE]
    obtain ⟨v1, v2, b1, b2, rfl, rfl, hk, h1, h2⟩ := h
    exact ⟨v1, v2, rfl, hk, OwVs_read x (fun b hm => hP b (List.mem_append_left _ hm)) h1, OwVE_read r (fun b hm => hP b (List.mem_append_right _ hm)) h2⟩
end
theorem OwV_below {w w' : World} {B : Nat} {d : DV} {v : Value} {bs : List Nat} (h : OwV w B d v bs) (hb : Below w.heap.size w w') : OwV w' B d v bs := OwV_frame d (fun b hm => hb.block b (OwV_lt d h b hm).2) h
theorem OwVs_below {w w' : World} {B : Nat} {d : List DV} {v : List Value} {bs : List Nat} (h : OwVs w B d v bs) (hb : Below w.heap.size w w') : OwVs w' B d v bs := OwVs_frame d (fun b hm => hb.block b (OwVs_lt d h b hm).2) h
theorem OwVs_app {w : World} {B : Nat} : ∀ {ds : List DV} {vs : List Value} {bs : List Nat}, OwVs w B ds vs bs → ∀ {ds' : List DV} {vs' : List Value} {bs' : List Nat}, OwVs w B ds' vs' bs' → OwVs w B (ds ++ ds') (vs ++ vs') (bs ++ bs')
  | [], vs, bs, h, _, _, _, h' => by
    rw [OwVs] at h
    obtain ⟨rfl, rfl⟩ := h
    exact h'
  | d :: r, vs, bs, h, _, _, _, h' => by
    rw [OwVs] at h
    obtain ⟨v, vs', b1, b2, rfl, rfl, h1, h2⟩ := h
    rw [List.cons_append, OwVs]
    exact ⟨v, _, b1, _, rfl, by rw [List.append_assoc], h1, OwVs_app h2 h'⟩
theorem OwVE_snoc {w : World} {B k : Nat} : ∀ {xs : List (List DV)} {vs : List Value} {bs : List Nat}, OwVE w B k xs vs bs → ∀ {x : List DV} {v : List Value} {bx : List Nat}, x.length = k → OwVs w B x v bx → OwVE w B k (xs ++ [x]) (vs ++ v) (bs ++ bx)
  | [], vs, bs, h, x, v, bx, hk, hx => by
    rw [OwVE] at h
    obtain ⟨rfl, rfl⟩ := h
    rw [List.nil_append, OwVE]
    exact ⟨v, [], bx, [], by simp, by simp, hk, hx, by rw [OwVE]; exact ⟨rfl, rfl⟩⟩
  | y :: r, vs, bs, h, x, v, bx, hk, hx => by
    rw [OwVE] at h
    obtain ⟨v1, v2, b1, b2, rfl, rfl, hk1, h1, h2⟩ := h
    rw [List.cons_append, OwVE]
    exact ⟨v1, _, b1, _, by rw [List.append_assoc], by rw [List.append_assoc], hk1, h1, OwVE_snoc h2 hk hx⟩
theorem OwV_nil (w : World) (B : Nat) (e : TypeId) (k : Nat) : OwV w B (.row e k []) (.slice none 0 0) [] := by
  rw [OwV]
  exact ⟨[], [], World.ownsRow_nil _ _ _ _, by rw [OwVE]; exact ⟨rfl, rfl⟩, rfl⟩

/-- A STRUCT in memory of its own, by value. -/
def MadeV (d : List DV) (w : World) (e : Ending) (w' : World) : Prop :=
  ∃ (vs : List Value) (bs : List Nat), e = .returned (.agg vs.toArray) ∧ OwVs w' w.heap.size d vs bs ∧ bs.Nodup ∧ Below w.heap.size w w'
/-- A SLICE in memory of its own. -/
def MadeR (d : DV) (w : World) (e : Ending) (w' : World) : Prop :=
  ∃ (v : Value) (bs : List Nat), e = .returned v ∧ OwV w' w.heap.size d v bs ∧ bs.Nodup ∧ Below w.heap.size w w'
end Go.Proofs.YtngbilblddngcaaDoor
namespace Go.Proofs.YtngbilblddngcaaDoor
open Go.RowKit

theorem nodesVE_at : ∀ (xs : List (List DV)) (j : Nat) (h : j < xs.length), 1 + DV.nodesL xs[j] ≤ DV.nodesE xs
  | x :: r, 0, _ => by rw [DV.nodesE]; simp
  | x :: r, j + 1, h => by
    have := nodesVE_at r j (by simpa using h)
    rw [DV.nodesE]; simp; omega
theorem nodesVE_count : ∀ (xs : List (List DV)), xs.length ≤ DV.nodesE xs
  | [] => by simp [DV.nodesE]
  | x :: r => by have := nodesVE_count r; rw [DV.nodesE, List.length_cons]; omega
theorem wtVE_take : ∀ (l : List (List DV)) (j : Nat) (h : j < l.length), DV.wtE (l.take (j + 1)) = DV.wtE (l.take j) + 1 + DV.wtL l[j]
  | x :: r, 0, _ => by simp [DV.wtE]
  | x :: r, j + 1, h => by
    have := wtVE_take r j (by simpa using h)
    rw [List.take_succ_cons, List.take_succ_cons, DV.wtE, DV.wtE, this]
    simp; omega
theorem wtVE_le : ∀ (l : List (List DV)) (j : Nat), DV.wtE (l.take j) ≤ DV.wtE l
  | [], j => by simp
  | x :: r, 0 => by simp [DV.wtE]
  | x :: r, j + 1 => by
    have := wtVE_le r j
    rw [List.take_succ_cons, DV.wtE, DV.wtE]; omega
theorem wtVE_length : ∀ (l : List (List DV)), l.length ≤ DV.wtE l
  | [] => by simp [DV.wtE]
  | x :: r => by have := wtVE_length r; rw [DV.wtE, List.length_cons]; omega
theorem wtVE_at (l : List (List DV)) (j : Nat) (h : j < l.length) : 1 + DV.wtL l[j] ≤ DV.wtE l := by
  have h1 := wtVE_take l j h
  have h2 := wtVE_le l (j + 1)
  omega
theorem wtVE_rest : ∀ (l : List (List DV)) (j : Nat), j ≤ l.length → DV.wtE (l.take j) + (l.length - j) ≤ DV.wtE l
  | [], j, h => by simp at h; subst h; simp [DV.wtE]
  | x :: r, 0, _ => by have := wtVE_length (x :: r); simp [DV.wtE] at this ⊢; omega
  | x :: r, j + 1, h => by
    have := wtVE_rest r j (by simpa using h)
    rw [List.take_succ_cons, DV.wtE, DV.wtE, List.length_cons]; omega

/-- A plain value that Go holds. -/
def uok : Value → Prop
  | .string s => s.size ≤ 9223372036854775807
  | .int _ i => -9223372036854775808 ≤ i ∧ i ≤ 9223372036854775807
  | _ => True
mutual
/-- No text and no slice is longer than a Go int. -/
def DV.ok : DV → Prop
  | .pl u => uok u
  | .row _ _ xs => xs.length ≤ 9223372036854775807 ∧ DV.okE xs
def DV.okL : List DV → Prop
  | [] => True
  | d :: r => d.ok ∧ DV.okL r
def DV.okE : List (List DV) → Prop
  | [] => True
  | x :: r => DV.okL x ∧ DV.okE r
end
theorem okVE_at : ∀ (xs : List (List DV)), DV.okE xs → ∀ (j : Nat) (h : j < xs.length), DV.okL xs[j]
  | x :: r, ho, 0, _ => by rw [DV.okE] at ho; exact ho.1
  | x :: r, ho, j + 1, h => by rw [DV.okE] at ho; exact okVE_at r ho.2 j (by simpa using h)

/-- What is left: -1 where there was more. -/
def leftV (L n : Nat) : Int := if n ≤ L then (L : Int) - n else -1
theorem leftV_yes {L n : Nat} (h : n ≤ L) : leftV L n = (L : Int) - n := by rw [leftV, if_pos h]
theorem leftV_no {L n : Nat} (h : L < n) : leftV L n = -1 := by rw [leftV, if_neg (by omega)]
end Go.Proofs.YtngbilblddngcaaDoor
namespace Go.Proofs.YtngbilblddngcaaDoor
open Go.RowKit Go.Lib

def strRows (l : List ByteArray) : List (List DV) := l.map fun s => [.pl (.string s)]
def intRows (l : List Int) : List (List DV) := l.map fun s => [.pl (.int .i64 s)]
theorem strRows_length (l : List ByteArray) : (strRows l).length = l.length := by rw [strRows, List.length_map]
theorem intRows_length (l : List Int) : (intRows l).length = l.length := by rw [intRows, List.length_map]
/-- The slice at A reads as these strings. -/
def StrRow (w : World) (P : Nat → Prop) (A : Option Addr) (c : Nat) (l : List ByteArray) : Prop := RdV w P (.row 9 1 (strRows l)) (.slice A l.length c)
def IntRow (w : World) (P : Nat → Prop) (A : Option Addr) (c : Nat) (l : List Int) : Prop := RdV w P (.row 3 1 (intRows l)) (.slice A l.length c)
theorem StrRow.frame {w w' : World} {P Q : Nat → Prop} {A : Option Addr} {c : Nat} {l : List ByteArray} (h : StrRow w P A c l) (hPQ : ∀ b, P b → Q b) (hk : ∀ b o, P b → w'.cell? ⟨b, o, none⟩ = w.cell? ⟨b, o, none⟩) : StrRow w' Q A c l := RdV_frame hPQ hk _ h
theorem IntRow.frame {w w' : World} {P Q : Nat → Prop} {A : Option Addr} {c : Nat} {l : List Int} (h : IntRow w P A c l) (hPQ : ∀ b, P b → Q b) (hk : ∀ b o, P b → w'.cell? ⟨b, o, none⟩ = w.cell? ⟨b, o, none⟩) : IntRow w' Q A c l := RdV_frame hPQ hk _ h
theorem StrRow.grow {w w' : World} {A : Option Addr} {c : Nat} {l : List ByteArray} (h : StrRow w (Und w.heap.size) A c l) (hb : Below w.heap.size w w') : StrRow w' (Und w'.heap.size) A c l := RdV.grow h hb
theorem IntRow.grow {w w' : World} {A : Option Addr} {c : Nat} {l : List Int} (h : IntRow w (Und w.heap.size) A c l) (hb : Below w.heap.size w w') : IntRow w' (Und w'.heap.size) A c l := RdV.grow h hb
theorem StrRow.of_read {w : World} {P : Nat → Prop} {l : List ByteArray} {v : Value} (h : RdV w P (.row 9 1 (strRows l)) v) : ∃ A c, v = .slice A l.length c ∧ StrRow w P A c l := by
  obtain ⟨A, c, rfl, _, _⟩ := h.shape
  rw [strRows_length] at h ⊢
  exact ⟨A, c, rfl, h⟩
theorem IntRow.of_read {w : World} {P : Nat → Prop} {l : List Int} {v : Value} (h : RdV w P (.row 3 1 (intRows l)) v) : ∃ A c, v = .slice A l.length c ∧ IntRow w P A c l := by
  obtain ⟨A, c, rfl, _, _⟩ := h.shape
  rw [intRows_length] at h ⊢
  exact ⟨A, c, rfl, h⟩
theorem StrRow.strs {w : World} {A : Option Addr} {c : Nat} {l : List ByteArray} (h : StrRow w (Und w.heap.size) A c l) : Strs w A l := by
  by_cases h0 : l = []
  · exact .inl h0
  · have hp : 0 < l.length := List.length_pos_iff.2 h0
    obtain ⟨b, o, _, hA, hP, _, _⟩ := RdV.at_ h (j := 0) (by rw [strRows_length]; exact hp)
    refine .inr ⟨b, o, hA, hP, fun j s hj => ?_⟩
    have hjl : j < l.length := (List.getElem?_eq_some_iff.1 hj).1
    obtain ⟨b', o', ws, hA', _, hR, hc⟩ := RdV.at_ h (j := j) (by rw [strRows_length]; exact hjl)
    rw [hA] at hA'
    injection hA' with hA'
    injection hA' with h1 h2
    subst h1 h2
    have e : (strRows l)[j]'(by rw [strRows_length]; exact hjl) = [.pl (.string l[j])] := by simp [strRows]
    rw [e] at hR
    simp only [RdVs] at hR
    obtain ⟨v, _, rfl, hv, rfl⟩ := hR
    rw [RdV_pl] at hv
    have := hc 0 v rfl
    rw [hv, Nat.mul_one, Nat.add_zero] at this
    rw [this]
    congr 2
    exact (List.getElem?_eq_some_iff.1 hj).2
end Go.Proofs.YtngbilblddngcaaDoor
namespace Go.Proofs.YtngbilblddngcaaDoor
open Go.RowKit Go.Lib

inductive TypeX where
  | mk (kind_ : Int) (name_ : ByteArray) (args_ : List TypeX)
def TypeX.kind_ : TypeX → Int | .mk kind_ _ _ => kind_
def TypeX.name_ : TypeX → ByteArray | .mk _ name_ _ => name_
def TypeX.args_ : TypeX → List TypeX | .mk _ _ args_ => args_
mutual
/-- The cells of a value. -/
def TypeX.cells : TypeX → List DV
  | .mk kind_ name_ args_ => [.pl (.int .i64 kind_), .pl (.string name_), .row 26 3 (TypeX.rows args_)]
def TypeX.rows : List TypeX → List (List DV)
  | [] => []
  | x :: r => x.cells :: TypeX.rows r
end
theorem TypeX.cells_eq (x : TypeX) : x.cells = [.pl (.int .i64 x.kind_), .pl (.string x.name_), .row 26 3 (TypeX.rows x.args_)] := by cases x with | mk xkind_ xname_ xargs_ => rw [TypeX.cells]; rfl
theorem TypeX.rows_map : ∀ l : List TypeX, TypeX.rows l = l.map TypeX.cells
  | [] => by rw [TypeX.rows]; rfl
  | x :: r => by rw [TypeX.rows, TypeX.rows_map r]; rfl
theorem TypeX.rows_length (l : List TypeX) : (TypeX.rows l).length = l.length := by rw [TypeX.rows_map, List.length_map]
theorem TypeX.rows_at (l : List TypeX) (j : Nat) (h : j < l.length) (h' : j < (TypeX.rows l).length) : (TypeX.rows l)[j] = l[j].cells := by simp [TypeX.rows_map]
theorem TypeX.rows_take (l : List TypeX) (j : Nat) : TypeX.rows (l.take j) = (TypeX.rows l).take j := by simp [TypeX.rows_map, List.map_take]
theorem TypeX.rows_snoc (l : List TypeX) (x : TypeX) : TypeX.rows (l ++ [x]) = TypeX.rows l ++ [x.cells] := by simp [TypeX.rows_map]
theorem TypeX.cells_length (x : TypeX) : x.cells.length = 3 := by rw [TypeX.cells_eq]; rfl
/-- The slice at A reads as this list. -/
def TypeRow (w : World) (P : Nat → Prop) (A : Option Addr) (c : Nat) (l : List TypeX) : Prop := RdV w P (.row 26 3 (TypeX.rows l)) (.slice A l.length c)
theorem TypeRow.frame {w w' : World} {P Q : Nat → Prop} {A : Option Addr} {c : Nat} {l : List TypeX} (h : TypeRow w P A c l) (hPQ : ∀ b, P b → Q b) (hk : ∀ b o, P b → w'.cell? ⟨b, o, none⟩ = w.cell? ⟨b, o, none⟩) : TypeRow w' Q A c l := RdV_frame hPQ hk _ h
theorem TypeRow.grow {w w' : World} {A : Option Addr} {c : Nat} {l : List TypeX} (h : TypeRow w (Und w.heap.size) A c l) (hb : Below w.heap.size w w') : TypeRow w' (Und w'.heap.size) A c l := RdV.grow h hb
theorem TypeRow.of_read {w : World} {P : Nat → Prop} {l : List TypeX} {v : Value} (h : RdV w P (.row 26 3 (TypeX.rows l)) v) : ∃ A c, v = .slice A l.length c ∧ TypeRow w P A c l := by
  obtain ⟨A, c, rfl, _, _⟩ := h.shape
  rw [TypeX.rows_length] at h ⊢
  exact ⟨A, c, rfl, h⟩
theorem TypeRow.cap {w : World} {P : Nat → Prop} {A : Option Addr} {c : Nat} {l : List TypeX} (h : TypeRow w P A c l) : l.length ≤ c ∧ c ≤ 9223372036854775807 := by
  obtain ⟨A', c', e, h1, h2⟩ := RdV.shape h
  injection e with _ _ e
  rw [TypeX.rows_length] at h1
  omega
theorem TypeRow.nil (w : World) (P : Nat → Prop) (c : Nat) (A : Option Addr) (hc : c ≤ 9223372036854775807) : TypeRow w P A c [] := RdV_row.2 ⟨A, c, by rw [TypeX.rows_length], by rw [TypeX.rows_length]; exact Nat.zero_le _, hc, .inl (by rw [TypeX.rows_map]; rfl)⟩
/-- This value, by value. -/
def TypeAt (w : World) (P : Nat → Prop) (x : TypeX) (v : Value) : Prop := ∃ (A2 : Option Addr) (c2 : Nat), v = .agg #[.int .i64 x.kind_, .string x.name_, .slice A2 x.args_.length c2] ∧ TypeRow w P A2 c2 x.args_
theorem TypeAt.of_reads {w : World} {P : Nat → Prop} {x : TypeX} {vs : List Value} (h : RdVs w P x.cells vs) : TypeAt w P x (.agg vs.toArray) := by
  rw [TypeX.cells_eq] at h
  simp only [RdVs] at h
  obtain ⟨v0, _, rfl, h0, v1, _, rfl, h1, v2, _, rfl, h2, rfl⟩ := h
  rw [RdV_pl] at h0
  subst h0
  rw [RdV_pl] at h1
  subst h1
  obtain ⟨A2, c2, rfl, k2⟩ := TypeRow.of_read h2
  exact ⟨A2, c2, rfl, k2⟩
theorem TypeAt.frame {w w' : World} {P Q : Nat → Prop} {x : TypeX} {v : Value} (h : TypeAt w P x v) (hPQ : ∀ b, P b → Q b) (hk : ∀ b o, P b → w'.cell? ⟨b, o, none⟩ = w.cell? ⟨b, o, none⟩) : TypeAt w' Q x v := by
  obtain ⟨A2, c2, rfl, k2⟩ := h
  exact ⟨A2, c2, rfl, k2.frame hPQ hk⟩
theorem TypeAt.grow {w w' : World} {x : TypeX} {v : Value} (h : TypeAt w (Und w.heap.size) x v) (hb : Below w.heap.size w w') : TypeAt w' (Und w'.heap.size) x v := h.frame (fun _ h => Nat.lt_of_lt_of_le h hb.size) (fun b o hP => hb.cell (p := ⟨b, o, none⟩) hP)
/-- Where there is an element at j: where it lies, and what it is. -/
theorem TypeRow.at_ {w : World} {P : Nat → Prop} {A : Option Addr} {c : Nat} {l : List TypeX} (h : TypeRow w P A c l) {j : Nat} (hj : j < l.length) :
    ∃ (b o : Nat) (A2 : Option Addr) (c2 : Nat), A = some ⟨b, o, none⟩ ∧ P b ∧ w.cell? ⟨b, o + j * 3, none⟩ = some (.int .i64 l[j].kind_) ∧ w.cell? ⟨b, o + j * 3 + 1, none⟩ = some (.string l[j].name_) ∧ w.cell? ⟨b, o + j * 3 + 2, none⟩ = some (.slice A2 l[j].args_.length c2) ∧ TypeRow w P A2 c2 l[j].args_ := by
  obtain ⟨b, o, ws, hA, hP, hR, hc⟩ := RdV.at_ h (j := j) (by rw [TypeX.rows_length]; exact hj)
  rw [TypeX.rows_at l j hj, TypeX.cells_eq] at hR
  simp only [RdVs] at hR
  obtain ⟨v0, _, rfl, h0, v1, _, rfl, h1, v2, _, rfl, h2, rfl⟩ := hR
  rw [RdV_pl] at h0
  subst h0
  rw [RdV_pl] at h1
  subst h1
  obtain ⟨A2, c2, rfl, k2⟩ := TypeRow.of_read h2
  exact ⟨b, o, A2, c2, hA, hP, hc 0 _ rfl, hc 1 _ rfl, hc 2 _ rfl, k2⟩
end Go.Proofs.YtngbilblddngcaaDoor
namespace Go.Proofs.YtngbilblddngcaaDoor
open Go.RowKit Go.Lib

theorem TypeX.wt_eq (x : TypeX) : DV.wtL x.cells = x.name_.size + DV.wtE (TypeX.rows x.args_) := by
  rw [TypeX.cells_eq]
  simp only [DV.wtL, DV.wt, uwt]
  omega
theorem TypeX.nodes_eq (x : TypeX) : DV.nodesL x.cells = DV.nodesE (TypeX.rows x.args_) := by
  rw [TypeX.cells_eq]
  simp only [DV.nodesL, DV.nodes]
  omega
def SzType (N : Nat) : Prop := ∀ (x : TypeX) (v : Value) (L : Nat) (w : World), DV.nodesL x.cells ≤ N → DV.okL x.cells → TypeAt w (Und w.heap.size) x v → L ≤ 1048576 →
  Calls Tryd.prog 25 #[v, .int .i64 L] w fun e w' => (e = .returned (.int .i64 (leftV L (DV.wtL x.cells))) ∧ Below w.heap.size w w')
def SzTypeS (N : Nat) : Prop := ∀ (l : List TypeX) (A : Option Addr) (c L : Nat) (w : World), DV.nodesE (TypeX.rows l) ≤ N → DV.okE (TypeX.rows l) → l.length ≤ 9223372036854775807 → TypeRow w (Und w.heap.size) A c l → L ≤ 1048576 →
  Calls Tryd.prog 16 #[.slice A l.length c, .int .i64 L] w fun e w' => (e = .returned (.int .i64 (leftV L (DV.wtE (TypeX.rows l)))) ∧ Below w.heap.size w w')

set_option maxRecDepth 100000 in
set_option maxHeartbeats 2000000 in
theorem szType_step (N : Nat) (ihTypeS : SzTypeS N) : SzType N := by
  intro x v L w hn hok hv hL
  obtain ⟨A2, c2, rfl, h2⟩ := hv
  have hne := TypeX.nodes_eq x
  have hok2 := hok
  rw [TypeX.cells_eq] at hok2
  simp only [DV.okL, DV.ok, uok] at hok2
  obtain ⟨o0, o1, o2, -⟩ := hok2
  have hw := TypeX.wt_eq x
  have hb0 : Below w.heap.size w (w.alloc (.cells #[.int .i64 x.kind_, .string x.name_, .slice A2 x.args_.length c2] 42)) := (Below.refl _ _).alloc (Nat.le_refl _) _
  have H2 := Lib.hid (h2.grow hb0)
  have O2 := Lib.hid o2
  have HN := Lib.hid hn
  have HNE := Lib.hid hne
  have HW := Lib.hid hw
  clear hok hw h2 o2 hn hne
  by_cases s1 : x.name_.size ≤ L
  rotate_left
  · have n1 : ((L : Nat) : Int) - ((x.name_.size : Nat) : Int) < 0 := by omega
    go_enter Tryd.func25, Tryd.ntmps25
    go_wp2
    go_ret
    exact ⟨ret_int (leftV_no (by have := HW.out; omega)).symm, hb0⟩
  have n1 : ¬ ((L : Nat) : Int) - ((x.name_.size : Nat) : Int) < 0 := by omega
  obtain ⟨q2, e2⟩ : ∃ q : Nat, ((L : Nat) : Int) - ((x.name_.size : Nat) : Int) = ((q : Nat) : Int) := ⟨L - x.name_.size, by omega⟩
  have f2 : q2 + (x.name_.size) = L := by omega
  have E2 := Lib.hid e2
  clear e2
  go_enter Tryd.func25, Tryd.ntmps25
  go_wp2_with fail
  rw [E2.out]
  refine (ihTypeS x.args_ _ _ q2 _ (by have := HN.out; have := HNE.out; omega) O2.out.2 (by have := O2.out.1; rw [TypeX.rows_length] at this; exact this) H2.out (by omega)).mono ?_
  rintro e w2 ⟨rfl, b2⟩
  have hb2 : Below w.heap.size w w2 := hb0.trans (b2.mono hb0.size)
  by_cases s2 : DV.wtE (TypeX.rows x.args_) ≤ q2
  rotate_left
  · rw [leftV_no (by omega)]
    go_wp2
    go_ret
    exact ⟨ret_int (leftV_no (by have := HW.out; omega)).symm, hb2⟩
  rw [leftV_yes s2]
  have n2 : ¬ ((q2 : Nat) : Int) - ((DV.wtE (TypeX.rows x.args_) : Nat) : Int) < 0 := by omega
  go_wp2
  go_ret
  exact ⟨ret_int (by have := HW.out; rw [leftV_yes (by omega)]; omega), hb2⟩

set_option maxRecDepth 100000 in
set_option maxHeartbeats 2000000 in
theorem szTypeS_step (N : Nat) (ih : SzType N) : SzTypeS (N + 1) := by
  intro l A c L w hn hok hlen hl hL
  have HL := Lib.hid hl
  have HO := Lib.hid hok
  have hwl := wtVE_length (TypeX.rows l)
  rw [TypeX.rows_length] at hwl
  have HN := Lib.hid hn
  clear hl hok hn
  by_cases hfst : L < l.length
  · have hnn : (L : Int) - l.length < 0 := by omega
    have h3 : L < DV.wtE (TypeX.rows l) := by omega
    go_enter Tryd.func16, Tryd.ntmps16
    go_wp2
    go_ret
    exact ⟨ret_int (leftV_no h3).symm, Below.refl _ _⟩
  · have hnn : ¬ (L : Int) - l.length < 0 := by omega
    go_enter Tryd.func16, Tryd.ntmps16
    go_wp2
    go_loopw [1, 5] (fun qv iv wr => ∃ k q : Nat, k ≤ l.length ∧ iv = .int .i64 k ∧ qv = .int .i64 q ∧ q + l.length + DV.wtE ((TypeX.rows l).take k) = L + k ∧ Below w.heap.size w wr) (fun _ iv _ => l.length - (Go.RowKit.intOf iv).toNat)
    case atStart => exact ⟨0, L - l.length, Nat.zero_le _, rfl, int_of (by omega), by simp [DV.wtE]; omega, Below.refl _ _⟩
    case round =>
      obtain ⟨k, q, hk, rfl, rfl, hq, hb⟩ := hrel
      by_cases hlt : k < l.length
      · obtain ⟨b, o, A2, c2, hA, hP, q0, q1, q2, k2⟩ := (HL.out.grow hb).at_ hlt
        subst hA
        have hst := wtVE_take (TypeX.rows l) k (by rw [TypeX.rows_length]; exact hlt)
        rw [TypeX.rows_at l k hlt] at hst
        have hre := wtVE_rest (TypeX.rows l) (k + 1) (by rw [TypeX.rows_length]; exact hlt)
        rw [TypeX.rows_length] at hre
        have hqL : q ≤ 1048576 := by have := wtVE_le (TypeX.rows l) k; omega
        have hox := okVE_at (TypeX.rows l) HO.out k (by rw [TypeX.rows_length]; exact hlt)
        rw [TypeX.rows_at l k hlt] at hox
        have HOX := Lib.hid hox
        have hnx := nodesVE_at (TypeX.rows l) k (by rw [TypeX.rows_length]; exact hlt)
        rw [TypeX.rows_at l k hlt] at hnx
        have HNX := Lib.hid (show DV.nodesL l[k].cells ≤ N by have := HN.out; omega)
        clear hnx
        have HQ := Lib.hid hq
        have HS := Lib.hid hst
        have HR := Lib.hid hre
        have K2 := Lib.hid k2
        clear hq hst hre hox k2
        go_wp2_with fail
        refine (ih l[k] _ q _ HNX.out HOX.out ⟨_, _, rfl, K2.out⟩ hqL).mono ?_
        rintro e w1 ⟨rfl, hb1⟩
        have hb2 : Below w.heap.size w w1 := hb.trans (hb1.mono hb.size)
        by_cases h2 : DV.wtL l[k].cells ≤ q
        · rw [leftV_yes h2]
          have hnn2 : ¬ (q : Int) - (DV.wtL l[k].cells : Nat) < 0 := by omega
          have hq3 : q - DV.wtL l[k].cells + l.length + DV.wtE ((TypeX.rows l).take (k + 1)) = L + (k + 1) := by rw [HS.out]; have := HQ.out; omega
          have HQ3 := Lib.hid hq3
          clear hq3
          go_wp2
          go_roundw
          case rel => exact ⟨k + 1, q - DV.wtL l[k].cells, by omega, by go_num, int_of (by omega), HQ3.out, hb2⟩
          case measure => simp [Go.RowKit.intOf]; omega
        · rw [leftV_no (by omega)]
          have h3 : L < DV.wtE (TypeX.rows l) := by have := HQ.out; have := HS.out; have := HR.out; omega
          go_wp2
          go_ret
          exact ⟨ret_int (leftV_no h3).symm, hb2⟩
      · have hkl : k = l.length := by omega
        have h3 : q + DV.wtE (TypeX.rows l) = L := by
          have := hq
          rw [hkl, List.take_of_length_le (by rw [TypeX.rows_length]; exact Nat.le_refl _)] at this
          omega
        have H3 := Lib.hid h3
        clear hq h3
        go_wp2
        go_ret
        exact ⟨ret_int (by have := H3.out; rw [leftV_yes (by omega)]; omega), hb⟩

theorem szRows_Type : ∀ N, SzTypeS N
  | 0 => by
    intro l A c L w hn _ _ _ _
    have hc := nodesVE_count (TypeX.rows l)
    rw [TypeX.rows_length] at hc
    have hl : l = [] := List.eq_nil_of_length_eq_zero (by omega)
    subst hl
    go_enter Tryd.func16, Tryd.ntmps16
    have hnn : ¬ (L : Int) - 0 < 0 := by omega
    go_wp2
    refine wp_loop_rounds 1 ?_
    rw [rounds_succ]
    go_wp2
    go_ret
    exact ⟨ret_int (by rw [TypeX.rows_map, leftV_yes (by simp [DV.wtE])]; simp [DV.wtE]), Below.refl _ _⟩
  | N + 1 => szTypeS_step N (szType_step N (szRows_Type N))
theorem szType (x : TypeX) (v : Value) (L : Nat) (w : World) (ho : DV.okL x.cells) (hv : TypeAt w (Und w.heap.size) x v) (hL : L ≤ 1048576) :
    Calls Tryd.prog 25 #[v, .int .i64 L] w fun e w' => (e = .returned (.int .i64 (leftV L (DV.wtL x.cells))) ∧ Below w.heap.size w w') := (szType_step (DV.nodesL x.cells) (szRows_Type (DV.nodesL x.cells))) x v L w (Nat.le_refl _) ho hv hL
theorem szTypeS (l : List TypeX) (A : Option Addr) (c L : Nat) (w : World) (ho : DV.okE (TypeX.rows l)) (hn : l.length ≤ 9223372036854775807) (hv : TypeRow w (Und w.heap.size) A c l) (hL : L ≤ 1048576) :
    Calls Tryd.prog 16 #[.slice A l.length c, .int .i64 L] w fun e w' => (e = .returned (.int .i64 (leftV L (DV.wtE (TypeX.rows l)))) ∧ Below w.heap.size w w') := (szRows_Type (DV.nodesE (TypeX.rows l))) l A c L w (Nat.le_refl _) ho hn hv hL
end Go.Proofs.YtngbilblddngcaaDoor
namespace Go.Proofs.YtngbilblddngcaaDoor
open Go.RowKit Go.Lib

mutual
def TypeX.size : TypeX → Nat
  | .mk _ _ l => 1 + TypeX.sizeL l
def TypeX.sizeL : List TypeX → Nat
  | [] => 0
  | x :: r => x.size + TypeX.sizeL r
end
theorem TypeX.size_eq (x : TypeX) : x.size = 1 + TypeX.sizeL x.args_ := by cases x with | mk a b c => rw [TypeX.size]; rfl
theorem TypeX.sizeL_take : ∀ (l : List TypeX) (j : Nat) (h : j < l.length), TypeX.sizeL (l.take (j + 1)) = TypeX.sizeL (l.take j) + l[j].size
  | x :: r, 0, _ => by simp [TypeX.sizeL]
  | x :: r, j + 1, h => by
    have := TypeX.sizeL_take r j (by simpa using h)
    rw [List.take_succ_cons, List.take_succ_cons, TypeX.sizeL, TypeX.sizeL, this]
    simp; omega
theorem TypeX.sizeL_le : ∀ (l : List TypeX) (j : Nat), TypeX.sizeL (l.take j) ≤ TypeX.sizeL l
  | [], j => by simp
  | x :: r, 0 => by simp [TypeX.sizeL]
  | x :: r, j + 1 => by
    have := TypeX.sizeL_le r j
    rw [List.take_succ_cons, TypeX.sizeL, TypeX.sizeL]; omega

end Go.Proofs.YtngbilblddngcaaDoor
namespace Go.Proofs.YtngbilblddngcaaDoor
open Go.RowKit Go.Lib

theorem calls_gen {P : Program} {f : Nat} {args : Array Value} {W : World} {R : Ending → World → Prop} (Q : World → Prop) (hQ : Q W) (h : ∀ W', Q W' → Calls P f args W' R) : Calls P f args W R := h W hQ
theorem Whole.far {w : World} {g : Nat} {t : TypeId} {cs : Array Value} (h : Whole w g t cs) {b : Nat} (hne : g ≠ b) (i : Nat) (v : Value) : Whole (w.setCell ⟨b, i, none⟩ v) g t cs := by
  unfold Whole at h ⊢
  rw [Below.heap_setCell _ _ _ _ (by exact hne)]
  exact h
theorem OwVs_set {w : World} {B : Nat} {ds : List DV} {vs : List Value} {bs : List Nat} (h : OwVs w B ds vs bs) {g : Nat} (hg : g < B) (i : Nat) (v : Value) : OwVs (w.setCell ⟨g, i, none⟩ v) B ds vs bs :=
  OwVs_frame ds (fun b hb => Below.heap_setCell _ _ _ _ (by have := (OwVs_lt ds h b hb).1; exact (show b ≠ g by omega))) h
theorem OwVs_plain {w : World} {B : Nat} {ds : List DV} {vs : List Value} {bs : List Nat} (h : OwVs w B ds vs bs) (u : Value) : OwVs w B (ds ++ [.pl u]) (vs ++ [u]) bs := by
  have h2 : OwVs w B [.pl u] [u] [] := by rw [OwVs]; exact ⟨u, [], [], [], rfl, rfl, by rw [OwV]; exact ⟨rfl, rfl⟩, by rw [OwVs]; exact ⟨rfl, rfl⟩⟩
  have h3 := OwVs_app h h2
  rwa [List.append_nil] at h3
theorem OwVs_start (w : World) (B : Nat) : OwVs w B [] [] [] := by rw [OwVs]; exact ⟨rfl, rfl⟩
theorem OwVs_struct {W W' : World} {B : Nat} {ds ds2 : List DV} {vs vs2 : List Value} {bs b2 : List Nat} (h : OwVs W B ds vs bs) (hn : bs.Nodup) (hb : Below W.heap.size W W') (h2 : OwVs W' W.heap.size ds2 vs2 b2) (hn2 : b2.Nodup) (hB : B ≤ W.heap.size) :
    OwVs W' B (ds ++ ds2) (vs ++ vs2) (bs ++ b2) ∧ (bs ++ b2).Nodup := by
  refine ⟨OwVs_app (OwVs_below h hb) (OwVs_wide hB ds2 h2), ?_⟩
  rw [List.nodup_append]
  refine ⟨hn, hn2, fun a ha c hc e => ?_⟩
  have h3 := (OwVs_lt ds h a ha).2
  have h4 := (OwVs_lt ds2 h2 c hc).1
  omega
theorem OwVs_row {W W' : World} {B : Nat} {ds : List DV} {d : DV} {vs : List Value} {v : Value} {bs b2 : List Nat} (h : OwVs W B ds vs bs) (hn : bs.Nodup) (hb : Below W.heap.size W W') (h2 : OwV W' W.heap.size d v b2) (hn2 : b2.Nodup) (hB : B ≤ W.heap.size) :
    OwVs W' B (ds ++ [d]) (vs ++ [v]) (bs ++ b2) ∧ (bs ++ b2).Nodup :=
  OwVs_struct h hn hb (by rw [OwVs]; exact ⟨v, [], b2, [], rfl, by rw [List.append_nil], h2, by rw [OwVs]; exact ⟨rfl, rfl⟩⟩) hn2 hB

theorem OwV_shape {w : World} {B k n : Nat} {e : TypeId} {xs : List (List DV)} {v : Value} {bs : List Nat} (h : OwV w B (.row e k xs) v bs) (hn : xs.length = n) : ∃ A c, v = .slice A n c := by
  rw [OwV] at h
  obtain ⟨vs, bs', h1, _, _⟩ := h
  rw [hn] at h1
  rcases h1.2 with ⟨rfl, h0⟩ | ⟨g, cap, cur, rfl, _⟩
  · exact ⟨none, 0, by rw [h0]⟩
  · exact ⟨_, cap, rfl⟩

/-- Cells set one after another. -/
def setAt (cs : Array Value) (o : Nat) : List Value → Array Value
  | [] => cs
  | v :: r => setAt (cs.setIfInBounds o v) (o + 1) r
theorem setAt_size : ∀ (vs : List Value) (cs : Array Value) (o : Nat), (setAt cs o vs).size = cs.size
  | [], _, _ => rfl
  | v :: r, cs, o => by rw [setAt, setAt_size r]; simp
theorem setAt_take : ∀ (vs : List Value) (cs : Array Value) (o : Nat), o + vs.length ≤ cs.size → (setAt cs o vs).toList.take (o + vs.length) = cs.toList.take o ++ vs
  | [], cs, o, _ => by simp [setAt]
  | v :: r, cs, o, h => by
    rw [List.length_cons] at h
    have h1 := setAt_take r (cs.setIfInBounds o v) (o + 1) (by simp; omega)
    rw [setAt, List.length_cons, show o + (r.length + 1) = o + 1 + r.length by omega, h1]
    have h2 : (cs.setIfInBounds o v).toList.take (o + 1) = cs.toList.take o ++ [v] := by
      rw [Array.toList_setIfInBounds, List.take_succ_eq_append_getElem (by simp; omega), List.take_set_of_le (Nat.le_refl _)]
      simp
    rw [h2, List.append_assoc]
    rfl
theorem Whole.own {w : World} {g n K : Nat} {t : TypeId} {cs : Array Value} (h : Whole w g t cs) (hs : cs.size = n * K) (hn : n ≤ maxLen) : w.ownsRow g t K (.slice (some ⟨g, 0, none⟩) n n) n cs.toList :=
  ⟨by simpa using hs, .inr ⟨g, n, cs, rfl, Nat.le_refl _, h, Nat.le_refl _, hn, hs, List.take_of_length_le (by simp [hs])⟩⟩
/-- A row that has been filled. -/
theorem OwV_filled {w : World} {g n K : Nat} {t : TypeId} {cs : Array Value} {xs : List (List DV)} {bs : List Nat} (h : Whole w g t cs) (hs : cs.size = n * K) (hn : n ≤ maxLen) (hx : xs.length = n) (hE : OwVE w (g + 1) K xs cs.toList bs) (hnd : bs.Nodup) :
    OwV w g (.row t K xs) (.slice (some ⟨g, 0, none⟩) n n) (g :: bs) ∧ (g :: bs).Nodup := by
  refine ⟨?_, List.nodup_cons.2 ⟨fun hm => by have := (OwVE_lt xs hE g hm).1; omega, hnd⟩⟩
  rw [OwV]
  exact ⟨cs.toList, bs, by rw [hx]; exact h.own hs hn, OwVE_wide (Nat.le_succ g) xs hE, rfl⟩
/-- One element more of a row that is being filled. -/
theorem OwVE_fill {wr w1 w2 : World} {g K k : Nat} {cs : Array Value} {xs : List (List DV)} {x : List DV} {vs : List Value} {bs b2 : List Nat} (hE : OwVE wr (g + 1) K xs (cs.toList.take (k * K)) bs) (hn : bs.Nodup) (hb1 : Below wr.heap.size wr w1) (hg : g < wr.heap.size)
    (hx : OwVs w1 wr.heap.size x vs b2) (hn2 : b2.Nodup) (hk : x.length = K) (hcs : k * K + K ≤ cs.size) (h2 : ∀ b, b ≠ g → w2.heap[b]? = w1.heap[b]?) :
    OwVE w2 (g + 1) K (xs ++ [x]) ((setAt cs (k * K) vs).toList.take ((k + 1) * K)) (bs ++ b2) ∧ (bs ++ b2).Nodup := by
  have hv := OwVs_length hx
  have e : (setAt cs (k * K) vs).toList.take ((k + 1) * K) = cs.toList.take (k * K) ++ vs := by
    have := setAt_take vs cs (k * K) (by omega)
    rw [hv, hk] at this
    rw [Nat.add_mul, Nat.one_mul]
    exact this
  rw [e]
  refine ⟨OwVE_snoc (OwVE_frame xs (fun b hm => ?_) hE) hk (OwVs_frame x (fun b hm => h2 b ?_) (OwVs_wide (by omega) x hx)), ?_⟩
  · have := OwVE_lt xs hE b hm
    rw [h2 b (by omega)]
    exact hb1.block b this.2
  · have := (OwVs_lt x hx b hm).1
    omega
  · rw [List.nodup_append]
    refine ⟨hn, hn2, fun a ha c hc e => ?_⟩
    have h3 := (OwVE_lt xs hE a ha).2
    have h4 := (OwVs_lt x hx c hc).1
    omega
end Go.Proofs.YtngbilblddngcaaDoor
namespace Go.Proofs.YtngbilblddngcaaDoor
open Go.RowKit Go.Lib

theorem infoType : (Tryd.prog.info? 26).map (fun i => (i.zero, i.size, i.bytes)) = some (some (.agg #[.int .i64 0, .string ByteArray.empty, .slice none 0 0]), 3, 48) := by kernel_rfl
def ToType (N : Nat) : Prop := ∀ (x : TypeX) (v : Value) (w : World), DV.nodesL x.cells ≤ N → DV.wtL x.cells ≤ 1048576 → TypeAt w (Und w.heap.size) x v → Calls Tryd.prog 27 #[v] w (MadeV x.cells w)
def ToTypeS (N : Nat) : Prop := ∀ (l : List TypeX) (A : Option Addr) (c : Nat) (w : World), DV.nodesE (TypeX.rows l) ≤ N → DV.wtE (TypeX.rows l) ≤ 1048576 → TypeRow w (Und w.heap.size) A c l → Calls Tryd.prog 18 #[.slice A l.length c] w (MadeR (.row 26 3 (TypeX.rows l)) w)

set_option maxRecDepth 100000 in
set_option maxHeartbeats 2000000 in
theorem toType_step (N : Nat) (ihTypeS : ToTypeS N) : ToType N := by
  intro x v w hn hw hv
  obtain ⟨A2, c2, rfl, h2⟩ := hv
  rw [TypeX.wt_eq] at hw
  rw [TypeX.nodes_eq] at hn
  have H2 := Lib.hid h2
  have h1lt : w.heap.size + 1 < w.heap.size + 3 := by omega
  have h2lt : w.heap.size + 1 + 1 < w.heap.size + 3 := by omega
  have h1le : w.heap.size ≤ w.heap.size + 1 := by omega
  have h2le : w.heap.size ≤ w.heap.size + 1 + 1 := by omega
  have hne12 : w.heap.size + 1 ≠ w.heap.size + 1 + 1 := by omega
  clear h2
  go_enter Tryd.func27, Tryd.ntmps27
  go_wp2_with fail
  refine calls_gen (fun W => Whole W (w.heap.size + 1) 26 #[.int .i64 0, .string ⟨#[]⟩, .slice none 0 0] ∧ Whole W (w.heap.size + 1 + 1) 26 #[.int .i64 x.kind_, .string x.name_, .slice none 0 0] ∧ Below w.heap.size w W ∧ w.heap.size + 3 ≤ W.heap.size) ?_ ?_
  · refine ⟨?_, ?_, (((Below.refl _ _).alloc (Nat.le_refl _) _).alloc (by simp) _).alloc (by simp; omega) _, by simp⟩
    · have h := Whole.new (w.alloc (.cells #[.int .i64 x.kind_, .string x.name_, .slice A2 x.args_.length c2] 42)) 26 #[.int .i64 0, .string ⟨#[]⟩, .slice none 0 0]
      have h2 := h.below ((Below.refl _ _).alloc (Nat.le_refl _) (.cells #[.int .i64 x.kind_, .string x.name_, .slice none 0 0] 26)) h.lt
      simpa using h2
    · have h := Whole.new ((w.alloc (.cells #[.int .i64 x.kind_, .string x.name_, .slice A2 x.args_.length c2] 42)).alloc (.cells #[.int .i64 0, .string ⟨#[]⟩, .slice none 0 0] 26)) 26 #[.int .i64 x.kind_, .string x.name_, .slice none 0 0]
      simpa using h
  rintro W1 ⟨r1, r2, hb, hsz⟩
  have hO : OwVs W1 (w.heap.size + 3) [.pl (.int .i64 x.kind_), .pl (.string x.name_)] [.int .i64 x.kind_, .string x.name_] [] := (OwVs_plain (OwVs_plain (OwVs_start _ _) _) _)
  have hN : ([] : List Nat).Nodup := List.nodup_nil
  refine (ihTypeS x.args_ _ _ _ (by omega) (by omega) (H2.out.grow hb)).mono ?_
  rintro e w1 ⟨v2, b2, rfl, o1, n1, bel1⟩
  obtain ⟨V2, C2, rfl⟩ := OwV_shape o1 (TypeX.rows_length _)
  obtain ⟨hO, hN⟩ := OwVs_row hO hN bel1 o1 n1 hsz
  have hb := hb.trans (bel1.mono hb.size)
  have hsz : w.heap.size + 3 ≤ w1.heap.size := Nat.le_trans hsz bel1.size
  have s1 := r1.below bel1 r1.lt
  have s2 := r2.below bel1 r2.lt
  have c1_0 : w1.cell? ⟨w.heap.size + 1, 0, none⟩ = some (.int .i64 0) := by rw [s1.cell]; rfl
  have c2_0 : w1.cell? ⟨w.heap.size + 1 + 1, 0, none⟩ = some (.int .i64 x.kind_) := by rw [s2.cell]; rfl
  have f1_0 := s1.frozen 0
  have f2_0 := s2.frozen 0
  have c1_1 : w1.cell? ⟨w.heap.size + 1, 1, none⟩ = some (.string ⟨#[]⟩) := by rw [s1.cell]; rfl
  have c2_1 : w1.cell? ⟨w.heap.size + 1 + 1, 1, none⟩ = some (.string x.name_) := by rw [s2.cell]; rfl
  have f1_1 := s1.frozen 1
  have f2_1 := s2.frozen 1
  have c1_2 : w1.cell? ⟨w.heap.size + 1, 2, none⟩ = some (.slice none 0 0) := by rw [s1.cell]; rfl
  have c2_2 : w1.cell? ⟨w.heap.size + 1 + 1, 2, none⟩ = some (.slice none 0 0) := by rw [s2.cell]; rfl
  have f1_2 := s1.frozen 2
  have f2_2 := s2.frozen 2
  clear bel1
  have HO := Lib.hid hO
  have HB := Lib.hid hb
  clear hO
  go_wp2
  refine bodyPost_ret (v := .agg #[.int .i64 x.kind_, .string x.name_, .slice V2 x.args_.length C2]) (by simp [results, Tryd.results27, go_sem, c1_0, c1_1, c1_2]) rfl ⟨[.int .i64 x.kind_, .string x.name_, .slice V2 x.args_.length C2], _, rfl, ?_, hN, ?_⟩
  · rw [TypeX.cells_eq]
    exact OwVs_wide (show w.heap.size ≤ w.heap.size + 3 by omega) _ (OwVs_set (OwVs_set (OwVs_set (OwVs_set HO.out h2lt _ _) h1lt _ _) h1lt _ _) h1lt _ _)
  · exact ((((HB.out.setCell h2le _).setCell h1le _).setCell h1le _).setCell h1le _)

set_option maxRecDepth 100000 in
set_option maxHeartbeats 2000000 in
theorem toTypeS_step (N : Nat) (ih : ToType N) : ToTypeS (N + 1) := by
  intro l A c w hn hw hl
  have hlen := wtVE_length (TypeX.rows l)
  rw [TypeX.rows_length] at hlen
  obtain ⟨i0, hi, hz0, hz1, hz2⟩ := info_parts infoType
  have km := fun (w : World) => run_make (P := Tryd.prog) w 24 26 i0 (.agg #[.int .i64 0, .string ByteArray.empty, .slice none 0 0]) Tryd.underlying24 hi hz0 .i64 .i64 (l.length : Int) (l.length : Int) (by omega) (by omega) (by rw [hz2]; omega) (by omega)
  simp only [Int.toNat_natCast, hz1] at km
  have hms : (madeCells (Value.agg #[.int .i64 0, .string ByteArray.empty, .slice none 0 0]).cells (l.length * 3)).size = l.length * 3 := size_madeCells _ _
  generalize madeCells (Value.agg #[.int .i64 0, .string ByteArray.empty, .slice none 0 0]).cells (l.length * 3) = cs0 at *
  have HL := Lib.hid hl
  have HN := Lib.hid hn
  have HW := Lib.hid hw
  have HM := Lib.hid hms
  clear hl hn hw hms hi hz0 hz1 hz2
  go_enter Tryd.func18, Tryd.ntmps18
  go_wp2
  clear km
  have hb0 : Below w.heap.size w (w.alloc (.cells cs0 26)) := (Below.refl _ _).alloc (Nat.le_refl _) _
  have hw0 := Whole.new w 26 cs0
  go_loopw [4] (fun iv wr => ∃ (k : Nat) (cs : Array Value) (bs : List Nat), k ≤ l.length ∧ iv = .int .i64 k ∧ Whole wr w.heap.size 26 cs ∧ cs.size = l.length * 3 ∧ OwVE wr (w.heap.size + 1) 3 (TypeX.rows (l.take k)) (cs.toList.take (k * 3)) bs ∧ bs.Nodup ∧ Below w.heap.size w wr) (fun iv _ => l.length - (Go.RowKit.intOf iv).toNat)
  case atStart => exact ⟨0, cs0, [], Nat.zero_le _, rfl, hw0, HM.out, by rw [List.take_zero, TypeX.rows_map, List.map_nil, Nat.zero_mul, List.take_zero, OwVE]; exact ⟨rfl, rfl⟩, List.nodup_nil, hb0⟩
  case round =>
    obtain ⟨k, cs, bs, hk, rfl, hwr, hcs, hE, hnd, hb⟩ := hrel
    clear hw0 hb0
    by_cases hlt : k < l.length
    · obtain ⟨b, o, A2, c2, hA, hP, p0, p1, p2, h2⟩ := (HL.out.grow hb).at_ hlt
      subst hA
      have hnx := nodesVE_at (TypeX.rows l) k (by rw [TypeX.rows_length]; exact hlt)
      rw [TypeX.rows_at l k hlt] at hnx
      have HNX := Lib.hid (show DV.nodesL l[k].cells ≤ N by have := HN.out; omega)
      clear hnx
      have hwx : DV.wtL l[k].cells ≤ 1048576 := by
        have h := wtVE_at (TypeX.rows l) k (by rw [TypeX.rows_length]; exact hlt)
        rw [TypeX.rows_at l k hlt] at h
        have := HW.out
        omega
      have hX : TypeAt wr (Und wr.heap.size) l[k] (.agg #[.int .i64 l[k].kind_, .string l[k].name_, .slice A2 l[k].args_.length c2]) := ⟨A2, c2, rfl, h2⟩
      have HX := Lib.hid hX
      clear hX
      have HE := Lib.hid hE
      have HND := Lib.hid hnd
      clear h2 hE hnd
      go_wp2_with fail
      refine (ih l[k] _ _ HNX.out hwx HX.out).mono ?_
      rintro e w1 ⟨vs, b2, rfl, ho2, hn2, hb1⟩
      have hcell := TypeX.cells_length l[k]
      have hw1 := hwr.below hb1 hwr.lt
      have hfill := fun (w2 : World) (h2 : ∀ b, b ≠ w.heap.size → w2.heap[b]? = w1.heap[b]?) => OwVE_fill HE.out HND.out hb1 hwr.lt ho2 hn2 hcell (by have : (k + 1) * 3 ≤ l.length * 3 := Nat.mul_le_mul_right _ hlt; omega) h2
      have ho3 := ho2
      rw [TypeX.cells_eq] at ho3
      simp only [OwVs] at ho3
      obtain ⟨v0, _, z0, _, rfl, rfl, k0, v1, _, z1, _, rfl, rfl, k1, v2, _, z2, _, rfl, rfl, k2, rfl, rfl⟩ := ho3
      rw [OwV] at k0
      obtain ⟨rfl, rfl⟩ := k0
      rw [OwV] at k1
      obtain ⟨rfl, rfl⟩ := k1
      obtain ⟨V2, C2, rfl⟩ := OwV_shape k2 (TypeX.rows_length _)
      obtain ⟨d0, e0⟩ : ∃ v, w1.cell? ⟨w.heap.size, k * 3, none⟩ = some v := by rw [hw1.cell]; exact ⟨_, Array.getElem?_eq_getElem (by have : (k + 1) * 3 ≤ l.length * 3 := Nat.mul_le_mul_right _ hlt; omega)⟩
      have f0 := hw1.frozen (k * 3)
      obtain ⟨d1, e1⟩ : ∃ v, w1.cell? ⟨w.heap.size, k * 3 + 1, none⟩ = some v := by rw [hw1.cell]; exact ⟨_, Array.getElem?_eq_getElem (by have : (k + 1) * 3 ≤ l.length * 3 := Nat.mul_le_mul_right _ hlt; omega)⟩
      have f1 := hw1.frozen (k * 3 + 1)
      obtain ⟨d2, e2⟩ : ∃ v, w1.cell? ⟨w.heap.size, k * 3 + 2, none⟩ = some v := by rw [hw1.cell]; exact ⟨_, Array.getElem?_eq_getElem (by have : (k + 1) * 3 ≤ l.length * 3 := Nat.mul_le_mul_right _ hlt; omega)⟩
      have f2 := hw1.frozen (k * 3 + 2)
      have HF := Lib.hid hfill
      have hb2 : Below w.heap.size w w1 := hb.trans (hb1.mono hb.size)
      have hkb : (k : Int) ≤ 1048576 := by have := HW.out; omega
      clear hfill ho2 hn2 hcell k2
      go_wp2
      go_roundw
      case rel =>
        have hfin := HF.out (((w1.setCell ⟨w.heap.size, k * 3, none⟩ (.int .i64 l[k].kind_)).setCell ⟨w.heap.size, k * 3 + 1, none⟩ (.string l[k].name_)).setCell ⟨w.heap.size, k * 3 + 2, none⟩ (.slice V2 l[k].args_.length C2)) (fun b hne => by rw [Below.heap_setCell _ _ _ _ (by exact hne), Below.heap_setCell _ _ _ _ (by exact hne), Below.heap_setCell _ _ _ _ (by exact hne)])
        exact ⟨k + 1, _, _, by omega, by go_num, show Whole _ _ _ (setAt cs (k * 3) [.int .i64 l[k].kind_, .string l[k].name_, .slice V2 l[k].args_.length C2]) from (((hw1.set_ _ _).set_ _ _).set_ _ _), by rw [setAt_size]; exact hcs, by rw [List.take_succ_eq_append_getElem hlt, TypeX.rows_snoc]; exact hfin.1, hfin.2, (((hb2.setCell (Nat.le_refl _) _).setCell (Nat.le_refl _) _).setCell (Nat.le_refl _) _)⟩
      case measure => simp [Go.RowKit.intOf]; omega
    · have hkl : k = l.length := by omega
      subst hkl
      rw [List.take_length, List.take_of_length_le (by simp [hcs])] at hE
      have hfin := OwV_filled hwr hcs (by have := HW.out; unfold maxLen; omega) (TypeX.rows_length l) hE hnd
      have HF := Lib.hid hfin
      clear hE hnd hfin
      go_wp2
      go_ret
      exact ⟨_, _, rfl, HF.out.1, HF.out.2, hb⟩

set_option maxRecDepth 100000 in
set_option maxHeartbeats 2000000 in
theorem toEmpty_Type (A : Option Addr) (c : Nat) (w : World) : Calls Tryd.prog 18 #[.slice A 0 c] w (MadeR (.row 26 3 (TypeX.rows [])) w) := by
  obtain ⟨i0, hi, hz0, hz1, hz2⟩ := info_parts infoType
  have km := fun (w : World) => run_make (P := Tryd.prog) w 24 26 i0 (.agg #[.int .i64 0, .string ByteArray.empty, .slice none 0 0]) Tryd.underlying24 hi hz0 .i64 .i64 (0 : Int) (0 : Int) (by omega) (by omega) (by rw [hz2]; omega) (by omega)
  simp only [Int.toNat_zero, Nat.zero_mul] at km
  have hms : (madeCells (Value.agg #[.int .i64 0, .string ByteArray.empty, .slice none 0 0]).cells 0).size = 0 := size_madeCells _ _
  generalize madeCells (Value.agg #[.int .i64 0, .string ByteArray.empty, .slice none 0 0]).cells 0 = cs0 at *
  have hw0 := Whole.new w 26 cs0
  have hb0 : Below w.heap.size w (w.alloc (.cells cs0 26)) := (Below.refl _ _).alloc (Nat.le_refl _) _
  have hfin := OwV_filled hw0 (n := 0) (K := 3) (by omega) (by unfold maxLen; omega) (xs := TypeX.rows []) (TypeX.rows_length []) (bs := []) (by rw [TypeX.rows_map, List.map_nil, OwVE]; exact ⟨List.eq_nil_of_length_eq_zero (by simpa using hms), rfl⟩) List.nodup_nil
  have HF := Lib.hid hfin
  have HB := Lib.hid hb0
  clear hi hz0 hz1 hz2 hms hw0 hb0 hfin
  go_enter Tryd.func18, Tryd.ntmps18
  go_wp2
  clear km
  refine wp_loop_rounds 1 ?_
  rw [rounds_succ]
  go_wp2
  go_ret
  exact ⟨_, _, rfl, HF.out.1, HF.out.2, HB.out⟩

theorem toZero_Type : ToTypeS 0 := by
  refine fun l A c w hn hw hl => ?_
  have hc := nodesVE_count (TypeX.rows l)
  rw [TypeX.rows_length] at hc
  have hl0 : l = [] := List.eq_nil_of_length_eq_zero (by omega)
  subst hl0
  exact toEmpty_Type A c w

theorem toRows_Type : ∀ N, ToTypeS N
  | 0 => toZero_Type
  | N + 1 => toTypeS_step N (toType_step N (toRows_Type N))
theorem toType (x : TypeX) (v : Value) (w : World) (hw : DV.wtL x.cells ≤ 1048576) (hv : TypeAt w (Und w.heap.size) x v) : Calls Tryd.prog 27 #[v] w (MadeV x.cells w) := (toType_step (DV.nodesL x.cells) (toRows_Type (DV.nodesL x.cells))) x v w (Nat.le_refl _) hw hv
theorem toTypeS (l : List TypeX) (A : Option Addr) (c : Nat) (w : World) (hw : DV.wtE (TypeX.rows l) ≤ 1048576) (hv : TypeRow w (Und w.heap.size) A c l) : Calls Tryd.prog 18 #[.slice A l.length c] w (MadeR (.row 26 3 (TypeX.rows l)) w) := (toRows_Type (DV.nodesE (TypeX.rows l))) l A c w (Nat.le_refl _) hw hv
end Go.Proofs.YtngbilblddngcaaDoor
namespace Go.Proofs.YtngbilblddngcaaDoor
open Go.RowKit Go.Lib

theorem TypeX.nodes_sum (x : TypeX) : DV.nodesL x.cells = DV.nodesE (TypeX.rows x.args_) := by
  rw [TypeX.cells_eq]
  simp only [DV.nodesL, DV.nodes]
  omega
def EqType (N : Nat) : Prop := ∀ (x : TypeX) (v v' : Value) (w : World), DV.nodesL x.cells ≤ N → TypeAt w (Und w.heap.size) x v → TypeAt w (Und w.heap.size) x v' →
  Calls Tryd.prog 28 #[v, v'] w fun e w' => e = .returned (.bool true) ∧ Below w.heap.size w w'
def EqTypeS (N : Nat) : Prop := ∀ (l : List TypeX) (A B : Option Addr) (c d : Nat) (w : World), DV.nodesE (TypeX.rows l) ≤ N → TypeRow w (Und w.heap.size) A c l → TypeRow w (Und w.heap.size) B d l →
  Calls Tryd.prog 21 #[.slice A l.length c, .slice B l.length d] w fun e w' => e = .returned (.bool true) ∧ Below w.heap.size w w'

set_option maxRecDepth 100000 in
set_option maxHeartbeats 2000000 in
theorem eqType_step (N : Nat) (ihTypeS : EqTypeS N) : EqType N := by
  intro x v v' w hn hv hv'
  obtain ⟨A2, c2, rfl, h2⟩ := hv
  obtain ⟨B2, d2, rfl, g2⟩ := hv'
  have hb0 : Below w.heap.size w ((w.alloc (.cells #[.int .i64 x.kind_, .string x.name_, .slice A2 x.args_.length c2] 26)).alloc (.cells #[.int .i64 x.kind_, .string x.name_, .slice B2 x.args_.length d2] 26)) := ((Below.refl _ _).alloc (Nat.le_refl _) _).alloc (by simp) _
  have H2 := Lib.hid (h2.grow hb0)
  have G2 := Lib.hid (g2.grow hb0)
  have HN := Lib.hid hn
  have HNE := Lib.hid (TypeX.nodes_sum x)
  clear h2 g2 hn
  go_enter Tryd.func28, Tryd.ntmps28
  go_wp2_with fail
  refine (ihTypeS x.args_ _ _ _ _ _ (by have := HN.out; have := HNE.out; omega) H2.out G2.out).mono ?_
  rintro e w1 ⟨rfl, b1⟩
  have hb1 : Below w.heap.size w w1 := hb0.trans (b1.mono hb0.size)
  go_wp2
  go_ret
  exact ⟨rfl, hb1⟩

set_option maxRecDepth 100000 in
set_option maxHeartbeats 2000000 in
theorem eqTypeS_step (N : Nat) (ih : EqType N) : EqTypeS (N + 1) := by
  intro l A B c d w hn hA hB
  have hlen := hA.cap
  have HA := Lib.hid hA
  have HB := Lib.hid hB
  have HN := Lib.hid hn
  clear hA hB hn
  go_enter Tryd.func21, Tryd.ntmps21
  go_wp2
  go_loopw [5] (fun iv wr => ∃ k : Nat, k ≤ l.length ∧ iv = .int .i64 k ∧ Below w.heap.size w wr) (fun iv _ => l.length - (Go.RowKit.intOf iv).toNat)
  case atStart => exact ⟨0, Nat.zero_le _, rfl, Below.refl _ _⟩
  case round =>
    obtain ⟨k, hk, rfl, hb⟩ := hrel
    by_cases hlt : k < l.length
    · obtain ⟨b, o, A2, c2, hA, hP, p0, p1, p2, h2⟩ := (HA.out.grow hb).at_ hlt
      subst hA
      obtain ⟨b2, o2, B2, d2, hB, hP2, r0, r1, r2, g2⟩ := (HB.out.grow hb).at_ hlt
      subst hB
      have hnx := nodesVE_at (TypeX.rows l) k (by rw [TypeX.rows_length]; exact hlt)
      rw [TypeX.rows_at l k hlt] at hnx
      have hn' : DV.nodesL l[k].cells ≤ N := by have := HN.out; omega
      have cE : ∀ dr os, Calls Tryd.prog 28 #[.agg #[.int .i64 l[k].kind_, .string l[k].name_, .slice A2 l[k].args_.length c2], .agg #[.int .i64 l[k].kind_, .string l[k].name_, .slice B2 l[k].args_.length d2]] (Go.Sort.grow (redrawn wr dr) os) fun e w'' => e = .returned (.bool true) ∧ ∃ p : Regrown, w'' = Go.Sort.grow (redrawn wr p.d) p.os :=
        fun dr os => Calls.regrown_of (ih l[k] _ _ _ hn' ⟨_, _, rfl, h2.grow (below_regrown wr dr os)⟩ ⟨_, _, rfl, g2.grow (below_regrown wr dr os)⟩)
      have kp0 := cell_regrown p0
      have kr0 := cell_regrown r0
      have kp1 := cell_regrown p1
      have kr1 := cell_regrown r1
      have kp2 := cell_regrown p2
      have kr2 := cell_regrown r2
      have hk0 : (0 : Int) ≤ k := by omega
      clear h2 g2 hnx hn'
      go_wp2
      refine wp_region_quiet_below (by kernel_rfl) (by kernel_rfl) ?_
      repeat (quiet_step (exact cE _ _))
      refine wpQuiet_nil ?_
      intro _ hw'
      obtain ⟨⟨dq, osq⟩, hw''⟩ := hw'
      subst hw''
      have hb3 := hb.trans ((below_regrown wr dq osq).mono hb.size)
      clear cE kp0 kr0 kp1 kr1 kp2 kr2
      go_wp2
      go_roundw
      case rel => exact ⟨k + 1, by omega, by go_num, hb3⟩
      case measure => simp [Go.RowKit.intOf]; omega
    · go_wp2
      go_ret
      exact ⟨rfl, hb⟩

theorem eqRows_Type : ∀ N, EqTypeS N
  | 0 => by
    intro l A B c d w hn _ _
    have hc := nodesVE_count (TypeX.rows l)
    rw [TypeX.rows_length] at hc
    have hl : l = [] := List.eq_nil_of_length_eq_zero (by omega)
    subst hl
    go_enter Tryd.func21, Tryd.ntmps21
    go_wp2
    refine wp_loop_rounds 1 ?_
    rw [rounds_succ]
    go_wp2
    go_ret
    exact ⟨rfl, Below.refl _ _⟩
  | N + 1 => eqTypeS_step N (eqType_step N (eqRows_Type N))
theorem eqType (x : TypeX) (v v' : Value) (w : World) (hv : TypeAt w (Und w.heap.size) x v) (hv' : TypeAt w (Und w.heap.size) x v') :
    Calls Tryd.prog 28 #[v, v'] w fun e w' => e = .returned (.bool true) ∧ Below w.heap.size w w' := (eqType_step (DV.nodesL x.cells) (eqRows_Type (DV.nodesL x.cells))) x v v' w (Nat.le_refl _) hv hv'
theorem eqTypeS (l : List TypeX) (A B : Option Addr) (c d : Nat) (w : World) (hv : TypeRow w (Und w.heap.size) A c l) (hv' : TypeRow w (Und w.heap.size) B d l) :
    Calls Tryd.prog 21 #[.slice A l.length c, .slice B l.length d] w fun e w' => e = .returned (.bool true) ∧ Below w.heap.size w w' := (eqRows_Type (DV.nodesE (TypeX.rows l))) l A B c d w (Nat.le_refl _) hv hv'
end Go.Proofs.YtngbilblddngcaaDoor
namespace Go.Proofs.YtngbilblddngcaaDoor
open Go.RowKit

theorem cells3 {w : World} {g : Nat} {t : TypeId} {a b c : Value} (h : Whole w g t #[a, b, c]) : w.cell? ⟨g, 0, none⟩ = some a ∧ w.cell? ⟨g, 1, none⟩ = some b ∧ w.cell? ⟨g, 2, none⟩ = some c :=
  ⟨by rw [h.cell]; rfl, by rw [h.cell]; rfl, by rw [h.cell]; rfl⟩
theorem whole_keep {w w' : World} {g : Nat} {t : TypeId} {cs : Array Value} (h : Whole w g t cs) (hb : Below w.heap.size w w') : Whole w' g t cs := h.below hb h.lt
end Go.Proofs.YtngbilblddngcaaDoor
namespace Go.Proofs.YtngbilblddngcaaDoor
open Go.RowKit Go.Lib

mutual
theorem TypeX.size_wt : ∀ x : TypeX, x.size ≤ DV.wtL x.cells + 1
  | .mk a b c => by
    rw [TypeX.size, TypeX.cells]
    simp only [DV.wtL, DV.wt]
    have h := TypeX.sizeL_wt c
    omega
theorem TypeX.sizeL_wt : ∀ l : List TypeX, TypeX.sizeL l ≤ DV.wtE (TypeX.rows l)
  | [] => by rw [TypeX.sizeL]; omega
  | x :: r => by
    have h1 := TypeX.size_wt x
    have h2 := TypeX.sizeL_wt r
    rw [TypeX.sizeL, TypeX.rows, DV.wtE]; omega
end
/-- A new type reads as one. -/
theorem made_type {x : TypeX} {w w' : World} {e : Ending} (h : MadeV x.cells w e w') : ∃ (A : Option Addr) (c : Nat), e = .returned (.agg #[.int .i64 x.kind_, .string x.name_, .slice A x.args_.length c]) ∧ TypeRow w' (Und w'.heap.size) A c x.args_ ∧ Below w.heap.size w w' := by
  obtain ⟨vs, bs, rfl, ho, _, hb⟩ := h
  obtain ⟨A, c, e, hr⟩ := TypeAt.of_reads (OwVs_read (P := Und w'.heap.size) x.cells (fun b hb' => (OwVs_lt x.cells ho b hb').2) ho)
  exact ⟨A, c, by rw [e], hr, hb⟩
theorem TypeRow.drew_ {w : World} {A : Option Addr} {c : Nat} {l : List TypeX} (h : TypeRow w (Und w.heap.size) A c l) : TypeRow w.drew (Und w.drew.heap.size) A c l := h.frame (fun _ h => h) fun _ _ _ => rfl
end Go.Proofs.YtngbilblddngcaaDoor
namespace Go.Proofs.YtngbilblddngcaaDoor
open Go.RowKit Go.Lib

theorem wpList_append_any {P : Program} {w : World} {ops : Array Oper} {rest : List Oper} {o : Oper} {a : Act} {Q : Exit → Act → World → Prop} (hgd : o.guard = none) (s x : Operand) (t : TypeId)
    (ho : o.op = .call { callee := .builtin .append, args := #[s, x], argTypes := #[t, t] })
    (base : Nat) (e : TypeId) (i : TypeInfo) (z : Value) (size bytes : Nat) (ht : P.underlying t = some (.slice e)) (hi : P.info? e = some i) (hz : i.zero = some z)
    (hsize : i.size = size) (hby : i.bytes = bytes) (hzs : z.cells.size = size) (hsz : 0 < size)
    (v : Value) (n : Nat) (xs : List Value) (hs : a.eval s = v) (hown : w.ownsRow base e size v n xs)
    (A : Option Addr) (m c : Nat) (news : List Value) (hx : a.eval x = .slice A m c) (hl : news.length = m * size)
    (hA : m = 0 ∨ ∃ ad, A = some ad ∧ ∀ (j : Nat) (u : Value), news[j]? = some u → w.cell? (ad.add j) = some u) (h1 : ∀ u ∈ news, u.oneCell' = true)
    (h63 : n + m ≤ maxLen) (hbytes : (n + m) * bytes ≤ 140737488355328) (hbase : base ≤ w.heap.size) (H : Nat) (hH : w.heap.size = H)
    (h : ∀ v' w', w'.ownsRow base e size v' (n + m) (xs ++ news) → w.grownBy w' v.ownBlock → (v'.ownBlock = v.ownBlock ∨ v'.ownBlock = some H) → wpList P ops Q rest (a.put o.dst v') w') : wpList P ops Q (o :: rest) a w :=
  wpList_plain hgd fun _ hK => wp_append_any s x t ho base e i z size bytes ht hi hz hsize hby hzs hsz v n xs hs hown A m c news hx hl hA h1 h63 hbytes hbase H hH fun v' w' h2 h3 h4 => hK _ _ (h v' w' h2 h3 h4)

/-- These cells are those types, one after another; what they lead to lies in P. -/
def ElemsT (w : World) (P : Nat → Prop) : List TypeX → List Value → Prop
  | [], vs => vs = []
  | x :: r, vs => ∃ (A : Option Addr) (c : Nat) (rest : List Value), vs = .int .i64 x.kind_ :: .string x.name_ :: .slice A x.args_.length c :: rest ∧ TypeRow w P A c x.args_ ∧ ElemsT w P r rest
theorem ElemsT.length {w : World} {P : Nat → Prop} : ∀ {l : List TypeX} {vs : List Value}, ElemsT w P l vs → vs.length = l.length * 3
  | [], vs, h => by rw [ElemsT] at h; subst h; rfl
  | x :: r, vs, h => by
    obtain ⟨A, c, rest, rfl, _, h2⟩ := h
    simp only [List.length_cons, h2.length]; omega
theorem ElemsT.last {w : World} {P : Nat → Prop} : ∀ {l : List TypeX} {x : TypeX} {vs : List Value}, ElemsT w P (l ++ [x]) vs → ∃ vs0 A c, vs = vs0 ++ [.int .i64 x.kind_, .string x.name_, .slice A x.args_.length c] ∧ ElemsT w P l vs0 ∧ TypeRow w P A c x.args_
  | [], x, vs, h => by
    obtain ⟨A', c', rest, rfl, h1, h2⟩ := h
    rw [ElemsT] at h2; subst h2
    exact ⟨[], A', c', rfl, rfl, h1⟩
  | y :: r, x, vs, h => by
    obtain ⟨A', c', rest, rfl, h1, h2⟩ := h
    obtain ⟨vs0, A, c, rfl, h3, h4⟩ := ElemsT.last (l := r) h2
    exact ⟨_ :: _ :: _ :: vs0, A, c, rfl, ⟨A', c', vs0, rfl, h1, h3⟩, h4⟩
theorem ElemsT.append {w : World} {P : Nat → Prop} : ∀ {l : List TypeX} {vs : List Value}, ElemsT w P l vs → ∀ {m : List TypeX} {us : List Value}, ElemsT w P m us → ElemsT w P (l ++ m) (vs ++ us)
  | [], vs, h, m, us, hm => by rw [ElemsT] at h; subst h; exact hm
  | y :: r, vs, h, m, us, hm => by
    obtain ⟨A', c', rest, rfl, h1, h2⟩ := h
    exact ⟨A', c', rest ++ us, rfl, h1, h2.append hm⟩
theorem ElemsT.of_rows {w : World} {P : Nat → Prop} : ∀ {l : List TypeX} {vs : List Value}, RdVE w P 3 (TypeX.rows l) vs → ElemsT w P l vs ∧ ∀ u ∈ vs, u.oneCell' = true
  | [], vs, h => by rw [TypeX.rows, RdVE] at h; subst h; exact ⟨rfl, by simp⟩
  | x :: r, vs, h => by
    rw [TypeX.rows, RdVE] at h
    obtain ⟨v1, v2, rfl, _, h1, h2⟩ := h
    obtain ⟨h3, h4⟩ := ElemsT.of_rows h2
    rw [TypeX.cells_eq] at h1
    simp only [RdVs] at h1
    obtain ⟨u0, _, rfl, g0, u1, _, rfl, g1, u2, _, rfl, g2, rfl⟩ := h1
    rw [RdV_pl] at g0 g1
    subst g0 g1
    obtain ⟨A, c, rfl, k2⟩ := TypeRow.of_read g2
    refine ⟨⟨A, c, v2, rfl, k2, h3⟩, fun u hu => ?_⟩
    simp at hu
    rcases hu with rfl | rfl | rfl | hu
    · rfl
    · rfl
    · rfl
    · exact h4 u hu
theorem TypeRow.cells {w : World} {P : Nat → Prop} {A : Option Addr} {c : Nat} {l : List TypeX} (h : TypeRow w P A c l) :
    ∃ us : List Value, ElemsT w P l us ∧ us.length = l.length * 3 ∧ (∀ u ∈ us, u.oneCell' = true) ∧ (l.length = 0 ∨ ∃ b o, A = some ⟨b, o, none⟩ ∧ P b ∧ ∀ (j : Nat) (u : Value), us[j]? = some u → w.cell? ⟨b, o + j, none⟩ = some u) := by
  obtain ⟨A', c', e, _, _, h⟩ := RdV_row.1 h
  injection e with e1 _ _
  subst e1
  rcases h with h | ⟨b, o, hA, hP, vs, hE, hc⟩
  · have hl : l = [] := by rw [TypeX.rows_map] at h; simpa using h
    subst hl
    exact ⟨[], rfl, rfl, by simp, .inl rfl⟩
  · obtain ⟨h1, h2⟩ := ElemsT.of_rows hE
    exact ⟨vs, h1, h1.length, h2, .inr ⟨b, o, hA, hP, hc⟩⟩
theorem sizeL_snoc : ∀ (l : List TypeX) (x : TypeX), TypeX.sizeL (l ++ [x]) = TypeX.sizeL l + x.size
  | [], x => by simp [TypeX.sizeL]
  | y :: r, x => by rw [List.cons_append, TypeX.sizeL, TypeX.sizeL, sizeL_snoc r x]; omega
theorem sizeL_append : ∀ (l m : List TypeX), TypeX.sizeL (l ++ m) = TypeX.sizeL l + TypeX.sizeL m
  | [], m => by simp [TypeX.sizeL]
  | y :: r, m => by rw [List.cons_append, TypeX.sizeL, TypeX.sizeL, sizeL_append r m]; omega
theorem sizeL_length : ∀ (l : List TypeX), l.length ≤ TypeX.sizeL l
  | [] => Nat.zero_le _
  | x :: r => by have := sizeL_length r; have := TypeX.size_eq x; rw [TypeX.sizeL, List.length_cons]; omega
/-- The same cells, in a world that has grown. -/
theorem cells_inT {w w' : World} {B : Nat} {A : Option Addr} {n : Nat} {us : List Value} (hb : Below B w w') (h : n = 0 ∨ ∃ b o, A = some ⟨b, o, none⟩ ∧ Und B b ∧ ∀ (j : Nat) (u : Value), us[j]? = some u → w.cell? ⟨b, o + j, none⟩ = some u) :
    n = 0 ∨ ∃ ad, A = some ad ∧ ∀ (j : Nat) (u : Value), us[j]? = some u → w'.cell? (ad.add j) = some u := by
  rcases h with h | ⟨b, o, rfl, hP, h3⟩
  · exact .inl h
  · refine .inr ⟨_, rfl, fun j u hj => ?_⟩
    rw [Go.WideShapes.add_plain]
    exact (hb.cell (p := ⟨b, o + j, none⟩) hP).trans (h3 j u hj)
theorem pop_eqT {ls ms : List TypeX} {p q : TypeX} {Q : Prop} (h : Q ↔ ls ++ [p] = ms ++ [q]) (hl : ls.length = ms.length) : (p.kind_ = q.kind_ → p.name_ = q.name_ → p.args_.length = q.args_.length → (Q ↔ ls ++ p.args_ = ms ++ q.args_)) ∧ (p.kind_ ≠ q.kind_ ∨ p.name_ ≠ q.name_ ∨ p.args_.length ≠ q.args_.length → ¬ Q) := by
  cases p with | mk k a l => cases q with | mk k' b m =>
  constructor
  · intro hk ha hn
    rw [h]
    simp only [TypeX.kind_, TypeX.name_, TypeX.args_] at hk ha hn ⊢
    subst hk ha
    constructor
    · intro e
      obtain ⟨e1, e2⟩ := List.append_inj e hl
      simp at e2
      rw [e1, e2]
    · intro e
      obtain ⟨e1, e2⟩ := List.append_inj e hl
      rw [e1, e2]
  · intro hne hq
    obtain ⟨_, e2⟩ := List.append_inj (h.1 hq) hl
    simp at e2
    rcases hne with h | h | h
    · exact h e2.1
    · exact h e2.2.1
    · exact h (by simp only [TypeX.args_]; rw [e2.2.2])
theorem two_boxesT {w : World} {T : TypeId} (ca cb : Array Value) :
    Whole (((w.alloc (.cells ca T)).alloc (.cells cb T)).drew) w.heap.size T ca ∧ Whole (((w.alloc (.cells ca T)).alloc (.cells cb T)).drew) (w.heap.size + 1) T cb := by
  constructor
  · exact ((Whole.new w T ca).below ((Below.refl _ _).alloc (Nat.le_refl _) _) (by simp) : Whole ((w.alloc (.cells ca T)).alloc (.cells cb T)) w.heap.size T ca)
  · have h := Whole.new (w.alloc (.cells ca T)) T cb
    rw [World.size_alloc] at h
    exact h
theorem two_rowsT {w : World} {T : TypeId} {B : Nat} (a b c a' b' c' : Value) (hB : B ≤ w.heap.size) :
    (((w.alloc (.cells #[a, b, c] T)).alloc (.cells #[a', b', c'] T)).drew).ownsRow B T 3 (.slice (some ⟨w.heap.size, 0, none⟩) 1 1) 1 [a, b, c] ∧ (((w.alloc (.cells #[a, b, c] T)).alloc (.cells #[a', b', c'] T)).drew).ownsRow B T 3 (.slice (some ⟨w.heap.size + 1, 0, none⟩) 1 1) 1 [a', b', c'] := by
  constructor
  · exact ((World.ownsRow_lit w #[a, b, c] 1 hB (by decide) rfl).alloc _ : ((w.alloc (.cells #[a, b, c] T)).alloc (.cells #[a', b', c'] T)).ownsRow B T 3 (.slice (some ⟨w.heap.size, 0, none⟩) 1 1) 1 [a, b, c])
  · have h := World.ownsRow_lit (base := B) (size := 3) (e := T) (w.alloc (.cells #[a, b, c] T)) #[a', b', c'] 1 (by simp; omega) (by decide) rfl
    rw [World.size_alloc] at h
    exact h

theorem infoTy : (Tryd.prog.info? 26).map (fun i => (i.zero, i.size, i.bytes)) = some (some (.agg #[.int .i64 0, .string ByteArray.empty, .slice none 0 0]), 3, 48) := by kernel_rfl

end Go.Proofs.YtngbilblddngcaaDoor
namespace Go.Proofs.YtngbilblddngcaaDoor
open Go.RowKit Go.Lib

/-- A block that is there, and none of G. -/
def Nog (G : Nat → Prop) (w : World) (b : Nat) : Prop := b < w.heap.size ∧ ¬ G b
/-- A ROW OF TYPES of the call's own; what its types lead to lies neither in it nor in G. -/
def TopT (G : Nat → Prop) (w w' : World) (V : Value) (l : List TypeX) : Prop :=
  ∃ us, w'.ownsRow w.heap.size 26 3 V l.length us ∧ ElemsT w' (fun b => Nog G w' b ∧ V.ownBlock ≠ some b) l us
/-- A TYPE whose arguments' row is the call's own. -/
def MadeT (G : Nat → Prop) (x : TypeX) (w : World) (e : Ending) (w' : World) : Prop := ∃ V, e = .returned (.agg #[.int .i64 x.kind_, .string x.name_, V]) ∧ TopT G w w' V x.args_

theorem ElemsT.frame {w w' : World} {P Q : Nat → Prop} (hPQ : ∀ b, P b → Q b) (hk : ∀ b o, P b → w'.cell? ⟨b, o, none⟩ = w.cell? ⟨b, o, none⟩) : ∀ {l : List TypeX} {us : List Value}, ElemsT w P l us → ElemsT w' Q l us
  | [], us, h => h
  | x :: r, us, h => by
    obtain ⟨A, c, rest, rfl, h1, h2⟩ := h
    exact ⟨A, c, rest, rfl, h1.frame hPQ hk, ElemsT.frame hPQ hk h2⟩
theorem ElemsT.rows {w : World} {P : Nat → Prop} : ∀ {l : List TypeX} {us : List Value}, ElemsT w P l us → RdVE w P 3 (TypeX.rows l) us
  | [], us, h => by rw [ElemsT] at h; subst h; rw [TypeX.rows, RdVE]
  | x :: r, us, h => by
    obtain ⟨A, c, rest, rfl, h1, h2⟩ := h
    rw [TypeX.rows, RdVE]
    refine ⟨[.int .i64 x.kind_, .string x.name_, .slice A x.args_.length c], rest, rfl, x.cells_length, ?_, h2.rows⟩
    rw [TypeX.cells_eq]
    simp only [RdVs]
    exact ⟨_, _, rfl, by rw [RdV_pl], _, _, rfl, by rw [RdV_pl], _, _, rfl, h1, rfl⟩
theorem ElemsT.one {w : World} {P : Nat → Prop} {l : List TypeX} {us : List Value} (h : ElemsT w P l us) : ∀ u ∈ us, u.oneCell' = true := (ElemsT.of_rows h.rows).2
/-- An owned row of types reads as one. -/
theorem own_typeRow {w : World} {P Q : Nat → Prop} {B : Nat} {V : Value} {l : List TypeX} {us : List Value} (ho : w.ownsRow B 26 3 V l.length us) (he : ElemsT w P l us) (hPQ : ∀ b, P b → Q b) (hV : ∀ b, V.ownBlock = some b → Q b) :
    ∃ A c, V = .slice A l.length c ∧ TypeRow w Q A c l := by
  have hE : RdVE w Q 3 (TypeX.rows l) us := (he.frame hPQ (fun _ _ _ => rfl)).rows
  rcases ho.2 with ⟨rfl, hn⟩ | ⟨g, cap, cur, rfl, _, hg, hnc, hcm, _⟩
  · have hl : l = [] := List.eq_nil_of_length_eq_zero hn
    subst hl
    exact ⟨none, 0, rfl, TypeRow.nil _ _ _ _ (by omega)⟩
  · refine ⟨some ⟨g, 0, none⟩, cap, rfl, RdV_row.2 ⟨some ⟨g, 0, none⟩, cap, by rw [TypeX.rows_length], by rw [TypeX.rows_length]; exact hnc, by unfold maxLen at hcm; omega, .inr ⟨g, 0, rfl, hV g rfl, us, hE, fun i v hi => ?_⟩⟩⟩
    have hil : i < l.length * 3 := by rw [← ho.1]; exact (List.getElem?_eq_some_iff.1 hi).1
    rw [Nat.zero_add, World.ownsRow.cellAt ho i hil]
    exact hi
theorem TopT.row {G : Nat → Prop} {w w' : World} {V : Value} {l : List TypeX} (hG : ∀ b, G b → b < w.heap.size) (h : TopT G w w' V l) : ∃ A c, V = .slice A l.length c ∧ TypeRow w' (Nog G w') A c l := by
  obtain ⟨us, ho, he⟩ := h
  exact own_typeRow ho he (fun b h => h.1) (fun b hb => ⟨(ho.lt b hb).2, fun hg => by have := (ho.lt b hb).1; have := hG b hg; omega⟩)
theorem TopT.shape {G : Nat → Prop} {w w' : World} {V : Value} {l : List TypeX} (h : TopT G w w' V l) : ∃ A c, V = .slice A l.length c := by
  obtain ⟨us, ho, _⟩ := h
  rcases ho.2 with ⟨rfl, h0⟩ | ⟨g, cap, cur, rfl, _⟩
  · exact ⟨none, 0, by rw [h0]⟩
  · exact ⟨_, cap, rfl⟩
/-- It stays while only blocks of G change. -/
theorem TopT.but {G : Nat → Prop} {g : Nat} {w w' w'' : World} {V : Value} {l : List TypeX} (hG : ∀ b, G b → b < w.heap.size) (hg : G g) (h : TopT G w w' V l) (hb : But g w' w'') : TopT G w w'' V l := by
  obtain ⟨us, ho, he⟩ := h
  refine ⟨us, own_same ho fun b hv => hb.block b (ho.lt b hv).2 (fun e => by have := (ho.lt b hv).1; have := hG g hg; omega), he.frame (fun b h => ⟨⟨Nat.lt_of_lt_of_le h.1.1 hb.size, h.1.2⟩, h.2⟩) fun b o h => World.cell?_of_block (a := ⟨b, o, none⟩) (hb.block b h.1.1 (fun e => h.1.2 (e ▸ hg)))⟩
theorem TopT.below {G : Nat → Prop} {w w' w'' : World} {V : Value} {l : List TypeX} (h : TopT G w w' V l) (hb : Below w'.heap.size w' w'') : TopT G w w'' V l := by
  obtain ⟨us, ho, he⟩ := h
  refine ⟨us, own_same ho fun b hv => hb.block b (ho.lt b hv).2, he.frame (fun b h => ⟨⟨Nat.lt_of_lt_of_le h.1.1 hb.size, h.1.2⟩, h.2⟩) fun b o h => hb.cell (p := ⟨b, o, none⟩) h.1.1⟩
/-- The same, of a block that is none of the row's. -/
theorem TopT.butX {G : Nat → Prop} {g : Nat} {w w' w'' : World} {V : Value} {l : List TypeX} (h : TopT G w w' V l) (hV : V.ownBlock ≠ some g) (hg : G g) (hb : But g w' w'') : TopT G w w'' V l := by
  obtain ⟨us, ho, he⟩ := h
  refine ⟨us, own_same ho fun b hv => hb.block b (ho.lt b hv).2 (fun e => hV (by rw [hv, e])), he.frame (fun b h => ⟨⟨Nat.lt_of_lt_of_le h.1.1 hb.size, h.1.2⟩, h.2⟩) fun b o h => World.cell?_of_block (a := ⟨b, o, none⟩) (hb.block b h.1.1 (fun e => h.1.2 (e ▸ hg)))⟩
theorem TopT.wide {G : Nat → Prop} {w w1 w' : World} {V : Value} {l : List TypeX} (h : TopT G w1 w' V l) (hs : w.heap.size ≤ w1.heap.size) : TopT G w w' V l := by
  obtain ⟨us, ho, he⟩ := h
  refine ⟨us, ⟨ho.1, ?_⟩, he⟩
  rcases ho.2 with h' | ⟨g, cap, cur, e, hb, rest⟩
  · exact .inl h'
  · exact .inr ⟨g, cap, cur, e, Nat.le_trans hs hb, rest⟩
theorem TopT.less {G G' : Nat → Prop} {w w' : World} {V : Value} {l : List TypeX} (h : TopT G' w w' V l) (hG : ∀ b, G b → G' b) : TopT G w w' V l := by
  obtain ⟨us, ho, he⟩ := h
  exact ⟨us, ho, he.frame (fun b h => ⟨⟨h.1.1, fun hg => h.1.2 (hG b hg)⟩, h.2⟩) fun _ _ _ => rfl⟩
theorem TopT.nil (G : Nat → Prop) (w w' : World) : TopT G w w' (.slice none 0 0) [] := ⟨[], World.ownsRow_nil _ _ _ _, rfl⟩
/-- The result's three cells written. -/
theorem tyEnd {w w3 : World} {a b c : Value} {k : Int} {s : ByteArray} {A : Option Addr} {n cc : Nat} (hx : Whole w3 w.heap.size 26 #[a, b, c]) (hb : Below w.heap.size w w3) :
    ∀ w4, w4 = ((w3.setCell ⟨w.heap.size, 0, none⟩ (.int .i64 k)).setCell ⟨w.heap.size, 1, none⟩ (.string s)).setCell ⟨w.heap.size, 2, none⟩ (.slice A n cc) →
      w4.cell? ⟨w.heap.size, 0, none⟩ = some (.int .i64 k) ∧ w4.cell? ⟨w.heap.size, 1, none⟩ = some (.string s) ∧ w4.cell? ⟨w.heap.size, 2, none⟩ = some (.slice A n cc) ∧ But w.heap.size w3 w4 ∧ Below w.heap.size w w4 := by
  rintro w4 rfl
  have hx3 := ((hx.set_ 0 (.int .i64 k)).set_ 1 (.string s)).set_ 2 (.slice A n cc)
  obtain ⟨e0, e1, e2⟩ := cells3 (by simpa using hx3)
  exact ⟨e0, e1, e2, ((But.set_ _ _ 0 _).trans (But.set_ _ _ 1 _)).trans (But.set_ _ _ 2 _), ((hb.setCell (p := ⟨w.heap.size, 0, none⟩) (Nat.le_refl _) _).setCell (p := ⟨w.heap.size, 1, none⟩) (Nat.le_refl _) _).setCell (p := ⟨w.heap.size, 2, none⟩) (Nat.le_refl _) _⟩

set_option maxRecDepth 100000 in
theorem varC (G : Nat → Prop) (s : ByteArray) (w : World) : Calls Tryd.prog 40 #[.string s] w fun e w' => MadeT G (.mk 1 s []) w e w' ∧ Below w.heap.size w w' := by
  have hb0 : ∀ a b c, Below w.heap.size w (w.alloc (.cells #[a, b, c] 26)) := fun a b c => (Below.refl _ _).alloc (Nat.le_refl _) _
  go_enter Tryd.func40, Tryd.ntmps40
  go_wp2
  exact bodyPost_ret (v := .agg #[.int .i64 1, .string s, .slice none 0 0]) (by simp [results, Tryd.results40, go_sem]) rfl ⟨⟨_, rfl, TopT.nil _ _ _⟩, hb0 _ _ _⟩

set_option maxRecDepth 100000 in
set_option maxHeartbeats 2000000 in
theorem conC (G : Nat → Prop) (s : ByteArray) (A : Option Addr) (c : Nat) (l : List TypeX) (w : World) (hl : l.length ≤ 1000000) (hA : TypeRow w (Nog G w) A c l) :
    Calls Tryd.prog 56 #[.string s, .slice A l.length c] w fun e w' => MadeT G (.mk 2 s l) w e w' ∧ Below w.heap.size w w' := by
  obtain ⟨i0, hi, hz0, hz1, hz2⟩ := info_parts infoTy
  obtain ⟨us, he, hul, hone, hadr⟩ := hA.cells
  have hb0 : Below w.heap.size w ((w.alloc (.cells #[.int .i64 0, .string ByteArray.empty, .slice none 0 0] 26)).alloc (.cells #[] 26)) := ((Below.refl _ _).alloc (Nat.le_refl _) _).alloc (by simp) _
  have hown := World.ownsRow_made (base := w.heap.size + 1) (e := 26) (size := 3) (w.alloc (.cells #[.int .i64 0, .string ByteArray.empty, .slice none 0 0] 26)) #[] 0 (by simp) (by decide) rfl
  rw [World.size_alloc] at hown
  have hx0 : Whole ((w.alloc (.cells #[.int .i64 0, .string ByteArray.empty, .slice none 0 0] 26)).alloc (.cells #[] 26)) w.heap.size 26 #[.int .i64 0, .string ByteArray.empty, .slice none 0 0] :=
    (Whole.new w _ _).below ((Below.refl (w.heap.size + 1) _).alloc (by simp) _) (by omega)
  have hcells : l.length = 0 ∨ ∃ ad, A = some ad ∧ ∀ (j : Nat) (u : Value), us[j]? = some u → ((w.alloc (.cells #[.int .i64 0, .string ByteArray.empty, .slice none 0 0] 26)).alloc (.cells #[] 26)).cell? (ad.add j) = some u := by
    rcases hadr with h | ⟨b, o, rfl, hP, hc⟩
    · exact .inl h
    · refine .inr ⟨_, rfl, fun j u hj => ?_⟩
      rw [Go.WideShapes.add_plain]
      exact (hb0.cell (p := ⟨b, o + j, none⟩) hP.1).trans (hc j u hj)
  have HB := Lib.hid hb0
  have HO := Lib.hid hown
  have HX := Lib.hid hx0
  have HC := Lib.hid hcells
  have HE := Lib.hid he
  have HL := Lib.hid hul
  have H1 := Lib.hid hone
  clear hb0 hown hx0 hcells he hul hone hadr hA
  go_enter Tryd.func56, Tryd.ntmps56
  go_wp2_with (at_builtin; refine wpList_append_any rfl (.tmp 6) (.tmp 7) 24 rfl (w.heap.size + 1) 26 i0 (.agg #[.int .i64 0, .string ByteArray.empty, .slice none 0 0]) 3 48 Tryd.underlying24 hi hz0 hz1 hz2 rfl (by decide) (.slice (some ⟨w.heap.size + 1, 0, none⟩) 0 0) 0 [] rfl HO.out A l.length c us rfl HL.out HC.out H1.out (by unfold maxLen; omega) (by omega) (by simp) (w.heap.size + 2) (by simp) ?_)
  intro V w2 hown2 hgrow2 hat2
  have hz2' := hgrow2.size
  simp only [World.size_alloc] at hz2'
  have hx2 : Whole w2 w.heap.size 26 #[.int .i64 0, .string ByteArray.empty, .slice none 0 0] := (hgrow2.block _ HX.out.lt (by simp [Value.ownBlock])).trans HX.out
  have hb2 : Below w.heap.size w w2 := HB.out.grown hgrow2 HB.out.size (fun k hk => by simp [Value.ownBlock] at hk; omega)
  have he2 : ElemsT w2 (fun b => Nog G w b) l us := HE.out.frame (fun b h => h) fun b o hP => hb2.cell (p := ⟨b, o, none⟩) hP.1
  have hVb : ∀ b, V.ownBlock = some b → w.heap.size + 1 ≤ b := fun b hb => (hown2.lt b hb).1
  obtain ⟨A2, n2, hV⟩ := own_nil hown2
  subst hV
  have htop : TopT (fun b => G b ∨ b = w.heap.size) w w2 (.slice A2 l.length n2) l := by
    refine ⟨us, ⟨hown2.1, ?_⟩, he2.frame (fun b h => ⟨⟨by have := h.1; omega, fun hg => hg.elim h.2 (fun e => by have := h.1; omega)⟩, fun e => by have := hVb b e; have := h.1; omega⟩) fun _ _ _ => rfl⟩
    rcases hown2.2 with h' | ⟨g', cap, cur, e, hb, rest⟩
    · exact .inl h'
    · exact .inr ⟨g', cap, cur, e, by omega, rest⟩
  have hend := tyEnd (k := 2) (s := s) (A := A2) (n := l.length) (cc := n2) hx2 hb2
  have hVX : (Value.slice A2 l.length n2).ownBlock ≠ some w.heap.size := fun e => by have := hVb _ e; omega
  obtain ⟨r0, r1, r2⟩ := cells3 hx2
  have rf0 := hx2.frozen 0
  have rf1 := hx2.frozen 1
  have rf2 := hx2.frozen 2
  have hlt := hx2.lt
  have HT := Lib.hid htop
  have HE2 := Lib.hid hend
  have HVX := Lib.hid hVX
  clear htop hend he2 hown2 hgrow2 hat2 hb2 hx2 hVX
  go_wp2
  obtain ⟨e0, e1, e2, hbut, hb3⟩ := HE2.out _ rfl
  exact bodyPost_ret (v := .agg #[.int .i64 2, .string s, .slice A2 l.length n2]) (by simp [results, Tryd.results56, go_sem, e0, e1, e2]) rfl ⟨⟨_, rfl, (HT.out.butX HVX.out (.inr rfl) hbut).less fun b h => .inl h⟩, hb3⟩
end Go.Proofs.YtngbilblddngcaaDoor
namespace Go.Proofs.YtngbilblddngcaaDoor
open Go.RowKit

/-- The list holds the string. -/
def has (l : List ByteArray) (s : ByteArray) : Bool := l.any fun x => x.data.toList == s.data.toList
theorem data_inj {x s : ByteArray} (h : x.data.toList = s.data.toList) : x = s := ByteArray.ext (Array.toList_inj.1 h)
theorem has_snoc (l : List ByteArray) (x s : ByteArray) : has (l ++ [x]) s = (has l s || x.data.toList == s.data.toList) := by simp [has]
theorem has_append (l m : List ByteArray) (s : ByteArray) : has (l ++ m) s = (has l s || has m s) := by simp [has]
theorem has_iff {l : List ByteArray} {s : ByteArray} : has l s = true ↔ s ∈ l := by
  rw [has, List.any_eq_true]
  constructor
  · rintro ⟨x, hx, h⟩
    rw [beq_iff_eq] at h
    rw [← data_inj h]; exact hx
  · intro h
    exact ⟨s, h, by simp⟩

/-- What a map of strings to bools reads as: true just at these. -/
def SetIs (D : DataW Unit) (l : List ByteArray) : Prop := Maps.IsMap D ∧ ∀ s : ByteArray, D.atKey (.string s.data.toList) (.lit (.bool false)) = .lit (.bool (has l s))
theorem SetIs.nil : SetIs (.map []) [] := ⟨Maps.isMap_empty, fun _ => rfl⟩
theorem SetIs.put {D : DataW Unit} {l : List ByteArray} (h : SetIs D l) (x : ByteArray) : SetIs (D.put (.string x.data.toList) (.lit (.bool true))) (l ++ [x]) := by
  refine ⟨h.1.put _ _, fun s => ?_⟩
  rw [has_snoc]
  by_cases e : s.data.toList = x.data.toList
  · rw [e, Maps.atKey_put_same h.1 (k := .string x.data.toList) (show WideAt.IsKeyLit (.string x.data.toList) from trivial)]
    simp
  · rw [Maps.atKey_put_other (fun he => e (by injection he)), h.2 s]
    have : (x.data.toList == s.data.toList) = false := by rw [beq_eq_false_iff_ne]; exact fun he => e he.symm
    rw [this, Bool.or_false]
theorem boolElem_inv {H : Type} {P : Program} {e : TypeId} (he : P.underlying e = some .bool) {v : Value} {z : DataW H × List MemPlace} (h : plainElem P e v = some z) : ∃ x, v = .bool x ∧ z = (.lit (.bool x), []) := by
  unfold plainElem at h
  rw [he] at h
  cases v <;> simp at h
  exact ⟨_, rfl, h.symm⟩

/-- Block b is a map of at most n entries that holds true just at these strings. -/
def Seen (P : Program) (k e : TypeId) (w : World) (b n : Nat) (l : List ByteArray) : Prop := ∃ D : DataW Unit, w.ownsMap P k (plainElem P e) b n D ∧ SetIs D l
theorem Seen.made {P : Program} {k e : TypeId} (w : World) : Seen P k e (w.alloc (.map #[] 0)) w.heap.size 0 [] := ⟨_, World.ownsMap_made _ _ _ _, SetIs.nil⟩
theorem Seen.kept {P : Program} {k e : TypeId} {w w' : World} {b n : Nat} {l : List ByteArray} {row : Option Nat} (h : Seen P k e w b n l) (hg : w.grownBy w' row) (hne : some b ≠ row) : Seen P k e w' b n l := by
  obtain ⟨D, h1, h2⟩ := h
  exact ⟨D, h1.kept hg hne, h2⟩
theorem Seen.lt {P : Program} {k e : TypeId} {w : World} {b n : Nat} {l : List ByteArray} (h : Seen P k e w b n l) : b < w.heap.size := by
  obtain ⟨D, h1, _⟩ := h
  exact h1.lt
theorem Seen.look {P : Program} {t k e : TypeId} {w : World} {b n : Nat} {l : List ByteArray} (h : Seen P k e w b n l) (ht : P.underlying t = some (.map k e)) (hk : P.underlying k = some .string) (he : P.underlying e = some .bool) (hz : (zeroValue e).run P w = .ok (.bool false) w) (s : ByteArray) (hs : s.size ≤ 9223372036854775807) :
    (Instr.lookup t (.map (some b)) (.string s) false).run P w = .ok (.bool (has l s)) w := by
  obtain ⟨D, h1, h2⟩ := h
  obtain ⟨v, ps, hrun, hv⟩ := h1.lookup (Maps.string_keyed hk) ht hz (plainElem_bool he false) (WideMaps.keyOf_string_mk hk (by unfold maxLen; omega))
  obtain ⟨x, rfl, hx⟩ := boolElem_inv he hv
  rw [h2.2 s] at hx
  simp only [Prod.mk.injEq, DataW.lit.injEq, Lit.bool.injEq] at hx
  rw [hrun, hx.1]
theorem Seen.store {P : Program} {t k e : TypeId} {w : World} {b n : Nat} {l : List ByteArray} (h : Seen P k e w b n l) (ht : P.underlying t = some (.map k e)) (hk : P.underlying k = some .string) (he : P.underlying e = some .bool) (hn : n ≤ 17179869184) (s : ByteArray) (hs : s.size ≤ 9223372036854775807) :
    ∃ w', (Instr.mapUpdate t (.map (some b)) (.string s) (.bool true)).run P w = .ok () w' ∧ Seen P k e w' b (n + 1) (l ++ [s]) ∧ w.grownBy w' (some b) := by
  obtain ⟨D, h1, h2⟩ := h
  obtain ⟨w', hrun, hown, hg⟩ := h1.update (Maps.string_keyed hk) ht (by unfold maxLen; omega) (WideMaps.keyOf_string_mk hk (by unfold maxLen; omega)) (plainElem_bool he true)
  exact ⟨w', hrun, ⟨_, hown, h2.put s⟩, hg⟩

section
variable {P : Program} (w : World) {ops : Array Oper} {rest : List Oper} {o : Oper} {a : Act} {Q : Exit → Act → World → Prop}
/-- 'm[s]', for the walk. -/
theorem wp_seen_look (hg : o.guard = none) (m x : Operand) (t : TypeId) (hop : o.op = Op.lookup t m x false) (k e : TypeId) (ht : P.underlying t = some (.map k e)) (hk : P.underlying k = some .string) (he : P.underlying e = some .bool) (hz : (zeroValue e).run P w = .ok (.bool false) w)
    (b n : Nat) (l : List ByteArray) (hm : a.eval m = .map (some b)) (h : Seen P k e w b n l) (key : Value) (hx : a.eval x = key) (s : ByteArray) (hk2 : key = .string s) (hs : s.size ≤ 9223372036854775807)
    (hK : wpList P ops Q rest (a.put o.dst (.bool (has l s))) w) : wpList P ops Q (o :: rest) a w := by
  subst hk2
  refine wpList_plain hg fun K' hK' => ?_
  have hrun := h.look ht hk he hz s hs
  unfold Oper.wp
  simp [execOp, hop, hm, hx, hrun, Result.andThen]
  exact hK' _ _ hK
/-- 'm[s] = true', for the walk. -/
theorem wp_seen_store (hg : o.guard = none) (m x v : Operand) (t : TypeId) (hop : o.op = Op.mapUpdate t m x v) (k e : TypeId) (ht : P.underlying t = some (.map k e)) (hk : P.underlying k = some .string) (he : P.underlying e = some .bool)
    (b n : Nat) (l : List ByteArray) (hm : a.eval m = .map (some b)) (h : Seen P k e w b n l) (hn : n ≤ 17179869184) (key val : Value) (hx : a.eval x = key) (hv : a.eval v = val) (s : ByteArray) (hk2 : key = .string s) (hv2 : val = .bool true) (hs : s.size ≤ 9223372036854775807)
    (hK : ∀ w', Seen P k e w' b (n + 1) (l ++ [s]) → w.grownBy w' (some b) → wpList P ops Q rest (a.put o.dst undef) w') : wpList P ops Q (o :: rest) a w := by
  subst hk2 hv2
  refine wpList_plain hg fun K' hK' => ?_
  obtain ⟨w', hrun, r1, r2⟩ := h.store ht hk he hn s hs
  unfold Oper.wp
  simp [execOp, hop, hm, hx, hv, hrun, Result.andThen]
  exact hK' _ _ (hK w' r1 r2)
/-- An entry of a map's literal, for the walk. -/
theorem wp_seen_insert (hg : o.guard = none) (m x v : Operand) (t : TypeId) (hop : o.op = Op.insert t m x v) (k e : TypeId) (ht : P.underlying t = some (.map k e)) (hk : P.underlying k = some .string) (he : P.underlying e = some .bool)
    (b n : Nat) (l : List ByteArray) (hm : a.eval m = .map (some b)) (h : Seen P k e w b n l) (hn : n ≤ 17179869184) (key val : Value) (hx : a.eval x = key) (hv : a.eval v = val) (s : ByteArray) (hk2 : key = .string s) (hv2 : val = .bool true) (hs : s.size ≤ 9223372036854775807)
    (hK : ∀ w', Seen P k e w' b (n + 1) (l ++ [s]) → w.grownBy w' (some b) → wpList P ops Q rest (a.put o.dst undef) w') : wpList P ops Q (o :: rest) a w := by
  subst hk2 hv2
  refine wpList_plain hg fun K' hK' => ?_
  obtain ⟨w', hrun, r1, r2⟩ := h.store ht hk he hn s hs
  unfold Oper.wp
  simp [execOp, hop, hm, hx, hv, hrun, Result.andThen]
  exact hK' _ _ (hK w' r1 r2)
end
end Go.Proofs.YtngbilblddngcaaDoor
namespace Go.Proofs.YtngbilblddngcaaDoor
open Go.RowKit

theorem text_ne {a b : ByteArray} (h : a ≠ b) : (a.toList == b.toList) = false := by
  rw [beq_eq_false_iff_ne]
  intro e
  rw [ByteArray.toList_eq, ByteArray.toList_eq] at e
  exact h (ByteArray.ext (Array.toList_inj.1 e))
theorem has_take {ss : List ByteArray} {k : Nat} (h : k < ss.length) (s : ByteArray) : has (ss.take (k + 1)) s = (has (ss.take k) s || ss[k].data.toList == s.data.toList) := by
  rw [List.take_succ_eq_append_getElem h, has_snoc]
theorem has_of_take {ss : List ByteArray} {k : Nat} {s : ByteArray} (h : has (ss.take k) s = true) : has ss s = true := by
  rw [has_iff] at h ⊢
  exact List.mem_of_mem_take h

set_option maxRecDepth 100000 in
set_option maxHeartbeats 400000 in
theorem specHas (A : Option Addr) (c : Nat) (ss : List ByteArray) (s : ByteArray) (w : World) (hA : Strs w A ss) (hn : ss.length ≤ 9223372036854775807) :
    Calls Tryd.prog 65 #[.slice A ss.length c, .string s] w fun e w' => e = .returned (.bool (has ss s)) ∧ w = w' := by
  have HA := Lib.hid hA
  clear hA
  go_enter Tryd.func65, Tryd.ntmps65
  go_wp2
  go_loop [5] (fun i => ∃ k : Nat, k ≤ ss.length ∧ i = .int .i64 k ∧ has (ss.take k) s = false) (fun i => ss.length - (Go.RowKit.intOf i).toNat)
  case atStart => exact ⟨0, Nat.zero_le _, rfl, rfl⟩
  case round =>
    obtain ⟨k, hk, rfl, hno⟩ := hrel
    by_cases hlt : k < ss.length
    · obtain ⟨g, o, rfl, hc⟩ := HA.out.at_ hlt
      have hst := has_take hlt s
      rw [hno, Bool.false_or] at hst
      have hup := @has_of_take ss (k + 1) s
      have HS := Lib.hid hst
      have HU := Lib.hid hup
      clear hst hup hno
      cases he : ss[k].data.toList == s.data.toList with
      | true =>
        have hy := HU.out (HS.out.trans he)
        have HY := Lib.hid hy
        have he1 : ss[k] = s := data_inj (by simpa using he)
        clear hy
        go_wp2
        go_ret
        exact ⟨congrArg (fun b => Ending.returned (.bool b)) HY.out.symm, rfl⟩
      | false =>
        have hf := HS.out.trans he
        have HF := Lib.hid hf
        have he1 : (ss[k].toList == s.toList) = false := text_ne (by intro e; rw [e] at he; simp at he)
        clear hf
        go_wp2
        go_round
        case rel => exact ⟨k + 1, by omega, by go_num, HF.out⟩
        case measure => simp [Go.RowKit.intOf]; omega
    · have hkl : k = ss.length := by omega
      subst hkl
      rw [List.take_length] at hno
      have HN := Lib.hid hno
      clear hno
      go_wp2
      go_ret
      exact ⟨congrArg (fun b => Ending.returned (.bool b)) HN.out.symm, rfl⟩
end Go.Proofs.YtngbilblddngcaaDoor
namespace Go.Proofs.YtngbilblddngcaaDoor
open Go.RowKit Go.Lib

mutual
def TypeX.same : TypeX → TypeX → Bool
  | .mk k s l, .mk k' s' m => (k == k') && (decide (s = s') && (decide (l.length = m.length) && TypeX.sameL l m))
def TypeX.sameL : List TypeX → List TypeX → Bool
  | [], _ => true
  | _ :: _, [] => true
  | x :: r, y :: s => x.same y && TypeX.sameL r s
end
theorem TypeX.same_eq (x y : TypeX) : x.same y = ((x.kind_ == y.kind_) && (decide (x.name_ = y.name_) && (decide (x.args_.length = y.args_.length) && TypeX.sameL x.args_ y.args_))) := by cases x; cases y; rw [TypeX.same]; rfl
theorem TypeX.sameL_take : ∀ (l m : List TypeX) (j : Nat) (h : j < l.length) (h' : j < m.length), TypeX.sameL (l.take (j + 1)) (m.take (j + 1)) = (TypeX.sameL (l.take j) (m.take j) && l[j].same m[j])
  | x :: r, y :: s, 0, _, _ => by simp [TypeX.sameL]
  | x :: r, y :: s, j + 1, h, h' => by
    have := TypeX.sameL_take r s j (by simpa using h) (by simpa using h')
    rw [List.take_succ_cons, List.take_succ_cons, List.take_succ_cons, List.take_succ_cons, TypeX.sameL, TypeX.sameL, this]
    simp [Bool.and_assoc]
theorem TypeX.sameL_false : ∀ (l m : List TypeX) (j : Nat) (h : j < l.length) (h' : j < m.length), l[j].same m[j] = false → TypeX.sameL l m = false
  | x :: r, y :: s, 0, _, _, hf => by rw [TypeX.sameL]; simp at hf; rw [hf]; rfl
  | x :: r, y :: s, j + 1, h, h', hf => by rw [TypeX.sameL, TypeX.sameL_false r s j (by simpa using h) (by simpa using h') (by simpa using hf), Bool.and_false]
mutual
theorem TypeX.same_iff : ∀ (x y : TypeX), x.same y = true ↔ x = y
  | .mk a s l, .mk b t m => by
    rw [TypeX.same, Bool.and_eq_true, Bool.and_eq_true, Bool.and_eq_true, decide_eq_true_eq, decide_eq_true_eq, beq_iff_eq, TypeX.mk.injEq]
    constructor
    · rintro ⟨h1, h2, h3, h4⟩; exact ⟨h1, h2, (TypeX.sameL_iff l m h3).1 h4⟩
    · rintro ⟨h1, h2, h3⟩; subst h3; exact ⟨h1, h2, rfl, (TypeX.sameL_iff l l rfl).2 rfl⟩
theorem TypeX.sameL_iff : ∀ (l m : List TypeX), l.length = m.length → (TypeX.sameL l m = true ↔ l = m)
  | [], m, h => by rw [TypeX.sameL]; simp; exact List.eq_nil_of_length_eq_zero h.symm
  | x :: r, [], h => by simp at h
  | x :: r, y :: s, h => by rw [TypeX.sameL, Bool.and_eq_true, TypeX.same_iff x y, TypeX.sameL_iff r s (by simpa using h), List.cons.injEq]
end
theorem TypeX.sizeL_at : ∀ (l : List TypeX) (j : Nat) (h : j < l.length), l[j].size ≤ TypeX.sizeL l
  | x :: r, 0, _ => by rw [TypeX.sizeL]; simp
  | x :: r, j + 1, h => by
    have := TypeX.sizeL_at r j (by simpa using h)
    rw [TypeX.sizeL]; simp; omega

def SameT (N : Nat) : Prop := ∀ (x y : TypeX) (v v' : Value) (w : World), x.size ≤ N → TypeAt w (Und w.heap.size) x v → TypeAt w (Und w.heap.size) y v' →
  Calls Tryd.prog 15 #[v, v'] w fun e w' => e = .returned (.bool (x.same y)) ∧ Below w.heap.size w w'
def SameTL (N : Nat) : Prop := ∀ (l m : List TypeX) (A B : Option Addr) (c d : Nat) (w : World), TypeX.sizeL l ≤ N → TypeRow w (Und w.heap.size) A c l → TypeRow w (Und w.heap.size) B d m →
  Calls Tryd.prog 44 #[.slice A l.length c, .slice B m.length d] w fun e w' => e = .returned (.bool (decide (l.length = m.length) && TypeX.sameL l m)) ∧ Below w.heap.size w w'

set_option maxRecDepth 100000 in
set_option maxHeartbeats 2000000 in
theorem sameTL_step (N : Nat) (ih : SameT N) : SameTL N := by
  intro l m A B c d w hn hA hB
  have hcl := hA.cap
  have hcm := hB.cap
  have HA := Lib.hid hA
  have HB := Lib.hid hB
  have HN := Lib.hid hn
  clear hA hB hn
  by_cases hlen : l.length = m.length
  · rw [decide_eq_true hlen, Bool.true_and, ← hlen]
    have HL := Lib.hid hlen
    clear hlen hcm
    go_enter Tryd.func44, Tryd.ntmps44
    go_wp2
    go_loopw [5] (fun iv wr => ∃ k : Nat, k ≤ l.length ∧ iv = .int .i64 k ∧ TypeX.sameL (l.take k) (m.take k) = true ∧ Below w.heap.size w wr) (fun iv _ => l.length - (Go.RowKit.intOf iv).toNat)
    case atStart => exact ⟨0, Nat.zero_le _, rfl, by simp [TypeX.sameL], Below.refl _ _⟩
    case round =>
      obtain ⟨k, hk, rfl, hs, hb⟩ := hrel
      have HT := Lib.hid hs
      clear hs
      by_cases hlt : k < l.length
      · have hlt2 : k < m.length := by have := HL.out; omega
        obtain ⟨b, o, A2, c2, hAe, hP, p0, p1, p2, h2⟩ := (HA.out.grow hb).at_ hlt
        subst hAe
        obtain ⟨b2, o2, B2, d2, hBe, hP2, r0, r1, r2, g2⟩ := (HB.out.grow hb).at_ hlt2
        subst hBe
        have hst := TypeX.sameL_take l m k hlt hlt2
        have hno := TypeX.sameL_false l m k hlt hlt2
        rw [HT.out, Bool.true_and] at hst
        have hnx : l[k].size ≤ N := by have := TypeX.sizeL_at l k hlt; have := HN.out; omega
        have cE : ∀ dr os, Calls Tryd.prog 15 #[.agg #[.int .i64 l[k].kind_, .string l[k].name_, .slice A2 l[k].args_.length c2], .agg #[.int .i64 m[k].kind_, .string m[k].name_, .slice B2 m[k].args_.length d2]] (Go.Sort.grow (redrawn wr dr) os) fun e w'' => e = .returned (.bool (l[k].same m[k])) ∧ ∃ p : Regrown, w'' = Go.Sort.grow (redrawn wr p.d) p.os :=
          fun dr os => Calls.regrown_of (ih l[k] m[k] _ _ _ hnx ⟨_, _, rfl, h2.grow (below_regrown wr dr os)⟩ ⟨_, _, rfl, g2.grow (below_regrown wr dr os)⟩)
        have kp0 := cell_regrown p0
        have kr0 := cell_regrown r0
        have kp1 := cell_regrown p1
        have kr1 := cell_regrown r1
        have kp2 := cell_regrown p2
        have kr2 := cell_regrown r2
        have hk0 : (0 : Int) ≤ k := by omega
        have HSt := Lib.hid hst
        have HNo := Lib.hid hno
        clear h2 g2 hnx hst hno
        go_wp2
        refine wp_region_quiet_below (by kernel_rfl) (by kernel_rfl) ?_
        repeat (quiet_step (exact cE _ _))
        refine wpQuiet_nil ?_
        intro _ hw'
        obtain ⟨⟨dq, osq⟩, hw''⟩ := hw'
        subst hw''
        have hb3 := hb.trans ((below_regrown wr dq osq).mono hb.size)
        clear cE kp0 kr0 kp1 kr1 kp2 kr2
        cases hc : l[k].same m[k] with
        | true =>
          have HC := Lib.hid hc
          clear hc
          go_wp2
          go_roundw
          case rel => exact ⟨k + 1, by omega, by go_num, by rw [HSt.out, HC.out], hb3⟩
          case measure => simp [Go.RowKit.intOf]; omega
        | false =>
          have HC := Lib.hid hc
          clear hc
          go_wp2
          go_ret
          exact ⟨congrArg (fun b => Ending.returned (.bool b)) (HNo.out HC.out).symm, hb3⟩
      · have hkl : k = l.length := by omega
        subst hkl
        have ht := HT.out
        rw [List.take_length, HL.out, List.take_length] at ht
        have HT' := Lib.hid ht
        clear ht
        go_wp2
        go_ret
        exact ⟨congrArg (fun b => Ending.returned (.bool b)) HT'.out.symm, hb⟩
  · rw [decide_eq_false hlen, Bool.false_and]
    have hlz : ((l.length : Int) == m.length) = false := by rw [beq_eq_false_iff_ne]; omega
    clear hlen
    go_enter Tryd.func44, Tryd.ntmps44
    go_wp2
    go_ret
    exact ⟨rfl, Below.refl _ _⟩

set_option maxRecDepth 100000 in
set_option maxHeartbeats 2000000 in
theorem sameT_step (N : Nat) (ih : SameTL N) : SameT (N + 1) := by
  intro x y v v' w hn hv hv'
  obtain ⟨A, c, rfl, hx⟩ := hv
  obtain ⟨B, d, rfl, hy⟩ := hv'
  have hsq := TypeX.same_eq x y
  have hb0 : Below w.heap.size w ((w.alloc (.cells #[.int .i64 x.kind_, .string x.name_, .slice A x.args_.length c] 26)).alloc (.cells #[.int .i64 y.kind_, .string y.name_, .slice B y.args_.length d] 26)) := ((Below.refl _ _).alloc (Nat.le_refl _) _).alloc (by simp) _
  have HX := Lib.hid (hx.grow hb0)
  have HY := Lib.hid (hy.grow hb0)
  have HN := Lib.hid hn
  clear hx hy hn
  cases hk : (x.kind_ == y.kind_) with
  | false =>
    rw [hk, Bool.false_and] at hsq
    have HS := Lib.hid hsq
    clear hsq
    go_enter Tryd.func15, Tryd.ntmps15
    go_wp2
    go_ret
    exact ⟨congrArg (fun b => Ending.returned (.bool b)) HS.out.symm, hb0⟩
  | true =>
    rw [hk, Bool.true_and] at hsq
    by_cases hnm : x.name_ = y.name_
    · rw [decide_eq_true hnm, Bool.true_and] at hsq
      have HS := Lib.hid hsq
      have he1 : (x.name_.toList == y.name_.toList) = true := by rw [hnm]; simp
      clear hsq hnm
      go_enter Tryd.func15, Tryd.ntmps15
      go_wp2_with fail
      refine (ih x.args_ y.args_ _ _ _ _ _ (by have := HN.out; rw [TypeX.size_eq] at this; omega) HX.out HY.out).mono ?_
      rw [← HS.out]
      rintro e w1 ⟨rfl, hb1⟩
      have hb2 := hb0.trans (hb1.mono hb0.size)
      go_wp2
      go_ret
      exact ⟨rfl, hb2⟩
    · rw [decide_eq_false hnm, Bool.false_and] at hsq
      have HS := Lib.hid hsq
      have he1 : (x.name_.toList == y.name_.toList) = false := text_ne hnm
      clear hsq hnm
      go_enter Tryd.func15, Tryd.ntmps15
      go_wp2
      go_ret
      exact ⟨congrArg (fun b => Ending.returned (.bool b)) HS.out.symm, hb0⟩
theorem sameTAll : ∀ N, SameT N
  | 0 => fun x y v v' w hn => by rw [TypeX.size_eq] at hn; omega
  | N + 1 => sameT_step N (sameTL_step N (sameTAll N))
theorem specSameTy (x y : TypeX) (v v' : Value) (w : World) (hv : TypeAt w (Und w.heap.size) x v) (hv' : TypeAt w (Und w.heap.size) y v') :
    Calls Tryd.prog 15 #[v, v'] w fun e w' => e = .returned (.bool (x.same y)) ∧ Below w.heap.size w w' := sameTAll _ x y v v' w (Nat.le_refl _) hv hv'
end Go.Proofs.YtngbilblddngcaaDoor
namespace Go.Proofs.YtngbilblddngcaaDoor
open Go.RowKit Go.Lib

abbrev zeroT : Array Value := #[.int .i64 0, .string ⟨#[]⟩, .slice none 0 0]
/-- A base type: the result's cell laid, l4Con called, the result stored. -/
theorem baseEnd {G : Nat → Prop} {s : ByteArray} {w w2 : World} {e : Ending} (hb0 : Below w.heap.size w (w.alloc (.cells zeroT 26))) (h : MadeT (fun b => G b ∨ b = w.heap.size) (.mk 2 s []) (w.alloc (.cells zeroT 26)) e w2) (hb : Below (w.alloc (.cells zeroT 26)).heap.size (w.alloc (.cells zeroT 26)) w2) :
    ∃ A c, e = .returned (.agg #[.int .i64 2, .string s, .slice A 0 c]) ∧ Whole w2 w.heap.size 26 zeroT ∧ ∀ w4, w4 = ((w2.setCell ⟨w.heap.size, 0, none⟩ (.int .i64 2)).setCell ⟨w.heap.size, 1, none⟩ (.string s)).setCell ⟨w.heap.size, 2, none⟩ (.slice A 0 c) →
      w4.cell? ⟨w.heap.size, 0, none⟩ = some (.int .i64 2) ∧ w4.cell? ⟨w.heap.size, 1, none⟩ = some (.string s) ∧ w4.cell? ⟨w.heap.size, 2, none⟩ = some (.slice A 0 c) ∧ MadeT G (.mk 2 s []) w (.returned (.agg #[.int .i64 2, .string s, .slice A 0 c])) w4 ∧ Below w.heap.size w w4 := by
  obtain ⟨V, rfl, ht⟩ := h
  obtain ⟨A, c, rfl⟩ := ht.shape
  have hx2 : Whole w2 w.heap.size 26 zeroT := (Whole.new w _ _).below hb (by simp)
  refine ⟨A, c, rfl, hx2, fun w4 h4 => ?_⟩
  obtain ⟨e0, e1, e2, hbut, hb4⟩ := tyEnd (k := 2) (s := s) (A := A) (n := 0) (cc := c) hx2 (hb0.trans (hb.mono (by simp))) w4 h4
  have hV : (Value.slice A 0 c).ownBlock ≠ some w.heap.size := fun e => by
    obtain ⟨us, ho, _⟩ := ht
    have := (ho.lt _ e).1
    simp at this
    omega
  exact ⟨e0, e1, e2, ⟨_, rfl, ((ht.butX hV (.inr rfl) hbut).less fun b h => .inl h).wide (by simp)⟩, hb4⟩

/-- A result's three cells written, whatever its block. -/
theorem tyEndX {w w3 : World} {X : Nat} {a b c : Value} {k : Int} {s : ByteArray} {A : Option Addr} {n cc : Nat} (hx : Whole w3 X 26 #[a, b, c]) (hX : w.heap.size ≤ X) (hb : Below w.heap.size w w3) :
    ∀ w4, w4 = ((w3.setCell ⟨X, 0, none⟩ (.int .i64 k)).setCell ⟨X, 1, none⟩ (.string s)).setCell ⟨X, 2, none⟩ (.slice A n cc) →
      w4.cell? ⟨X, 0, none⟩ = some (.int .i64 k) ∧ w4.cell? ⟨X, 1, none⟩ = some (.string s) ∧ w4.cell? ⟨X, 2, none⟩ = some (.slice A n cc) ∧ But X w3 w4 ∧ Below w.heap.size w w4 ∧ Whole w4 X 26 #[.int .i64 k, .string s, .slice A n cc] := by
  rintro w4 rfl
  have hx3 : Whole (((w3.setCell ⟨X, 0, none⟩ (.int .i64 k)).setCell ⟨X, 1, none⟩ (.string s)).setCell ⟨X, 2, none⟩ (.slice A n cc)) X 26 #[.int .i64 k, .string s, .slice A n cc] := by
    simpa using ((hx.set_ 0 (.int .i64 k)).set_ 1 (.string s)).set_ 2 (.slice A n cc)
  obtain ⟨e0, e1, e2⟩ := cells3 hx3
  exact ⟨e0, e1, e2, ((But.set_ _ _ 0 _).trans (But.set_ _ _ 1 _)).trans (But.set_ _ _ 2 _), ((hb.setCell (p := ⟨X, 0, none⟩) hX _).setCell (p := ⟨X, 1, none⟩) hX _).setCell (p := ⟨X, 2, none⟩) hX _, hx3⟩
/-- The row of a type under way is not a block of G. -/
theorem TopT.ne {G : Nat → Prop} {X : Nat} {w w' : World} {V : Value} {l : List TypeX} (h : TopT G w w' V l) (hX : X < w.heap.size) : V.ownBlock ≠ some X := fun e => by
  obtain ⟨us, ho, _⟩ := h
  have := (ho.lt _ e).1
  omega

/-! Copies. -/
def CopyT (N : Nat) : Prop := ∀ (G : Nat → Prop) (x : TypeX) (v : Value) (w : World), (∀ b, G b → b < w.heap.size) → x.size ≤ N → N ≤ 1000000 → TypeAt w (Nog G w) x v →
  Calls Tryd.prog 73 #[v] w fun e w' => MadeT G x w e w' ∧ Below w.heap.size w w'
def CopiesT (N : Nat) : Prop := ∀ (G : Nat → Prop) (l : List TypeX) (A : Option Addr) (c : Nat) (w : World), (∀ b, G b → b < w.heap.size) → TypeX.sizeL l ≤ N → N ≤ 1000000 → TypeRow w (Nog G w) A c l →
  Calls Tryd.prog 81 #[.slice A l.length c] w fun e w' => (∃ V, e = .returned V ∧ TopT G w w' V l) ∧ Below w.heap.size w w'

theorem TypeRow.nog {G : Nat → Prop} {w w' : World} {A : Option Addr} {c : Nat} {l : List TypeX} (h : TypeRow w (Nog G w) A c l) (hb : Below w.heap.size w w') : TypeRow w' (Nog G w') A c l :=
  h.frame (fun _ h => ⟨Nat.lt_of_lt_of_le h.1 hb.size, h.2⟩) fun b o h => hb.cell (p := ⟨b, o, none⟩) h.1
theorem TypeRow.nogX {G G' : Nat → Prop} {w w' : World} {A : Option Addr} {c : Nat} {l : List TypeX} (h : TypeRow w (Nog G w) A c l) (hb : Below w.heap.size w w') (hG : ∀ b, b < w.heap.size → G' b → G b) : TypeRow w' (Nog G' w') A c l :=
  h.frame (fun _ h => ⟨Nat.lt_of_lt_of_le h.1 hb.size, fun h' => h.2 (hG _ h.1 h')⟩) fun b o h => hb.cell (p := ⟨b, o, none⟩) h.1

set_option maxRecDepth 100000 in
set_option maxHeartbeats 2000000 in
theorem copyT_step (N : Nat) (ih : CopiesT N) : CopyT (N + 1) := by
  intro G x v w hG hn hN hv
  obtain ⟨A, c, rfl, hx⟩ := hv
  have hbb : Below w.heap.size w ((w.alloc (.cells #[.int .i64 x.kind_, .string x.name_, .slice A x.args_.length c] 26)).alloc (.cells zeroT 26)) := ((Below.refl _ _).alloc (Nat.le_refl _) _).alloc (by simp) _
  obtain ⟨W, hW⟩ : ∃ W, W = (w.alloc (.cells #[.int .i64 x.kind_, .string x.name_, .slice A x.args_.length c] 26)).alloc (.cells zeroT 26) := ⟨_, rfl⟩
  have hs : W.heap.size = w.heap.size + 2 := by rw [hW]; simp
  have hx1 : Whole W w.heap.size 26 #[.int .i64 x.kind_, .string x.name_, .slice A x.args_.length c] := by rw [hW]; exact (Whole.new w _ _).below ((Below.refl (w.heap.size + 1) _).alloc (by simp) _) (by omega)
  have hx2 : Whole W (w.heap.size + 1) 26 zeroT := by
    have h := Whole.new (w.alloc (.cells #[.int .i64 x.kind_, .string x.name_, .slice A x.args_.length c] 26)) 26 zeroT
    rw [World.size_alloc] at h; rw [hW]; exact h
  rw [← hW] at hbb
  have hr : TypeRow W (Nog (fun b => G b ∨ b = w.heap.size + 1) W) A c x.args_ := hx.nogX hbb fun b hb h => h.elim id (fun e => by omega)
  have hG' : ∀ b, (G b ∨ b = w.heap.size + 1) → b < W.heap.size := fun b h => h.elim (fun h => by have := hG b h; omega) (fun e => by omega)
  have hc := ih (fun b => G b ∨ b = w.heap.size + 1) x.args_ A c W.drew hG' (by rw [TypeX.size_eq] at hn; omega) (by omega) (hr.frame (fun _ h => h) fun _ _ _ => rfl)
  have HC := Lib.hid hc
  have HW := Lib.hid hW.symm
  have HS := Lib.hid hs
  have HX1 := Lib.hid hx1
  have HX2 := Lib.hid hx2
  have HB := Lib.hid hbb
  clear hc hW hs hx1 hx2 hbb hr hx
  go_enter Tryd.func73, Tryd.ntmps73
  go_upto_region 1 with (fail)
  rw [HW.out]
  obtain ⟨p0, p1, p2⟩ := cells3 HX1.out
  obtain ⟨r0, r1, r2⟩ := cells3 HX2.out
  have rf0 := HX2.out.frozen 0
  have rf1 := HX2.out.frozen 1
  have rf2 := HX2.out.frozen 2
  have hlt := HX2.out.lt
  have HX2e := fun (w2 : World) (h : Below W.heap.size W w2) => HX2.out.below h HX2.out.lt
  have HX1e := fun (w2 : World) (h : Below W.heap.size W w2) => HX1.out.below h HX1.out.lt
  have H2E := Lib.hid HX2e
  have H1E := Lib.hid HX1e
  clear HX2e HX1e
  go_region_held3 (fun w' => w'.cell? ⟨w.heap.size, 0, none⟩ = some (.int .i64 x.kind_) ∧ w'.cell? ⟨w.heap.size, 1, none⟩ = some (.string x.name_) ∧ w'.cell? ⟨w.heap.size, 2, none⟩ = some (.slice A x.args_.length c))
    (first
      | go_keep
      | exact cells3 (H1E.out _ hb2')
      | exact HSS _ _ _)
    (first
      | (go_at_call 81
         refine HC.out.mono ?_
         rintro e w2 ⟨⟨V, rfl, ht⟩, hb2⟩
         have hb2' : Below W.heap.size W w2 := (Below.refl _ W).drew.trans hb2
         obtain ⟨A2, c2, rfl⟩ := ht.shape
         have hx2 := H2E.out w2 hb2'
         have hbw := HB.out.trans (hb2'.mono HB.out.size)
         have r0 : w2.cell? ⟨w.heap.size + 1, 0, none⟩ = some (.int .i64 0) := by rw [hx2.cell]; rfl
         have r1 : w2.cell? ⟨w.heap.size + 1, 1, none⟩ = some (.string ⟨#[]⟩) := by rw [hx2.cell]; rfl
         have r2 : w2.cell? ⟨w.heap.size + 1, 2, none⟩ = some (.slice none 0 0) := by rw [hx2.cell]; rfl
         have rf0 := hx2.frozen 0
         have rf1 := hx2.frozen 1
         have rf2 := hx2.frozen 2
         have hlt := hx2.lt
         have HT := Lib.hid ht
         have HXX := Lib.hid hx2
         clear ht hx2 hb2))
  obtain ⟨e0, e1, e2, hbut, hb4, -⟩ := tyEndX (k := x.kind_) (s := x.name_) (A := A2) (n := x.args_.length) (cc := c2) HXX.out (by omega) hbw _ rfl
  have ht4 := ((HT.out.butX (HT.out.ne (by have := HS.out; show w.heap.size + 1 < W.heap.size; omega)) (.inr rfl) hbut).less (G := G) fun b h => .inl h).wide (w := w) (by have := HS.out; show w.heap.size ≤ W.heap.size; omega)
  have HT4 := Lib.hid ht4
  have HB4 := Lib.hid hb4
  clear hbut ht4 hb4
  go_wp2
  exact bodyPost_ret (v := .agg #[.int .i64 x.kind_, .string x.name_, .slice A2 x.args_.length c2]) (by simp [results, Tryd.results73, go_sem, e0, e1, e2]) rfl ⟨⟨_, rfl, HT4.out⟩, HB4.out⟩

set_option maxRecDepth 100000 in
set_option maxHeartbeats 4000000 in
theorem copiesT_step (N : Nat) (ih : CopyT N) : CopiesT N := by
  intro G l A c w hG hn hN hA
  obtain ⟨i0, hi, hz0, hz1, hz2⟩ := info_parts infoTy
  have hcap := hA.cap
  have hll := sizeL_length l
  have hb0 : Below w.heap.size w (w.alloc (.cells #[] 26)) := (Below.refl _ _).alloc (Nat.le_refl _) _
  have hown := World.ownsRow_made (base := w.heap.size) (e := 26) (size := 3) w #[] 0 (Nat.le_refl _) (by decide) rfl
  have HA := Lib.hid hA
  have HN := Lib.hid hn
  have HB := Lib.hid hb0
  have HO := Lib.hid hown
  clear hA hn hb0 hown
  go_enter Tryd.func81, Tryd.ntmps81
  go_wp2
  go_loopw [3, 4] (fun ov iv wr => ∃ (k : Nat), k ≤ l.length ∧ iv = .int .i64 k ∧ TopT G w wr ov (l.take k) ∧ Below w.heap.size w wr) (fun _ iv _ => l.length - (Go.RowKit.intOf iv).toNat)
  case atStart => exact ⟨0, Nat.zero_le _, rfl, ⟨[], HO.out, rfl⟩, HB.out⟩
  case round =>
    obtain ⟨k, hk, rfl, ht, hb⟩ := hrel
    obtain ⟨A1, c1, rfl⟩ := ht.shape
    by_cases hlt : k < l.length
    · have hG1 : ∀ b, (G b ∨ (Value.slice A1 (l.take k).length c1).ownBlock = some b) → b < wr.heap.size := fun b h => by
        have := hb.size
        rcases h with h | h
        · have := hG b h; omega
        · obtain ⟨us, ho, _⟩ := ht
          exact (ho.lt b h).2
      have hrow : TypeRow wr (Nog (fun b => G b ∨ (Value.slice A1 (l.take k).length c1).ownBlock = some b) wr) A c l := HA.out.nogX hb fun b hb' h => h.elim id fun e => by
        obtain ⟨us, ho, _⟩ := ht
        have := (ho.lt b e).1; omega
      obtain ⟨b, o, A2, c2, rfl, hP, p0, p1, p2, h2⟩ := hrow.at_ hlt
      have hsx : l[k].size ≤ N := by have := TypeX.sizeL_at l k hlt; have := HN.out; omega
      have hlen : (l.take k).length = k := by rw [List.length_take]; omega
      have hc := ih (fun b => G b ∨ (Value.slice A1 (l.take k).length c1).ownBlock = some b) l[k] (.agg #[.int .i64 l[k].kind_, .string l[k].name_, .slice A2 l[k].args_.length c2]) wr hG1 hsx hN ⟨_, _, rfl, h2⟩
      rw [hlen] at ht hc ⊢
      have HC := Lib.hid hc
      have HT := Lib.hid ht
      have HL := Lib.hid hlen
      clear hc ht hlen h2 hrow hG1
      go_wp2_with fail
      refine HC.out.mono ?_
      rintro e w2 ⟨⟨V2, rfl, ht2⟩, hb2⟩
      obtain ⟨A3, c3, rfl⟩ := ht2.shape
      obtain ⟨A3', c3', e3, hr3⟩ := ht2.row (fun b h => by
        rcases h with h | h
        · have := hG b h; have := hb.size; omega
        · obtain ⟨us, ho, _⟩ := HT.out
          exact (ho.lt b h).2)
      injection e3 with e3 _ e4
      subst e3 e4
      obtain ⟨us, ho, he⟩ := HT.out.below hb2
      rw [HL.out] at ho
      have hbw := hb.trans (hb2.mono hb.size)
      have HO2 := Lib.hid (ho.alloc (.cells #[.int .i64 l[k].kind_, .string l[k].name_, .slice A3 l[k].args_.length c3] 26))
      have HE := Lib.hid he
      have HR3 := Lib.hid hr3
      have HOW := Lib.hid ho
      have hk3 : k ≤ 1000000 := by have := HN.out; omega
      clear he hr3 ht2 hb2 p0 p1 p2 ho
      have hcell := fun (j : Nat) (u : Value) => (fun (h : [.int .i64 l[k].kind_, .string l[k].name_, .slice A3 l[k].args_.length c3][j]? = some u) => (by
        match j, h with
        | 0, h => simp at h; subst h; simp [Addr.add]
        | 1, h => simp at h; subst h; simp [Addr.add]
        | 2, h => simp at h; subst h; simp [Addr.add] : (w2.alloc (.cells #[.int .i64 l[k].kind_, .string l[k].name_, .slice A3 l[k].args_.length c3] 26)).cell? ((⟨w2.heap.size, 0, none⟩ : Addr).add j) = some u))
      have HCE := Lib.hid hcell
      clear hcell
      go_wp2_with (at_builtin; refine wpList_append_any rfl (.tmp 12) (.tmp 18) 24 rfl w.heap.size 26 i0 (.agg #[.int .i64 0, .string ByteArray.empty, .slice none 0 0]) 3 48 Tryd.underlying24 hi hz0 hz1 hz2 rfl (by decide) (.slice A1 k c1) k us rfl HO2.out (some ⟨w2.heap.size, 0, none⟩) 1 1 [.int .i64 l[k].kind_, .string l[k].name_, .slice A3 l[k].args_.length c3] rfl rfl (.inr ⟨_, rfl, HCE.out⟩) (by simp [Value.oneCell']) (by unfold maxLen; omega) (by omega) (by have := hbw.size; simp; omega) (w2.heap.size + 1) (by simp) ?_)
      intro V w3 hown3 hgrow3 hat3
      have hz3 := hgrow3.size
      simp only [World.size_alloc] at hz3
      have hbelow : Below w.heap.size w w3 := (hbw.alloc hbw.size (.cells #[.int .i64 l[k].kind_, .string l[k].name_, .slice A3 l[k].args_.length c3] 26)).grown hgrow3 (by have := hbw.size; simp; omega) (fun j hj => by have := (HOW.out.lt j hj).1; omega)
      have hsame : ∀ b, b < w2.heap.size → (Value.slice A1 k c1).ownBlock ≠ some b → w3.heap[b]? = w2.heap[b]? := fun b hb' hne => (hgrow3.block b (by simp; omega) (fun e => hne e.symm)).trans (Below.heap_alloc _ _ _ hb')
      have hnew : ∀ b, b < w2.heap.size → (Value.slice A1 k c1).ownBlock ≠ some b → V.ownBlock ≠ some b := fun b hb' hne e => by
        rcases hat3 with h | h
        · exact hne (h ▸ e)
        · rw [h] at e; injection e with e; omega
      have hend : TopT G w w3 V (l.take (k + 1)) := by
        refine ⟨us ++ [.int .i64 l[k].kind_, .string l[k].name_, .slice A3 l[k].args_.length c3], ?_, ?_⟩
        · rw [show (l.take (k + 1)).length = k + 1 by rw [List.length_take]; omega]; exact hown3
        · rw [List.take_succ_eq_append_getElem hlt]
          refine ElemsT.append (HE.out.frame (fun b h => ⟨⟨by have := h.1.1; omega, h.1.2⟩, hnew b h.1.1 h.2⟩) fun b o h => World.cell?_of_block (a := ⟨b, o, none⟩) (hsame b h.1.1 h.2)) ⟨A3, c3, [], rfl, ?_, rfl⟩
          exact HR3.out.frame (fun b h => ⟨⟨by have := h.1; omega, fun hg => h.2 (.inl hg)⟩, hnew b h.1 (fun e => h.2 (.inr e))⟩) fun b o h => World.cell?_of_block (a := ⟨b, o, none⟩) (hsame b h.1 (fun e => h.2 (.inr e)))
      have HEND := Lib.hid hend
      clear hend hown3 hgrow3 hat3 hsame hnew hz3
      go_wp2
      go_roundw
      case rel => exact ⟨k + 1, by omega, by go_num, HEND.out, hbelow⟩
      case measure => simp [Go.RowKit.intOf]; omega
    · have hkl : k = l.length := by omega
      subst hkl
      rw [List.take_length] at ht ⊢
      have HT := Lib.hid ht
      clear ht
      go_wp2
      go_ret
      exact ⟨⟨_, rfl, HT.out⟩, hb⟩
theorem copyTAll : ∀ N, CopyT N
  | 0 => fun G x v w _ hn => by rw [TypeX.size_eq] at hn; omega
  | N + 1 => copyT_step N (copiesT_step N (copyTAll N))
theorem copyT (G : Nat → Prop) (x : TypeX) (v : Value) (w : World) (hG : ∀ b, G b → b < w.heap.size) (hn : x.size ≤ 1000000) (hv : TypeAt w (Nog G w) x v) :
    Calls Tryd.prog 73 #[v] w fun e w' => MadeT G x w e w' ∧ Below w.heap.size w w' := copyTAll 1000000 G x v w hG hn (Nat.le_refl _) hv
end Go.Proofs.YtngbilblddngcaaDoor
namespace Go.Proofs.YtngbilblddngcaaDoor
open Go.RowKit

/-- The n bytes at A, below block B. -/
def BytesAt (w : World) (B : Nat) (A : Option Addr) (n : Nat) : Prop :=
  ∀ j, j < n → ∃ b o z, A = some ⟨b, o, none⟩ ∧ b < B ∧ 0 ≤ z ∧ z ≤ 255 ∧ w.cell? ⟨b, o + j, none⟩ = some (.int .u8 z)
theorem BytesAt.below {w w' : World} {B : Nat} {A : Option Addr} {n : Nat} (h : BytesAt w B A n) (hb : Below B w w') : BytesAt w' B A n := fun j hj => by
  obtain ⟨b, o, z, hA, hlt, h0, h1, hc⟩ := h j hj
  exact ⟨b, o, z, hA, hlt, h0, h1, (hb.cell (p := ⟨b, o + j, none⟩) hlt).trans hc⟩
theorem BytesAt.mono_ {w : World} {B B' : Nat} {A : Option Addr} {n : Nat} (h : BytesAt w B A n) (hB : B ≤ B') : BytesAt w B' A n := fun j hj => by
  obtain ⟨b, o, z, hA, hlt, h0, h1, hc⟩ := h j hj
  exact ⟨b, o, z, hA, by omega, h0, h1, hc⟩
/-- The cursor's three cells, in a block of the call's own. -/
structure CurAt (w : World) (B g : Nat) (A : Option Addr) (n c : Nat) (i h : Int) : Prop where
  cells : Whole w g 73 #[.slice A n c, .int .i64 i, .int .i64 h]
  own : B ≤ g
  bytes : BytesAt w B A n
  size : n ≤ 9223372036854775807
  lo : 0 ≤ i
  hi : i ≤ n
/-- A cursor. -/
def Cur (w : World) (B g : Nat) : Prop := ∃ A n c i h, CurAt w B g A n c i h
theorem Cur.lt {w : World} {B g : Nat} (h : Cur w B g) : g < w.heap.size := by
  obtain ⟨A, n, c, i, h, hc⟩ := h
  exact hc.cells.lt
theorem Cur.own {w : World} {B g : Nat} (h : Cur w B g) : B ≤ g := by
  obtain ⟨A, n, c, i, h, hc⟩ := h
  exact hc.own
theorem Cur.kept {w w' : World} {B g : Nat} (h : Cur w B g) (hb : Below w.heap.size w w') : Cur w' B g := by
  have hlt := h.lt
  obtain ⟨A, n, c, i, h, hc⟩ := h
  exact ⟨A, n, c, i, h, hc.cells.below hb hlt, hc.own, hc.bytes.below (hb.mono (by have := hc.own; omega)), hc.size, hc.lo, hc.hi⟩

/-- WHAT A DRAW LEAVES: the cursor moved, whatever else lay there unturned. -/
def Drawn (P : Value → Prop) (B g : Nat) (w : World) (e : Ending) (w' : World) : Prop := ∃ v, e = .returned v ∧ P v ∧ Cur w' B g ∧ But g w w'

def IsByte (v : Value) : Prop := ∃ x : Int, v = .int .i64 x ∧ 0 ≤ x ∧ x ≤ 255

theorem and255 (n : Int) : bits .and .i64 n 255 = n % 256 := by
  have h : (BitVec.ofInt 64 255).toNat = 2 ^ 8 - 1 := by decide
  have key : (BitVec.ofInt 64 n &&& BitVec.ofInt 64 255).toNat = (n % ((2 ^ 64 : Nat) : Int)).toNat % 2 ^ 8 := by
    rw [BitVec.toNat_and, BitVec.toNat_ofInt, h, Nat.and_two_pow_sub_one_eq_mod]
  show IntKind.i64.wrap ((BitVec.ofInt 64 n &&& BitVec.ofInt 64 255).toNat : Nat) = n % 256
  rw [key, IntKind.wrap_i64]
  omega
theorem and30 (n : Int) : bits .and .i64 n 1073741823 = n % 1073741824 := by
  have h : (BitVec.ofInt 64 1073741823).toNat = 2 ^ 30 - 1 := by decide
  have key : (BitVec.ofInt 64 n &&& BitVec.ofInt 64 1073741823).toNat = (n % ((2 ^ 64 : Nat) : Int)).toNat % 2 ^ 30 := by
    rw [BitVec.toNat_and, BitVec.toNat_ofInt, h, Nat.and_two_pow_sub_one_eq_mod]
  show IntKind.i64.wrap ((BitVec.ofInt 64 n &&& BitVec.ofInt 64 1073741823).toNat : Nat) = n % 1073741824
  rw [key, IntKind.wrap_i64]
  omega

theorem CurAt.set2 {w : World} {B g : Nat} {A : Option Addr} {n c : Nat} {i h : Int} (hc : CurAt w B g A n c i h) (h' : Int) : CurAt (w.setCell ⟨g, 2, none⟩ (.int .i64 h')) B g A n c i h' :=
  ⟨by have := hc.cells.set_ 2 (.int .i64 h'); simpa using this, hc.own, hc.bytes.below ((Below.refl B w).setCell hc.own _), hc.size, hc.lo, hc.hi⟩
theorem CurAt.set1 {w : World} {B g : Nat} {A : Option Addr} {n c : Nat} {i h : Int} (hc : CurAt w B g A n c i h) (i' : Int) (h0 : 0 ≤ i') (h1 : i' ≤ n) : CurAt (w.setCell ⟨g, 1, none⟩ (.int .i64 i')) B g A n c i' h :=
  ⟨by have := hc.cells.set_ 1 (.int .i64 i'); simpa using this, hc.own, hc.bytes.below ((Below.refl B w).setCell hc.own _), hc.size, h0, h1⟩
theorem CurAt.drewN {w : World} {B g : Nat} {A : Option Addr} {n c : Nat} {i h : Int} (hc : CurAt w B g A n c i h) (k : Nat) : CurAt (w.drewN k) B g A n c i h :=
  ⟨hc.cells, hc.own, hc.bytes, hc.size, hc.lo, hc.hi⟩
theorem But.drewN_ {g : Nat} {a w : World} (h : But g a w) (k : Nat) : But g a (w.drewN k) := h.trans ⟨rfl, rfl, rfl, Nat.le_refl _, fun _ _ _ => rfl⟩

set_option maxRecDepth 100000 in
set_option maxHeartbeats 1000000 in
theorem drawByte (B g : Nat) (w : World) (hw : Cur w B g) :
    Calls Tryd.prog 72 #[.pointer (some ⟨g, 0, none⟩)] w (Drawn IsByte B g w) := by
  obtain ⟨A, n, c, i, h, hc⟩ := hw
  obtain ⟨k, rfl⟩ := Int.eq_ofNat_of_zero_le hc.lo
  have hkn : k ≤ n := by have := hc.hi; omega
  have hn := hc.size
  have c2 : w.cell? ⟨g, 2, none⟩ = some (.int .i64 h) := by rw [hc.cells.cell]; rfl
  have f2 : w.frozen? ⟨g, 2, none⟩ = false := hc.cells.frozen 2
  have k255 := and255
  go_enter Tryd.func72, Tryd.ntmps72
  go_wp2
  generalize RowKit.wrap64 (RowKit.wrap64 (h * 6364136223846793005) + 1442695040888963407) = h'
  have hc' := hc.set2 h'
  have hb' : But g w (w.setCell ⟨g, 2, none⟩ (.int .i64 h')) := But.set_ g w 2 (.int .i64 h')
  clear c2 f2
  generalize w.setCell ⟨g, 2, none⟩ (.int .i64 h') = w1 at *
  have c0 : w1.cell? ⟨g, 0, none⟩ = some (.slice A n c) := by rw [hc'.cells.cell]; rfl
  have c1 : w1.cell? ⟨g, 1, none⟩ = some (.int .i64 k) := by rw [hc'.cells.cell]; rfl
  have c2 : w1.cell? ⟨g, 2, none⟩ = some (.int .i64 h') := by rw [hc'.cells.cell]; rfl
  have f1 : w1.frozen? ⟨g, 1, none⟩ = false := hc'.cells.frozen 1
  by_cases hlt : k < n
  · obtain ⟨b, o, z, rfl, hb, hz0, hz1, cz⟩ := hc'.bytes k hlt
    have hk0 : (0 : Int) ≤ k := by omega
    go_quiet (fail)
    go_wp2
    go_quiet (fail)
    go_wp2
    go_quiet (fail)
    go_wp2
    go_ret
    exact ⟨_, rfl, ⟨_, rfl, by omega, by omega⟩, ⟨_, _, _, _, _, (hc'.drewN _).set1 (k + 1) (by omega) (by omega)⟩, (hb'.drewN_ _).trans (But.set_ g _ 1 _)⟩
  · go_quiet (fail)
    go_wp2
    go_quiet (fail)
    go_wp2
    go_ret
    exact ⟨_, rfl, ⟨_, rfl, by omega, by omega⟩, ⟨_, _, _, _, _, (hc'.drewN _).drewN _⟩, (hb'.drewN_ _).drewN_ _⟩

/-- A number from 0 on, below n. -/
def IsBelow (n : Int) (v : Value) : Prop := ∃ x : Int, v = .int .i64 x ∧ 0 ≤ x ∧ x < n

set_option maxRecDepth 100000 in
set_option maxHeartbeats 1000000 in
theorem drawBelow (B g : Nat) (n : Int) (w : World) (hw : Cur w B g) (h0 : 0 < n) (h1 : n ≤ 9223372036854775807) :
    Calls Tryd.prog 54 #[.pointer (some ⟨g, 0, none⟩), .int .i64 n] w (Drawn (IsBelow n) B g w) := by
  by_cases hs : n ≤ 256
  · go_enter Tryd.func54, Tryd.ntmps54
    go_wp2_with fail
    refine (drawByte B g _ hw).mono ?_
    rintro e w1 ⟨v, rfl, ⟨x, rfl, x0, x1⟩, hc1, hb1⟩
    have hm0 := Int.emod_nonneg x (show n ≠ 0 by omega)
    have hm1 := Int.emod_lt_of_pos x h0
    go_wp2
    go_ret
    exact ⟨_, rfl, ⟨_, rfl, hm0, hm1⟩, hc1, hb1⟩
  · go_enter Tryd.func54, Tryd.ntmps54
    go_wp2_with fail
    refine (drawByte B g _ hw).mono ?_
    rintro e w1 ⟨v, rfl, ⟨x, rfl, x0, x1⟩, hc1, hb1⟩
    go_wp2_with fail
    refine (drawByte B g _ hc1).mono ?_
    rintro e w2 ⟨v, rfl, ⟨y, rfl, y0, y1⟩, hc2, hb2⟩
    go_wp2_with fail
    refine (drawByte B g _ hc2).mono ?_
    rintro e w3 ⟨v, rfl, ⟨z, rfl, z0, z1⟩, hc3, hb3⟩
    go_wp2_with fail
    refine (drawByte B g _ hc3).mono ?_
    rintro e w4 ⟨v, rfl, ⟨t, rfl, t0, t1⟩, hc4, hb4⟩
    have hm0 := Int.emod_nonneg (x * 16777216 + y * 65536 + z * 256 + t) (show n ≠ 0 by omega)
    have hm1 := Int.emod_lt_of_pos (x * 16777216 + y * 65536 + z * 256 + t) h0
    go_wp2
    go_ret
    exact ⟨_, rfl, ⟨_, rfl, hm0, hm1⟩, hc4, ((hb1.trans hb2).trans hb3).trans hb4⟩

/-- One of the strings of a list. -/
def IsOneOf (ss : List ByteArray) (v : Value) : Prop := ∃ x ∈ ss, v = .string x
set_option maxRecDepth 100000 in
theorem drawPick (B g r c : Nat) (ss : List ByteArray) (w : World) (hw : Cur w B g) (hr : Whole w r 9 (ss.map Value.string).toArray) (hne : 0 < ss.length) (hlen : ss.length ≤ 1000000) (hrg : r ≠ g) :
    Calls Tryd.prog 41 #[.pointer (some ⟨g, 0, none⟩), .slice (some ⟨r, 0, none⟩) ss.length c] w (Drawn (IsOneOf ss) B g w) := by
  have hrl := hr.lt
  go_enter Tryd.func41, Tryd.ntmps41
  go_wp2_with fail
  refine (drawBelow B g _ _ hw (by omega) (by omega)).mono ?_
  rintro e w1 ⟨v, rfl, ⟨x, rfl, x0, x1⟩, hc1, hb1⟩
  obtain ⟨k, rfl⟩ := Int.eq_ofNat_of_zero_le x0
  have hk : k < ss.length := by omega
  have hcell : w1.cell? ⟨r, k, none⟩ = some (.string ss[k]) := by
    have h2 : Whole w1 r 9 (ss.map Value.string).toArray := (hb1.block r hrl hrg).trans hr
    rw [h2.cell]; simp [hk]
  go_wp2
  go_ret
  exact ⟨_, rfl, ⟨_, List.getElem_mem hk, rfl⟩, hc1, hb1⟩

/-- A NEW CURSOR. -/
def NewCur (w : World) (e : Ending) (w' : World) : Prop := ∃ g, e = .returned (.pointer (some ⟨g, 0, none⟩)) ∧ Cur w' w.heap.size g ∧ Below w.heap.size w w'
set_option maxRecDepth 100000 in
set_option maxHeartbeats 1000000 in
theorem drawNew (A : Option Addr) (n c : Nat) (w : World) (hA : BytesAt w w.heap.size A n) (hn : n ≤ 140737488355328) :
    Calls Tryd.prog 36 #[.slice A n c] w (NewCur w) := by
  have k30 := and30
  have HA := Lib.hid hA
  clear hA
  go_enter Tryd.func36, Tryd.ntmps36
  go_wp2
  go_loop [3, 4] (fun hv iv => ∃ (k : Nat) (h : Int), k ≤ n ∧ iv = .int .i64 k ∧ hv = .int .i64 h ∧ 0 ≤ h ∧ h ≤ 281474976710656) (fun _ iv => n - (Go.RowKit.intOf iv).toNat)
  case atStart => exact ⟨0, _, Nat.zero_le _, rfl, rfl, by omega, by omega⟩
  case round =>
    obtain ⟨k, h, hk, rfl, rfl, h0, h1⟩ := hrel
    by_cases hlt : k < n
    · obtain ⟨b, o, z, rfl, hb, hz0, hz1, cz⟩ := HA.out k hlt
      by_cases hs : k < 4000
      · go_wp2
        go_round
        case rel => exact ⟨k + 1, _, by omega, by go_num, rfl, by omega, by omega⟩
        case measure => simp [Go.RowKit.intOf]; omega
      · go_wp2
        go_ret
        refine ⟨_, rfl, ⟨_, _, _, _, _, ⟨Whole.new _ _ _, Nat.le_refl _, ?_, by omega, by omega, by omega⟩⟩, (Below.refl _ _).alloc (Nat.le_refl _) _⟩
        exact HA.out.below ((Below.refl _ _).alloc (Nat.le_refl _) _)
    · go_wp2
      go_ret
      refine ⟨_, rfl, ⟨_, _, _, _, _, ⟨Whole.new _ _ _, Nat.le_refl _, ?_, by omega, by omega, by omega⟩⟩, (Below.refl _ _).alloc (Nat.le_refl _) _⟩
      exact HA.out.below ((Below.refl _ _).alloc (Nat.le_refl _) _)
end Go.Proofs.YtngbilblddngcaaDoor
namespace Go.Proofs.YtngbilblddngcaaDoor
open Go.RowKit Go.Lib

mutual
/-- The names of a type's variables, as they stand. -/
def TypeX.names : TypeX → List ByteArray
  | .mk k s l => (if k = 1 then [s] else []) ++ TypeX.namesL l
def TypeX.namesL : List TypeX → List ByteArray
  | [] => []
  | x :: r => x.names ++ TypeX.namesL r
end
mutual
/-- A small type, as the draws make them: what stands below a variable of a short name names no variable. -/
def TypeX.tame : TypeX → Prop
  | .mk k s l => (-9 ≤ k ∧ k ≤ 9) ∧ s.size ≤ 100 ∧ TypeX.tameL l ∧ (k = 1 → s.size = 1 → TypeX.namesL l = [])
def TypeX.tameL : List TypeX → Prop
  | [] => True
  | x :: r => x.tame ∧ TypeX.tameL r
end
theorem TypeX.tame_eq (x : TypeX) : x.tame = ((-9 ≤ x.kind_ ∧ x.kind_ ≤ 9) ∧ x.name_.size ≤ 100 ∧ TypeX.tameL x.args_ ∧ (x.kind_ = 1 → x.name_.size = 1 → TypeX.namesL x.args_ = [])) := by cases x with | mk a b c => rw [TypeX.tame]; rfl
mutual
theorem TypeX.tame_ok : ∀ x : TypeX, x.tame → x.size ≤ 4294967296 → DV.okL x.cells
  | .mk k s l, h, hn => by
    rw [TypeX.tame] at h
    rw [TypeX.size] at hn
    have hl := sizeL_length l
    rw [TypeX.cells]
    simp only [DV.okL, DV.ok, uok, TypeX.rows_length]
    exact ⟨by omega, by omega, ⟨by omega, TypeX.tameL_ok l h.2.2.1 (by omega)⟩, trivial⟩
theorem TypeX.tameL_ok : ∀ l : List TypeX, TypeX.tameL l → TypeX.sizeL l ≤ 4294967296 → DV.okE (TypeX.rows l)
  | [], _, _ => by rw [TypeX.rows, DV.okE]; trivial
  | x :: r, h, hn => by
    rw [TypeX.tameL] at h
    rw [TypeX.sizeL] at hn
    rw [TypeX.rows, DV.okE]
    exact ⟨TypeX.tame_ok x h.1 (by omega), TypeX.tameL_ok r h.2 (by omega)⟩
end

theorem whole_but {w w' : World} {g k : Nat} {t : TypeId} {cs : Array Value} (h : Whole w g t cs) (hb : But k w w') (hne : g ≠ k) : Whole w' g t cs := (hb.block g h.lt hne).trans h
theorem cur_far {w w' : World} {B g k : Nat} (h : Cur w B g) (hb : But k w w') (hk : g < k) : Cur w' B g := by
  have ho := h.own
  obtain ⟨A, n, c, i, x, hc⟩ := h
  refine ⟨A, n, c, i, x, ⟨whole_but hc.cells hb (by omega), ho, fun j hj => ?_, hc.size, hc.lo, hc.hi⟩⟩
  have hlt := hc.cells.lt
  obtain ⟨b, o, z, hA, hl, h0, h1, hz⟩ := hc.bytes j hj
  exact ⟨b, o, z, hA, hl, h0, h1, (World.cell?_of_block (a := ⟨b, o + j, none⟩) (hb.block b (by omega) (by omega))).trans hz⟩
/-- Whatever changes beyond what was there. -/
theorem but_new {g X : Nat} {w w3 w4 : World} (hb : But g w w3) (h : But X w3 w4) (hX : w.heap.size ≤ X) : But g w w4 :=
  ⟨h.os.trans hb.os, h.tape.trans hb.tape, h.output.trans hb.output, Nat.le_trans hb.size h.size, fun k hk hg => (h.block k (Nat.lt_of_lt_of_le hk hb.size) (by omega)).trans (hb.block k hk hg)⟩

/-- What stands below the top names a and b alone. -/
def TypeX.under (x : TypeX) : Prop := ∀ u ∈ TypeX.namesL x.args_, u ∈ [(⟨#[97]⟩ : ByteArray), ⟨#[98]⟩]
theorem under_of {x : TypeX} (h : ∀ u ∈ x.names, u ∈ [(⟨#[97]⟩ : ByteArray), ⟨#[98]⟩]) : x.under := by
  cases x with | mk k n a => exact fun u hu => h u (by rw [TypeX.names]; exact List.mem_append_right _ hu)
theorem names_eta (x : TypeX) : (TypeX.mk x.kind_ x.name_ x.args_).names = x.names := by cases x; rfl
/-- WHAT A DRAW OF A TYPE LEAVES. -/
def DrawnT (G : Nat → Prop) (N B g : Nat) (w : World) (e : Ending) (w' : World) : Prop := ∃ x : TypeX, MadeT G x w e w' ∧ x.size ≤ N ∧ x.tame ∧ x.under ∧ Cur w' B g ∧ But g w w'

mutual
/-- No variable has arguments. -/
def TypeX.leafy : TypeX → Prop
  | .mk k _ l => (k = 1 → l = []) ∧ TypeX.leafyL l
def TypeX.leafyL : List TypeX → Prop
  | [] => True
  | x :: r => x.leafy ∧ TypeX.leafyL r
end
/-- Neither a variable with arguments nor one of a short name. -/
def TypeX.flat (x : TypeX) : Prop := x.leafy ∧ (x.args_ = [] ∨ 1 < x.name_.size)
theorem TypeX.flat.root {x : TypeX} (h : x.flat) : x.kind_ = 1 → x.args_ = [] := by
  have h := h.1
  cases x with | mk k s l =>
  rw [TypeX.leafy] at h
  exact h.1
theorem flat0 {k : Int} {s : ByteArray} : (TypeX.mk k s []).flat := ⟨by rw [TypeX.leafy, TypeX.leafyL]; exact ⟨fun _ => rfl, trivial⟩, .inl rfl⟩
theorem flatN {k : Int} {s : ByteArray} {l : List TypeX} (hk : k ≠ 1) (hs : 1 < s.size) (hl : TypeX.leafyL l) : (TypeX.mk k s l).flat := ⟨by rw [TypeX.leafy]; exact ⟨fun h => absurd h hk, hl⟩, .inr hs⟩
theorem leafy1 {x : TypeX} (h : x.flat) : TypeX.leafyL [x] := by rw [TypeX.leafyL, TypeX.leafyL]; exact ⟨h.1, trivial⟩
theorem leafy2 {x y : TypeX} (h : x.flat) (h' : y.flat) : TypeX.leafyL [x, y] := by rw [TypeX.leafyL]; exact ⟨h.1, leafy1 h'⟩
/-- Flat, and its variables are of P. -/
def TypeX.flatIn (P : List ByteArray) (x : TypeX) : Prop := x.flat ∧ ∀ u ∈ x.names, u ∈ P
theorem flatV {P : List ByteArray} {s : ByteArray} (h : s ∈ P) : (TypeX.mk 1 s []).flatIn P := ⟨flat0, fun u hu => by
  rw [TypeX.names, TypeX.namesL, if_pos rfl] at hu
  rw [show u = s by simpa using hu]; exact h⟩
theorem flatC {P : List ByteArray} {k : Int} {s : ByteArray} (hk : k ≠ 1) : (TypeX.mk k s []).flatIn P := ⟨flat0, fun u hu => by
  rw [TypeX.names, TypeX.namesL, if_neg hk] at hu
  cases hu⟩
theorem flatI1 {P : List ByteArray} {k : Int} {s : ByteArray} {x : TypeX} (hk : k ≠ 1) (hs : 1 < s.size) (h : x.flatIn P) : (TypeX.mk k s [x]).flatIn P := ⟨flatN hk hs (leafy1 h.1), fun u hu => by
  rw [TypeX.names, if_neg hk, TypeX.namesL, TypeX.namesL] at hu
  exact h.2 u (by simpa using hu)⟩
theorem flatI2 {P : List ByteArray} {k : Int} {s : ByteArray} {x y : TypeX} (hk : k ≠ 1) (hs : 1 < s.size) (h : x.flatIn P) (h' : y.flatIn P) : (TypeX.mk k s [x, y]).flatIn P := ⟨flatN hk hs (leafy2 h.1 h'.1), fun u hu => by
  rw [TypeX.names, if_neg hk, TypeX.namesL, TypeX.namesL, TypeX.namesL] at hu
  rcases (by simpa using hu : u ∈ x.names ∨ u ∈ y.names) with hu | hu
  · exact h.2 u hu
  · exact h'.2 u hu⟩
/-- What a draw of a type leaves that bends nothing. -/
def DrawnF (G : Nat → Prop) (P : List ByteArray) (N B g : Nat) (w : World) (e : Ending) (w' : World) : Prop := ∃ x : TypeX, MadeT G x w e w' ∧ x.size ≤ N ∧ x.tame ∧ x.flatIn P ∧ Cur w' B g ∧ But g w w'

/-- The ending of a draw: the result's cells written. -/
theorem drawEnd {G G' : Nat → Prop} {P : List ByteArray} {N B g : Nat} {w wa w3 : World} {x : TypeX} {A : Option Addr} {cc : Nat} {a b c : Value} (hg : g < w.heap.size) (hx : Whole w3 w.heap.size 26 #[a, b, c])
    (ht : TopT G' wa w3 (.slice A x.args_.length cc) x.args_) (hX : G' w.heap.size) (hlt : w.heap.size < wa.heap.size) (hsub : ∀ b, G b → G' b) (hc : Cur w3 B g) (hb : But g w w3) (hN : x.size ≤ N) (htm : x.tame) (hfl : x.flatIn P) :
    ∀ w4, w4 = ((w3.setCell ⟨w.heap.size, 0, none⟩ (.int .i64 x.kind_)).setCell ⟨w.heap.size, 1, none⟩ (.string x.name_)).setCell ⟨w.heap.size, 2, none⟩ (.slice A x.args_.length cc) →
      w4.cell? ⟨w.heap.size, 0, none⟩ = some (.int .i64 x.kind_) ∧ w4.cell? ⟨w.heap.size, 1, none⟩ = some (.string x.name_) ∧ w4.cell? ⟨w.heap.size, 2, none⟩ = some (.slice A x.args_.length cc) ∧ DrawnF G P N B g w (.returned (.agg #[.int .i64 x.kind_, .string x.name_, .slice A x.args_.length cc])) w4 := by
  intro w4 h4
  have hx3 : Whole w4 w.heap.size 26 #[.int .i64 x.kind_, .string x.name_, .slice A x.args_.length cc] := by
    rw [h4]; simpa using ((hx.set_ 0 (.int .i64 x.kind_)).set_ 1 (.string x.name_)).set_ 2 (.slice A x.args_.length cc)
  have hbut : But w.heap.size w3 w4 := by rw [h4]; exact ((But.set_ _ _ 0 _).trans (But.set_ _ _ 1 _)).trans (But.set_ _ _ 2 _)
  obtain ⟨e0, e1, e2⟩ := cells3 hx3
  exact ⟨e0, e1, e2, x, ⟨_, rfl, ((ht.butX (ht.ne hlt) hX hbut).less hsub).wide (Nat.le_of_lt hlt)⟩, hN, htm, hfl, cur_far hc hbut hg, but_new hb hbut (Nat.le_refl _)⟩

/-- The ending of a draw: the result's cells written, whatever it is. -/
theorem drawEndT {G G' : Nat → Prop} {N B g : Nat} {w wa w3 : World} {x : TypeX} {A : Option Addr} {cc : Nat} {a b c : Value} (hg : g < w.heap.size) (hx : Whole w3 w.heap.size 26 #[a, b, c])
    (ht : TopT G' wa w3 (.slice A x.args_.length cc) x.args_) (hX : G' w.heap.size) (hlt : w.heap.size < wa.heap.size) (hsub : ∀ b, G b → G' b) (hc : Cur w3 B g) (hb : But g w w3) (hN : x.size ≤ N) (htm : x.tame) (hun : x.under) :
    ∀ w4, w4 = ((w3.setCell ⟨w.heap.size, 0, none⟩ (.int .i64 x.kind_)).setCell ⟨w.heap.size, 1, none⟩ (.string x.name_)).setCell ⟨w.heap.size, 2, none⟩ (.slice A x.args_.length cc) →
      w4.cell? ⟨w.heap.size, 0, none⟩ = some (.int .i64 x.kind_) ∧ w4.cell? ⟨w.heap.size, 1, none⟩ = some (.string x.name_) ∧ w4.cell? ⟨w.heap.size, 2, none⟩ = some (.slice A x.args_.length cc) ∧ DrawnT G N B g w (.returned (.agg #[.int .i64 x.kind_, .string x.name_, .slice A x.args_.length cc])) w4 := by
  intro w4 h4
  have hx3 : Whole w4 w.heap.size 26 #[.int .i64 x.kind_, .string x.name_, .slice A x.args_.length cc] := by
    rw [h4]; simpa using ((hx.set_ 0 (.int .i64 x.kind_)).set_ 1 (.string x.name_)).set_ 2 (.slice A x.args_.length cc)
  have hbut : But w.heap.size w3 w4 := by rw [h4]; exact ((But.set_ _ _ 0 _).trans (But.set_ _ _ 1 _)).trans (But.set_ _ _ 2 _)
  obtain ⟨e0, e1, e2⟩ := cells3 hx3
  exact ⟨e0, e1, e2, x, ⟨_, rfl, ((ht.butX (ht.ne hlt) hX hbut).less hsub).wide (Nat.le_of_lt hlt)⟩, hN, htm, hun, cur_far hc hbut hg, but_new hb hbut (Nat.le_refl _)⟩

set_option maxRecDepth 100000 in
set_option maxHeartbeats 2000000 in
theorem projC (G : Nat → Prop) (s : ByteArray) (x : TypeX) (v : Value) (w : World) (hG : ∀ b, G b → b < w.heap.size) (hn : x.size ≤ 1000000) (hv : TypeAt w (Nog G w) x v) :
    Calls Tryd.prog 55 #[.string s, v] w fun e w' => MadeT G (.mk 3 s [x]) w e w' ∧ Below w.heap.size w w' := by
  obtain ⟨A, c, rfl, hx⟩ := hv
  have hbb : Below w.heap.size w ((w.alloc (.cells #[.int .i64 x.kind_, .string x.name_, .slice A x.args_.length c] 26)).alloc (.cells zeroT 26)) := ((Below.refl _ _).alloc (Nat.le_refl _) _).alloc (by simp) _
  obtain ⟨W, hW⟩ : ∃ W, W = (w.alloc (.cells #[.int .i64 x.kind_, .string x.name_, .slice A x.args_.length c] 26)).alloc (.cells zeroT 26) := ⟨_, rfl⟩
  have hs : W.heap.size = w.heap.size + 2 := by rw [hW]; simp
  have hx1 : Whole W w.heap.size 26 #[.int .i64 x.kind_, .string x.name_, .slice A x.args_.length c] := by rw [hW]; exact (Whole.new w _ _).below ((Below.refl (w.heap.size + 1) _).alloc (by simp) _) (by omega)
  have hx2 : Whole W (w.heap.size + 1) 26 zeroT := by
    have h := Whole.new (w.alloc (.cells #[.int .i64 x.kind_, .string x.name_, .slice A x.args_.length c] 26)) 26 zeroT
    rw [World.size_alloc] at h; rw [hW]; exact h
  rw [← hW] at hbb
  have hr : TypeRow W (Nog (fun b => G b ∨ b = w.heap.size + 1) W) A c x.args_ := hx.nogX hbb fun b hb h => h.elim id (fun e => by omega)
  have hG' : ∀ b, (G b ∨ b = w.heap.size + 1) → b < W.heap.size := fun b h => h.elim (fun h => by have := hG b h; omega) (fun e => by omega)
  have hc := copyT (fun b => G b ∨ b = w.heap.size + 1) x _ W hG' hn ⟨_, _, rfl, hr⟩
  have HC := Lib.hid hc
  have HW := Lib.hid hW.symm
  have HS := Lib.hid hs
  have HX2 := Lib.hid hx2
  have HB := Lib.hid hbb
  have HG := Lib.hid hG'
  clear hc hW hs hx1 hx2 hbb hr hx hG'
  go_enter Tryd.func55, Tryd.ntmps55
  go_wp2_with fail
  rw [HW.out]
  refine HC.out.mono ?_
  rintro e w2 ⟨⟨V, rfl, ht⟩, hb2⟩
  obtain ⟨A2, c2, rfl⟩ := ht.shape
  obtain ⟨A2', c2', e2, hr2⟩ := ht.row HG.out
  injection e2 with e2 _ e3
  subst e2 e3
  have hbw := HB.out.trans (hb2.mono HB.out.size)
  have hx3 : Whole (w2.alloc (.cells #[.int .i64 x.kind_, .string x.name_, .slice A2 x.args_.length c2] 26)) (w.heap.size + 1) 26 zeroT := whole_keep (HX2.out.below hb2 HX2.out.lt) ((Below.refl _ _).alloc (Nat.le_refl _) _)
  have hz2 : w.heap.size + 2 ≤ w2.heap.size := by have := hb2.size; have := HS.out; omega
  have ht3 : TopT (fun b => G b ∨ b = w.heap.size + 1) w (w2.alloc (.cells #[.int .i64 x.kind_, .string x.name_, .slice A2 x.args_.length c2] 26)) (.slice (some ⟨w2.heap.size, 0, none⟩) 1 1) [x] :=
    ⟨_, World.ownsRow_lit (base := w.heap.size) (size := 3) (e := 26) w2 #[.int .i64 x.kind_, .string x.name_, .slice A2 x.args_.length c2] 1 (by omega) (by decide) rfl, A2, c2, [], rfl,
      hr2.frame (fun b h => ⟨⟨by simp; have := h.1; omega, h.2⟩, fun e => by simp [Value.ownBlock] at e; have := h.1; omega⟩) (fun b o h => ((Below.refl w2.heap.size w2).alloc (Nat.le_refl _) _).cell (p := ⟨b, o, none⟩) h.1), rfl⟩
  have hend := tyEndX (w := w) (k := 3) (s := s) (A := some ⟨w2.heap.size, 0, none⟩) (n := 1) (cc := 1) hx3 (by omega) (hbw.alloc hbw.size _)
  obtain ⟨r0, r1, r2⟩ := cells3 hx3
  have rf0 := hx3.frozen 0
  have rf1 := hx3.frozen 1
  have rf2 := hx3.frozen 2
  have hlt := hx3.lt
  have HE := Lib.hid hend
  have HT := Lib.hid ht3
  clear hend ht3 hx3 hr2 ht hb2 hbw
  go_wp2
  obtain ⟨e0, e1, e2, hbut, hb4, -⟩ := HE.out _ rfl
  exact bodyPost_ret (v := .agg #[.int .i64 3, .string s, .slice (some ⟨w2.heap.size, 0, none⟩) 1 1]) (by simp [results, Tryd.results55, go_sem, e0, e1, e2]) rfl
    ⟨⟨_, rfl, (HT.out.butX (by simp [Value.ownBlock]; omega) (.inr rfl) hbut).less fun b h => .inl h⟩, hb4⟩
end Go.Proofs.YtngbilblddngcaaDoor
namespace Go.Proofs.YtngbilblddngcaaDoor
open Go.RowKit Go.Lib

inductive BindingX where
  | mk (var_ : ByteArray) (type_ : TypeX)
def BindingX.var_ : BindingX → ByteArray | .mk var_ _ => var_
def BindingX.type_ : BindingX → TypeX | .mk _ type_ => type_
/-- The cells of a value. -/
def BindingX.cells : BindingX → List DV
  | .mk var_ type_ => [.pl (.string var_), .pl (.int .i64 type_.kind_), .pl (.string type_.name_), .row 26 3 (TypeX.rows type_.args_)]
def BindingX.rows (l : List BindingX) : List (List DV) := l.map BindingX.cells
theorem BindingX.cells_eq (x : BindingX) : x.cells = [.pl (.string x.var_), .pl (.int .i64 x.type_.kind_), .pl (.string x.type_.name_), .row 26 3 (TypeX.rows x.type_.args_)] := by cases x with | mk xvar_ xtype_ => rfl
theorem BindingX.rows_map (l : List BindingX) : BindingX.rows l = l.map BindingX.cells := rfl
theorem BindingX.rows_length (l : List BindingX) : (BindingX.rows l).length = l.length := by rw [BindingX.rows_map, List.length_map]
theorem BindingX.rows_at (l : List BindingX) (j : Nat) (h : j < l.length) (h' : j < (BindingX.rows l).length) : (BindingX.rows l)[j] = l[j].cells := by simp [BindingX.rows_map]
theorem BindingX.rows_take (l : List BindingX) (j : Nat) : BindingX.rows (l.take j) = (BindingX.rows l).take j := by simp [BindingX.rows_map, List.map_take]
theorem BindingX.rows_snoc (l : List BindingX) (x : BindingX) : BindingX.rows (l ++ [x]) = BindingX.rows l ++ [x.cells] := by simp [BindingX.rows_map]
theorem BindingX.cells_length (x : BindingX) : x.cells.length = 4 := by rw [BindingX.cells_eq]; rfl
/-- The slice at A reads as this list. -/
def BindingRow (w : World) (P : Nat → Prop) (A : Option Addr) (c : Nat) (l : List BindingX) : Prop := RdV w P (.row 58 4 (BindingX.rows l)) (.slice A l.length c)
theorem BindingRow.frame {w w' : World} {P Q : Nat → Prop} {A : Option Addr} {c : Nat} {l : List BindingX} (h : BindingRow w P A c l) (hPQ : ∀ b, P b → Q b) (hk : ∀ b o, P b → w'.cell? ⟨b, o, none⟩ = w.cell? ⟨b, o, none⟩) : BindingRow w' Q A c l := RdV_frame hPQ hk _ h
theorem BindingRow.grow {w w' : World} {A : Option Addr} {c : Nat} {l : List BindingX} (h : BindingRow w (Und w.heap.size) A c l) (hb : Below w.heap.size w w') : BindingRow w' (Und w'.heap.size) A c l := RdV.grow h hb
theorem BindingRow.of_read {w : World} {P : Nat → Prop} {l : List BindingX} {v : Value} (h : RdV w P (.row 58 4 (BindingX.rows l)) v) : ∃ A c, v = .slice A l.length c ∧ BindingRow w P A c l := by
  obtain ⟨A, c, rfl, _, _⟩ := h.shape
  rw [BindingX.rows_length] at h ⊢
  exact ⟨A, c, rfl, h⟩
theorem BindingRow.cap {w : World} {P : Nat → Prop} {A : Option Addr} {c : Nat} {l : List BindingX} (h : BindingRow w P A c l) : l.length ≤ c ∧ c ≤ 9223372036854775807 := by
  obtain ⟨A', c', e, h1, h2⟩ := RdV.shape h
  injection e with _ _ e
  rw [BindingX.rows_length] at h1
  omega
theorem BindingRow.nil (w : World) (P : Nat → Prop) (c : Nat) (A : Option Addr) (hc : c ≤ 9223372036854775807) : BindingRow w P A c [] := RdV_row.2 ⟨A, c, by rw [BindingX.rows_length], by rw [BindingX.rows_length]; exact Nat.zero_le _, hc, .inl (by rw [BindingX.rows_map]; rfl)⟩
/-- This value, by value. -/
def BindingAt (w : World) (P : Nat → Prop) (x : BindingX) (v : Value) : Prop := ∃ (A3 : Option Addr) (c3 : Nat), v = .agg #[.string x.var_, .int .i64 x.type_.kind_, .string x.type_.name_, .slice A3 x.type_.args_.length c3] ∧ TypeRow w P A3 c3 x.type_.args_
theorem BindingAt.of_reads {w : World} {P : Nat → Prop} {x : BindingX} {vs : List Value} (h : RdVs w P x.cells vs) : BindingAt w P x (.agg vs.toArray) := by
  rw [BindingX.cells_eq] at h
  simp only [RdVs] at h
  obtain ⟨v0, _, rfl, h0, v1, _, rfl, h1, v2, _, rfl, h2, v3, _, rfl, h3, rfl⟩ := h
  rw [RdV_pl] at h0
  subst h0
  rw [RdV_pl] at h1
  subst h1
  rw [RdV_pl] at h2
  subst h2
  obtain ⟨A3, c3, rfl, k3⟩ := TypeRow.of_read h3
  exact ⟨A3, c3, rfl, k3⟩
theorem BindingAt.frame {w w' : World} {P Q : Nat → Prop} {x : BindingX} {v : Value} (h : BindingAt w P x v) (hPQ : ∀ b, P b → Q b) (hk : ∀ b o, P b → w'.cell? ⟨b, o, none⟩ = w.cell? ⟨b, o, none⟩) : BindingAt w' Q x v := by
  obtain ⟨A3, c3, rfl, k3⟩ := h
  exact ⟨A3, c3, rfl, k3.frame hPQ hk⟩
theorem BindingAt.grow {w w' : World} {x : BindingX} {v : Value} (h : BindingAt w (Und w.heap.size) x v) (hb : Below w.heap.size w w') : BindingAt w' (Und w'.heap.size) x v := h.frame (fun _ h => Nat.lt_of_lt_of_le h hb.size) (fun b o hP => hb.cell (p := ⟨b, o, none⟩) hP)
/-- Where there is an element at j: where it lies, and what it is. -/
theorem BindingRow.at_ {w : World} {P : Nat → Prop} {A : Option Addr} {c : Nat} {l : List BindingX} (h : BindingRow w P A c l) {j : Nat} (hj : j < l.length) :
    ∃ (b o : Nat) (A3 : Option Addr) (c3 : Nat), A = some ⟨b, o, none⟩ ∧ P b ∧ w.cell? ⟨b, o + j * 4, none⟩ = some (.string l[j].var_) ∧ w.cell? ⟨b, o + j * 4 + 1, none⟩ = some (.int .i64 l[j].type_.kind_) ∧ w.cell? ⟨b, o + j * 4 + 2, none⟩ = some (.string l[j].type_.name_) ∧ w.cell? ⟨b, o + j * 4 + 3, none⟩ = some (.slice A3 l[j].type_.args_.length c3) ∧ TypeRow w P A3 c3 l[j].type_.args_ := by
  obtain ⟨b, o, ws, hA, hP, hR, hc⟩ := RdV.at_ h (j := j) (by rw [BindingX.rows_length]; exact hj)
  rw [BindingX.rows_at l j hj, BindingX.cells_eq] at hR
  simp only [RdVs] at hR
  obtain ⟨v0, _, rfl, h0, v1, _, rfl, h1, v2, _, rfl, h2, v3, _, rfl, h3, rfl⟩ := hR
  rw [RdV_pl] at h0
  subst h0
  rw [RdV_pl] at h1
  subst h1
  rw [RdV_pl] at h2
  subst h2
  obtain ⟨A3, c3, rfl, k3⟩ := TypeRow.of_read h3
  exact ⟨b, o, A3, c3, hA, hP, hc 0 _ rfl, hc 1 _ rfl, hc 2 _ rfl, hc 3 _ rfl, k3⟩
end Go.Proofs.YtngbilblddngcaaDoor
namespace Go.Proofs.YtngbilblddngcaaDoor
open Go.RowKit Go.Lib

/-- The type that the first binding of the name has. -/
def lookX (s : ByteArray) : List BindingX → Option TypeX
  | [] => none
  | b :: r => if b.var_.data.toList == s.data.toList then some b.type_ else lookX s r
mutual
/-- Replacement at once: what takes a variable's place is not looked into. -/
def TypeX.sub (f : ByteArray → Option TypeX) : TypeX → TypeX
  | .mk k n a => if (k == 1) = true ∧ (f n).isSome = true then (f n).getD (.mk k n []) else .mk k n (TypeX.subL f a)
def TypeX.subL (f : ByteArray → Option TypeX) : List TypeX → List TypeX
  | [] => []
  | x :: r => x.sub f :: TypeX.subL f r
end
theorem TypeX.subL_map (f : ByteArray → Option TypeX) : ∀ l : List TypeX, TypeX.subL f l = l.map (TypeX.sub f)
  | [] => by rw [TypeX.subL]; rfl
  | x :: r => by rw [TypeX.subL, TypeX.subL_map f r]; rfl
theorem TypeX.subL_length (f : ByteArray → Option TypeX) (l : List TypeX) : (TypeX.subL f l).length = l.length := by rw [TypeX.subL_map, List.length_map]
theorem TypeX.sub_some {f : ByteArray → Option TypeX} {x y : TypeX} (hk : x.kind_ = 1) (hf : f x.name_ = some y) : x.sub f = y := by
  cases x with | mk k n a =>
  simp only [TypeX.kind_, TypeX.name_] at hk hf
  subst hk
  rw [TypeX.sub, hf]
  simp
theorem TypeX.sub_else {f : ByteArray → Option TypeX} {x : TypeX} (h : ¬ (x.kind_ = 1 ∧ (f x.name_).isSome = true)) : x.sub f = .mk x.kind_ x.name_ (TypeX.subL f x.args_) := by
  cases x with | mk k n a =>
  simp only [TypeX.kind_, TypeX.name_] at h
  rw [TypeX.sub, if_neg (by simpa using h)]
  rfl
mutual
theorem TypeX.sub_none : ∀ x : TypeX, x.sub (fun _ => none) = x
  | .mk k n a => by rw [TypeX.sub, if_neg (by simp), TypeX.subL_none a]
theorem TypeX.subL_none : ∀ l : List TypeX, TypeX.subL (fun _ => none) l = l
  | [] => by rw [TypeX.subL]
  | x :: r => by rw [TypeX.subL, TypeX.sub_none x, TypeX.subL_none r]
end
mutual
theorem TypeX.sub_cong {f g : ByteArray → Option TypeX} (h : ∀ s, f s = g s) : ∀ x : TypeX, x.sub f = x.sub g
  | .mk k n a => by rw [TypeX.sub, TypeX.sub, h n, TypeX.subL_cong h a]
theorem TypeX.subL_cong {f g : ByteArray → Option TypeX} (h : ∀ s, f s = g s) : ∀ l : List TypeX, TypeX.subL f l = TypeX.subL g l
  | [] => by rw [TypeX.subL, TypeX.subL]
  | x :: r => by rw [TypeX.subL, TypeX.subL, TypeX.sub_cong h x, TypeX.subL_cong h r]
end
mutual
/-- How large the result can be. -/
theorem TypeX.size_sub {f : ByteArray → Option TypeX} {M : Nat} (hf : ∀ s y, f s = some y → y.size ≤ M) (h1 : 1 ≤ M) : ∀ x : TypeX, (x.sub f).size ≤ x.size * M
  | .mk k n a => by
    rw [TypeX.sub]
    have hs : 1 ≤ (TypeX.mk k n a).size := by rw [TypeX.size]; omega
    split
    · rename_i h
      cases hfn : f n with
      | none => rw [hfn] at h; simp at h
      | some y =>
        have := hf n y hfn
        show y.size ≤ _
        exact Nat.le_trans this (Nat.le_mul_of_pos_left _ hs)
    · have := TypeX.sizeL_sub hf h1 a
      rw [TypeX.size, TypeX.size, Nat.add_mul]
      omega
theorem TypeX.sizeL_sub {f : ByteArray → Option TypeX} {M : Nat} (hf : ∀ s y, f s = some y → y.size ≤ M) (h1 : 1 ≤ M) : ∀ l : List TypeX, TypeX.sizeL (TypeX.subL f l) ≤ TypeX.sizeL l * M
  | [] => by rw [TypeX.subL]; simp [TypeX.sizeL]
  | x :: r => by
    have h2 := TypeX.size_sub hf h1 x
    have h3 := TypeX.sizeL_sub hf h1 r
    rw [TypeX.subL, TypeX.sizeL, TypeX.sizeL, Nat.add_mul]
    omega
end
theorem lookX_size {l : List BindingX} {s : ByteArray} {y : TypeX} (h : lookX s l = some y) : y.size ≤ DV.wtE (BindingX.rows l) + 1 := by
  induction l with
  | nil => simp [lookX] at h
  | cons b r ih =>
    rw [lookX] at h
    show _ ≤ DV.wtE (b.cells :: BindingX.rows r) + 1
    rw [DV.wtE]
    split at h
    · injection h with h
      subst h
      have h1 := TypeX.size_wt b.type_
      have h2 : DV.wtL b.cells = b.var_.size + DV.wtL b.type_.cells := by
        rw [BindingX.cells_eq, TypeX.cells_eq]; simp only [DV.wtL, DV.wt, uwt]
      omega
    · have := ih h; omega
end Go.Proofs.YtngbilblddngcaaDoor
namespace Go.Proofs.YtngbilblddngcaaDoor
open Go.RowKit Go.Lib

theorem news4 (w : World) (t : TypeId) (a b c d : Value) : ∀ (j : Nat) (u : Value), [a, b, c, d][j]? = some u → (w.alloc (.cells #[a, b, c, d] t)).cell? ((⟨w.heap.size, 0, none⟩ : Addr).add j) = some u := by
  intro j u hj
  match j, hj with
  | 0, hj => simp at hj; subst hj; simp [Addr.add]
  | 1, hj => simp at hj; subst hj; simp [Addr.add]
  | 2, hj => simp at hj; subst hj; simp [Addr.add]
  | 3, hj => simp at hj; subst hj; simp [Addr.add]
theorem one4 (s t : ByteArray) (k : Int) (A : Option Addr) (n c : Nat) : ∀ u ∈ [Value.string s, .int .i64 k, .string t, .slice A n c], u.oneCell' = true := by
  intro u hu
  simp at hu
  rcases hu with rfl | rfl | rfl | rfl <;> rfl
/-- One element more on a row of the call's own. -/
theorem row_push {w w6 w7 : World} {B K n : Nat} {e : TypeId} {xs : List (List DV)} {x : List DV} {V V' : Value} {vs news : List Value} {bs' b2 : List Nat} {O : Obj}
    (ho : w.ownsRow B e K V n vs) (hE : OwVE w B K xs vs bs') (hnd : (V.ownBlock.toList ++ bs').Nodup) (hb : Below w.heap.size w w6) (hx : OwVs w6 w.heap.size x news b2) (hn2 : b2.Nodup) (hk : x.length = K) (hB : B ≤ w.heap.size)
    (hl : n = xs.length) (hown7 : w7.ownsRow B e K V' (n + 1) (vs ++ news)) (hg : (w6.alloc O).grownBy w7 V.ownBlock) (hv : V'.ownBlock = V.ownBlock ∨ V'.ownBlock = some (w6.heap.size + 1)) :
    OwV w7 B (.row e K (xs ++ [x])) V' (V'.ownBlock.toList ++ (bs' ++ b2)) ∧ (V'.ownBlock.toList ++ (bs' ++ b2)).Nodup := by
  have hs := hb.size
  have hEl := OwVE_lt _ hE
  have hxl := OwVs_lt _ hx
  rw [List.nodup_append] at hnd
  obtain ⟨hd1, hd2, hd3⟩ := hnd
  have hVb : ∀ b, V.ownBlock = some b → B ≤ b ∧ b < w.heap.size := ho.lt
  have hE7 : OwVE w7 B K xs vs bs' := OwVE_frame _ (fun b hm => by
    have hlt := (hEl b hm).2
    rw [hg.block b (by rw [World.size_alloc]; omega) (fun e => hd3 b (by rw [← e]; simp) b hm rfl), Below.heap_alloc _ _ _ (by omega)]
    exact hb.block b hlt) hE
  have hx7 : OwVs w7 B x news b2 := OwVs_wide hB _ (OwVs_frame _ (fun b hm => by
    have hlt := hxl b hm
    rw [hg.block b (by rw [World.size_alloc]; omega) (fun e => by have := (hVb b e.symm).2; omega), Below.heap_alloc _ _ _ hlt.2]) hx)
  have hbb : (bs' ++ b2).Nodup := by
    rw [List.nodup_append]
    exact ⟨hd2, hn2, fun a ha b hb' e => by have := (hEl a ha).2; have := (hxl b hb').1; omega⟩
  refine ⟨?_, ?_⟩
  · rw [OwV]
    exact ⟨vs ++ news, bs' ++ b2, by rw [List.length_append, List.length_singleton, ← hl]; exact hown7, OwVE_snoc hE7 hk hx7, rfl⟩
  · rw [List.nodup_append]
    refine ⟨?_, hbb, fun a ha b hb' e => ?_⟩
    · cases hV' : V'.ownBlock with
      | none => simp
      | some g => simp
    · subst e
      rcases hv with h | h
      · rw [h] at ha
        rcases List.mem_append.1 hb' with hb' | hb'
        · exact hd3 a ha a hb' rfl
        · have := (hVb a (by simpa using ha)).2; have := (hxl a hb').1; omega
      · rw [h] at ha
        simp at ha
        rcases List.mem_append.1 hb' with hb' | hb'
        · have := (hEl a hb').2; omega
        · have := (hxl a hb').2; omega
theorem infoBd : (Tryd.prog.info? 58).map (fun i => (i.zero, i.size, i.bytes)) = some (some (.agg #[.string ByteArray.empty, .int .i64 0, .string ByteArray.empty, .slice none 0 0]), 4, 64) := by kernel_rfl
/-- The row of what has been kept. -/
def KeptAt (B : Nat) (acc : List BindingX) (V : Value) (w : World) : Prop := ∃ (vs : List Value) (bs : List Nat), w.ownsRow B 58 4 V acc.length vs ∧ OwVE w B 4 (BindingX.rows acc) vs bs ∧ (V.ownBlock.toList ++ bs).Nodup
theorem KeptAt.row {B : Nat} {acc : List BindingX} {V : Value} {w : World} (h : KeptAt B acc V w) : ∃ bs, OwV w B (.row 58 4 (BindingX.rows acc)) V bs ∧ bs.Nodup := by
  obtain ⟨vs, bs, h1, h2, h3⟩ := h
  refine ⟨_, ?_, h3⟩
  rw [OwV, BindingX.rows_length]
  exact ⟨vs, bs, h1, h2, rfl⟩
theorem KeptAt.below {B : Nat} {acc : List BindingX} {V : Value} {w w' : World} (h : KeptAt B acc V w) (hb : Below w.heap.size w w') : KeptAt B acc V w' := by
  obtain ⟨vs, bs, h1, h2, h3⟩ := h
  exact ⟨vs, bs, owns_below h1 hb, OwVE_frame _ (fun b hm => hb.block b (OwVE_lt _ h2 b hm).2) h2, h3⟩
theorem KeptAt.push {w w6 w7 : World} {B : Nat} {acc : List BindingX} {x : BindingX} {V V' : Value} {vs : List Value} {A : Option Addr} {c : Nat} {bs' b2 : List Nat} {O : Obj}
    (ho : w.ownsRow B 58 4 V acc.length vs) (hE : OwVE w B 4 (BindingX.rows acc) vs bs') (hnd : (V.ownBlock.toList ++ bs').Nodup) (hb : Below w.heap.size w w6)
    (hx : OwVs w6 w.heap.size x.type_.cells [.int .i64 x.type_.kind_, .string x.type_.name_, .slice A x.type_.args_.length c] b2) (hn2 : b2.Nodup) (hB : B ≤ w.heap.size)
    (hown7 : w7.ownsRow B 58 4 V' (acc.length + 1) (vs ++ [.string x.var_, .int .i64 x.type_.kind_, .string x.type_.name_, .slice A x.type_.args_.length c])) (hg : (w6.alloc O).grownBy w7 V.ownBlock) (hv : V'.ownBlock = V.ownBlock ∨ V'.ownBlock = some (w6.heap.size + 1)) :
    KeptAt B (acc ++ [x]) V' w7 := by
  have hx' : OwVs w6 w.heap.size x.cells [.string x.var_, .int .i64 x.type_.kind_, .string x.type_.name_, .slice A x.type_.args_.length c] b2 := by
    rw [TypeX.cells_eq] at hx
    rw [BindingX.cells_eq, OwVs]
    exact ⟨_, _, [], b2, rfl, rfl, by rw [OwV]; exact ⟨rfl, rfl⟩, hx⟩
  obtain ⟨h1, h2⟩ := row_push ho hE hnd hb hx' hn2 (BindingX.cells_length x) hB (BindingX.rows_length acc).symm hown7 hg hv
  rw [← BindingX.rows_snoc, OwV, BindingX.rows_length] at h1
  obtain ⟨vs', bs'', h3, h4, h5⟩ := h1
  rw [h5] at h2
  exact ⟨vs', bs'', h3, h4, h2⟩

theorem news3 (w : World) (t : TypeId) (a b c : Value) : ∀ (j : Nat) (u : Value), [a, b, c][j]? = some u → (w.alloc (.cells #[a, b, c] t)).cell? ((⟨w.heap.size, 0, none⟩ : Addr).add j) = some u := by
  intro j u hj
  match j, hj with
  | 0, hj => simp at hj; subst hj; simp [Addr.add]
  | 1, hj => simp at hj; subst hj; simp [Addr.add]
  | 2, hj => simp at hj; subst hj; simp [Addr.add]
theorem one3 (k : Int) (t : ByteArray) (A : Option Addr) (n c : Nat) : ∀ u ∈ [Value.int .i64 k, .string t, .slice A n c], u.oneCell' = true := by
  intro u hu
  simp at hu
  rcases hu with rfl | rfl | rfl <;> rfl
/-- A row of types under way. -/
def MoreT (B : Nat) (acc : List TypeX) (V : Value) (w : World) : Prop := ∃ (vs : List Value) (bs : List Nat), w.ownsRow B 26 3 V acc.length vs ∧ OwVE w B 3 (TypeX.rows acc) vs bs ∧ (V.ownBlock.toList ++ bs).Nodup
theorem MoreT.row {B : Nat} {acc : List TypeX} {V : Value} {w : World} (h : MoreT B acc V w) : ∃ bs, OwV w B (.row 26 3 (TypeX.rows acc)) V bs ∧ bs.Nodup := by
  obtain ⟨vs, bs, h1, h2, h3⟩ := h
  refine ⟨_, ?_, h3⟩
  rw [OwV, TypeX.rows_length]
  exact ⟨vs, bs, h1, h2, rfl⟩
theorem MoreT.below {B : Nat} {acc : List TypeX} {V : Value} {w w' : World} (h : MoreT B acc V w) (hb : Below w.heap.size w w') : MoreT B acc V w' := by
  obtain ⟨vs, bs, h1, h2, h3⟩ := h
  exact ⟨vs, bs, owns_below h1 hb, OwVE_frame _ (fun b hm => hb.block b (OwVE_lt _ h2 b hm).2) h2, h3⟩
theorem MoreT.push {w w6 w7 : World} {B B6 : Nat} {acc : List TypeX} {x : TypeX} {V V' : Value} {vs : List Value} {A : Option Addr} {c : Nat} {bs' b2 : List Nat} {O : Obj}
    (ho : w.ownsRow B 26 3 V acc.length vs) (hE : OwVE w B 3 (TypeX.rows acc) vs bs') (hnd : (V.ownBlock.toList ++ bs').Nodup) (hb : Below w.heap.size w w6) (hB6 : B6 = w.heap.size)
    (hx : OwVs w6 B6 x.cells [.int .i64 x.kind_, .string x.name_, .slice A x.args_.length c] b2) (hn2 : b2.Nodup) (hB : B ≤ w.heap.size)
    (hown7 : w7.ownsRow B 26 3 V' (acc.length + 1) (vs ++ [.int .i64 x.kind_, .string x.name_, .slice A x.args_.length c])) (hg : (w6.alloc O).grownBy w7 V.ownBlock) (hv : V'.ownBlock = V.ownBlock ∨ V'.ownBlock = some (w6.heap.size + 1)) :
    MoreT B (acc ++ [x]) V' w7 := by
  subst hB6
  obtain ⟨h1, h2⟩ := row_push ho hE hnd hb hx hn2 (TypeX.cells_length x) hB (TypeX.rows_length acc).symm hown7 hg hv
  rw [← TypeX.rows_snoc, OwV, TypeX.rows_length] at h1
  obtain ⟨vs', bs'', h3, h4, h5⟩ := h1
  rw [h5] at h2
  exact ⟨vs', bs'', h3, h4, h2⟩
/-- A type's cells out of its row. -/
theorem cells_own {w : World} {B : Nat} {k : Int} {s : ByteArray} {l : List TypeX} {V : Value} {bs : List Nat} (h : OwV w B (.row 26 3 (TypeX.rows l)) V bs) : OwVs w B (TypeX.mk k s l).cells [.int .i64 k, .string s, V] bs := by
  rw [TypeX.cells]
  simp only [OwVs]
  exact ⟨_, _, [], _, rfl, rfl, by rw [OwV]; exact ⟨rfl, rfl⟩, _, _, [], _, rfl, rfl, by rw [OwV]; exact ⟨rfl, rfl⟩, V, [], _, [], rfl, (List.append_nil _).symm, h, rfl, rfl⟩
end Go.Proofs.YtngbilblddngcaaDoor
namespace Go.Proofs.YtngbilblddngcaaDoor
open Go.RowKit Go.Lib

/-- Block b is a map with these entries, in the order in which they came. -/
def MapAt (w : World) (b : Nat) (l : List (ByteArray × Value)) : Prop := ∃ (es : Array MapEntry) (clk : Nat), w.heap[b]? = some (.map es clk) ∧ es.toList.map (fun e => (e.key, e.val)) = l.map fun p => (Value.string p.1, p.2)
def findV (s : ByteArray) : List (ByteArray × Value) → Option Value
  | [] => none
  | p :: r => if s = p.1 then some p.2 else findV s r
theorem sameNow_str (a b : ByteArray) : Instr.sameNow .string (.string a) (.string b) = some (decide (a = b)) := by
  obtain ⟨r, h1, h2⟩ := MapKept.sameNow_of_keys (d := .string) (a := .string a) (b := .string b) trivial trivial
  rw [h1]
  congr 1
  rw [Bool.eq_iff_iff, h2, decide_eq_true_eq]
  constructor
  · intro h; injection h
  · intro h; rw [h]
theorem find_list (s : ByteArray) : ∀ (es : List MapEntry) (l : List (ByteArray × Value)) (i : Nat), es.map (fun e => (e.key, e.val)) = l.map (fun p => (Value.string p.1, p.2)) →
    (findV s l = none ∧ Instr.findNow .string (.string s) es i = some none) ∨ ∃ j v, findV s l = some v ∧ Instr.findNow .string (.string s) es i = some (some (j, v))
  | [], [], i, _ => .inl ⟨rfl, rfl⟩
  | e :: es, p :: l, i, h => by
    rw [List.map_cons, List.map_cons, List.cons.injEq] at h
    obtain ⟨h1, h2⟩ := h
    rw [Prod.mk.injEq] at h1
    obtain ⟨h1, h3⟩ := h1
    rw [Instr.findNow, h1, sameNow_str, findV]
    by_cases hs : s = p.1
    · rw [if_pos hs, decide_eq_true hs]
      exact .inr ⟨i, p.2, rfl, by rw [h3]⟩
    · rw [if_neg hs, decide_eq_false hs]
      exact find_list s es l (i + 1) h2
  | [], p :: l, i, h => by simp at h
  | e :: es, [], i, h => by simp at h
theorem MapAt.made (w : World) : MapAt (w.alloc (.map #[] 0)) w.heap.size [] := ⟨#[], 0, by show (w.heap.push _)[w.heap.size]? = _; simp, rfl⟩
theorem MapAt.lt {w : World} {b : Nat} {l : List (ByteArray × Value)} (h : MapAt w b l) : b < w.heap.size := by
  obtain ⟨es, clk, h, _⟩ := h
  exact (Array.getElem?_eq_some_iff.1 h).1
theorem MapAt.same {w w' : World} {b : Nat} {l : List (ByteArray × Value)} (h : MapAt w b l) (hb : w'.heap[b]? = w.heap[b]?) : MapAt w' b l := by
  obtain ⟨es, clk, h1, h2⟩ := h
  exact ⟨es, clk, hb.trans h1, h2⟩

section
variable {P : Program} {t k e : TypeId} {w : World} {b : Nat} {l : List (ByteArray × Value)}
theorem MapAt.look (h : MapAt w b l) (ht : P.underlying t = some (.map k e)) (hk : P.underlying k = some .string) {z : Value} (hz : (zeroValue e).run P w = .ok z w) (s : ByteArray) :
    (Instr.lookup t (.map (some b)) (.string s) true).run P w = .ok (.tuple #[(findV s l).getD z, .bool (findV s l).isSome]) w := by
  obtain ⟨es, clk, hb, he⟩ := h
  rcases find_list s es.toList l 0 he with ⟨h1, h2⟩ | ⟨j, v, h1, h2⟩
  · rw [h1]
    simp [Instr.lookup, run_underlying ht, MapKept.run_getObj_map hb, MapKept.run_checkKey (k := .string s) hk trivial, MapKept.run_findKey hk h2, hz, Result.andThen]
  · rw [h1]
    simp [Instr.lookup, run_underlying ht, MapKept.run_getObj_map hb, MapKept.run_checkKey (k := .string s) hk trivial, MapKept.run_findKey hk h2, Result.andThen]
/-- A map that is nil holds nothing. -/
theorem look_nil (ht : P.underlying t = some (.map k e)) (hk : P.underlying k = some .string) {z : Value} (hz : (zeroValue e).run P w = .ok z w) (s : ByteArray) :
    (Instr.lookup t (.map none) (.string s) true).run P w = .ok (.tuple #[z, .bool false]) w := by
  have h2 : Instr.findNow .string (.string s) ([] : List MapEntry) 0 = some none := rfl
  simp [Instr.lookup, run_underlying ht, MapKept.run_checkKey (k := .string s) hk trivial, MapKept.run_findKey hk h2, hz, Result.andThen]
theorem MapAt.store (h : MapAt w b l) (ht : P.underlying t = some (.map k e)) (hk : P.underlying k = some .string) (s : ByteArray) (v : Value) (hn : findV s l = none) :
    ∃ w', (Instr.mapUpdate t (.map (some b)) (.string s) v).run P w = .ok () w' ∧ MapAt w' b (l ++ [(s, v)]) ∧ w.grownBy w' (some b) ∧ w'.heap.size = w.heap.size := by
  obtain ⟨es, clk, hb, he⟩ := h
  rcases find_list s es.toList l 0 he with ⟨h1, h2⟩ | ⟨j, v, h1, h2⟩
  · refine ⟨{ w with heap := w.heap.setIfInBounds b (.map (es.push { key := .string s, val := v, born := clk }) (clk + 1)) }, ?_, ⟨_, _, (MapKept.heap_set hb).1, ?_⟩, ⟨rfl, rfl, rfl, by simp, fun k' _ hne => (MapKept.heap_set hb).2 k' fun e => hne (by rw [e])⟩, by simp⟩
    · simp [Instr.mapUpdate, run_underlying ht, MapKept.run_getObj_map hb, MapKept.run_checkKey (k := .string s) hk trivial, MapKept.run_findKey hk h2, MapKept.run_setObj_map _ hb, Result.andThen]
    · simp [he]
  · rw [hn] at h1; cases h1
theorem MapAt.length (h : MapAt w b l) : ∃ es clk, w.heap[b]? = some (.map es clk) ∧ es.size = l.length := by
  obtain ⟨es, clk, hb, he⟩ := h
  have := congrArg List.length he
  simp at this
  exact ⟨es, clk, hb, this⟩
end

/-- One binding more, if its name isn't bound yet. -/
def putX (acc : List BindingX) (b : BindingX) : List BindingX := if (lookX b.var_ acc).isSome then acc else acc ++ [b]
/-- The first binding of each name. -/
def firstX (l : List BindingX) : List BindingX := l.foldl putX []
theorem lookX_append (s : ByteArray) : ∀ (l m : List BindingX), lookX s (l ++ m) = (lookX s l).or (lookX s m)
  | [], m => by simp [lookX]
  | b :: r, m => by
    rw [List.cons_append, lookX, lookX, lookX_append s r m]
    split <;> simp
theorem lookX_one (s : ByteArray) (b : BindingX) : lookX s [b] = if b.var_.data.toList == s.data.toList then some b.type_ else none := by rw [lookX, lookX]
theorem lookX_put (s : ByteArray) (acc : List BindingX) (b : BindingX) : lookX s (putX acc b) = lookX s (acc ++ [b]) := by
  rw [putX]
  split
  · rename_i h
    rw [lookX_append, lookX_one]
    split
    · rename_i hb
      rw [beq_iff_eq] at hb
      rw [data_inj hb] at h
      cases hl : lookX s acc with
      | none => rw [hl] at h; simp at h
      | some y => rfl
    · simp
  · rfl
theorem lookX_fold (s : ByteArray) : ∀ (l acc : List BindingX), lookX s (l.foldl putX acc) = lookX s (acc ++ l)
  | [], acc => by simp
  | b :: r, acc => by
    rw [List.foldl_cons, lookX_fold s r, lookX_append, lookX_put, ← lookX_append, List.append_assoc]; rfl
theorem lookX_first (s : ByteArray) (l : List BindingX) : lookX s (firstX l) = lookX s l := by rw [firstX, lookX_fold]; rfl
theorem putX_length (acc : List BindingX) (b : BindingX) : (putX acc b).length ≤ acc.length + 1 := by
  rw [putX]; split <;> simp
theorem foldX_length : ∀ (l acc : List BindingX), (l.foldl putX acc).length ≤ acc.length + l.length
  | [], acc => by simp
  | b :: r, acc => by
    have := foldX_length r (putX acc b)
    have := putX_length acc b
    rw [List.foldl_cons, List.length_cons]; omega

/-- The entries are these bindings: what they lead to lies in P. -/
def Binds (w : World) (P : Nat → Prop) : List BindingX → List (ByteArray × Value) → Prop
  | [], vl => vl = []
  | b :: r, vl => ∃ v vr, vl = (b.var_, v) :: vr ∧ TypeAt w P b.type_ v ∧ Binds w P r vr
theorem Binds.frame {w w' : World} {P Q : Nat → Prop} (hPQ : ∀ b, P b → Q b) (hk : ∀ b o, P b → w'.cell? ⟨b, o, none⟩ = w.cell? ⟨b, o, none⟩) : ∀ {l : List BindingX} {vl : List (ByteArray × Value)}, Binds w P l vl → Binds w' Q l vl
  | [], vl, h => h
  | b :: r, vl, h => by
    obtain ⟨v, vr, rfl, h1, h2⟩ := h
    exact ⟨v, vr, rfl, h1.frame hPQ hk, h2.frame hPQ hk⟩
theorem Binds.snoc {w : World} {P : Nat → Prop} : ∀ {l : List BindingX} {vl : List (ByteArray × Value)}, Binds w P l vl → ∀ {b : BindingX} {v : Value}, TypeAt w P b.type_ v → Binds w P (l ++ [b]) (vl ++ [(b.var_, v)])
  | [], vl, h, b, v, hv => by rw [Binds] at h; subst h; exact ⟨v, [], rfl, hv, rfl⟩
  | c :: r, vl, h, b, v, hv => by
    obtain ⟨u, vr, rfl, h1, h2⟩ := h
    exact ⟨u, vr ++ [(b.var_, v)], rfl, h1, h2.snoc hv⟩
theorem Binds.length {w : World} {P : Nat → Prop} : ∀ {l : List BindingX} {vl : List (ByteArray × Value)}, Binds w P l vl → vl.length = l.length
  | [], vl, h => by rw [Binds] at h; subst h; rfl
  | c :: r, vl, h => by
    obtain ⟨u, vr, rfl, h1, h2⟩ := h
    rw [List.length_cons, List.length_cons, h2.length]
theorem Binds.find {w : World} {P : Nat → Prop} (s : ByteArray) : ∀ {l : List BindingX} {vl : List (ByteArray × Value)}, Binds w P l vl → (lookX s l = none ∧ findV s vl = none) ∨ ∃ y v, lookX s l = some y ∧ findV s vl = some v ∧ TypeAt w P y v
  | [], vl, h => by rw [Binds] at h; subst h; exact .inl ⟨rfl, rfl⟩
  | c :: r, vl, h => by
    obtain ⟨u, vr, rfl, h1, h2⟩ := h
    rw [lookX, findV]
    by_cases hs : s = c.var_
    · subst hs
      rw [if_pos (by simp), if_pos rfl]
      exact .inr ⟨_, _, rfl, rfl, h1⟩
    · rw [if_neg (fun e => hs (data_inj (beq_iff_eq.1 e)).symm), if_neg hs]
      exact h2.find s
/-- Block b is a map of the first bindings. -/
def SubstAt (w : World) (P : Nat → Prop) (b : Nat) (l : List BindingX) : Prop := ∃ vl, MapAt w b vl ∧ Binds w P l vl
theorem SubstAt.same {w w' : World} {P Q : Nat → Prop} {b : Nat} {l : List BindingX} (h : SubstAt w P b l) (hb : w'.heap[b]? = w.heap[b]?) (hPQ : ∀ b, P b → Q b) (hk : ∀ b o, P b → w'.cell? ⟨b, o, none⟩ = w.cell? ⟨b, o, none⟩) : SubstAt w' Q b l := by
  obtain ⟨vl, h1, h2⟩ := h
  exact ⟨vl, h1.same hb, h2.frame hPQ hk⟩
end Go.Proofs.YtngbilblddngcaaDoor
namespace Go.Proofs.YtngbilblddngcaaDoor
open Go.RowKit Go.Lib

/-- What formOf hands back. -/
def tyForm (k : Int) (v : Value) : Value :=
  if k == 1 then .iface 108 v else if k == 2 then .iface 118 v else if k == 3 then .iface 119 v else if k == 4 then .iface 120 v else .nilIface
theorem tyForm1 {k : Int} (v : Value) (h : (k == 1) = true) : tyForm k v = .iface 108 v := by rw [tyForm, if_pos h]
theorem tyForm2 {k : Int} (v : Value) (h : (k == 2) = true) : tyForm k v = .iface 118 v := by
  have : k = 2 := by simpa using h
  subst this; rfl
theorem tyForm3 {k : Int} (v : Value) (h : (k == 3) = true) : tyForm k v = .iface 119 v := by
  have : k = 3 := by simpa using h
  subst this; rfl
theorem tyForm4 {k : Int} (v : Value) (h : (k == 4) = true) : tyForm k v = .iface 120 v := by
  have : k = 4 := by simpa using h
  subst this; rfl
theorem tyForm0 {k : Int} (v : Value) (h1 : (k == 1) = false) (h2 : (k == 2) = false) (h3 : (k == 3) = false) (h4 : (k == 4) = false) : tyForm k v = .nilIface := by
  rw [tyForm, h1, h2, h3, h4]; rfl

abbrev zeroTy : Value := .agg #[.int .i64 0, .string ByteArray.empty, .slice none 0 0]
theorem asV1 (v : Value) (w : World) : (Instr.typeAssert (.iface 108 v) 111 108 true).run Tryd.prog w = .ok (.tuple #[v, .bool true]) w := by kernel_rfl
theorem asV2 (v : Value) (w : World) : (Instr.typeAssert (.iface 118 v) 111 108 true).run Tryd.prog w = .ok (.tuple #[zeroTy, .bool false]) w := by kernel_rfl
theorem asV3 (v : Value) (w : World) : (Instr.typeAssert (.iface 119 v) 111 108 true).run Tryd.prog w = .ok (.tuple #[zeroTy, .bool false]) w := by kernel_rfl
theorem asV4 (v : Value) (w : World) : (Instr.typeAssert (.iface 120 v) 111 108 true).run Tryd.prog w = .ok (.tuple #[zeroTy, .bool false]) w := by kernel_rfl
theorem asV0 (w : World) : (Instr.typeAssert .nilIface 111 108 true).run Tryd.prog w = .ok (.tuple #[zeroTy, .bool false]) w := by kernel_rfl
theorem asP1 (v : Value) (w : World) : (Instr.typeAssert (.iface 108 v) 111 119 true).run Tryd.prog w = .ok (.tuple #[zeroTy, .bool false]) w := by kernel_rfl
theorem asP2 (v : Value) (w : World) : (Instr.typeAssert (.iface 118 v) 111 119 true).run Tryd.prog w = .ok (.tuple #[zeroTy, .bool false]) w := by kernel_rfl
theorem asP3 (v : Value) (w : World) : (Instr.typeAssert (.iface 119 v) 111 119 true).run Tryd.prog w = .ok (.tuple #[v, .bool true]) w := by kernel_rfl
theorem asP4 (v : Value) (w : World) : (Instr.typeAssert (.iface 120 v) 111 119 true).run Tryd.prog w = .ok (.tuple #[zeroTy, .bool false]) w := by kernel_rfl
theorem asP0 (w : World) : (Instr.typeAssert .nilIface 111 119 true).run Tryd.prog w = .ok (.tuple #[zeroTy, .bool false]) w := by kernel_rfl

/-- Whatever the kind: is it a variable? -/
theorem as_var {k : Int} (v : Value) (h : (k == 1) = false) (w : World) : (Instr.typeAssert (tyForm k v) 111 108 true).run Tryd.prog w = .ok (.tuple #[zeroTy, .bool false]) w := by
  unfold tyForm
  rw [h]
  simp only [Bool.false_eq_true, if_false]
  split
  · exact asV2 v w
  · split
    · exact asV3 v w
    · split
      · exact asV4 v w
      · exact asV0 w
theorem as_proj {k : Int} (v : Value) (h : (k == 3) = false) (w : World) : (Instr.typeAssert (tyForm k v) 111 119 true).run Tryd.prog w = .ok (.tuple #[zeroTy, .bool false]) w := by
  unfold tyForm
  rw [h]
  simp only [Bool.false_eq_true, if_false]
  split
  · exact asP1 v w
  · split
    · exact asP2 v w
    · split
      · exact asP4 v w
      · exact asP0 w

set_option maxRecDepth 100000 in
set_option maxHeartbeats 2000000 in
theorem implFormOf (k : Int) (s : ByteArray) (A : Option Addr) (n c : Nat) (w : World) :
    Calls Tryd.prog 79 #[.agg #[.int .i64 k, .string s, .slice A n c]] w fun e w' => e = .returned (tyForm k (.agg #[.int .i64 k, .string s, .slice A n c])) ∧ Below w.heap.size w w' := by
  have hb : Below w.heap.size w (w.alloc (.cells #[.int .i64 k, .string s, .slice A n c] 26)) := (Below.refl _ _).alloc (Nat.le_refl _) _
  cases h1 : (k == 1) with
  | true =>
    have HF := Lib.hid (tyForm1 (.agg #[.int .i64 k, .string s, .slice A n c]) h1)
    go_enter Tryd.func79, Tryd.ntmps79
    go_wp2
    go_ret
    exact ⟨congrArg Ending.returned HF.out.symm, hb⟩
  | false =>
    cases h2 : (k == 2) with
    | true =>
      have HF := Lib.hid (tyForm2 (.agg #[.int .i64 k, .string s, .slice A n c]) h2)
      go_enter Tryd.func79, Tryd.ntmps79
      go_wp2
      go_ret
      exact ⟨congrArg Ending.returned HF.out.symm, hb⟩
    | false =>
      cases h3 : (k == 3) with
      | true =>
        have HF := Lib.hid (tyForm3 (.agg #[.int .i64 k, .string s, .slice A n c]) h3)
        go_enter Tryd.func79, Tryd.ntmps79
        go_wp2
        go_ret
        exact ⟨congrArg Ending.returned HF.out.symm, hb⟩
      | false =>
        cases h4 : (k == 4) with
        | true =>
          have HF := Lib.hid (tyForm4 (.agg #[.int .i64 k, .string s, .slice A n c]) h4)
          go_enter Tryd.func79, Tryd.ntmps79
          go_wp2
          go_ret
          exact ⟨congrArg Ending.returned HF.out.symm, hb⟩
        | false =>
          have HF := Lib.hid (tyForm0 (.agg #[.int .i64 k, .string s, .slice A n c]) h1 h2 h3 h4)
          go_enter Tryd.func79, Tryd.ntmps79
          go_wp2
          go_ret
          exact ⟨congrArg Ending.returned HF.out.symm, hb⟩

set_option maxRecDepth 100000 in
set_option maxHeartbeats 2000000 in
theorem implIsVar (k : Int) (s : ByteArray) (A : Option Addr) (n c : Nat) (w : World) :
    Calls Tryd.prog 67 #[.agg #[.int .i64 k, .string s, .slice A n c]] w fun e w' => e = .returned (.bool (k == 1)) ∧ Below w.heap.size w w' := by
  have hb : Below w.heap.size w (w.alloc (.cells #[.int .i64 k, .string s, .slice A n c] 26)) := (Below.refl _ _).alloc (Nat.le_refl _) _
  cases h1 : (k == 1) with
  | true =>
    have HF := Lib.hid (tyForm1 (.agg #[.int .i64 k, .string s, .slice A n c]) h1)
    have hA := asV1 (.agg #[.int .i64 k, .string s, .slice A n c])
    clear h1
    go_enter Tryd.func67, Tryd.ntmps67
    go_wp2_with fail
    refine (implFormOf _ _ _ _ _ _).mono ?_
    rintro e w1 ⟨rfl, hb1⟩
    rw [HF.out]
    have hb2 := hb.trans (hb1.mono (by simp))
    have hs := hb2.size
    go_wp2
    go_ret
    exact ⟨rfl, hb2.alloc hs _⟩
  | false =>
    have hA := as_var (.agg #[.int .i64 k, .string s, .slice A n c]) h1
    clear h1
    go_enter Tryd.func67, Tryd.ntmps67
    go_wp2_with fail
    refine (implFormOf _ _ _ _ _ _).mono ?_
    rintro e w1 ⟨rfl, hb1⟩
    have hb2 := hb.trans (hb1.mono (by simp))
    have hs := hb2.size
    go_wp2
    go_ret
    exact ⟨rfl, hb2.alloc hs _⟩
end Go.Proofs.YtngbilblddngcaaDoor
namespace Go.Proofs.YtngbilblddngcaaDoor
open Go.Lib

/-- The digits of a number that the loop has still to write: none for 0. -/
def digs (u : Nat) : List UInt8 := if u = 0 then [] else decDigits u

theorem digs_zero : digs 0 = [] := rfl
theorem digs_pos {u : Nat} (h : u ≠ 0) : digs u = decDigits u := by unfold digs; rw [if_neg h]
theorem digs_step {u : Nat} (h : u ≠ 0) : digs u = digs (u / 10) ++ [UInt8.ofNat (48 + u % 10)] := by
  rw [digs_pos h, decDigits]
  by_cases h10 : u < 10
  · rw [dif_pos h10, show u / 10 = 0 by omega, digs_zero, Nat.mod_eq_of_lt h10]; rfl
  · rw [dif_neg h10, digs_pos (by omega)]
theorem digs_length_le : ∀ (k u : Nat), u < 10 ^ k → (digs u).length ≤ k
  | 0, u, h => by
    have : u = 0 := by simp at h; omega
    subst this; simp [digs_zero]
  | k + 1, u, h => by
    by_cases h0 : u = 0
    · subst h0; simp [digs_zero]
    · rw [digs_step h0, List.length_append]
      have := digs_length_le k (u / 10) (by rw [Nat.pow_succ] at h; omega)
      simp; omega
theorem itoa_of_neg {n : Int} (h : n < 0) : itoa n = 45 :: digs n.natAbs := by
  rw [itoa, if_pos h, digs_pos (by omega)]
theorem itoa_of_pos {n : Int} (h : 0 < n) : itoa n = digs n.natAbs := by
  rw [itoa, if_neg (by omega), digs_pos (by omega), show n.toNat = n.natAbs by omega]
theorem itoa_zero : itoa 0 = [48] := by rw [itoa, if_neg (by omega)]; rw [decDigits]; simp
end Go.Proofs.YtngbilblddngcaaDoor
namespace Go.Proofs.YtngbilblddngcaaDoor
open Go.RowKit Go.Lib

/-- The text of a mark. -/
def mark (k : Nat) : ByteArray := ⟨(109 :: digs k).toArray⟩
theorem mark_step (m : Nat) (l : List UInt8) (h : 0 < m) (b : UInt8) (hb : b = UInt8.ofNat (48 + m % 10)) : digs (m / 10) ++ b :: l = digs m ++ l := by
  rw [digs_step (show m ≠ 0 by omega), hb]
  simp

set_option maxRecDepth 100000 in
set_option maxHeartbeats 400000 in
theorem markText (n : Nat) (w : World) (h0 : 0 < n) (h1 : n ≤ 9223372036854775807) :
    Calls Tryd.prog 49 #[.int .i64 n] w fun e w' => e = .returned (.string (mark n)) ∧ Below w.heap.size w w' := by
  have kc := fun (w : World) (z : Int) => conv_one (P := Tryd.prog) Tryd.underlying22 Tryd.underlying5 Tryd.underlying9 w z
  go_enter Tryd.func49, Tryd.ntmps49
  go_wp2
  go_loopw [0, 3] (fun a s wr => ∃ (m : Nat) (l : List UInt8), m ≤ n ∧ a = .int .i64 m ∧ s = .string ⟨l.toArray⟩ ∧ digs m ++ l = digs n ∧ Below w.heap.size w wr) (fun a _ _ => (Go.RowKit.intOf a).toNat)
  case atStart => exact ⟨n, [], by omega, rfl, rfl, by simp, Below.refl _ _⟩
  case round =>
    obtain ⟨m, l, hm1, rfl, rfl, hl, hb⟩ := hrel
    have hll : (l.length : Int) ≤ 20 := by
      have := congrArg List.length hl
      have := digs_length_le 20 n (by omega)
      rw [List.length_append] at *
      omega
    have HL := Lib.hid hl; clear hl
    by_cases hz : 0 < m
    · go_wp2
      go_roundw
      case rel => exact ⟨m / 10, (48 + UInt8.ofNat (m % 10)) :: l, by omega, int_of (by omega), str_of (append_byte _ _), by rw [← HL.out]; exact mark_step m l hz _ (by rw [show (48 : UInt8) = UInt8.ofNat 48 from rfl, ← UInt8.ofNat_add]), hb.alloc hb.size _⟩
      case measure => simp [Go.RowKit.intOf]; omega
    · go_wp2
      go_ret
      refine ⟨ret_str ?_, hb⟩
      have := HL.out
      rw [show m = 0 by omega, digs_zero, List.nil_append] at this
      rw [mark, ← this]
      exact append_byte 109 l

end Go.Proofs.YtngbilblddngcaaDoor
namespace Go.Proofs.YtngbilblddngcaaDoor
open Go.RowKit Go.Lib

mutual
/-- How many marks. -/
def DV.cnt : DV → Nat
  | .pl _ => 1
  | .row _ _ xs => DV.cntE xs
def DV.cntL : List DV → Nat
  | [] => 0
  | d :: r => d.cnt + DV.cntL r
def DV.cntE : List (List DV) → Nat
  | [] => 0
  | x :: r => DV.cntL x + DV.cntE r
end
/-- A plain value's mark. -/
def vmkU (k : Nat) : Value → Value
  | .string _ => .string (mark k)
  | .int q _ => .int q k
  | .bool _ => .bool ((k : Int) % 3 == 0)
  | u => u
mutual
/-- Marked from k on. -/
def DV.vmk (k : Nat) : DV → DV
  | .pl u => .pl (vmkU k u)
  | .row e s xs => .row e s (vmkE k xs)
def vmkL (k : Nat) : List DV → List DV
  | [] => []
  | d :: r => d.vmk k :: vmkL (k + d.cnt) r
def vmkE (k : Nat) : List (List DV) → List (List DV)
  | [] => []
  | x :: r => vmkL k x :: vmkE (k + DV.cntL x) r
end
theorem vmkL_length : ∀ (ds : List DV) (k : Nat), (vmkL k ds).length = ds.length
  | [], _ => by rw [vmkL]
  | d :: r, k => by rw [vmkL, List.length_cons, List.length_cons, vmkL_length r]
theorem vmkE_length : ∀ (l : List (List DV)) (k : Nat), (vmkE k l).length = l.length
  | [], _ => by rw [vmkE]
  | x :: r, k => by rw [vmkE, List.length_cons, List.length_cons, vmkE_length r]
theorem vmkE_take : ∀ (l : List (List DV)) (k i : Nat) (h : i < l.length), vmkE k (l.take (i + 1)) = vmkE k (l.take i) ++ [vmkL (k + DV.cntE (l.take i)) l[i]]
  | x :: r, k, 0, _ => by simp [vmkE, DV.cntE]
  | x :: r, k, i + 1, h => by
    rw [List.take_succ_cons, List.take_succ_cons, vmkE, vmkE, vmkE_take r _ i (by simpa using h), DV.cntE]
    simp [Nat.add_assoc]
theorem vmkE_at : ∀ (l : List (List DV)) (k i : Nat) (h : i < l.length), (vmkE k l)[i]? = some (vmkL (k + DV.cntE (l.take i)) l[i])
  | x :: r, k, 0, _ => by simp [vmkE, DV.cntE]
  | x :: r, k, i + 1, h => by
    rw [vmkE, List.getElem?_cons_succ, vmkE_at r _ i (by simpa using h), List.take_succ_cons, DV.cntE]
    simp [Nat.add_assoc]
theorem cntE_step : ∀ (l : List (List DV)) (j : Nat) (h : j < l.length), DV.cntE (l.take (j + 1)) = DV.cntE (l.take j) + DV.cntL l[j]
  | x :: r, 0, _ => by simp [DV.cntE]
  | x :: r, j + 1, h => by
    have := cntE_step r j (by simpa using h)
    rw [List.take_succ_cons, List.take_succ_cons, DV.cntE, DV.cntE, this]
    simp; omega
theorem cntE_part : ∀ (l : List (List DV)) (j : Nat), DV.cntE (l.take j) ≤ DV.cntE l
  | [], j => by simp
  | x :: r, 0 => by simp [DV.cntE]
  | x :: r, j + 1 => by
    have := cntE_part r j
    rw [List.take_succ_cons, DV.cntE, DV.cntE]; omega

/-- All blocks but these are as they were. -/
structure ButV (bs : List Nat) (w w' : World) : Prop where
  os : w'.os = w.os
  tape : w'.tape = w.tape
  output : w'.output = w.output
  size : w.heap.size ≤ w'.heap.size
  block : ∀ b, b < w.heap.size → b ∉ bs → w'.heap[b]? = w.heap[b]?
theorem ButV.refl (bs : List Nat) (w : World) : ButV bs w w := ⟨rfl, rfl, rfl, Nat.le_refl _, fun _ _ _ => rfl⟩
theorem ButV.trans {bs : List Nat} {a b c : World} (h : ButV bs a b) (k : ButV bs b c) : ButV bs a c :=
  ⟨k.os.trans h.os, k.tape.trans h.tape, k.output.trans h.output, Nat.le_trans h.size k.size, fun i hi hn => (k.block i (Nat.lt_of_lt_of_le hi h.size) hn).trans (h.block i hi hn)⟩
theorem ButV.of_below {bs : List Nat} {w w' : World} (h : Below w.heap.size w w') : ButV bs w w' := ⟨h.os, h.tape, h.output, h.size, fun b hb _ => h.block b hb⟩
theorem ButV.more {bs cs : List Nat} {w w' : World} (h : ButV bs w w') (hs : ∀ b ∈ bs, b ∈ cs) : ButV cs w w' := ⟨h.os, h.tape, h.output, h.size, fun b hb hn => h.block b hb fun hm => hn (hs b hm)⟩
theorem ButV.set_ {bs : List Nat} {a w : World} (h : ButV bs a w) {g : Nat} (hg : g ∈ bs) (i : Nat) (v : Value) : ButV bs a (w.setCell ⟨g, i, none⟩ v) :=
  h.trans ⟨rfl, rfl, rfl, by simp [World.setCell], fun b _ hn => Below.heap_setCell _ _ _ _ (by exact (fun e => hn (by rw [e]; exact hg)))⟩
theorem ButV.below {bs : List Nat} {B : Nat} {w w' : World} (h : ButV bs w w') (hB : B ≤ w.heap.size) (hbs : ∀ b ∈ bs, B ≤ b) : Below B w w' :=
  ⟨h.os, h.tape, h.output, h.size, fun k hk => h.block k (by omega) (fun hm => by have := hbs k hm; omega)⟩

theorem OwVE_split {w : World} {B K : Nat} : ∀ (p : List (List DV)) {x : List DV} {q : List (List DV)} {vs : List Value} {bs : List Nat}, OwVE w B K (p ++ x :: q) vs bs →
    ∃ vp vx vq bp bx bq, vs = vp ++ (vx ++ vq) ∧ bs = bp ++ (bx ++ bq) ∧ OwVE w B K p vp bp ∧ x.length = K ∧ OwVs w B x vx bx ∧ OwVE w B K q vq bq
  | [], x, q, vs, bs, h => by
    rw [List.nil_append, OwVE] at h
    obtain ⟨v1, v2, b1, b2, rfl, rfl, hk, h1, h2⟩ := h
    exact ⟨[], v1, v2, [], b1, b2, rfl, rfl, by rw [OwVE]; exact ⟨rfl, rfl⟩, hk, h1, h2⟩
  | y :: p, x, q, vs, bs, h => by
    rw [List.cons_append, OwVE] at h
    obtain ⟨v1, v2, b1, b2, rfl, rfl, hk, h1, h2⟩ := h
    obtain ⟨vp, vx, vq, bp, bx, bq, rfl, rfl, h3, h4, h5, h6⟩ := OwVE_split p h2
    refine ⟨v1 ++ vp, vx, vq, b1 ++ bp, bx, bq, by rw [List.append_assoc], by rw [List.append_assoc], ?_, h4, h5, h6⟩
    rw [OwVE]
    exact ⟨v1, vp, b1, bp, rfl, rfl, hk, h1, h3⟩
theorem OwVE_join {w : World} {B K : Nat} : ∀ (p : List (List DV)) {x : List DV} {q : List (List DV)} {vp vx vq : List Value} {bp bx bq : List Nat}, OwVE w B K p vp bp → x.length = K → OwVs w B x vx bx → OwVE w B K q vq bq →
    OwVE w B K (p ++ x :: q) (vp ++ (vx ++ vq)) (bp ++ (bx ++ bq))
  | [], x, q, vp, vx, vq, bp, bx, bq, h, hk, hx, hq => by
    rw [OwVE] at h
    obtain ⟨rfl, rfl⟩ := h
    rw [List.nil_append, List.nil_append, List.nil_append, OwVE]
    exact ⟨vx, vq, bx, bq, rfl, rfl, hk, hx, hq⟩
  | y :: p, x, q, vp, vx, vq, bp, bx, bq, h, hk, hx, hq => by
    rw [OwVE] at h
    obtain ⟨v1, v2, b1, b2, rfl, rfl, hk1, h1, h2⟩ := h
    rw [List.cons_append, OwVE]
    exact ⟨v1, _, b1, _, by rw [List.append_assoc], by rw [List.append_assoc], hk1, h1, OwVE_join p h2 hk hx hq⟩
theorem OwVs_split {w : World} {B : Nat} : ∀ (p : List DV) {d : DV} {q : List DV} {vs : List Value} {bs : List Nat}, OwVs w B (p ++ d :: q) vs bs →
    ∃ vp v vq bp bd bq, vs = vp ++ v :: vq ∧ bs = bp ++ (bd ++ bq) ∧ OwVs w B p vp bp ∧ OwV w B d v bd ∧ OwVs w B q vq bq
  | [], d, q, vs, bs, h => by
    rw [List.nil_append, OwVs] at h
    obtain ⟨v, v2, b1, b2, rfl, rfl, h1, h2⟩ := h
    exact ⟨[], v, v2, [], b1, b2, rfl, rfl, by rw [OwVs]; exact ⟨rfl, rfl⟩, h1, h2⟩
  | y :: p, d, q, vs, bs, h => by
    rw [List.cons_append, OwVs] at h
    obtain ⟨v1, v2, b1, b2, rfl, rfl, h1, h2⟩ := h
    obtain ⟨vp, v, vq, bp, bd, bq, rfl, rfl, h3, h4, h5⟩ := OwVs_split p h2
    refine ⟨v1 :: vp, v, vq, b1 ++ bp, bd, bq, rfl, by rw [List.append_assoc], ?_, h4, h5⟩
    rw [OwVs]
    exact ⟨v1, vp, b1, bp, rfl, rfl, h1, h3⟩
theorem OwVs_join {w : World} {B : Nat} : ∀ (p : List DV) {d : DV} {q : List DV} {vp vq : List Value} {v : Value} {bp bd bq : List Nat}, OwVs w B p vp bp → OwV w B d v bd → OwVs w B q vq bq →
    OwVs w B (p ++ d :: q) (vp ++ v :: vq) (bp ++ (bd ++ bq))
  | [], d, q, vp, vq, v, bp, bd, bq, h, hx, hq => by
    rw [OwVs] at h
    obtain ⟨rfl, rfl⟩ := h
    rw [List.nil_append, List.nil_append, List.nil_append, OwVs]
    exact ⟨v, vq, bd, bq, rfl, rfl, hx, hq⟩
  | y :: p, d, q, vp, vq, v, bp, bd, bq, h, hx, hq => by
    rw [OwVs] at h
    obtain ⟨v1, v2, b1, b2, rfl, rfl, h1, h2⟩ := h
    rw [List.cons_append, OwVs]
    exact ⟨v1, _, b1, _, rfl, by rw [List.append_assoc], h1, OwVs_join p h2 hx hq⟩

/-- A row that has elements lies somewhere. -/
theorem OwV_some {w : World} {B K n c : Nat} {e : TypeId} {xs : List (List DV)} {A : Option Addr} {bs : List Nat} (h : OwV w B (.row e K xs) (.slice A n c) bs) (hx : 0 < xs.length) : ∃ g, A = some ⟨g, 0, none⟩ ∧ g ∈ bs := by
  rw [OwV] at h
  obtain ⟨vs, bs', h1, _, rfl⟩ := h
  rcases h1.2 with ⟨_, h0⟩ | ⟨g, cap, cur, hv, _⟩
  · omega
  · injection hv with hA
    subst hA
    exact ⟨g, rfl, by simp [Value.ownBlock]⟩
/-- The cell at c of the element behind p: what it is; another in its place. -/
theorem OwV_focus {w : World} {B K n cap g i : Nat} {e : TypeId} {p q : List (List DV)} {x : List DV} {bs : List Nat} (h : OwV w B (.row e K (p ++ x :: q)) (.slice (some ⟨g, 0, none⟩) n cap) bs) (hn : bs.Nodup) (hi : p.length = i) {c : Nat} {d : DV} (hc : x[c]? = some d) :
    ∃ vd bd, w.cell? ⟨g, i * K + c, none⟩ = some vd ∧ w.frozen? ⟨g, i * K + c, none⟩ = false ∧ OwV w B d vd bd ∧ bd.Nodup ∧ g ∉ bd ∧ (∀ b ∈ bd, b ∈ bs) ∧
      (∀ w' d', OwV w' B d' vd bd → (∀ b ∈ bs, b ∉ bd → w'.heap[b]? = w.heap[b]?) → OwV w' B (.row e K (p ++ x.set c d' :: q)) (.slice (some ⟨g, 0, none⟩) n cap) bs) ∧
      (bd = [] → ∀ u', OwV (w.setCell ⟨g, i * K + c, none⟩ u') B (.row e K (p ++ x.set c (.pl u') :: q)) (.slice (some ⟨g, 0, none⟩) n cap) bs) := by
  rw [OwV] at h
  obtain ⟨vs, bs', hown, hE, rfl⟩ := h
  have hnl : n = (p ++ x :: q).length := by
    rcases hown.2 with ⟨h, _⟩ | ⟨g', c', cur, h, _⟩
    · cases h
    · injection h
  rw [← hnl] at hown
  obtain ⟨vp, vx, vq, bp, bx, bq, rfl, rfl, h1, hk, h2, h3⟩ := OwVE_split p hE
  have hcl : c < x.length := (List.getElem?_eq_some_iff.1 hc).1
  have hxe : x = x.take c ++ d :: x.drop (c + 1) := by
    have e1 : x[c] = d := (List.getElem?_eq_some_iff.1 hc).2
    rw [← e1, ← List.drop_eq_getElem_cons hcl, List.take_append_drop]
  have hset : ∀ d', x.set c d' = x.take c ++ d' :: x.drop (c + 1) := fun d' => by rw [List.set_eq_take_append_cons_drop, if_pos hcl]
  have h2' := h2
  rw [hxe] at h2'
  obtain ⟨v1, v, v2, b1, bd, b2, rfl, rfl, h4, h5, h6⟩ := OwVs_split _ h2'
  have hvp : vp.length = i * K := by rw [OwVE_length h1, hi]
  have hv1 : v1.length = c := by rw [OwVs_length h4, List.length_take]; omega
  have hlen : (p ++ x :: q).length = i + 1 + q.length := by rw [List.length_append, List.length_cons, hi]; omega
  have hix : i * K + c < n * K := by
    rw [hnl, hlen, show i + 1 + q.length = i + (1 + q.length) by omega, Nat.add_mul]
    have : 1 * K ≤ (1 + q.length) * K := Nat.mul_le_mul_right _ (by omega)
    omega
  have hcell : w.cell? ⟨g, i * K + c, none⟩ = some v := by
    rw [World.ownsRow.cellAt hown _ hix, List.getElem?_append_right (by omega), hvp, show i * K + c - i * K = c by omega, List.getElem?_append_left (by simp; omega), List.getElem?_append_right (by omega), hv1, Nat.sub_self]
    rfl
  simp only [Value.ownBlock, Option.toList_some, List.singleton_append, List.nodup_cons] at hn
  obtain ⟨hng, hn⟩ := hn
  rw [List.nodup_append, List.nodup_append, List.nodup_append, List.nodup_append] at hn
  obtain ⟨np, ⟨⟨nb1, ⟨nbd, nb2, dis1⟩, dis2⟩, nbq, dis3⟩, dis4⟩ := hn
  have join : ∀ (w' : World) (d' : DV) (v' : Value) (vs' : List Value), vs' = vp ++ ((v1 ++ v' :: v2) ++ vq) → w'.ownsRow B e K (.slice (some ⟨g, 0, none⟩) n cap) n vs' → OwV w' B d' v' bd → (∀ b ∈ bp ++ (b1 ++ (bd ++ b2) ++ bq), b ∉ bd → w'.heap[b]? = w.heap[b]?) → OwV w' B (.row e K (p ++ x.set c d' :: q)) (.slice (some ⟨g, 0, none⟩) n cap) ((Value.slice (some ⟨g, 0, none⟩) n cap).ownBlock.toList ++ (bp ++ (b1 ++ (bd ++ b2) ++ bq))) := by
    intro w' d' v' vs' hvs ho hd hb
    rw [OwV]
    refine ⟨vs', _, by rw [show (p ++ x.set c d' :: q).length = n by rw [hnl]; simp]; exact ho, ?_, rfl⟩
    rw [hvs]
    refine OwVE_join p (OwVE_frame p (fun b hm => hb b (by simp [hm]) (fun hm2 => dis4 b hm b (by simp [hm2]) rfl)) h1) (by rw [List.length_set]; exact hk) ?_ (OwVE_frame q (fun b hm => hb b (by simp [hm]) (fun hm2 => dis3 b (by simp [hm2]) b hm rfl)) h3)
    rw [hset]
    exact OwVs_join _ (OwVs_frame _ (fun b hm => hb b (by simp [hm]) (fun hm2 => dis2 b hm b (by simp [hm2]) rfl)) h4) hd (OwVs_frame _ (fun b hm => hb b (by simp [hm]) (fun hm2 => dis1 b hm2 b hm rfl)) h6)
  refine ⟨v, bd, hcell, hown.frozenAt _, h5, nbd, fun hm => hng (by simp [hm]), fun b hm => by simp [hm], fun w' d' hd hb => ?_, fun hbd u' => ?_⟩
  · refine join w' d' v _ rfl (own_same hown fun b hbv => ?_) hd fun b hm hnm => hb b (by simp at hm ⊢; right; exact hm) hnm
    have hbg : b = g := by simpa [Value.ownBlock] using hbv.symm
    subst hbg
    exact hb b (by simp [Value.ownBlock]) (fun hm => hng (by simp [hm]))
  · subst hbd
    refine join _ (.pl u') u' ((vp ++ ((v1 ++ v :: v2) ++ vq)).set (i * K + c) u') ?_ (hown.stored (i * K + c) u').1 (by rw [OwV]; exact ⟨rfl, rfl⟩) fun b hm _ => by refine Below.heap_setCell _ _ _ _ ?_; intro e; exact hng (by rw [← (show b = g from e)]; exact hm)
    rw [List.set_append_right _ _ (by omega), hvp, show i * K + c - i * K = c by omega, List.set_append_left _ _ (by simp; omega), List.set_append_right _ _ (by omega), hv1, Nat.sub_self]
    rfl
theorem OwV_plain_at {w : World} {B K n cap g i : Nat} {e : TypeId} {p q : List (List DV)} {x : List DV} {bs : List Nat} (h : OwV w B (.row e K (p ++ x :: q)) (.slice (some ⟨g, 0, none⟩) n cap) bs) (hn : bs.Nodup) (hi : p.length = i) {c : Nat} {u : Value} (hc : x[c]? = some (.pl u)) :
    w.cell? ⟨g, i * K + c, none⟩ = some u ∧ w.frozen? ⟨g, i * K + c, none⟩ = false ∧ ∀ u', OwV (w.setCell ⟨g, i * K + c, none⟩ u') B (.row e K (p ++ x.set c (.pl u') :: q)) (.slice (some ⟨g, 0, none⟩) n cap) bs := by
  obtain ⟨vd, bd, h1, h2, h3, _, _, _, _, h4⟩ := OwV_focus h hn hi hc
  rw [OwV] at h3
  obtain ⟨rfl, rfl⟩ := h3
  exact ⟨h1, h2, h4 rfl⟩
/-- The value at c of a struct: what it is; another in its place. -/
theorem OwVs_focus {w : World} {B : Nat} {ds : List DV} {vs : List Value} {bs : List Nat} (h : OwVs w B ds vs bs) (hn : bs.Nodup) {c : Nat} {d : DV} (hc : ds[c]? = some d) :
    ∃ v bd, vs[c]? = some v ∧ OwV w B d v bd ∧ bd.Nodup ∧ (∀ b ∈ bd, b ∈ bs) ∧
      (∀ w' d', OwV w' B d' v bd → (∀ b ∈ bs, b ∉ bd → w'.heap[b]? = w.heap[b]?) → OwVs w' B (ds.set c d') vs bs) := by
  have hcl : c < ds.length := (List.getElem?_eq_some_iff.1 hc).1
  have hxe : ds = ds.take c ++ d :: ds.drop (c + 1) := by
    have e1 : ds[c] = d := (List.getElem?_eq_some_iff.1 hc).2
    rw [← e1, ← List.drop_eq_getElem_cons hcl, List.take_append_drop]
  have hset : ∀ d', ds.set c d' = ds.take c ++ d' :: ds.drop (c + 1) := fun d' => by rw [List.set_eq_take_append_cons_drop, if_pos hcl]
  rw [hxe] at h
  obtain ⟨v1, v, v2, b1, bd, b2, rfl, rfl, h4, h5, h6⟩ := OwVs_split _ h
  have hv1 : v1.length = c := by rw [OwVs_length h4, List.length_take]; omega
  rw [List.nodup_append, List.nodup_append] at hn
  obtain ⟨nb1, ⟨nbd, nb2, dis1⟩, dis2⟩ := hn
  refine ⟨v, bd, by rw [List.getElem?_append_right (by omega), hv1, Nat.sub_self]; rfl, h5, nbd, fun b hm => by simp [hm], fun w' d' hd hb => ?_⟩
  rw [hset]
  exact OwVs_join _ (OwVs_frame _ (fun b hm => hb b (by simp [hm]) (fun hm2 => dis2 b hm b (by simp [hm2]) rfl)) h4) hd (OwVs_frame _ (fun b hm => hb b (by simp [hm]) (fun hm2 => dis1 b hm2 b hm rfl)) h6)
/-- A struct by value, its rows marked. -/
def DV.tcnt : DV → Nat
  | .pl _ => 0
  | .row _ _ xs => DV.cntE xs
def tcntL : List DV → Nat
  | [] => 0
  | d :: r => d.tcnt + tcntL r
def DV.tmk (k : Nat) : DV → DV
  | .pl u => .pl u
  | .row e s xs => .row e s (vmkE k xs)
def tmkL (k : Nat) : List DV → List DV
  | [] => []
  | d :: r => d.tmk k :: tmkL (k + d.tcnt) r
end Go.Proofs.YtngbilblddngcaaDoor
namespace Go.Proofs.YtngbilblddngcaaDoor
open Go.RowKit Go.Lib

def MarkTypeS (N : Nat) : Prop := ∀ (l : List TypeX) (A : Option Addr) (c k B : Nat) (bs : List Nat) (w : World), DV.nodesE (TypeX.rows l) ≤ N → OwV w B (.row 26 3 (TypeX.rows l)) (.slice A l.length c) bs → bs.Nodup → 0 < k → k + DV.cntE (TypeX.rows l) ≤ 4398046511104 →
  Calls Tryd.prog 22 #[.slice A l.length c, .int .i64 k] w fun e w' => e = .returned (.int .i64 (k + DV.cntE (TypeX.rows l) : Nat)) ∧ OwV w' B (.row 26 3 (vmkE k (TypeX.rows l))) (.slice A l.length c) bs ∧ ButV bs w w'

set_option maxRecDepth 100000 in
set_option maxHeartbeats 2000000 in
theorem markTypeS_step (N : Nat) (ihTypeS : MarkTypeS N) : MarkTypeS (N + 1) := by
  intro l A c k B bs w hn hO hnd hk0 hkn
  have hcap : l.length ≤ 9223372036854775807 := by
    have h := OwV_read (P := fun _ => True) _ (fun _ _ => trivial) hO
    obtain ⟨_, _, _, h1, h2⟩ := h.shape
    rw [TypeX.rows_length] at h1
    omega
  have HO := Lib.hid hO
  have HND := Lib.hid hnd
  have HN := Lib.hid hn
  clear hO hnd hn
  go_enter Tryd.func22, Tryd.ntmps22
  go_wp2
  go_loopw [1, 5] (fun kv iv wr => ∃ i kk : Nat, i ≤ l.length ∧ iv = .int .i64 i ∧ kk = k + DV.cntE ((TypeX.rows l).take i) ∧ kv = .int .i64 kk ∧ OwV wr B (.row 26 3 (vmkE k ((TypeX.rows l).take i) ++ (TypeX.rows l).drop i)) (.slice A l.length c) bs ∧ ButV bs w wr) (fun _ iv _ => l.length - (Go.RowKit.intOf iv).toNat)
  case atStart => exact ⟨0, k, Nat.zero_le _, rfl, by simp [DV.cntE], rfl, by simpa [vmkE] using HO.out, ButV.refl _ _⟩
  case round =>
    obtain ⟨i, kk, hi, rfl, hkke, rfl, hO, hb⟩ := hrel
    by_cases hlt : i < l.length
    · have hil : i < (TypeX.rows l).length := by rw [TypeX.rows_length]; exact hlt
      have hst := cntE_step (TypeX.rows l) i hil
      have hle := cntE_part (TypeX.rows l) (i + 1)
      rw [TypeX.rows_at l i hlt hil] at hst
      have hcl : DV.cntL l[i].cells = 1 + 1 + DV.cntE (TypeX.rows l[i].args_) := by rw [TypeX.cells_eq]; simp only [DV.cntL, DV.cnt]; omega
      rw [hcl] at hst
      have hbound : kk + (1 + 1 + DV.cntE (TypeX.rows l[i].args_)) ≤ 4398046511104 := by omega
      have hkpos : 0 < kk := by omega
      have hnx := nodesVE_at (TypeX.rows l) i hil
      rw [TypeX.rows_at l i hlt hil, TypeX.cells_eq] at hnx
      simp only [DV.nodesL, DV.nodes] at hnx
      have HNX := Lib.hid (show DV.nodesE (TypeX.rows l[i].args_) ≤ N by have := HN.out; omega)
      clear hnx
      have HST := Lib.hid hst
      have HKE := Lib.hid hkke
      rw [List.drop_eq_getElem_cons hil, TypeX.rows_at l i hlt hil, TypeX.cells_eq] at hO
      have hpl : (vmkE k ((TypeX.rows l).take i)).length = i := by rw [vmkE_length, List.length_take]; omega
      obtain ⟨P, hP⟩ : ∃ P, P = vmkE k ((TypeX.rows l).take i) := ⟨_, rfl⟩
      obtain ⟨Q, hQ⟩ : ∃ Q, Q = (TypeX.rows l).drop (i + 1) := ⟨_, rfl⟩
      rw [← hP, ← hQ] at hO
      rw [← hP] at hpl
      have HP := Lib.hid hP
      have HQ := Lib.hid hQ
      have HPL := Lib.hid hpl
      clear hP hQ hpl hst hle hcl hkke
      obtain ⟨g, rfl, hgb⟩ := OwV_some hO (by rw [List.length_append, List.length_cons]; omega)
      have hglt := (OwV_lt _ hO g hgb).2
      have HGB := Lib.hid hgb
      clear hgb
      obtain ⟨vd2, _, q2, _, od2, _⟩ := OwV_focus hO HND.out HPL.out (c := 2) rfl
      obtain ⟨A2, c2, rfl⟩ := OwV_shape od2 (TypeX.rows_length _)
      clear od2
      have hi0 : (0 : Int) ≤ i := by omega
      obtain ⟨p0, f0, s0⟩ := OwV_plain_at hO HND.out HPL.out (c := 0) rfl
      obtain ⟨p1, f1, s1⟩ := OwV_plain_at hO HND.out HPL.out (c := 1) rfl
      rw [Nat.add_zero] at p0 f0
      obtain ⟨k1, ek1⟩ : ∃ q : Nat, q = kk + 1 := ⟨_, rfl⟩
      have Ik1 := Lib.hid (show ((kk : Nat) : Int) + 1 = ((k1 : Nat) : Int) by omega)
      have Kk1 := Lib.hid ek1
      have bk1 : k1 + (1 + DV.cntE (TypeX.rows l[i].args_)) ≤ 4398046511104 := by omega
      have pk1 : 0 < k1 := by omega
      clear ek1
      go_wp2_with fail
      rw [Ik1.out]
      refine calls_gen (fun W => OwV W B (.row 26 3 (P ++ [.pl (.int .i64 (kk : Nat)), .pl (.string l[i].name_), .row 26 3 (TypeX.rows l[i].args_)] :: Q)) (.slice (some ⟨g, 0, none⟩) l.length c) bs ∧ ButV bs w W ∧ g < W.heap.size ∧ W.cell? ⟨g, i * 3 + 2, none⟩ = some (.slice A2 l[i].args_.length c2)) ⟨(s0 (.int .i64 (kk : Nat))), (hb.set_ HGB.out _ _), by simpa using hglt, ((World.cell?_setCell_other _ _ _ _ (fun e => by injection e with _ e; omega)).trans q2)⟩ ?_
      clear hO hb hglt p0 f0 s0 p1 f1 s1 q2
      rintro W1 ⟨hO, hb, hglt, q2⟩
      refine (markText k1 _ (by omega) (by omega)).mono ?_
      rintro e w2 ⟨rfl, hb1⟩
      have hO := OwV_below hO hb1
      have hb := hb.trans (ButV.of_below hb1)
      have q2 := (hb1.cell (p := ⟨g, i * 3 + 2, none⟩) hglt).trans q2
      have hglt := Nat.lt_of_lt_of_le hglt hb1.size
      clear hb1
      obtain ⟨p1, f1, s1⟩ := OwV_plain_at hO HND.out HPL.out (c := 1) rfl
      obtain ⟨k2, ek2⟩ : ∃ q : Nat, q = k1 + 1 := ⟨_, rfl⟩
      have Ik2 := Lib.hid (show ((k1 : Nat) : Int) + 1 = ((k2 : Nat) : Int) by omega)
      have Kk2 := Lib.hid ek2
      have bk2 : k2 + (DV.cntE (TypeX.rows l[i].args_)) ≤ 4398046511104 := by omega
      have pk2 : 0 < k2 := by omega
      clear ek2
      go_wp2_with fail
      rw [Ik2.out]
      refine calls_gen (fun W => OwV W B (.row 26 3 (P ++ [.pl (.int .i64 (kk : Nat)), .pl (.string (mark k1)), .row 26 3 (TypeX.rows l[i].args_)] :: Q)) (.slice (some ⟨g, 0, none⟩) l.length c) bs ∧ ButV bs w W ∧ g < W.heap.size ∧ W.cell? ⟨g, i * 3 + 2, none⟩ = some (.slice A2 l[i].args_.length c2)) ⟨(s1 (.string (mark k1))), (hb.set_ HGB.out _ _), by simpa using hglt, ((World.cell?_setCell_other _ _ _ _ (fun e => by injection e with _ e; omega)).trans q2)⟩ ?_
      clear hO hb hglt p1 f1 s1 q2
      rintro W3 ⟨hO, hb, hglt, q2⟩
      obtain ⟨vd, bd, hcd, _, hod, hndd, hgd, hsub, hput, _⟩ := OwV_focus hO HND.out HPL.out (c := 2) rfl
      obtain rfl : vd = .slice A2 l[i].args_.length c2 := Option.some.inj (hcd.symm.trans q2)
      clear hcd
      obtain ⟨k3, ek3⟩ : ∃ q : Nat, q = k2 + DV.cntE (TypeX.rows l[i].args_) := ⟨_, rfl⟩
      have Kk3 := Lib.hid ek3
      have bk3 : k3 + (0) ≤ 4398046511104 := by omega
      have pk3 : 0 < k3 := by omega
      have ak3 : k2 + DV.cntE (TypeX.rows l[i].args_) ≤ 4398046511104 := by omega
      clear ek3
      refine (ihTypeS l[i].args_ A2 c2 k2 B bd _ (by have := HNX.out; omega) hod hndd (by omega) (by omega)).mono ?_
      rintro e w4 ⟨rfl, hO3, hb3⟩
      rw [← Kk3.out]
      have hO := hput w4 _ hO3 (fun b hm hn => hb3.block b (OwV_lt _ hO b hm).2 hn)
      have hb := hb.trans (hb3.more hsub)
      have hglt := Nat.lt_of_lt_of_le hglt hb3.size
      have hO : OwV w4 B (.row 26 3 (P ++ [.pl (.int .i64 (kk : Nat)), .pl (.string (mark k1)), .row 26 3 (vmkE k2 (TypeX.rows l[i].args_))] :: Q)) (.slice (some ⟨g, 0, none⟩) l.length c) bs := hO
      clear hO3 hb3 hput hsub hgd hndd hod q2
      have hlist : P ++ [.pl (.int .i64 (kk : Nat)), .pl (.string (mark k1)), .row 26 3 (vmkE k2 (TypeX.rows l[i].args_))] :: Q = vmkE k ((TypeX.rows l).take (i + 1)) ++ (TypeX.rows l).drop (i + 1) := by
        rw [vmkE_take _ k i hil, TypeX.rows_at l i hlt hil, TypeX.cells_eq, ← HKE.out, ← HP.out, ← HQ.out, List.append_assoc]
        have yk3 := Kk3.out
        subst yk3
        have yk2 := Kk2.out
        subst yk2
        have yk1 := Kk1.out
        subst yk1
        simp only [vmkL, DV.vmk, vmkU, DV.cnt, List.singleton_append]
      have hfin := hO
      have hbf := hb
      have hfin2 : OwV _ B (.row 26 3 (P ++ [.pl (.int .i64 (kk : Nat)), .pl (.string (mark k1)), .row 26 3 (vmkE k2 (TypeX.rows l[i].args_))] :: Q)) (.slice (some ⟨g, 0, none⟩) l.length c) bs := hfin
      rw [hlist] at hfin2
      have HF := Lib.hid hfin2
      have hke : k3 = k + DV.cntE ((TypeX.rows l).take (i + 1)) := by rw [HST.out]; have := HKE.out; have := Kk1.out; have := Kk2.out; have := Kk3.out; omega
      have HKF := Lib.hid hke
      clear hlist hfin hfin2 hke hO
      go_wp2
      go_roundw
      case rel => exact ⟨i + 1, k3, by omega, by go_num, HKF.out, int_of (by omega), HF.out, hbf⟩
      case measure => simp [Go.RowKit.intOf]; omega
    · have hil : i = l.length := by omega
      subst hil
      rw [List.take_of_length_le (by rw [TypeX.rows_length]; exact Nat.le_refl _)] at hkke
      rw [List.take_of_length_le (by rw [TypeX.rows_length]; exact Nat.le_refl _), List.drop_of_length_le (by rw [TypeX.rows_length]; exact Nat.le_refl _), List.append_nil] at hO
      subst hkke
      have HF := Lib.hid hO
      clear hO
      go_wp2
      go_ret
      exact ⟨rfl, HF.out, hb⟩

theorem markRows_Type : ∀ N, MarkTypeS N
  | 0 => by
    intro l A c k B bs w hn hO hnd hk0 hkn
    have hc := nodesVE_count (TypeX.rows l)
    rw [TypeX.rows_length] at hc
    have hl : l = [] := List.eq_nil_of_length_eq_zero (by omega)
    subst hl
    have HO := Lib.hid hO
    clear hO
    go_enter Tryd.func22, Tryd.ntmps22
    go_wp2
    refine wp_loop_rounds 1 ?_
    rw [rounds_succ]
    go_wp2
    go_ret
    exact ⟨rfl, HO.out, ButV.refl _ _⟩
  | N + 1 => markTypeS_step N (markRows_Type N)
theorem markTypeS (l : List TypeX) (A : Option Addr) (c k B : Nat) (bs : List Nat) (w : World) (hO : OwV w B (.row 26 3 (TypeX.rows l)) (.slice A l.length c) bs) (hnd : bs.Nodup) (hk0 : 0 < k) (hk : k + DV.cntE (TypeX.rows l) ≤ 4398046511104) :
    Calls Tryd.prog 22 #[.slice A l.length c, .int .i64 k] w fun e w' => e = .returned (.int .i64 (k + DV.cntE (TypeX.rows l) : Nat)) ∧ OwV w' B (.row 26 3 (vmkE k (TypeX.rows l))) (.slice A l.length c) bs ∧ ButV bs w w' := (markRows_Type (DV.nodesE (TypeX.rows l))) l A c k B bs w (Nat.le_refl _) hO hnd hk0 hk
end Go.Proofs.YtngbilblddngcaaDoor
namespace Go.Proofs.YtngbilblddngcaaDoor
open Go.RowKit Go.Lib

def MarkBindingS : Prop := ∀ (l : List BindingX) (A : Option Addr) (c k B : Nat) (bs : List Nat) (w : World), OwV w B (.row 58 4 (BindingX.rows l)) (.slice A l.length c) bs → bs.Nodup → 0 < k → k + DV.cntE (BindingX.rows l) ≤ 4398046511104 →
  Calls Tryd.prog 23 #[.slice A l.length c, .int .i64 k] w fun e w' => e = .returned (.int .i64 (k + DV.cntE (BindingX.rows l) : Nat)) ∧ OwV w' B (.row 58 4 (vmkE k (BindingX.rows l))) (.slice A l.length c) bs ∧ ButV bs w w'

set_option maxRecDepth 100000 in
set_option maxHeartbeats 2000000 in
theorem markBindingS_step : MarkBindingS := by
  intro l A c k B bs w hO hnd hk0 hkn
  have hcap : l.length ≤ 9223372036854775807 := by
    have h := OwV_read (P := fun _ => True) _ (fun _ _ => trivial) hO
    obtain ⟨_, _, _, h1, h2⟩ := h.shape
    rw [BindingX.rows_length] at h1
    omega
  have HO := Lib.hid hO
  have HND := Lib.hid hnd
  clear hO hnd
  go_enter Tryd.func23, Tryd.ntmps23
  go_wp2
  go_loopw [1, 5] (fun kv iv wr => ∃ i kk : Nat, i ≤ l.length ∧ iv = .int .i64 i ∧ kk = k + DV.cntE ((BindingX.rows l).take i) ∧ kv = .int .i64 kk ∧ OwV wr B (.row 58 4 (vmkE k ((BindingX.rows l).take i) ++ (BindingX.rows l).drop i)) (.slice A l.length c) bs ∧ ButV bs w wr) (fun _ iv _ => l.length - (Go.RowKit.intOf iv).toNat)
  case atStart => exact ⟨0, k, Nat.zero_le _, rfl, by simp [DV.cntE], rfl, by simpa [vmkE] using HO.out, ButV.refl _ _⟩
  case round =>
    obtain ⟨i, kk, hi, rfl, hkke, rfl, hO, hb⟩ := hrel
    by_cases hlt : i < l.length
    · have hil : i < (BindingX.rows l).length := by rw [BindingX.rows_length]; exact hlt
      have hst := cntE_step (BindingX.rows l) i hil
      have hle := cntE_part (BindingX.rows l) (i + 1)
      rw [BindingX.rows_at l i hlt hil] at hst
      have hcl : DV.cntL l[i].cells = 1 + 1 + 1 + DV.cntE (TypeX.rows l[i].type_.args_) := by rw [BindingX.cells_eq]; simp only [DV.cntL, DV.cnt]; omega
      rw [hcl] at hst
      have hbound : kk + (1 + 1 + 1 + DV.cntE (TypeX.rows l[i].type_.args_)) ≤ 4398046511104 := by omega
      have hkpos : 0 < kk := by omega
      have HST := Lib.hid hst
      have HKE := Lib.hid hkke
      rw [List.drop_eq_getElem_cons hil, BindingX.rows_at l i hlt hil, BindingX.cells_eq] at hO
      have hpl : (vmkE k ((BindingX.rows l).take i)).length = i := by rw [vmkE_length, List.length_take]; omega
      obtain ⟨P, hP⟩ : ∃ P, P = vmkE k ((BindingX.rows l).take i) := ⟨_, rfl⟩
      obtain ⟨Q, hQ⟩ : ∃ Q, Q = (BindingX.rows l).drop (i + 1) := ⟨_, rfl⟩
      rw [← hP, ← hQ] at hO
      rw [← hP] at hpl
      have HP := Lib.hid hP
      have HQ := Lib.hid hQ
      have HPL := Lib.hid hpl
      clear hP hQ hpl hst hle hcl hkke
      obtain ⟨g, rfl, hgb⟩ := OwV_some hO (by rw [List.length_append, List.length_cons]; omega)
      have hglt := (OwV_lt _ hO g hgb).2
      have HGB := Lib.hid hgb
      clear hgb
      obtain ⟨vd3, _, q3, _, od3, _⟩ := OwV_focus hO HND.out HPL.out (c := 3) rfl
      obtain ⟨A3, c3, rfl⟩ := OwV_shape od3 (TypeX.rows_length _)
      clear od3
      have hi0 : (0 : Int) ≤ i := by omega
      go_wp2_with fail
      refine (markText kk _ (by omega) (by omega)).mono ?_
      rintro e w1 ⟨rfl, hb1⟩
      have hO := OwV_below hO hb1
      have hb := hb.trans (ButV.of_below hb1)
      have q3 := (hb1.cell (p := ⟨g, i * 4 + 3, none⟩) hglt).trans q3
      have hglt := Nat.lt_of_lt_of_le hglt hb1.size
      clear hb1
      obtain ⟨p0, f0, s0⟩ := OwV_plain_at hO HND.out HPL.out (c := 0) rfl
      obtain ⟨p1, f1, s1⟩ := OwV_plain_at hO HND.out HPL.out (c := 1) rfl
      obtain ⟨p2, f2, s2⟩ := OwV_plain_at hO HND.out HPL.out (c := 2) rfl
      rw [Nat.add_zero] at p0 f0
      obtain ⟨k1, ek1⟩ : ∃ q : Nat, q = kk + 1 := ⟨_, rfl⟩
      have Ik1 := Lib.hid (show ((kk : Nat) : Int) + 1 = ((k1 : Nat) : Int) by omega)
      have Kk1 := Lib.hid ek1
      have bk1 : k1 + (1 + 1 + DV.cntE (TypeX.rows l[i].type_.args_)) ≤ 4398046511104 := by omega
      have pk1 : 0 < k1 := by omega
      clear ek1
      obtain ⟨k2, ek2⟩ : ∃ q : Nat, q = k1 + 1 := ⟨_, rfl⟩
      have Ik2 := Lib.hid (show ((k1 : Nat) : Int) + 1 = ((k2 : Nat) : Int) by omega)
      have Kk2 := Lib.hid ek2
      have bk2 : k2 + (1 + DV.cntE (TypeX.rows l[i].type_.args_)) ≤ 4398046511104 := by omega
      have pk2 : 0 < k2 := by omega
      clear ek2
      go_wp2_with fail
      first | rw [Ik1.out, Ik2.out] | rw [show ((kk : Nat) : Int) + 2 = ((k2 : Nat) : Int) by have := Ik1.out; have := Ik2.out; omega]
      refine calls_gen (fun W => OwV W B (.row 58 4 (P ++ [.pl (.string (mark kk)), .pl (.int .i64 (k1 : Nat)), .pl (.string l[i].type_.name_), .row 26 3 (TypeX.rows l[i].type_.args_)] :: Q)) (.slice (some ⟨g, 0, none⟩) l.length c) bs ∧ ButV bs w W ∧ g < W.heap.size ∧ W.cell? ⟨g, i * 4 + 3, none⟩ = some (.slice A3 l[i].type_.args_.length c3)) ⟨((OwV_plain_at (s0 (.string (mark kk))) HND.out HPL.out (c := 1) rfl).2.2 (.int .i64 (k1 : Nat))), ((hb.set_ HGB.out _ _).set_ HGB.out _ _), by simpa using hglt, ((World.cell?_setCell_other _ _ _ _ (fun e => by injection e with _ e; omega)).trans ((World.cell?_setCell_other _ _ _ _ (fun e => by injection e with _ e; omega)).trans q3))⟩ ?_
      clear hO hb hglt p0 f0 s0 p1 f1 s1 p2 f2 s2 q3
      rintro W2 ⟨hO, hb, hglt, q3⟩
      refine (markText k2 _ (by omega) (by omega)).mono ?_
      rintro e w3 ⟨rfl, hb1⟩
      have hO := OwV_below hO hb1
      have hb := hb.trans (ButV.of_below hb1)
      have q3 := (hb1.cell (p := ⟨g, i * 4 + 3, none⟩) hglt).trans q3
      have hglt := Nat.lt_of_lt_of_le hglt hb1.size
      clear hb1
      obtain ⟨p2, f2, s2⟩ := OwV_plain_at hO HND.out HPL.out (c := 2) rfl
      obtain ⟨k3, ek3⟩ : ∃ q : Nat, q = k2 + 1 := ⟨_, rfl⟩
      have Ik3 := Lib.hid (show ((k2 : Nat) : Int) + 1 = ((k3 : Nat) : Int) by omega)
      have Kk3 := Lib.hid ek3
      have bk3 : k3 + (DV.cntE (TypeX.rows l[i].type_.args_)) ≤ 4398046511104 := by omega
      have pk3 : 0 < k3 := by omega
      clear ek3
      go_wp2_with fail
      rw [Ik3.out]
      refine calls_gen (fun W => OwV W B (.row 58 4 (P ++ [.pl (.string (mark kk)), .pl (.int .i64 (k1 : Nat)), .pl (.string (mark k2)), .row 26 3 (TypeX.rows l[i].type_.args_)] :: Q)) (.slice (some ⟨g, 0, none⟩) l.length c) bs ∧ ButV bs w W ∧ g < W.heap.size ∧ W.cell? ⟨g, i * 4 + 3, none⟩ = some (.slice A3 l[i].type_.args_.length c3)) ⟨(s2 (.string (mark k2))), (hb.set_ HGB.out _ _), by simpa using hglt, ((World.cell?_setCell_other _ _ _ _ (fun e => by injection e with _ e; omega)).trans q3)⟩ ?_
      clear hO hb hglt p2 f2 s2 q3
      rintro W4 ⟨hO, hb, hglt, q3⟩
      obtain ⟨vd, bd, hcd, _, hod, hndd, hgd, hsub, hput, _⟩ := OwV_focus hO HND.out HPL.out (c := 3) rfl
      obtain rfl : vd = .slice A3 l[i].type_.args_.length c3 := Option.some.inj (hcd.symm.trans q3)
      clear hcd
      obtain ⟨k4, ek4⟩ : ∃ q : Nat, q = k3 + DV.cntE (TypeX.rows l[i].type_.args_) := ⟨_, rfl⟩
      have Kk4 := Lib.hid ek4
      have bk4 : k4 + (0) ≤ 4398046511104 := by omega
      have pk4 : 0 < k4 := by omega
      have ak4 : k3 + DV.cntE (TypeX.rows l[i].type_.args_) ≤ 4398046511104 := by omega
      clear ek4
      refine (markTypeS l[i].type_.args_ A3 c3 k3 B bd _ hod hndd (by omega) (by omega)).mono ?_
      rintro e w5 ⟨rfl, hO3, hb3⟩
      rw [← Kk4.out]
      have hO := hput w5 _ hO3 (fun b hm hn => hb3.block b (OwV_lt _ hO b hm).2 hn)
      have hb := hb.trans (hb3.more hsub)
      have hglt := Nat.lt_of_lt_of_le hglt hb3.size
      have hO : OwV w5 B (.row 58 4 (P ++ [.pl (.string (mark kk)), .pl (.int .i64 (k1 : Nat)), .pl (.string (mark k2)), .row 26 3 (vmkE k3 (TypeX.rows l[i].type_.args_))] :: Q)) (.slice (some ⟨g, 0, none⟩) l.length c) bs := hO
      clear hO3 hb3 hput hsub hgd hndd hod q3
      have hlist : P ++ [.pl (.string (mark kk)), .pl (.int .i64 (k1 : Nat)), .pl (.string (mark k2)), .row 26 3 (vmkE k3 (TypeX.rows l[i].type_.args_))] :: Q = vmkE k ((BindingX.rows l).take (i + 1)) ++ (BindingX.rows l).drop (i + 1) := by
        rw [vmkE_take _ k i hil, BindingX.rows_at l i hlt hil, BindingX.cells_eq, ← HKE.out, ← HP.out, ← HQ.out, List.append_assoc]
        have yk4 := Kk4.out
        subst yk4
        have yk3 := Kk3.out
        subst yk3
        have yk2 := Kk2.out
        subst yk2
        have yk1 := Kk1.out
        subst yk1
        simp only [vmkL, DV.vmk, vmkU, DV.cnt, List.singleton_append]
      have hfin := hO
      have hbf := hb
      have hfin2 : OwV _ B (.row 58 4 (P ++ [.pl (.string (mark kk)), .pl (.int .i64 (k1 : Nat)), .pl (.string (mark k2)), .row 26 3 (vmkE k3 (TypeX.rows l[i].type_.args_))] :: Q)) (.slice (some ⟨g, 0, none⟩) l.length c) bs := hfin
      rw [hlist] at hfin2
      have HF := Lib.hid hfin2
      have hke : k4 = k + DV.cntE ((BindingX.rows l).take (i + 1)) := by rw [HST.out]; have := HKE.out; have := Kk1.out; have := Kk2.out; have := Kk3.out; have := Kk4.out; omega
      have HKF := Lib.hid hke
      clear hlist hfin hfin2 hke hO
      go_wp2
      go_roundw
      case rel => exact ⟨i + 1, k4, by omega, by go_num, HKF.out, int_of (by omega), HF.out, hbf⟩
      case measure => simp [Go.RowKit.intOf]; omega
    · have hil : i = l.length := by omega
      subst hil
      rw [List.take_of_length_le (by rw [BindingX.rows_length]; exact Nat.le_refl _)] at hkke
      rw [List.take_of_length_le (by rw [BindingX.rows_length]; exact Nat.le_refl _), List.drop_of_length_le (by rw [BindingX.rows_length]; exact Nat.le_refl _), List.append_nil] at hO
      subst hkke
      have HF := Lib.hid hO
      clear hO
      go_wp2
      go_ret
      exact ⟨rfl, HF.out, hb⟩
theorem markBindingS : MarkBindingS := markBindingS_step
end Go.Proofs.YtngbilblddngcaaDoor
namespace Go.Proofs.YtngbilblddngcaaDoor
open Go.RowKit Go.Lib

def HeldTypeS (N : Nat) : Prop := ∀ (l : List TypeX) (A : Option Addr) (c k : Nat) (w : World), DV.nodesE (TypeX.rows l) ≤ N → RdV w (Und w.heap.size) (.row 26 3 (vmkE k (TypeX.rows l))) (.slice A l.length c) → 0 < k → k + DV.cntE (TypeX.rows l) ≤ 4398046511104 →
  Calls Tryd.prog 33 #[.slice A l.length c, .int .i64 k] w fun e w' => e = .returned (.int .i64 (k + DV.cntE (TypeX.rows l) : Nat)) ∧ Below w.heap.size w w'

set_option maxRecDepth 100000 in
set_option maxHeartbeats 2000000 in
theorem heldTypeS_step (N : Nat) (ihTypeS : HeldTypeS N) : HeldTypeS (N + 1) := by
  intro l A c k w hn hl hk0 hkn
  have hcap : l.length ≤ 9223372036854775807 := by
    obtain ⟨_, _, _, h1, h2⟩ := hl.shape
    rw [vmkE_length, TypeX.rows_length] at h1
    omega
  have HL := Lib.hid hl
  have HN := Lib.hid hn
  clear hl hn
  go_enter Tryd.func33, Tryd.ntmps33
  go_wp2
  go_loopw [1, 5] (fun kv iv wr => ∃ i kk : Nat, i ≤ l.length ∧ iv = .int .i64 i ∧ kk = k + DV.cntE ((TypeX.rows l).take i) ∧ kv = .int .i64 kk ∧ Below w.heap.size w wr) (fun _ iv _ => l.length - (Go.RowKit.intOf iv).toNat)
  case atStart => exact ⟨0, k, Nat.zero_le _, rfl, by simp [DV.cntE], rfl, Below.refl _ _⟩
  case round =>
    obtain ⟨i, kk, hi, rfl, hkke, rfl, hb⟩ := hrel
    by_cases hlt : i < l.length
    · have hil : i < (TypeX.rows l).length := by rw [TypeX.rows_length]; exact hlt
      have hst := cntE_step (TypeX.rows l) i hil
      have hle := cntE_part (TypeX.rows l) (i + 1)
      rw [TypeX.rows_at l i hlt hil] at hst
      have hcl : DV.cntL l[i].cells = 1 + 1 + DV.cntE (TypeX.rows l[i].args_) := by rw [TypeX.cells_eq]; simp only [DV.cntL, DV.cnt]; omega
      rw [hcl] at hst
      have hbound : kk + (1 + 1 + DV.cntE (TypeX.rows l[i].args_)) ≤ 4398046511104 := by omega
      have hkpos : 0 < kk := by omega
      have hnx := nodesVE_at (TypeX.rows l) i hil
      rw [TypeX.rows_at l i hlt hil, TypeX.cells_eq] at hnx
      simp only [DV.nodesL, DV.nodes] at hnx
      have HNX := Lib.hid (show DV.nodesE (TypeX.rows l[i].args_) ≤ N by have := HN.out; omega)
      clear hnx
      obtain ⟨b, o, ws, hA, hP, hR, hc⟩ := RdV.at_ (HL.out.grow hb) (j := i) (by rw [vmkE_length]; exact hil)
      subst hA
      have hge : (vmkE k (TypeX.rows l))[i]'(by rw [vmkE_length]; exact hil) = vmkL kk l[i].cells := by
        have h := vmkE_at (TypeX.rows l) k i hil
        rw [List.getElem?_eq_getElem (by rw [vmkE_length]; exact hil), ← hkke, TypeX.rows_at l i hlt hil] at h
        exact Option.some.inj h
      rw [hge, TypeX.cells_eq] at hR
      simp only [vmkL, DV.vmk, vmkU, DV.cnt] at hR
      obtain ⟨k1, ek1⟩ : ∃ q : Nat, q = kk + 1 := ⟨_, rfl⟩
      obtain ⟨k2, ek2⟩ : ∃ q : Nat, q = k1 + 1 := ⟨_, rfl⟩
      obtain ⟨k3, ek3⟩ : ∃ q : Nat, q = k2 + DV.cntE (TypeX.rows l[i].args_) := ⟨_, rfl⟩
      simp only [← ek1, ← ek2] at hR
      simp only [RdVs] at hR
      obtain ⟨v0, _, z0, h0, v1, _, z1, h1, v2, _, z2, h2, z3⟩ := hR
      subst z3 z2 z1 z0
      rw [RdV_pl] at h0
      subst h0
      rw [RdV_pl] at h1
      subst h1
      obtain ⟨A2, c2, rfl, _, _⟩ := h2.shape
      rw [vmkE_length, TypeX.rows_length] at h2 hc
      have q0 : wr.cell? ⟨b, o + i * 3, none⟩ = some (.int .i64 (kk : Nat)) := hc 0 _ rfl
      have q1 : wr.cell? ⟨b, o + i * 3 + 1, none⟩ = some (.string (mark k1)) := hc 1 _ rfl
      have q2 : wr.cell? ⟨b, o + i * 3 + 2, none⟩ = some (.slice A2 l[i].args_.length c2) := hc 2 _ rfl
      clear hc hge
      have Ik1 := Lib.hid (show ((kk : Nat) : Int) + 1 = ((k1 : Nat) : Int) by omega)
      have bk1 : k1 + (1 + DV.cntE (TypeX.rows l[i].args_)) ≤ 4398046511104 := by omega
      have pk1 : 0 < k1 := by omega
      have Ik2 := Lib.hid (show ((k1 : Nat) : Int) + 1 = ((k2 : Nat) : Int) by omega)
      have bk2 : k2 + (DV.cntE (TypeX.rows l[i].args_)) ≤ 4398046511104 := by omega
      have pk2 : 0 < k2 := by omega
      have ak3 : k2 + DV.cntE (TypeX.rows l[i].args_) ≤ 4398046511104 := by omega
      have bk3 : k3 + (0) ≤ 4398046511104 := by omega
      have pk3 : 0 < k3 := by omega
      have hkf : k3 = k + DV.cntE ((TypeX.rows l).take (i + 1)) := by omega
      have HKF := Lib.hid hkf
      have Kk1 := Lib.hid ek1
      have Kk2 := Lib.hid ek2
      have Kk3 := Lib.hid ek3
      clear hkf hst hle hcl hkke ek1 ek2 ek3
      have H2 := Lib.hid h2
      clear h2
      have hi0 : (0 : Int) ≤ i := by omega
      have cM : ∀ d os, Calls Tryd.prog 49 #[.int .i64 (k1 : Nat)] (Go.Sort.grow (redrawn wr d) os) fun e w'' => e = .returned (.string (mark k1)) ∧ ∃ p : Regrown, w'' = Go.Sort.grow (redrawn wr p.d) p.os := fun d os => Calls.regrown_of (markText k1 _ (by omega) (by omega))
      have cM2 := cM
      rw [← Ik1.out] at cM2
      have kc := cell_regrown q1
      go_wp2
      refine wp_region_quiet_below (by kernel_rfl) (by kernel_rfl) ?_
      repeat (quiet_step (exact cM2 _ _))
      refine wpQuiet_nil ?_
      intro _ hw'
      obtain ⟨⟨dq, osq⟩, hw''⟩ := hw'
      subst hw''
      have hb2 := below_regrown wr dq osq
      have hb := hb.trans (hb2.mono hb.size)
      clear cM kc cM2
      have q2 := (hb2.cell (p := ⟨b, o + i * 3 + 2, none⟩) hP).trans q2
      have hP : Und (Go.Sort.grow (redrawn wr dq) osq).heap.size b := Nat.lt_of_lt_of_le hP hb2.size
      have H2 := Lib.hid (H2.out.grow hb2)
      clear q1 hb2
      generalize Go.Sort.grow (redrawn wr dq) osq = W1 at *
      go_wp2_with fail
      first | rw [Ik1.out, Ik2.out] | rw [show ((kk : Nat) : Int) + 2 = ((k2 : Nat) : Int) by have := Ik1.out; have := Ik2.out; omega]
      refine (ihTypeS l[i].args_ A2 c2 k2 _ (by have := HNX.out; omega) H2.out (by omega) (by omega)).mono ?_
      rintro e W2 ⟨rfl, hb2⟩
      rw [← Kk3.out]
      have hb := hb.trans (hb2.mono hb.size)
      have hP : Und W2.heap.size b := Nat.lt_of_lt_of_le hP hb2.size
      have hnn2 : ¬ (((k3 : Nat) : Int) < 0) := by omega
      clear q2 hb2
      go_wp2
      go_roundw
      case rel => exact ⟨i + 1, k3, by omega, by go_num, HKF.out, int_of (by omega), hb⟩
      case measure => simp [Go.RowKit.intOf]; omega
    · have hil : i = l.length := by omega
      subst hil
      rw [List.take_of_length_le (by rw [TypeX.rows_length]; exact Nat.le_refl _)] at hkke
      subst hkke
      go_wp2
      go_ret
      exact ⟨rfl, hb⟩

theorem heldRows_Type : ∀ N, HeldTypeS N
  | 0 => by
    intro l A c k w hn hl hk0 hkn
    have hc := nodesVE_count (TypeX.rows l)
    rw [TypeX.rows_length] at hc
    have hl : l = [] := List.eq_nil_of_length_eq_zero (by omega)
    subst hl
    go_enter Tryd.func33, Tryd.ntmps33
    go_wp2
    refine wp_loop_rounds 1 ?_
    rw [rounds_succ]
    go_wp2
    go_ret
    exact ⟨rfl, Below.refl _ _⟩
  | N + 1 => heldTypeS_step N (heldRows_Type N)
theorem heldTypeS (l : List TypeX) (A : Option Addr) (c k : Nat) (w : World) (hl : RdV w (Und w.heap.size) (.row 26 3 (vmkE k (TypeX.rows l))) (.slice A l.length c)) (hk0 : 0 < k) (hk : k + DV.cntE (TypeX.rows l) ≤ 4398046511104) :
    Calls Tryd.prog 33 #[.slice A l.length c, .int .i64 k] w fun e w' => e = .returned (.int .i64 (k + DV.cntE (TypeX.rows l) : Nat)) ∧ Below w.heap.size w w' := (heldRows_Type (DV.nodesE (TypeX.rows l))) l A c k w (Nat.le_refl _) hl hk0 hk
end Go.Proofs.YtngbilblddngcaaDoor
namespace Go.Proofs.YtngbilblddngcaaDoor
open Go.RowKit Go.Lib

def HeldBindingS : Prop := ∀ (l : List BindingX) (A : Option Addr) (c k : Nat) (w : World), RdV w (Und w.heap.size) (.row 58 4 (vmkE k (BindingX.rows l))) (.slice A l.length c) → 0 < k → k + DV.cntE (BindingX.rows l) ≤ 4398046511104 →
  Calls Tryd.prog 24 #[.slice A l.length c, .int .i64 k] w fun e w' => e = .returned (.int .i64 (k + DV.cntE (BindingX.rows l) : Nat)) ∧ Below w.heap.size w w'

set_option maxRecDepth 100000 in
set_option maxHeartbeats 2000000 in
theorem heldBindingS_step : HeldBindingS := by
  intro l A c k w hl hk0 hkn
  have hcap : l.length ≤ 9223372036854775807 := by
    obtain ⟨_, _, _, h1, h2⟩ := hl.shape
    rw [vmkE_length, BindingX.rows_length] at h1
    omega
  have HL := Lib.hid hl
  clear hl
  go_enter Tryd.func24, Tryd.ntmps24
  go_wp2
  go_loopw [1, 5] (fun kv iv wr => ∃ i kk : Nat, i ≤ l.length ∧ iv = .int .i64 i ∧ kk = k + DV.cntE ((BindingX.rows l).take i) ∧ kv = .int .i64 kk ∧ Below w.heap.size w wr) (fun _ iv _ => l.length - (Go.RowKit.intOf iv).toNat)
  case atStart => exact ⟨0, k, Nat.zero_le _, rfl, by simp [DV.cntE], rfl, Below.refl _ _⟩
  case round =>
    obtain ⟨i, kk, hi, rfl, hkke, rfl, hb⟩ := hrel
    by_cases hlt : i < l.length
    · have hil : i < (BindingX.rows l).length := by rw [BindingX.rows_length]; exact hlt
      have hst := cntE_step (BindingX.rows l) i hil
      have hle := cntE_part (BindingX.rows l) (i + 1)
      rw [BindingX.rows_at l i hlt hil] at hst
      have hcl : DV.cntL l[i].cells = 1 + 1 + 1 + DV.cntE (TypeX.rows l[i].type_.args_) := by rw [BindingX.cells_eq]; simp only [DV.cntL, DV.cnt]; omega
      rw [hcl] at hst
      have hbound : kk + (1 + 1 + 1 + DV.cntE (TypeX.rows l[i].type_.args_)) ≤ 4398046511104 := by omega
      have hkpos : 0 < kk := by omega
      obtain ⟨b, o, ws, hA, hP, hR, hc⟩ := RdV.at_ (HL.out.grow hb) (j := i) (by rw [vmkE_length]; exact hil)
      subst hA
      have hge : (vmkE k (BindingX.rows l))[i]'(by rw [vmkE_length]; exact hil) = vmkL kk l[i].cells := by
        have h := vmkE_at (BindingX.rows l) k i hil
        rw [List.getElem?_eq_getElem (by rw [vmkE_length]; exact hil), ← hkke, BindingX.rows_at l i hlt hil] at h
        exact Option.some.inj h
      rw [hge, BindingX.cells_eq] at hR
      simp only [vmkL, DV.vmk, vmkU, DV.cnt] at hR
      obtain ⟨k1, ek1⟩ : ∃ q : Nat, q = kk + 1 := ⟨_, rfl⟩
      obtain ⟨k2, ek2⟩ : ∃ q : Nat, q = k1 + 1 := ⟨_, rfl⟩
      obtain ⟨k3, ek3⟩ : ∃ q : Nat, q = k2 + 1 := ⟨_, rfl⟩
      obtain ⟨k4, ek4⟩ : ∃ q : Nat, q = k3 + DV.cntE (TypeX.rows l[i].type_.args_) := ⟨_, rfl⟩
      simp only [← ek1, ← ek2, ← ek3] at hR
      simp only [RdVs] at hR
      obtain ⟨v0, _, z0, h0, v1, _, z1, h1, v2, _, z2, h2, v3, _, z3, h3, z4⟩ := hR
      subst z4 z3 z2 z1 z0
      rw [RdV_pl] at h0
      subst h0
      rw [RdV_pl] at h1
      subst h1
      rw [RdV_pl] at h2
      subst h2
      obtain ⟨A3, c3, rfl, _, _⟩ := h3.shape
      rw [vmkE_length, TypeX.rows_length] at h3 hc
      have q0 : wr.cell? ⟨b, o + i * 4, none⟩ = some (.string (mark kk)) := hc 0 _ rfl
      have q1 : wr.cell? ⟨b, o + i * 4 + 1, none⟩ = some (.int .i64 (k1 : Nat)) := hc 1 _ rfl
      have q2 : wr.cell? ⟨b, o + i * 4 + 2, none⟩ = some (.string (mark k2)) := hc 2 _ rfl
      have q3 : wr.cell? ⟨b, o + i * 4 + 3, none⟩ = some (.slice A3 l[i].type_.args_.length c3) := hc 3 _ rfl
      clear hc hge
      have Ik1 := Lib.hid (show ((kk : Nat) : Int) + 1 = ((k1 : Nat) : Int) by omega)
      have bk1 : k1 + (1 + 1 + DV.cntE (TypeX.rows l[i].type_.args_)) ≤ 4398046511104 := by omega
      have pk1 : 0 < k1 := by omega
      have Ik2 := Lib.hid (show ((k1 : Nat) : Int) + 1 = ((k2 : Nat) : Int) by omega)
      have bk2 : k2 + (1 + DV.cntE (TypeX.rows l[i].type_.args_)) ≤ 4398046511104 := by omega
      have pk2 : 0 < k2 := by omega
      have Ik3 := Lib.hid (show ((k2 : Nat) : Int) + 1 = ((k3 : Nat) : Int) by omega)
      have bk3 : k3 + (DV.cntE (TypeX.rows l[i].type_.args_)) ≤ 4398046511104 := by omega
      have pk3 : 0 < k3 := by omega
      have ak4 : k3 + DV.cntE (TypeX.rows l[i].type_.args_) ≤ 4398046511104 := by omega
      have bk4 : k4 + (0) ≤ 4398046511104 := by omega
      have pk4 : 0 < k4 := by omega
      have hkf : k4 = k + DV.cntE ((BindingX.rows l).take (i + 1)) := by omega
      have HKF := Lib.hid hkf
      have Kk1 := Lib.hid ek1
      have Kk2 := Lib.hid ek2
      have Kk3 := Lib.hid ek3
      have Kk4 := Lib.hid ek4
      clear hkf hst hle hcl hkke ek1 ek2 ek3 ek4
      have H3 := Lib.hid h3
      clear h3
      have hi0 : (0 : Int) ≤ i := by omega
      have cM : ∀ d os, Calls Tryd.prog 49 #[.int .i64 (kk : Nat)] (Go.Sort.grow (redrawn wr d) os) fun e w'' => e = .returned (.string (mark kk)) ∧ ∃ p : Regrown, w'' = Go.Sort.grow (redrawn wr p.d) p.os := fun d os => Calls.regrown_of (markText kk _ (by omega) (by omega))
      have kc := cell_regrown q0
      go_wp2
      refine wp_region_quiet_below (by kernel_rfl) (by kernel_rfl) ?_
      repeat (quiet_step (exact cM _ _))
      refine wpQuiet_nil ?_
      intro _ hw'
      obtain ⟨⟨dq, osq⟩, hw''⟩ := hw'
      subst hw''
      have hb2 := below_regrown wr dq osq
      have hb := hb.trans (hb2.mono hb.size)
      clear cM kc
      have q1 := (hb2.cell (p := ⟨b, o + i * 4 + 1, none⟩) hP).trans q1
      have q2 := (hb2.cell (p := ⟨b, o + i * 4 + 2, none⟩) hP).trans q2
      have q3 := (hb2.cell (p := ⟨b, o + i * 4 + 3, none⟩) hP).trans q3
      have hP : Und (Go.Sort.grow (redrawn wr dq) osq).heap.size b := Nat.lt_of_lt_of_le hP hb2.size
      have H3 := Lib.hid (H3.out.grow hb2)
      clear q0 hb2
      generalize Go.Sort.grow (redrawn wr dq) osq = W1 at *
      have nq1 : (((k1 : Nat) : Int) != ((kk : Nat) : Int) + 1) = false := by have := Ik1.out; rw [bne_eq_false_iff_eq]; omega
      have cM : ∀ d os, Calls Tryd.prog 49 #[.int .i64 (k2 : Nat)] (Go.Sort.grow (redrawn W1 d) os) fun e w'' => e = .returned (.string (mark k2)) ∧ ∃ p : Regrown, w'' = Go.Sort.grow (redrawn W1 p.d) p.os := fun d os => Calls.regrown_of (markText k2 _ (by omega) (by omega))
      have cM2 := cM
      rw [← Ik2.out, ← Ik1.out] at cM2
      have kc := cell_regrown q2
      go_wp2
      refine wp_region_quiet_below (by kernel_rfl) (by kernel_rfl) ?_
      repeat (quiet_step (exact cM2 _ _))
      refine wpQuiet_nil ?_
      intro _ hw'
      obtain ⟨⟨dq, osq⟩, hw''⟩ := hw'
      subst hw''
      have hb2 := below_regrown W1 dq osq
      have hb := hb.trans (hb2.mono hb.size)
      clear cM kc cM2
      have q3 := (hb2.cell (p := ⟨b, o + i * 4 + 3, none⟩) hP).trans q3
      have hP : Und (Go.Sort.grow (redrawn W1 dq) osq).heap.size b := Nat.lt_of_lt_of_le hP hb2.size
      have H3 := Lib.hid (H3.out.grow hb2)
      clear q2 hb2
      generalize Go.Sort.grow (redrawn W1 dq) osq = W2 at *
      go_wp2_with fail
      first | rw [Ik1.out, Ik2.out, Ik3.out] | rw [show ((kk : Nat) : Int) + 3 = ((k3 : Nat) : Int) by have := Ik1.out; have := Ik2.out; have := Ik3.out; omega]
      refine (heldTypeS l[i].type_.args_ A3 c3 k3 _ H3.out (by omega) (by omega)).mono ?_
      rintro e W3 ⟨rfl, hb2⟩
      rw [← Kk4.out]
      have hb := hb.trans (hb2.mono hb.size)
      have hP : Und W3.heap.size b := Nat.lt_of_lt_of_le hP hb2.size
      have hnn3 : ¬ (((k4 : Nat) : Int) < 0) := by omega
      clear q3 hb2
      go_wp2
      go_roundw
      case rel => exact ⟨i + 1, k4, by omega, by go_num, HKF.out, int_of (by omega), hb⟩
      case measure => simp [Go.RowKit.intOf]; omega
    · have hil : i = l.length := by omega
      subst hil
      rw [List.take_of_length_le (by rw [BindingX.rows_length]; exact Nat.le_refl _)] at hkke
      subst hkke
      go_wp2
      go_ret
      exact ⟨rfl, hb⟩
theorem heldBindingS : HeldBindingS := heldBindingS_step
end Go.Proofs.YtngbilblddngcaaDoor
namespace Go.Proofs.YtngbilblddngcaaDoor
open Go.RowKit Go.Lib

theorem BindingX.wt_eq (x : BindingX) : DV.wtL x.cells = x.var_.size + DV.wtL x.type_.cells := by
  rw [BindingX.cells_eq, TypeX.cells_eq]
  simp only [DV.wtL, DV.wt, uwt]
end Go.Proofs.YtngbilblddngcaaDoor
namespace Go.Proofs.YtngbilblddngcaaDoor
open Go.RowKit Go.Lib

theorem infoBinding : (Tryd.prog.info? 58).map (fun i => (i.zero, i.size, i.bytes)) = some (some (.agg #[.string ByteArray.empty, .int .i64 0, .string ByteArray.empty, .slice none 0 0]), 4, 64) := by kernel_rfl
end Go.Proofs.YtngbilblddngcaaDoor
namespace Go.Proofs.YtngbilblddngcaaDoor
open Go.RowKit Go.Lib

def EqBinding : Prop := ∀ (x : BindingX) (v v' : Value) (w : World), BindingAt w (Und w.heap.size) x v → BindingAt w (Und w.heap.size) x v' →
  Calls Tryd.prog 48 #[v, v'] w fun e w' => e = .returned (.bool true) ∧ Below w.heap.size w w'
def EqBindingS : Prop := ∀ (l : List BindingX) (A B : Option Addr) (c d : Nat) (w : World), BindingRow w (Und w.heap.size) A c l → BindingRow w (Und w.heap.size) B d l →
  Calls Tryd.prog 20 #[.slice A l.length c, .slice B l.length d] w fun e w' => e = .returned (.bool true) ∧ Below w.heap.size w w'

set_option maxRecDepth 100000 in
set_option maxHeartbeats 2000000 in
theorem eqBinding_step : EqBinding := by
  intro x v v' w hv hv'
  obtain ⟨A3, c3, rfl, h3⟩ := hv
  obtain ⟨B3, d3, rfl, g3⟩ := hv'
  have hb0 : Below w.heap.size w ((w.alloc (.cells #[.string x.var_, .int .i64 x.type_.kind_, .string x.type_.name_, .slice A3 x.type_.args_.length c3] 58)).alloc (.cells #[.string x.var_, .int .i64 x.type_.kind_, .string x.type_.name_, .slice B3 x.type_.args_.length d3] 58)) := ((Below.refl _ _).alloc (Nat.le_refl _) _).alloc (by simp) _
  have H3 := Lib.hid (h3.grow hb0)
  have G3 := Lib.hid (g3.grow hb0)
  clear h3 g3
  go_enter Tryd.func48, Tryd.ntmps48
  go_wp2_with fail
  refine (eqType x.type_ _ _ _ ⟨_, _, rfl, H3.out⟩ ⟨_, _, rfl, G3.out⟩).mono ?_
  rintro e w1 ⟨rfl, b1⟩
  have hb1 : Below w.heap.size w w1 := hb0.trans (b1.mono hb0.size)
  go_wp2
  go_ret
  exact ⟨rfl, hb1⟩

set_option maxRecDepth 100000 in
set_option maxHeartbeats 2000000 in
theorem eqBindingS_step (ih : EqBinding) : EqBindingS := by
  intro l A B c d w hA hB
  have hlen := hA.cap
  have HA := Lib.hid hA
  have HB := Lib.hid hB
  clear hA hB
  go_enter Tryd.func20, Tryd.ntmps20
  go_wp2
  go_loopw [5] (fun iv wr => ∃ k : Nat, k ≤ l.length ∧ iv = .int .i64 k ∧ Below w.heap.size w wr) (fun iv _ => l.length - (Go.RowKit.intOf iv).toNat)
  case atStart => exact ⟨0, Nat.zero_le _, rfl, Below.refl _ _⟩
  case round =>
    obtain ⟨k, hk, rfl, hb⟩ := hrel
    by_cases hlt : k < l.length
    · obtain ⟨b, o, A3, c3, hA, hP, p0, p1, p2, p3, h3⟩ := (HA.out.grow hb).at_ hlt
      subst hA
      obtain ⟨b2, o2, B3, d3, hB, hP2, r0, r1, r2, r3, g3⟩ := (HB.out.grow hb).at_ hlt
      subst hB
      have cE : ∀ dr os, Calls Tryd.prog 48 #[.agg #[.string l[k].var_, .int .i64 l[k].type_.kind_, .string l[k].type_.name_, .slice A3 l[k].type_.args_.length c3], .agg #[.string l[k].var_, .int .i64 l[k].type_.kind_, .string l[k].type_.name_, .slice B3 l[k].type_.args_.length d3]] (Go.Sort.grow (redrawn wr dr) os) fun e w'' => e = .returned (.bool true) ∧ ∃ p : Regrown, w'' = Go.Sort.grow (redrawn wr p.d) p.os :=
        fun dr os => Calls.regrown_of (ih l[k] _ _ _ ⟨_, _, rfl, h3.grow (below_regrown wr dr os)⟩ ⟨_, _, rfl, g3.grow (below_regrown wr dr os)⟩)
      have kp0 := cell_regrown p0
      have kr0 := cell_regrown r0
      have kp1 := cell_regrown p1
      have kr1 := cell_regrown r1
      have kp2 := cell_regrown p2
      have kr2 := cell_regrown r2
      have kp3 := cell_regrown p3
      have kr3 := cell_regrown r3
      have hk0 : (0 : Int) ≤ k := by omega
      clear h3 g3
      go_wp2
      refine wp_region_quiet_below (by kernel_rfl) (by kernel_rfl) ?_
      repeat (quiet_step (exact cE _ _))
      refine wpQuiet_nil ?_
      intro _ hw'
      obtain ⟨⟨dq, osq⟩, hw''⟩ := hw'
      subst hw''
      have hb3 := hb.trans ((below_regrown wr dq osq).mono hb.size)
      clear cE kp0 kr0 kp1 kr1 kp2 kr2 kp3 kr3
      go_wp2
      go_roundw
      case rel => exact ⟨k + 1, by omega, by go_num, hb3⟩
      case measure => simp [Go.RowKit.intOf]; omega
    · go_wp2
      go_ret
      exact ⟨rfl, hb⟩
theorem eqBinding : EqBinding := eqBinding_step
theorem eqBindingS : EqBindingS := eqBindingS_step eqBinding
end Go.Proofs.YtngbilblddngcaaDoor
namespace Go.Proofs.YtngbilblddngcaaDoor
open Go.RowKit Go.Lib

theorem TypeX.tcnt_eq (x : TypeX) : tcntL x.cells = DV.cntE (TypeX.rows x.args_) := by
  rw [TypeX.cells_eq]
  simp only [tcntL, DV.tcnt]
  omega
theorem TypeX.tmk_eq (x : TypeX) (k : Nat) : tmkL k x.cells = [.pl (.int .i64 x.kind_), .pl (.string x.name_), .row 26 3 (vmkE (k) (TypeX.rows x.args_))] := by
  rw [TypeX.cells_eq]
  simp only [tmkL, DV.tmk, DV.tcnt, Nat.add_zero]
set_option maxRecDepth 100000 in
set_option maxHeartbeats 2000000 in
theorem markVType (x : TypeX) (vs : List Value) (k B : Nat) (bs : List Nat) (w : World) (hO : OwVs w B x.cells vs bs) (hnd : bs.Nodup) (hk0 : 0 < k) (hk : k + tcntL x.cells ≤ 4398046511104) :
    Calls Tryd.prog 29 #[.agg vs.toArray, .int .i64 k] w fun e w' => e = .returned (.int .i64 (k + tcntL x.cells : Nat)) ∧ OwVs w' B (tmkL k x.cells) vs bs ∧ ButV bs w w' := by
  rw [TypeX.tcnt_eq] at hk ⊢
  rw [TypeX.tmk_eq]
  rw [TypeX.cells_eq] at hO
  have hO2 := hO
  simp only [OwVs] at hO2
  obtain ⟨v0, _, y0, _, z0, -, h0, v1, _, y1, _, z1, -, h1, v2, _, y2, _, z2, -, h2, z3, -⟩ := hO2
  subst z3 z2 z1 z0
  rw [OwV] at h0
  obtain ⟨rfl, -⟩ := h0
  rw [OwV] at h1
  obtain ⟨rfl, -⟩ := h1
  obtain ⟨A2, c2, rfl⟩ := OwV_shape h2 (TypeX.rows_length _)
  clear h2
  have hb0 : Below w.heap.size w (w.alloc (.cells #[.int .i64 x.kind_, .string x.name_, .slice A2 x.args_.length c2] 26)) := (Below.refl _ _).alloc (Nat.le_refl _) _
  have hO := OwVs_below hO hb0
  have hb := ButV.of_below (bs := bs) hb0
  have HND := Lib.hid hnd
  clear hnd hb0
  go_enter Tryd.func29, Tryd.ntmps29
  go_wp2_with fail
  obtain ⟨v, bd, hv, hod, hndd, hsub, hput⟩ := OwVs_focus hO HND.out (c := 2) rfl
  obtain rfl : .slice A2 x.args_.length c2 = v := Option.some.inj hv
  refine (markTypeS x.args_ A2 c2 (k) B bd _ hod hndd (by omega) (by omega)).mono ?_
  rintro e w1 ⟨rfl, hO3, hb3⟩
  have hO := hput w1 _ hO3 (fun b hm hn => hb3.block b (OwVs_lt _ hO b hm).2 hn)
  have hb := hb.trans (hb3.more hsub)
  have hO : OwVs w1 B [.pl (.int .i64 x.kind_), .pl (.string x.name_), .row 26 3 (vmkE (k) (TypeX.rows x.args_))] [.int .i64 x.kind_, .string x.name_, .slice A2 x.args_.length c2] bs := hO
  clear hO3 hb3 hput hsub hndd hod hv
  have HF := Lib.hid hO
  have HB := Lib.hid hb
  clear hO hb
  go_wp2
  go_ret
  exact ⟨rfl, HF.out, HB.out⟩
end Go.Proofs.YtngbilblddngcaaDoor

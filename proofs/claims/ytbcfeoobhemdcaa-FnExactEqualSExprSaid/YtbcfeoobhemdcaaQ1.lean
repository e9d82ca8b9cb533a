/- Texts that the claims share, joined. -/
import Derived.WalkKit
import Derived.Laws.BytesArg
import Derived.Laws.OwnMore
import Derived.Test.YtbcfeoobhemdcaaProg
import Derived.Outline
import Derived.Lib.Hide
import Derived.Lib.Join
import Derived.Lib.AppendStr
import Derived.Laws.IdiomStrings
import Derived.Laws.MakeOwn
import Derived.BigQuiet
import Derived.OwnWalkIn
import Derived.Maps.AppendAt
import Derived.Tactics
import Derived.Laws.RangeAny
import Derived.Shelf.Strings.Builder1
import Derived.Shelf.Strings.Builder2
import Derived.Shelf.Strings.OnBuilder
namespace Go.Proofs.Ytbcfeoobhemdcaa
open Go.RowKit

/-- A slice of one byte, just made, becomes the string of that byte. -/
theorem conv_one {P : Program} {src dst e : TypeId} (hs : P.underlying src = some (.slice e)) (he : P.underlying e = some (.int .u8)) (hd : P.underlying dst = some .string) (w : World) (z : Int) :
    (convert src dst (.slice (some ⟨w.heap.size, 0, none⟩) 1 1)).run P (w.alloc (.cells #[.int .u8 z] e)) = .ok (.string ⟨#[UInt8.ofNat z.toNat]⟩) (w.alloc (.cells #[.int .u8 z] e)) := by
  have h := run_convert_bytes_arg (P := P) (w.alloc (.cells #[.int .u8 z] e)) src e hs he w.heap.size 0 1 1 [z] rfl (fun i hi => by
    obtain rfl : i = 0 := by omega
    simp) dst hd
  rw [h]
  rfl
theorem append_byte (b : UInt8) (l : List UInt8) : (⟨#[b]⟩ : ByteArray) ++ (⟨l.toArray⟩ : ByteArray) = ⟨(b :: l).toArray⟩ := by
  apply ByteArray.ext
  simp
theorem ret_str {a b : ByteArray} (h : a = b) : Ending.returned (.string a) = .returned (.string b) := by rw [h]
theorem ret_int {k : IntKind} {a b : Int} (h : a = b) : Ending.returned (.int k a) = .returned (.int k b) := by rw [h]
theorem int_of {k : IntKind} {a b : Int} (h : a = b) : Value.int k a = .int k b := by rw [h]
theorem str_of {a b : ByteArray} (h : a = b) : Value.string a = .string b := by rw [h]

/-- Two new cells, then a world that only grew: what they hold. -/
theorem two_cells {w w1 : World} {a b : Value} {s t : TypeId} (h : Below ((w.alloc (.cells #[a] s)).alloc (.cells #[b] t)).heap.size ((w.alloc (.cells #[a] s)).alloc (.cells #[b] t)) w1) :
    w1.cell? ⟨w.heap.size, 0, none⟩ = some a ∧ w1.frozen? ⟨w.heap.size, 0, none⟩ = false ∧ w1.cell? ⟨w.heap.size + 1, 0, none⟩ = some b ∧ w1.frozen? ⟨w.heap.size + 1, 0, none⟩ = false ∧ Below w.heap.size w w1 ∧ w.heap.size + 1 < w1.heap.size := by
  have hz := h.size
  simp at hz
  refine ⟨(h.cell (p := ⟨w.heap.size, 0, none⟩) (by simp; omega)).trans (by simp [go_sem]), (h.frozen (p := ⟨w.heap.size, 0, none⟩) (by simp; omega)).trans (by simp [go_sem]),
    (h.cell (p := ⟨w.heap.size + 1, 0, none⟩) (by simp)).trans (by simp [go_sem]), (h.frozen (p := ⟨w.heap.size + 1, 0, none⟩) (by simp)).trans (by simp [go_sem]), ?_, by omega⟩
  exact (((Below.refl w.heap.size w).alloc (Nat.le_refl _) _).alloc (by simp) _).trans (h.mono (by simp; omega))
/-- The two cells written: what they hold. -/
theorem two_set {w w1 : World} {a b u v : Value} {B : Nat} (c1 : w1.cell? ⟨w.heap.size, 0, none⟩ = some a) (c2 : w1.cell? ⟨w.heap.size + 1, 0, none⟩ = some b) (hb : Below w.heap.size w w1) (hB : B = w.heap.size) :
    ((w1.setCell ⟨w.heap.size, 0, none⟩ u).setCell ⟨w.heap.size + 1, 0, none⟩ v).cell? ⟨w.heap.size, 0, none⟩ = some u ∧ ((w1.setCell ⟨w.heap.size, 0, none⟩ u).setCell ⟨w.heap.size + 1, 0, none⟩ v).cell? ⟨w.heap.size + 1, 0, none⟩ = some v ∧
      Below B w ((w1.setCell ⟨w.heap.size, 0, none⟩ u).setCell ⟨w.heap.size + 1, 0, none⟩ v) := by
  subst hB
  have hne : (⟨w.heap.size + 1, 0, none⟩ : Addr) ≠ ⟨w.heap.size, 0, none⟩ := by intro e; injection e with e; omega
  have c2' : (w1.setCell ⟨w.heap.size, 0, none⟩ u).cell? ⟨w.heap.size + 1, 0, none⟩ = some b := (World.cell?_setCell_other w1 _ _ _ (Ne.symm hne)).trans c2
  refine ⟨(World.cell?_setCell_other _ _ _ _ hne).trans (World.cell?_setCell_same _ _ _ c1), World.cell?_setCell_same _ _ _ c2', (hb.setCell (by simp) _).setCell (by simp) _⟩
end Go.Proofs.Ytbcfeoobhemdcaa
namespace Go.Proofs.Ytbcfeoobhemdcaa
open Go.RowKit

/-- The slice at A reads as these strings. -/
def Strs (w : World) (A : Option Addr) (ss : List ByteArray) : Prop :=
  ss = [] ∨ ∃ g o, A = some ⟨g, o, none⟩ ∧ g < w.heap.size ∧ ∀ j s, ss[j]? = some s → w.cell? ⟨g, o + j, none⟩ = some (.string s)
theorem Strs.below {w w' : World} {A : Option Addr} {ss : List ByteArray} (h : Strs w A ss) (hb : Below w.heap.size w w') : Strs w' A ss := by
  rcases h with h | ⟨g, o, hA, hg, hc⟩
  · exact .inl h
  · exact .inr ⟨g, o, hA, Nat.lt_of_lt_of_le hg hb.size, fun j s hj => (hb.cell (p := ⟨g, o + j, none⟩) hg).trans (hc j s hj)⟩
/-- Where there is a string at j: the address, and what lies there. -/
theorem Strs.at_ {w : World} {A : Option Addr} {ss : List ByteArray} (h : Strs w A ss) {j : Nat} (hj : j < ss.length) :
    ∃ g o, A = some ⟨g, o, none⟩ ∧ w.cell? ⟨g, o + j, none⟩ = some (.string ss[j]) := by
  rcases h with h | ⟨g, o, hA, _, hc⟩
  · subst h; simp at hj
  · exact ⟨g, o, hA, hc j _ (List.getElem?_eq_getElem hj)⟩

/-- A block known whole: just these cells of this type, none closed to writing. -/
def Whole (w : World) (g : Nat) (t : TypeId) (cs : Array Value) : Prop := w.heap[g]? = some (.cells cs t (0, 0))
theorem Whole.lt {w : World} {g : Nat} {t : TypeId} {cs : Array Value} (h : Whole w g t cs) : g < w.heap.size := by
  unfold Whole at h
  rcases Nat.lt_or_ge g w.heap.size with h1 | h1
  · exact h1
  · rw [Array.getElem?_eq_none h1] at h; cases h
theorem Whole.cell {w : World} {g : Nat} {t : TypeId} {cs : Array Value} (h : Whole w g t cs) (i : Nat) : w.cell? ⟨g, i, none⟩ = cs[i]? := by
  unfold Whole at h
  simp [World.cell?, h]
theorem Whole.frozen {w : World} {g : Nat} {t : TypeId} {cs : Array Value} (h : Whole w g t cs) (i : Nat) : w.frozen? ⟨g, i, none⟩ = false := by
  unfold Whole at h
  simp [World.frozen?, h]
theorem Whole.new (w : World) (t : TypeId) (cs : Array Value) : Whole (w.alloc (.cells cs t)) w.heap.size t cs := by
  show (w.heap.push _)[w.heap.size]? = _
  simp
theorem Whole.below {w w' : World} {g B : Nat} {t : TypeId} {cs : Array Value} (h : Whole w g t cs) (hb : Below B w w') (hg : g < B) : Whole w' g t cs := (hb.block g hg).trans h
theorem Whole.set_ {w : World} {g : Nat} {t : TypeId} {cs : Array Value} (h : Whole w g t cs) (i : Nat) (v : Value) : Whole (w.setCell ⟨g, i, none⟩ v) g t (cs.setIfInBounds i v) := by
  unfold Whole at h ⊢
  simp [World.setCell, Array.getElem?_modify, h]
theorem Whole.strs {w : World} {g : Nat} {t : TypeId} {ss : List ByteArray} (h : Whole w g t (ss.map Value.string).toArray) : Strs w (some ⟨g, 0, none⟩) ss :=
  .inr ⟨g, 0, rfl, h.lt, fun j s hj => by rw [h.cell, Nat.zero_add]; simp [hj]⟩

/-- A store elsewhere. -/
theorem cell_far {w : World} {p : Addr} {v : Value} {b o : Nat} (h : p.block ≠ b) : (w.setCell p v).cell? ⟨b, o, none⟩ = w.cell? ⟨b, o, none⟩ :=
  World.cell?_setCell_other _ _ _ _ (fun e => h (by rw [e]))
/-- All blocks but g are as they were; the streams are as they were. -/
structure But (g : Nat) (w w' : World) : Prop where
  os : w'.os = w.os
  tape : w'.tape = w.tape
  output : w'.output = w.output
  size : w.heap.size ≤ w'.heap.size
  block : ∀ k, k < w.heap.size → k ≠ g → w'.heap[k]? = w.heap[k]?
theorem But.refl (g : Nat) (w : World) : But g w w := ⟨rfl, rfl, rfl, Nat.le_refl _, fun _ _ _ => rfl⟩
theorem But.trans {g : Nat} {a b c : World} (h : But g a b) (k : But g b c) : But g a c :=
  ⟨k.os.trans h.os, k.tape.trans h.tape, k.output.trans h.output, Nat.le_trans h.size k.size, fun i hi hg => (k.block i (Nat.lt_of_lt_of_le hi h.size) hg).trans (h.block i hi hg)⟩
theorem But.of_below {g : Nat} {w w' : World} (h : Below w.heap.size w w') : But g w w' := ⟨h.os, h.tape, h.output, h.size, fun k hk _ => h.block k hk⟩
theorem But.set_ (g : Nat) (w : World) (i : Nat) (v : Value) : But g w (w.setCell ⟨g, i, none⟩ v) :=
  ⟨rfl, rfl, rfl, by simp [World.setCell], fun k _ hg => Below.heap_setCell _ _ _ _ hg⟩
theorem But.to_below {g B : Nat} {w w' : World} (h : But g w w') (hg : B ≤ g) (hB : B ≤ w.heap.size) : Below B w w' :=
  ⟨h.os, h.tape, h.output, h.size, fun k hk => h.block k (by omega) (by omega)⟩
theorem But.strs {g b o : Nat} {w w' : World} {ss : List ByteArray} (hb : But g w w') (h : ∀ j s, ss[j]? = some s → w.cell? ⟨b, o + j, none⟩ = some (.string s)) (hlt : b < w.heap.size) (hne : b ≠ g) : Strs w' (some ⟨b, o, none⟩) ss :=
  .inr ⟨b, o, rfl, Nat.lt_of_lt_of_le hlt hb.size, fun j s hj => (World.cell?_of_block (w := w) (w' := w') (a := ⟨b, o + j, none⟩) (hb.block b hlt hne)).trans (h j s hj)⟩

/-- The result's two cells written. -/
theorem res_set {w w1 : World} {a b : Value} {t : TypeId} (hw : Whole w1 w.heap.size t #[a, b]) (hb : Below w.heap.size w w1) (u v : Value) :
    ∀ w2, w2 = (w1.setCell ⟨w.heap.size, 0, none⟩ u).setCell ⟨w.heap.size, 1, none⟩ v → w2.cell? ⟨w.heap.size, 0, none⟩ = some u ∧ w2.cell? ⟨w.heap.size, 1, none⟩ = some v ∧ Below w.heap.size w w2 ∧ (∀ k, k ≠ w.heap.size → w2.heap[k]? = w1.heap[k]?) ∧ w2.heap.size = w1.heap.size := by
  rintro w2 rfl
  have h := (hw.set_ 0 u).set_ 1 v
  refine ⟨by rw [h.cell]; rfl, by rw [h.cell]; rfl, (hb.setCell (by simp) _).setCell (by simp) _, fun k hk => ?_, by simp⟩
  rw [Below.heap_setCell _ _ _ _ (by exact hk), Below.heap_setCell _ _ _ _ (by exact hk)]
end Go.Proofs.Ytbcfeoobhemdcaa
namespace Go.Proofs.Ytbcfeoobhemdcaa
open Go.RowKit

theorem infoString : (Try.prog.info? 9).map (fun i => (i.zero, i.size, i.bytes)) = some (some (.string ByteArray.empty), 1, 16) := by kernel_rfl
theorem news_one (w : World) (t : TypeId) (x : Value) : ∀ (j : Nat) (u : Value), [x][j]? = some u → (w.alloc (.cells #[x] t)).cell? ((⟨w.heap.size, 0, none⟩ : Addr).add j) = some u := by
  intro j u hj
  match j, hj with
  | 0, hj => simp at hj; subst hj; simp [Addr.add]
theorem one_string (x : ByteArray) : ∀ u ∈ [Value.string x], u.oneCell' = true := by
  intro u hu
  simp at hu
  subst hu
  rfl
theorem strs_map (d : List ByteArray) (x : ByteArray) : d.map Value.string ++ [.string x] = (d ++ [x]).map Value.string := by simp

/-- What is owned stays so under a call that turns nothing that was there. -/
theorem owns_below {B : Nat} {e : TypeId} {k : Nat} {v : Value} {n : Nat} {xs : List Value} {w w' : World} (h : w.ownsRow B e k v n xs) (hb : Below w.heap.size w w') : w'.ownsRow B e k v n xs :=
  h.kept (row := none) ⟨hb.os, hb.tape, hb.output, hb.size, fun j hj _ => hb.block j hj⟩ (by cases hv : v.ownBlock <;> simp)
/-- An owned row of strings reads as them. -/
theorem strs_own {w : World} {B : Nat} {e : TypeId} {v : Value} {d : List ByteArray} (h : w.ownsRow B e 1 v d.length (d.map Value.string)) : ∃ A c, v = .slice A d.length c ∧ Strs w A d := by
  rcases h.2 with ⟨rfl, h0⟩ | ⟨g, cap, cur, rfl, _⟩
  · exact ⟨none, 0, by rw [h0], .inl (List.eq_nil_of_length_eq_zero h0)⟩
  · refine ⟨_, cap, rfl, .inr ⟨g, 0, rfl, (h.lt g rfl).2, fun j s hj => ?_⟩⟩
    have hjl : j < d.length := by
      rcases Nat.lt_or_ge j d.length with h | h
      · exact h
      · rw [List.getElem?_eq_none h] at hj; cases hj
    rw [Nat.zero_add, World.ownsRow.cellAt h j (by omega), List.getElem?_map, hj]
    rfl
theorem own_same {w w' : World} {B size n : Nat} {e : TypeId} {v : Value} {xs : List Value} (h : w.ownsRow B e size v n xs) (hb : ∀ b, v.ownBlock = some b → w'.heap[b]? = w.heap[b]?) : w'.ownsRow B e size v n xs := by
  refine ⟨h.1, ?_⟩
  rcases h.2 with hn | ⟨g, cap, cur, rfl, hbg, hg, rest⟩
  · exact .inl hn
  · exact .inr ⟨g, cap, cur, rfl, hbg, (hb g rfl).trans hg, rest⟩
end Go.Proofs.Ytbcfeoobhemdcaa
namespace Go.Proofs.Ytbcfeoobhemdcaa
open Go.RowKit

/-- A byte of an atom. -/
def okByte (c : UInt8) : Bool := (decide (97 ≤ c.toNat) && decide (c.toNat ≤ 122)) || (decide (48 ≤ c.toNat) && decide (c.toNat ≤ 57)) || (c.toNat == 39) || (c.toNat == 45) || (c.toNat == 43) || (c.toNat == 42) || (c.toNat == 60) || (c.toNat == 61) || (c.toNat == 46)

set_option maxRecDepth 100000 in
set_option maxHeartbeats 1000000 in
theorem byteIs (c : UInt8) (w : World) : Calls Try.prog 130 #[.int .u8 c.toNat] w fun e w' => e = .returned (.bool (okByte c)) ∧ w = w' := by
  go_enter Try.func130, Try.ntmps130
  go_wp2
  go_ways
  all_goals (
    go_ret
    refine ⟨congrArg (fun b => Ending.returned (.bool b)) ?_, rfl⟩
    rw [Bool.eq_iff_iff]
    simp only [okByte, Bool.or_eq_true, Bool.and_eq_true, decide_eq_true_eq, beq_iff_eq, true_iff]
    omega)

theorem within (x lo hi : Int) (w : World) : Calls Try.prog 143 #[.int .i64 x, .int .i64 lo, .int .i64 hi] w fun e w' => e = .returned (.bool (decide (lo ≤ x ∧ x ≤ hi))) ∧ w = w' := by
  by_cases h1 : lo ≤ x
  · go_enter Try.func143, Try.ntmps143
    go_wp2
    go_ret
    refine ⟨congrArg (fun b => Ending.returned (.bool b)) ?_, rfl⟩
    rw [Bool.eq_iff_iff]
    simp [h1]
  · go_enter Try.func143, Try.ntmps143
    go_wp2
    go_ret
    refine ⟨congrArg (fun b => Ending.returned (.bool b)) ?_, rfl⟩
    rw [Bool.eq_iff_iff]
    simp
    omega
/-- What an atom is. -/
def okAtom (a : ByteArray) : Bool := a.data.toList.all okByte && decide (1 ≤ a.size ∧ a.size ≤ 12)
theorem all_take_snoc (s : ByteArray) (k : Nat) (h : k < s.size) : (s.data.toList.take (k + 1)).all okByte = ((s.data.toList.take k).all okByte && okByte s[k]) := by
  rw [List.take_succ_eq_append_getElem (by simpa using h)]
  simp
  rfl
theorem all_not {s : ByteArray} {k : Nat} (h : k < s.size) (hc : okByte s[k] = false) : okAtom s = false := by
  have : s.data.toList.all okByte = false := by
    rw [List.all_eq_false]
    exact ⟨s[k], by simp [Array.mem_iff_getElem]; exact ⟨k, h, rfl⟩, by simp [hc]⟩
  rw [okAtom, this, Bool.false_and]

set_option maxRecDepth 100000 in
set_option maxHeartbeats 1000000 in
theorem validAtom (s : ByteArray) (w : World) (hs : s.size ≤ 9223372036854775807) : Calls Try.prog 116 #[.string s] w fun e w' => e = .returned (.bool (okAtom s)) ∧ w = w' := by
  go_enter Try.func116, Try.ntmps116
  go_wp2
  go_loopw [3] (fun iv wr => ∃ k : Nat, k ≤ s.size ∧ iv = .int .i64 k ∧ (s.data.toList.take k).all okByte = true ∧ w = wr) (fun iv _ => s.size - (Go.RowKit.intOf iv).toNat)
  case atStart => exact ⟨0, Nat.zero_le _, rfl, rfl, rfl⟩
  case round =>
    obtain ⟨k, hk, rfl, ha, rfl⟩ := hrel
    by_cases hlt : k < s.size
    · have hst := all_take_snoc s k hlt
      have hno := @all_not s k hlt
      rw [ha, Bool.true_and] at hst
      have HS := Lib.hid hst
      have HN := Lib.hid hno
      have HA := Lib.hid ha
      clear hst hno ha
      go_wp2_with fail
      refine (byteIs s[k] _).mono ?_
      rintro e w1 ⟨rfl, rfl⟩
      cases hc : okByte s[k] with
      | true =>
        have HC := Lib.hid hc
        clear hc
        go_wp2
        go_roundw
        case rel => exact ⟨k + 1, by omega, by go_num, by rw [HS.out, HC.out], trivial⟩
        case measure => simp [Go.RowKit.intOf]; omega
      | false =>
        have HC := Lib.hid hc
        clear hc
        go_wp2
        go_ret
        exact ⟨congrArg (fun b => Ending.returned (.bool b)) (HN.out HC.out).symm, rfl⟩
    · have hkl : k = s.size := by omega
      subst hkl
      have hall : s.data.toList.all okByte = true := by rw [List.take_of_length_le (by simp)] at ha; exact ha
      have HA := Lib.hid hall
      clear ha hall
      go_wp2_with fail
      refine (within _ _ _ _).mono ?_
      rintro e w1 ⟨rfl, rfl⟩
      go_wp2
      go_ret
      refine ⟨congrArg (fun b => Ending.returned (.bool b)) ?_, rfl⟩
      rw [okAtom, HA.out, Bool.true_and]
      rw [Bool.eq_iff_iff]
      simp only [Bool.and_eq_true, decide_eq_true_eq]
      omega
end Go.Proofs.Ytbcfeoobhemdcaa
namespace Go.Proofs.Ytbcfeoobhemdcaa
open Go.RowKit

set_option maxRecDepth 100000 in
set_option maxHeartbeats 1000000 in
theorem maxOf (a b : Nat) (w : World) : Calls Try.prog 80 #[.int .i64 a, .int .i64 b] w fun e w' => e = .returned (.int .i64 (max a b : Nat)) ∧ w = w' := by
  by_cases h1 : b < a
  · go_enter Try.func80, Try.ntmps80
    go_wp2
    go_ret
    exact ⟨ret_int (by omega), rfl⟩
  · go_enter Try.func80, Try.ntmps80
    go_wp2
    go_ret
    exact ⟨ret_int (by omega), rfl⟩
end Go.Proofs.Ytbcfeoobhemdcaa
namespace Go.Proofs.Ytbcfeoobhemdcaa
open Go.RowKit Go.Lib

def sizes (ss : List ByteArray) : Nat := (ss.map (·.size)).sum
theorem sizes_take (ss : List ByteArray) (k : Nat) (h : k < ss.length) : sizes (ss.take (k + 1)) = sizes (ss.take k) + ss[k].size := by
  rw [List.take_succ_eq_append_getElem h, sizes, List.map_append, List.sum_append]
  simp [sizes]
theorem sizes_le (ss : List ByteArray) (k : Nat) : sizes (ss.take k) ≤ sizes ss := by
  have h : ss = ss.take k ++ ss.drop k := (List.take_append_drop k ss).symm
  have h2 : sizes ss = sizes (ss.take k) + sizes (ss.drop k) := by
    conv => lhs; rw [h]
    simp only [sizes, List.map_append, List.sum_append]
  omega

theorem join_take_one (d : List (List UInt8)) (sep : List UInt8) (h : 0 < d.length) : join (d.take 1) sep = d[0] := by
  match d, h with
  | x :: r, _ => rw [List.take_succ_cons, List.take_zero, join_one]; rfl
theorem join_take_succ (d : List (List UInt8)) (sep : List UInt8) (k : Nat) (h0 : 0 < k) (h : k < d.length) : join (d.take (k + 1)) sep = join (d.take k) sep ++ sep ++ d[k] := by
  match d, k, h0, h with
  | x :: r, k + 1, _, h =>
    have hr : k < r.length := by simp at h; omega
    rw [List.take_succ_cons, List.take_succ_cons, join_cons, join_cons, joinTail_take_succ sep r k r[k] (List.getElem?_eq_getElem hr)]
    simp [List.append_assoc]
theorem join_length_le (d : List (List UInt8)) (sep : List UInt8) : (join d sep).length ≤ sep.length * d.length + lens d := by
  cases d with
  | nil => simp [join_nil]
  | cons x r =>
    rw [join_length, List.length_cons, Nat.mul_add]
    omega
theorem lens_sizes (ss : List ByteArray) : lens (ss.map (·.data.toList)) = sizes ss := by
  simp [lens, sizes, Function.comp_def]
/-- How long what is joined may become. -/
theorem joined_le (ss : List ByteArray) (sep : ByteArray) (k : Nat) (h1 : ss.length + sizes ss ≤ 1048576) (h2 : sep.size ≤ 1048576) : (join ((ss.map (·.data.toList)).take k) sep.data.toList).length ≤ 1099512676352 := by
  have h := join_length_le ((ss.map (·.data.toList)).take k) sep.data.toList
  have hl := lens_take_le (ss.map (·.data.toList)) k
  rw [lens_sizes] at hl
  have hn : ((ss.map (·.data.toList)).take k).length ≤ 1048576 := by
    have := List.length_take_le k (ss.map (·.data.toList))
    rw [List.length_take, List.length_map]
    omega
  have hs : sep.data.toList.length ≤ 1048576 := by simpa using h2
  have hm := Nat.mul_le_mul hs hn
  omega
end Go.Proofs.Ytbcfeoobhemdcaa
namespace Go.Proofs.Ytbcfeoobhemdcaa
open Go.RowKit Go.Lib

theorem infoByte : (Try.prog.info? 5).map (fun i => (i.zero, i.size, i.bytes)) = some (some (.int .u8 0), 1, 1) := by kernel_rfl
def bv (b : UInt8) : Value := .int .u8 b.toNat
theorem strCells_bv (s : ByteArray) : strCells s = s.data.toList.map bv := rfl

set_option maxRecDepth 100000 in
set_option maxHeartbeats 2000000 in
theorem specJoin (A : Option Addr) (c : Nat) (ss : List ByteArray) (sep : ByteArray) (w : World) (hA : Strs w A ss) (h1 : ss.length + sizes ss ≤ 1048576) (h2 : sep.size ≤ 1048576) :
    Calls Try.prog 115 #[.slice A ss.length c, .string sep] w fun e w' => e = .returned (.string ⟨(join (ss.map (·.data.toList)) sep.data.toList).toArray⟩) ∧ Below w.heap.size w w' := by
  obtain ⟨i0, hi, hz0, hz1, hz2⟩ := info_parts infoByte
  have HA := Lib.hid hA
  have hbl := fun k => joined_le ss sep k h1 h2
  have HBL := Lib.hid hbl
  have hml : (ss.map (·.data.toList)).length = ss.length := by simp
  have HML := Lib.hid hml
  clear hA hbl hml
  go_enter Try.func115, Try.ntmps115
  go_wp2
  go_loopw [5, 6] (fun v iv wr => ∃ k : Nat, k ≤ ss.length ∧ iv = .int .i64 k ∧ wr.ownsRow w.heap.size 5 1 v (join ((ss.map (·.data.toList)).take k) sep.data.toList).length ((join ((ss.map (·.data.toList)).take k) sep.data.toList).map bv) ∧ Below w.heap.size w wr) (fun _ iv _ => ss.length - (Go.RowKit.intOf iv).toNat)
  case atStart => exact ⟨0, Nat.zero_le _, rfl, World.ownsRow_made w #[] 0 (Nat.le_refl _) (by decide) rfl, (Below.refl _ _).alloc (Nat.le_refl _) _⟩
  case round =>
    obtain ⟨k, hk, rfl, hown, hb⟩ := hrel
    by_cases hlt : k < ss.length
    · have hkm : k < (ss.map (·.data.toList)).length := by rw [HML.out]; exact hlt
      have hkd : (ss.map (·.data.toList))[k] = ss[k].data.toList := by simp
      have hz : ss[k].size ≤ 1048576 := by have := sizes_take ss k hlt; have := sizes_le ss (k + 1); omega
      by_cases h0 : 0 < k
      · have hst := join_take_succ (ss.map (·.data.toList)) sep.data.toList k h0 hkm
        rw [hkd] at hst
        have HS := Lib.hid hst
        have hb0 := HBL.out k
        have hb1 := HBL.out (k + 1)
        have hk1 : (join ((ss.map (·.data.toList)).take k) sep.data.toList).length ≤ 1099512676352 := hb0
        clear hst hkd hkm hb0 hb1
        generalize hJ : join ((ss.map (·.data.toList)).take k) sep.data.toList = J at *
        have HJ := Lib.hid hJ
        clear hJ
        go_wp2_with (at_builtin; refine wpList_append_own_string _ rfl _ _ 22 9 rfl w.heap.size 5 i0 Try.underlying22 Try.underlying9 hi hz0 hz1 hz2 _ _ _ rfl hown sep rfl (by unfold maxLen; omega) (by omega) hb.size ?_)
        intro v1 w1 hown1 hgrow1 _
        have hbe1 : Below w.heap.size w w1 := hb.grown hgrow1 hb.size (fun q hq => (hown.lt q hq).1)
        obtain ⟨g, o, rfl, hc⟩ := (HA.out.below hbe1).at_ hlt
        go_wp2_with (at_builtin; refine wpList_append_own_string _ rfl _ _ 22 9 rfl w.heap.size 5 i0 Try.underlying22 Try.underlying9 hi hz0 hz1 hz2 _ _ _ rfl hown1 ss[k] rfl (by unfold maxLen; omega) (by omega) hbe1.size ?_)
        intro v2 w2 hown2 hgrow2 _
        have hbe2 : Below w.heap.size w w2 := hbe1.grown hgrow2 hbe1.size (fun q hq => (hown1.lt q hq).1)
        have e1 : (J ++ sep.data.toList ++ ss[k].data.toList).length = J.length + sep.size + ss[k].size := by simp [List.length_append]; omega
        have e2 : (J ++ sep.data.toList ++ ss[k].data.toList).map bv = J.map bv ++ (strCells sep ++ strCells ss[k]) := by simp [strCells_bv]
        rw [← e1, ← e2, ← HS.out] at hown2
        have HO := Lib.hid hown2
        clear e1 e2 hown hown1 hown2 hgrow1 hgrow2
        go_wp2
        go_roundw
        case rel => exact ⟨k + 1, by omega, by go_num, HO.out, hbe2⟩
        case measure => simp [Go.RowKit.intOf]; omega
      · have hk0 : k = 0 := by omega
        subst hk0
        obtain ⟨g, o, rfl, hc⟩ := (HA.out.below hb).at_ hlt
        rw [Nat.add_zero] at hc
        have hst := join_take_one (ss.map (·.data.toList)) sep.data.toList hkm
        rw [hkd] at hst
        have HS := Lib.hid hst
        have hown0 := hown
        simp only [List.take_zero, join_nil, List.length_nil, List.map_nil] at hown0
        clear hst hkd hkm
        go_wp2_with (at_builtin; refine wpList_append_own_string _ rfl _ _ 22 9 rfl w.heap.size 5 i0 Try.underlying22 Try.underlying9 hi hz0 hz1 hz2 _ _ _ rfl hown0 ss[0] rfl (by unfold maxLen; omega) (by omega) hb.size ?_)
        intro v2 w2 hown2 hgrow2 _
        have hbe2 : Below w.heap.size w w2 := hb.grown hgrow2 hb.size (fun q hq => (hown.lt q hq).1)
        have hown3 : w2.ownsRow w.heap.size 5 1 v2 (join ((ss.map (·.data.toList)).take 1) sep.data.toList).length ((join ((ss.map (·.data.toList)).take 1) sep.data.toList).map bv) := by
          rw [HS.out]
          simpa [join_nil, strCells_bv] using hown2
        have HO := Lib.hid hown3
        clear hown hown0 hown2 hown3 hgrow2
        go_wp2
        go_roundw
        case rel => exact ⟨1, by omega, rfl, HO.out, hbe2⟩
        case measure => simp [Go.RowKit.intOf]; omega
    · have hkl : k = ss.length := by omega
      subst hkl
      have hall : (ss.map (·.data.toList)).take ss.length = ss.map (·.data.toList) := List.take_of_length_le (by rw [HML.out]; exact Nat.le_refl _)
      rw [hall] at hown
      clear hall
      generalize hJ : join (ss.map (·.data.toList)) sep.data.toList = J at *
      have HJ := Lib.hid hJ
      clear hJ
      rcases hown.2 with ⟨rfl, hj0⟩ | ⟨g, cap, cur, rfl, _⟩
      · have hJ0 : J = [] := List.eq_nil_of_length_eq_zero hj0
        subst hJ0
        have kc := run_convert_bytes_nil (P := Try.prog) wr 22 5 Try.underlying22 Try.underlying5 0 0 9 Try.underlying9
        go_wp2
        go_ret
        exact ⟨ret_str (by rw [HJ.out]; rfl), hb⟩
      · have kc := run_convert_bytes_back (P := Try.prog) wr 22 9 5 ⟨g, 0, none⟩ cap J Try.underlying22 Try.underlying5 Try.underlying9 (fun j hj => by
          have h := hown.cells (g := g) rfl j (bv J[j]) (by rw [List.getElem?_map, List.getElem?_eq_getElem hj]; rfl)
          exact h)
        go_wp2
        go_ret
        exact ⟨ret_str (by rw [HJ.out]), hb⟩
end Go.Proofs.Ytbcfeoobhemdcaa
namespace Go.Proofs.Ytbcfeoobhemdcaa
open Go.RowKit

/-- The last element taken off a row of the call's own. -/
theorem own_pop {w : World} {B g cap n size : Nat} {e : TypeId} {xs ys : List Value} (h : w.ownsRow B e size (.slice (some ⟨g, 0, none⟩) (n + 1) cap) (n + 1) (xs ++ ys)) (hx : xs.length = n * size) (_hy : ys.length = size) :
    w.ownsRow B e size (.slice (some ⟨g, 0, none⟩) n cap) n xs ∧ (∀ j, j < size → w.cell? ⟨g, n * size + j, none⟩ = ys[j]?) ∧ n + 1 ≤ cap ∧ cap ≤ maxLen ∧ B ≤ g ∧ g < w.heap.size := by
  have hc : ∀ j, j < size → w.cell? ⟨g, n * size + j, none⟩ = ys[j]? := fun j hj => by
    rw [World.ownsRow.cellAt h _ (by rw [Nat.add_mul]; omega), List.getElem?_append_right (by omega)]
    congr 1
    omega
  have hlt := h.lt g rfl
  rcases h.2 with ⟨h', _⟩ | ⟨g', cap', cur, h', hb, hg, hnc, hcm, hcs, htake⟩
  · simp at h'
  · simp only [Value.slice.injEq, Option.some.injEq, Addr.mk.injEq, and_true, true_and] at h'
    obtain ⟨rfl, rfl⟩ := h'
    refine ⟨⟨hx, .inr ⟨g, cap, cur, rfl, hb, hg, by omega, hcm, hcs, ?_⟩⟩, hc, hnc, hcm, hb, hlt.2⟩
    have h2 := congrArg (List.take (n * size)) htake
    rw [List.take_take, Nat.min_eq_left (Nat.mul_le_mul_right _ (by omega)), List.take_append_of_le_length (by omega), List.take_of_length_le (l := xs) (by omega)] at h2
    exact h2
theorem own_nil {w : World} {B size : Nat} {e : TypeId} {v : Value} {n : Nat} {xs : List Value} (h : w.ownsRow B e size v n xs) : ∃ A c, v = .slice A n c := by
  rcases h.2 with ⟨rfl, rfl⟩ | ⟨g, cap, cur, rfl, _⟩
  · exact ⟨_, _, rfl⟩
  · exact ⟨_, _, rfl⟩
theorem own_some {w : World} {B size : Nat} {e : TypeId} {v : Value} {n : Nat} {xs : List Value} (h : w.ownsRow B e size v (n + 1) xs) : ∃ g c, v = .slice (some ⟨g, 0, none⟩) (n + 1) c := by
  rcases h.2 with ⟨_, h0⟩ | ⟨g, cap, cur, rfl, _⟩
  · omega
  · exact ⟨_, _, rfl⟩

theorem one_slice (A : Option Addr) (n c : Nat) : ∀ u ∈ [Value.slice A n c], u.oneCell' = true := by
  intro u hu
  simp at hu
  subst hu
  rfl
theorem concat_cases {α : Type} (st : List α) : st = [] ∨ ∃ st0 l, st = st0 ++ [l] := by
  rcases List.eq_nil_or_concat st with h | ⟨a, b, h⟩
  · exact .inl h
  · exact .inr ⟨a, b, by rw [h, List.concat_eq_append]⟩

theorem wpListIn_append_at {F : Fence} {n : Nat} {P : Program} (w : World) {ops : Array Oper} {rest : List Oper} {o : Oper} {a : Act} {Q : Exit → Act → World → Prop}
    (hg : o.guard = none) (s x : Operand) (t : TypeId) (hop : o.op = Op.call { callee := Callee.builtin Builtin.append, args := #[s, x], argTypes := #[t, t] })
    (base : Nat) (e : TypeId) (i : TypeInfo) (z : Value) (size bytes : Nat) (h1 : P.underlying t = some (.slice e)) (h2 : P.info? e = some i) (h3 : i.zero = some z) (h4 : i.size = size) (h5 : i.bytes = bytes) (h6 : z.cells.size = size) (h7 : 0 < size)
    (v : Value) (k : Nat) (xs : List Value) (hs : a.eval s = v) (hown : w.ownsRow base e size v k xs) (ad : Addr) (m c : Nat) (news : List Value) (hx : a.eval x = .slice (some ad) m c) (hn : news.length = m * size)
    (hc : ∀ j u, news[j]? = some u → w.cell? (ad.add j) = some u) (h1c : ∀ u ∈ news, u.oneCell' = true) (b1 : k + m ≤ maxLen) (b2 : (k + m) * bytes ≤ 140737488355328) (b3 : base ≤ w.heap.size)
    (hK : ∀ v' w', w'.ownsRow base e size v' (k + m) (xs ++ news) → w.grownBy w' v.ownBlock → (v'.ownBlock = v.ownBlock ∨ v'.ownBlock = some w.heap.size) → wpListIn F n P ops Q rest (a.put o.dst v') w') :
    wpListIn F n P ops Q (o :: rest) a w := by
  refine wpListIn_plain hg fun K hK' => ?_
  obtain ⟨v', w', hrun, r1, r2, _, r3⟩ := run_append_own_at (P := P) w base t o.type e i z size bytes h1 h2 h3 h4 h5 h6 h7 v k xs hown ad m c news hn hc h1c b1 b2 b3
  unfold Oper.wpIn
  refine ⟨?_, ?_⟩
  · simp [Oper.about, hop, resolve, Target.leads, Sem.run_pure]
  · rw [Oper.semAt_plain F _ _ (by rw [hop]; intro c hc'; cases hc')]
    simp [execOp, hop, resolve, invoke, builtin, hs, hx, hrun, Result.andThen]
    exact hK' _ _ (hK v' w' r1 r2 r3)
end Go.Proofs.Ytbcfeoobhemdcaa
namespace Go.Proofs.Ytbcfeoobhemdcaa
open Go.RowKit

theorem run_append_nil {P : Program} {w : World} (base : Nat) (t ty e : TypeId) (i : TypeInfo) (size : Nat) (ht : P.underlying t = some (.slice e)) (hi : P.info? e = some i)
    (v : Value) (n c : Nat) (xs : List Value) (hown : w.ownsRow base e size v n xs) :
    (Builtin.append_ #[t, t] ty #[v, .slice none 0 c]).run P w = .ok v w := by
  rcases hown.2 with ⟨rfl, rfl⟩ | ⟨g, cap, cur, rfl, _, _, hnc, _⟩
  · simp [Builtin.append_, run_underlying ht, sizeOf, typeInfo, hi, Builtin.lenOf, Builtin.firstCells]
  · simp [Builtin.append_, run_underlying ht, sizeOf, typeInfo, hi, Builtin.lenOf, Builtin.firstCells, hnc, storeCells]

theorem wp_append_any {P : Program} {w : World} {o : Oper} {a : Act} {K : Act → World → Prop} {Q : Exit → Act → World → Prop} (s x : Operand) (t : TypeId)
    (ho : o.op = .call { callee := .builtin .append, args := #[s, x], argTypes := #[t, t] })
    (base : Nat) (e : TypeId) (i : TypeInfo) (z : Value) (size bytes : Nat) (ht : P.underlying t = some (.slice e)) (hi : P.info? e = some i) (hz : i.zero = some z)
    (hsize : i.size = size) (hby : i.bytes = bytes) (hzs : z.cells.size = size) (hsz : 0 < size)
    (v : Value) (n : Nat) (xs : List Value) (hs : a.eval s = v) (hown : w.ownsRow base e size v n xs)
    (A : Option Addr) (m c : Nat) (news : List Value) (hx : a.eval x = .slice A m c) (hl : news.length = m * size)
    (hA : m = 0 ∨ ∃ ad, A = some ad ∧ ∀ (j : Nat) (u : Value), news[j]? = some u → w.cell? (ad.add j) = some u) (h1 : ∀ u ∈ news, u.oneCell' = true)
    (h63 : n + m ≤ maxLen) (hbytes : (n + m) * bytes ≤ 140737488355328) (hbase : base ≤ w.heap.size) (H : Nat) (hH : w.heap.size = H)
    (h : ∀ v' w', w'.ownsRow base e size v' (n + m) (xs ++ news) → w.grownBy w' v.ownBlock → (v'.ownBlock = v.ownBlock ∨ v'.ownBlock = some H) → K (a.put o.dst v') w') : o.wp P a w K Q := by
  subst hH
  cases A with
  | none =>
    have hm0 : m = 0 := by
      rcases hA with hA | ⟨ad, hA, _⟩
      · exact hA
      · cases hA
    subst hm0
    have hn : news = [] := List.eq_nil_of_length_eq_zero (by rw [hl, Nat.zero_mul])
    subst hn
    have hrun := run_append_nil (P := P) (w := w) base t o.type e i size ht hi v n c xs hown
    unfold Oper.wp
    simp [execOp, ho, resolve, invoke, builtin, hs, hx, hrun, Result.andThen]
    refine h v w ?_ ⟨rfl, rfl, rfl, Nat.le_refl _, fun _ _ _ => rfl⟩ (.inl rfl)
    simpa using hown
  | some ad =>
    have hc : ∀ (j : Nat) (u : Value), news[j]? = some u → w.cell? (ad.add j) = some u := by
      rcases hA with hA | ⟨ad', hA, hc⟩
      · subst hA
        have hn : news = [] := List.eq_nil_of_length_eq_zero (by rw [hl, Nat.zero_mul])
        subst hn
        intro j u hj
        simp at hj
      · injection hA with hA; subst hA; exact hc
    obtain ⟨v', w', hr, h2, h3, _, h5⟩ := run_append_own_at (P := P) w base t o.type e i z size bytes ht hi hz hsize hby hzs hsz v n xs hown ad m c news hl hc h1 h63 hbytes hbase
    unfold Oper.wp execOp
    simp only [ho, resolve, invoke, builtin, Sem.run_bind, Sem.run_pure, Result.andThen_ok, List.map_toArray, List.map_cons, List.map_nil, hs, hx, hr]
    exact h v' w' h2 h3 h5

/-- At a step of a region that draws its order. -/
theorem step_append_any {P : Program} {w : World} {ops : Array Oper} {o : Oper} {a : Act} {K : Act → World → Prop} {Q : Exit → Act → World → Prop} {E : Prop} (hgd : o.guard = none) (s x : Operand) (t : TypeId)
    (ho : o.op = .call { callee := .builtin .append, args := #[s, x], argTypes := #[t, t] })
    (base : Nat) (e : TypeId) (i : TypeInfo) (z : Value) (size bytes : Nat) (ht : P.underlying t = some (.slice e)) (hi : P.info? e = some i) (hz : i.zero = some z)
    (hsize : i.size = size) (hby : i.bytes = bytes) (hzs : z.cells.size = size) (hsz : 0 < size)
    (v : Value) (n : Nat) (xs : List Value) (hs : a.eval s = v) (hown : w.ownsRow base e size v n xs)
    (A : Option Addr) (m c : Nat) (news : List Value) (hx : a.eval x = .slice A m c) (hl : news.length = m * size)
    (hA : m = 0 ∨ ∃ ad, A = some ad ∧ ∀ (j : Nat) (u : Value), news[j]? = some u → w.cell? (ad.add j) = some u) (h1 : ∀ u ∈ news, u.oneCell' = true)
    (h63 : n + m ≤ maxLen) (hbytes : (n + m) * bytes ≤ 140737488355328) (hbase : base ≤ w.heap.size) (H : Nat) (hH : w.heap.size = H)
    (h : ∀ v' w', w'.ownsRow base e size v' (n + m) (xs ++ news) → w.grownBy w' v.ownBlock → (v'.ownBlock = v.ownBlock ∨ v'.ownBlock = some H) → K (a.put o.dst v') w') :
    if Region.wanted o (yielded ops a.tmps) = true then Oper.wp P o a w K Q else E := by
  have hw : Region.wanted o (yielded ops a.tmps) = true := by simp [Region.wanted, hgd]
  rw [if_pos hw]
  exact wp_append_any s x t ho base e i z size bytes ht hi hz hsize hby hzs hsz v n xs hs hown A m c news hx hl hA h1 h63 hbytes hbase H hH h
end Go.Proofs.Ytbcfeoobhemdcaa
namespace Go.Proofs.Ytbcfeoobhemdcaa
open Go.RowKit

def letterR (r : Int) : Bool := decide (97 ≤ r) && decide (r ≤ 122)
def digitR (r : Int) : Bool := decide (48 ≤ r) && decide (r ≤ 57)

set_option maxRecDepth 100000 in
theorem letterIs (r : Int) (w : World) : Calls Try.prog 111 #[.int .i32 r] w fun e w' => e = .returned (.bool (letterR r)) ∧ w = w' := by
  by_cases h1 : 97 ≤ r
  all_goals (
    go_enter Try.func111, Try.ntmps111
    go_wp2
    go_ret
    refine ⟨congrArg (fun b => Ending.returned (.bool b)) ?_, rfl⟩
    (simp [letterR, h1]; try omega))
set_option maxRecDepth 100000 in
theorem digitIs (r : Int) (w : World) : Calls Try.prog 112 #[.int .i32 r] w fun e w' => e = .returned (.bool (digitR r)) ∧ w = w' := by
  by_cases h1 : 48 ≤ r
  all_goals (
    go_enter Try.func112, Try.ntmps112
    go_wp2
    go_ret
    refine ⟨congrArg (fun b => Ending.returned (.bool b)) ?_, rfl⟩
    (simp [digitR, h1]; try omega))
end Go.Proofs.Ytbcfeoobhemdcaa
namespace Go.Proofs.Ytbcfeoobhemdcaa
open Go.RowKit

/-- A rune of an atom. -/
def okRune (r : Int) : Bool := (decide (97 ≤ r) && decide (r ≤ 122)) || (decide (48 ≤ r) && decide (r ≤ 57)) || (r == 39) || (r == 45) || (r == 43) || (r == 42) || (r == 60) || (r == 61) || (r == 46)
theorem okRune_iff (r : Int) : okRune r = true ↔ (97 ≤ r ∧ r ≤ 122) ∨ (48 ≤ r ∧ r ≤ 57) ∨ r = 39 ∨ r = 45 ∨ r = 43 ∨ r = 42 ∨ r = 60 ∨ r = 61 ∨ r = 46 := by
  simp only [okRune, Bool.or_eq_true, Bool.and_eq_true, decide_eq_true_eq, beq_iff_eq, or_assoc]
theorem okByte_iff (c : UInt8) : okByte c = true ↔ (97 ≤ c.toNat ∧ c.toNat ≤ 122) ∨ (48 ≤ c.toNat ∧ c.toNat ≤ 57) ∨ c.toNat = 39 ∨ c.toNat = 45 ∨ c.toNat = 43 ∨ c.toNat = 42 ∨ c.toNat = 60 ∨ c.toNat = 61 ∨ c.toNat = 46 := by
  simp only [okByte, Bool.or_eq_true, Bool.and_eq_true, decide_eq_true_eq, beq_iff_eq, or_assoc]
theorem okRune_byte (c : UInt8) : okRune (c.toNat : Int) = okByte c := by
  rw [Bool.eq_iff_iff, okRune_iff, okByte_iff]; omega
theorem okRune_high {r : Int} (h : 128 ≤ r) : okRune r = false := by
  rw [← Bool.not_eq_true, okRune_iff]; omega
theorem decode_ok {s : ByteArray} {k : Nat} (h : k < s.size) (hc : okByte s[k] = true) : Utf8.decode s k = (s[k].toNat, 1) :=
  decode_ascii s k h (by rw [okByte_iff] at hc; omega)
theorem decode_bad {s : ByteArray} {k : Nat} (h : k < s.size) (hc : okByte s[k] = false) : okRune ((Utf8.decode s k).1 : Int) = false := by
  by_cases ha : s[k].toNat < 128
  · rw [decode_ascii s k h ha, okRune_byte]; exact hc
  · exact okRune_high (by have := (decode_high s k h (by omega)).1; omega)

set_option maxRecDepth 100000 in
set_option maxHeartbeats 1000000 in
theorem runeIs (r : Int) (w : World) : Calls Try.prog 62 #[.int .i32 r] w fun e w' => e = .returned (.bool (okRune r)) ∧ w = w' := by
  by_cases hs : r = 39 ∨ r = 45 ∨ r = 43 ∨ r = 42 ∨ r = 60 ∨ r = 61 ∨ r = 46
  · rcases hs with rfl | rfl | rfl | rfl | rfl | rfl | rfl
    all_goals (
      go_enter Try.func62, Try.ntmps62
      go_wp2
      go_ret
      exact ⟨rfl, rfl⟩)
  · have hok : okRune r = (letterR r || digitR r) := by
      rw [Bool.eq_iff_iff, okRune_iff]
      simp only [letterR, digitR, Bool.or_eq_true, Bool.and_eq_true, decide_eq_true_eq]
      omega
    have HOK := Lib.hid hok
    clear hok
    simp only [not_or] at hs
    obtain ⟨h1, h2, h3, h4, h5, h6, h7⟩ := hs
    have q1 : (r == 39) = false := by simpa using h1
    have q2 : (r == 45) = false := by simpa using h2
    have q3 : (r == 43) = false := by simpa using h3
    have q4 : (r == 42) = false := by simpa using h4
    have q5 : (r == 60) = false := by simpa using h5
    have q6 : (r == 61) = false := by simpa using h6
    have q7 : (r == 46) = false := by simpa using h7
    cases hl : letterR r with
    | true =>
      have HL := Lib.hid hl
      clear hl
      go_enter Try.func62, Try.ntmps62
      go_wp2_with fail
      refine (letterIs _ _).mono ?_
      rw [HL.out]
      rintro e w1 ⟨rfl, rfl⟩
      go_wp2
      go_ret
      exact ⟨congrArg (fun b => Ending.returned (.bool b)) (by rw [HOK.out, HL.out]; rfl), rfl⟩
    | false =>
      have HL := Lib.hid hl
      clear hl
      go_enter Try.func62, Try.ntmps62
      go_wp2_with fail
      refine (letterIs _ _).mono ?_
      rw [HL.out]
      rintro e w1 ⟨rfl, rfl⟩
      go_wp2_with fail
      refine (digitIs _ _).mono ?_
      rintro e w1 ⟨rfl, rfl⟩
      go_wp2
      go_ret
      exact ⟨congrArg (fun b => Ending.returned (.bool b)) (by rw [HOK.out, HL.out]; rfl), rfl⟩
end Go.Proofs.Ytbcfeoobhemdcaa
namespace Go.Proofs.Ytbcfeoobhemdcaa
open Go.RowKit

theorem okAtom_short {s : ByteArray} (h : ¬ (1 ≤ s.size ∧ s.size ≤ 12)) : okAtom s = false := by rw [okAtom, decide_eq_false h, Bool.and_false]
theorem okAtom_all {s : ByteArray} (h : 1 ≤ s.size ∧ s.size ≤ 12) (ha : s.data.toList.all okByte = true) : okAtom s = true := by rw [okAtom, decide_eq_true h, ha]; rfl

set_option maxRecDepth 100000 in
set_option maxHeartbeats 1000000 in
theorem implAtom (s : ByteArray) (w : World) (hs : s.size ≤ 9223372036854775807) : Calls Try.prog 113 #[.string s] w fun e w' => e = .returned (.bool (okAtom s)) ∧ Below w.heap.size w w' := by
  by_cases h1 : 1 ≤ s.size ∧ s.size ≤ 12
  · have hall := @okAtom_all s h1
    have HA := Lib.hid hall
    clear hall
    obtain ⟨h2, h3⟩ := h1
    go_enter Try.func113, Try.ntmps113
    go_wp2
    go_loopw [] (fun wr => ∃ k : Nat, k ≤ s.size ∧ (s.data.toList.take k).all okByte = true ∧ wr = w.iter s k) (fun wr => s.size - wr.iterPos w.heap.size)
    case atStart => exact ⟨0, Nat.zero_le _, rfl, rfl⟩
    case round =>
      obtain ⟨k, hk, ha, rfl⟩ := hrel
      have HT := Lib.hid ha
      clear ha
      have hb : Below w.heap.size w (w.iter s k) := (Below.refl _ _).alloc (Nat.le_refl _) _
      by_cases hlt : k < s.size
      · cases hc : okByte s[k] with
        | true =>
          have hst := all_take_snoc s k hlt
          rw [HT.out, hc] at hst
          have hd := decode_ok hlt hc
          have hnx := fun ty => run_next_any (P := Try.prog) w s k ty hlt
          rw [hd] at hnx
          have ho : okRune (s[k].toNat : Int) = true := by rw [okRune_byte, hc]
          have HS := Lib.hid hst
          have HO := Lib.hid ho
          clear hst hd hc ho
          go_wp2_with fail
          refine (runeIs _ _).mono ?_
          rintro e w1 ⟨rfl, rfl⟩
          rw [HO.out]
          go_wp2
          go_roundw
          case rel => exact ⟨k + 1, by omega, HS.out, rfl⟩
          case measure => simp; omega
        | false =>
          have hno := all_not hlt hc
          have hd := decode_bad hlt hc
          have hnx := fun ty => run_next_any (P := Try.prog) w s k ty hlt
          have hw1 : ∀ j, Below w.heap.size w (w.iter s j) := fun j => (Below.refl _ _).alloc (Nat.le_refl _) _
          have HN := Lib.hid hno
          have HD := Lib.hid hd
          clear hno hd hc
          go_wp2_with fail
          refine (runeIs _ _).mono ?_
          rintro e w1 ⟨rfl, rfl⟩
          rw [HD.out]
          go_wp2
          go_ret
          exact ⟨congrArg (fun b => Ending.returned (.bool b)) HN.out.symm, hw1 _⟩
      · have hkl : k = s.size := by omega
        subst hkl
        have hall : s.data.toList.all okByte = true := by have := HT.out; rw [List.take_of_length_le (by simp)] at this; exact this
        have hok := HA.out hall
        have HK := Lib.hid hok
        clear hok hall
        have hnx := fun ty => run_next_end (P := Try.prog) w s s.size ty (Nat.lt_irrefl _)
        go_wp2
        go_ret
        exact ⟨congrArg (fun b => Ending.returned (.bool b)) HK.out.symm, hb⟩
  · have hno := okAtom_short h1
    have HN := Lib.hid hno
    clear hno
    by_cases h2 : s.size < 1
    · go_enter Try.func113, Try.ntmps113
      go_wp2
      go_ret
      exact ⟨congrArg (fun b => Ending.returned (.bool b)) HN.out.symm, Below.refl _ _⟩
    · have h3 : 12 < s.size := by omega
      clear h1
      go_enter Try.func113, Try.ntmps113
      go_wp2
      go_ret
      exact ⟨congrArg (fun b => Ending.returned (.bool b)) HN.out.symm, Below.refl _ _⟩
end Go.Proofs.Ytbcfeoobhemdcaa
namespace Go.Proofs
open Go.Shelf
def Try.lays156_ren : Go.Shelf.Ren := ⟨fun | 156 => 142 | 165 => 152 | 166 => 153 | 169 => 154 | 240 => 157 | 241 => 158 | 276 => 160 | 277 => 161 | n => n, fun | 31 => 39 | 9 => 9 | 3 => 3 | 4 => 4 | 0 => 0 | 20 => 20 | 72 => 155 | 76 => 159 | 70 => 153 | 37 => 22 | 75 => 158 | 127 => 164 | 164 => 166 | 5 => 5 | 80 => 161 | n => n, fun | n => n⟩
theorem Try.lays156 : Go.Proofs.Lays.n156 Try.prog Try.lays156_ren := {
  mixed := by kernel_rfl
  f156 := Try.func142.trans (congrArg some (by kernel_rfl))
  f165 := Try.func152.trans (congrArg some (by kernel_rfl))
  f166 := Try.func153.trans (congrArg some (by kernel_rfl))
  f169 := Try.func154.trans (congrArg some (by kernel_rfl))
  f240 := Try.func157.trans (congrArg some (by kernel_rfl))
  f241 := Try.func158.trans (congrArg some (by kernel_rfl))
  f276 := Try.func160.trans (congrArg some (by kernel_rfl))
  f277 := Try.func161.trans (congrArg some (by kernel_rfl))
  t0 := Try.underlying0
  a0 := Try.isAgg0
  z0 := Try.sizeOf0
  v0 := Try.zeroValue0
  t3 := Try.underlying3
  a3 := Try.isAgg3
  z3 := Try.sizeOf3
  v3 := Try.zeroValue3
  t4 := Try.underlying4
  a4 := Try.isAgg4
  z4 := Try.sizeOf4
  v4 := Try.zeroValue4
  t9 := Try.underlying9
  a9 := Try.isAgg9
  z9 := Try.sizeOf9
  v9 := Try.zeroValue9
  t20 := Try.underlying20
  a20 := Try.isAgg20
  z20 := Try.sizeOf20
  v20 := Try.zeroValue20
  t31 := Try.underlying39
  a31 := Try.isAgg39
  z31 := Try.sizeOf39
  v31 := Try.zeroValue39
  t37 := Try.underlying22
  a37 := Try.isAgg22
  z37 := Try.sizeOf22
  v37 := Try.zeroValue22
  t70 := Try.underlying153
  a70 := Try.isAgg153
  z70 := Try.sizeOf153
  v70 := Try.zeroValue153
  t72 := Try.underlying155
  a72 := Try.isAgg155
  z72 := Try.sizeOf155
  v72 := Try.zeroValue155
  t75 := Try.underlying158
  a75 := Try.isAgg158
  z75 := Try.sizeOf158
  v75 := Try.zeroValue158
  t76 := Try.underlying159
  a76 := Try.isAgg159
  z76 := Try.sizeOf159
  v76 := Try.zeroValue159
  t127 := Try.underlying164
  a127 := Try.isAgg164
  z127 := Try.sizeOf164
  v127 := Try.zeroValue164
  t164 := Try.underlying166
  a164 := Try.isAgg166
  z164 := Try.sizeOf166
  v164 := Try.zeroValue166 }
theorem Try.Builder_Extra_156 : Builder.Extra Try.prog Try.lays156_ren := {
  sizeBuilder := by kernel_rfl
  liesBuilder := by kernel_rfl
  t5 := Try.underlying5
  a5 := Try.isAgg5
  z5 := Try.sizeOf5
  v5 := Try.zeroValue5
  infoByte := by kernel_rfl
  cellsByte := by kernel_rfl
  sizeByte := by kernel_rfl
  neB5 := by decide }
open Go.RowKit in
theorem Try.strings_Join (bk o c : Nat) (xs : List ByteArray) (sep : ByteArray) (w : World) (hcells : ∀ (j : Nat) x, xs[j]? = some x → w.cell? ⟨bk, o + j, none⟩ = some (.string x)) (hbk : bk < w.heap.size) (hN : xs.length ≤ 140737488355328) (hcap : xs.length ≤ c) (hlen : (Lib.join (xs.map (·.data.toList)) sep.data.toList).length ≤ 140737488355328) :
    Calls Try.prog 142 #[.slice (some ⟨bk, o, none⟩) xs.length c, .string sep] w fun e w' => e = .returned (.string ⟨(Lib.join (xs.map (·.data.toList)) sep.data.toList).toArray⟩) ∧ Below w.heap.size w w' := Any.strings_Join Try.lays156 Try.Builder_Extra_156 bk o c xs sep w hcells hbk hN hcap hlen
end Go.Proofs
namespace Go.Proofs.Ytbcfeoobhemdcaa
open Go.RowKit Go.Lib

theorem implJoin (g : Nat) (ss : List ByteArray) (sep : ByteArray) (w : World) (hw : Whole w g 9 (ss.map Value.string).toArray) (h1 : ss.length ≤ 4294967296) (hl : (join (ss.map (·.data.toList)) sep.data.toList).length ≤ 1099512676352) :
    Calls Try.prog 110 #[.slice (some ⟨g, 0, none⟩) ss.length ss.length, .string sep] w fun e w' => e = .returned (.string ⟨(join (ss.map (·.data.toList)) sep.data.toList).toArray⟩) ∧ Below w.heap.size w w' := by
  have hc : ∀ (j : Nat) x, ss[j]? = some x → w.cell? ⟨g, 0 + j, none⟩ = some (.string x) := fun j x hj => by rw [hw.cell, Nat.zero_add]; simp [hj]
  have HC := Lib.hid hc
  clear hc
  go_enter Try.func110, Try.ntmps110
  go_wp2_with fail
  refine (Try.strings_Join g 0 ss.length ss sep _ HC.out hw.lt (by omega) (Nat.le_refl _) (by omega)).mono ?_
  rintro e w1 ⟨rfl, hb⟩
  go_wp2
  go_ret
  exact ⟨rfl, hb⟩
end Go.Proofs.Ytbcfeoobhemdcaa

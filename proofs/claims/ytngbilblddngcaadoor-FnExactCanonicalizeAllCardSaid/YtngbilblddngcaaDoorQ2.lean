/- Texts that the claims share, joined. -/
import Derived.Test.YtngbilblddngcaaDoorQ1
import Derived.Lib.Hide
import Derived.Outline
import Derived.Lib.AppendZeros
import Derived.Lib.AppendZerosOnto
import Derived.Lib.SliceRun
import Derived.Test.YtngbilblddngcaaDoorProg
import Derived.WalkKit
import Derived.Lib.QuietBelow
import Derived.BigQuiet
import Derived.Shelf.Strconv.Itoa0
import Derived.Shelf.Strconv.Itoa1
import Derived.Shelf.LaysM
import Derived.Shelf.Strconv.Itoa2
import Derived.Shelf.Strconv.Itoa3
import Derived.Test.YtngbilblddngcaaDoorRows
import Derived.Lib.LaidTab
import Derived.Lib.AppendIntMem
import Derived.Stop.LaidErr
import Derived.WalkSmall
import Derived.Deep.Slices
import Derived.Lib.SmallJoins
import Derived.ProofKit
namespace Go.Proofs.YtngbilblddngcaaDoor
open Go.RowKit Go.Lib

theorem base_name {s : ByteArray} (h : isBase s = true) : okName s = false := by
  rw [isBase, decide_eq_true_eq] at h
  rcases h with rfl | rfl <;> rfl
theorem asC1 (v : Value) (w : World) : (Instr.typeAssert (.iface 108 v) 111 118 true).run Tryd.prog w = .ok (.tuple #[zeroTy, .bool false]) w := by kernel_rfl
theorem asC2 (v : Value) (w : World) : (Instr.typeAssert (.iface 118 v) 111 118 true).run Tryd.prog w = .ok (.tuple #[v, .bool true]) w := by kernel_rfl
theorem asC3 (v : Value) (w : World) : (Instr.typeAssert (.iface 119 v) 111 118 true).run Tryd.prog w = .ok (.tuple #[zeroTy, .bool false]) w := by kernel_rfl
theorem asC4 (v : Value) (w : World) : (Instr.typeAssert (.iface 120 v) 111 118 true).run Tryd.prog w = .ok (.tuple #[zeroTy, .bool false]) w := by kernel_rfl
theorem asC0 (w : World) : (Instr.typeAssert .nilIface 111 118 true).run Tryd.prog w = .ok (.tuple #[zeroTy, .bool false]) w := by kernel_rfl
theorem as_con {k : Int} (v : Value) (h : (k == 2) = false) (w : World) : (Instr.typeAssert (tyForm k v) 111 118 true).run Tryd.prog w = .ok (.tuple #[zeroTy, .bool false]) w := by
  unfold tyForm
  rw [h]
  simp only [Bool.false_eq_true, if_false]
  split
  · exact asC1 v w
  · skip
    split
    · exact asC3 v w
    · skip
      split
      · exact asC4 v w
      · exact asC0 w
theorem asD1 (v : Value) (w : World) : (Instr.typeAssert (.iface 108 v) 111 120 true).run Tryd.prog w = .ok (.tuple #[zeroTy, .bool false]) w := by kernel_rfl
theorem asD2 (v : Value) (w : World) : (Instr.typeAssert (.iface 118 v) 111 120 true).run Tryd.prog w = .ok (.tuple #[zeroTy, .bool false]) w := by kernel_rfl
theorem asD3 (v : Value) (w : World) : (Instr.typeAssert (.iface 119 v) 111 120 true).run Tryd.prog w = .ok (.tuple #[zeroTy, .bool false]) w := by kernel_rfl
theorem asD4 (v : Value) (w : World) : (Instr.typeAssert (.iface 120 v) 111 120 true).run Tryd.prog w = .ok (.tuple #[v, .bool true]) w := by kernel_rfl
theorem asD0 (w : World) : (Instr.typeAssert .nilIface 111 120 true).run Tryd.prog w = .ok (.tuple #[zeroTy, .bool false]) w := by kernel_rfl
theorem as_dyn {k : Int} (v : Value) (h : (k == 4) = false) (w : World) : (Instr.typeAssert (tyForm k v) 111 120 true).run Tryd.prog w = .ok (.tuple #[zeroTy, .bool false]) w := by
  unfold tyForm
  rw [h]
  simp only [Bool.false_eq_true, if_false]
  split
  · exact asD1 v w
  · skip
    split
    · exact asD2 v w
    · skip
      split
      · exact asD3 v w
      · exact asD0 w
theorem isV {k : Int} (v : Value) (h : (k == 1) = true) (w : World) : (Instr.typeAssert (tyForm k v) 111 108 true).run Tryd.prog w = .ok (.tuple #[v, .bool true]) w := by rw [tyForm1 v h]; exact asV1 v w
theorem isC {k : Int} (v : Value) (h : (k == 2) = true) (w : World) : (Instr.typeAssert (tyForm k v) 111 118 true).run Tryd.prog w = .ok (.tuple #[v, .bool true]) w := by rw [tyForm2 v h]; exact asC2 v w
theorem isP {k : Int} (v : Value) (h : (k == 3) = true) (w : World) : (Instr.typeAssert (tyForm k v) 111 119 true).run Tryd.prog w = .ok (.tuple #[v, .bool true]) w := by rw [tyForm3 v h]; exact asP3 v w
theorem isD {k : Int} (v : Value) (h : (k == 4) = true) (w : World) : (Instr.typeAssert (tyForm k v) 111 120 true).run Tryd.prog w = .ok (.tuple #[v, .bool true]) w := by rw [tyForm4 v h]; exact asD4 v w
end Go.Proofs.YtngbilblddngcaaDoor
namespace Go.Proofs.YtngbilblddngcaaDoor
open Go.RowKit Go.Lib

/-- What the strings of one row add to a row of the call's own. -/
theorem run_append_strs {w : World} (base : Nat) (V : Value) (d : List ByteArray) (hown : w.ownsRow base 9 1 V d.length (d.map Value.string)) (A : Option Addr) (c : Nat) (ss : List ByteArray) (hA : Strs w A ss)
    (hd : d.length ≤ 17179869184) (hs : ss.length ≤ 17179869184) (hbase : base ≤ w.heap.size) (ty : TypeId) :
    ∃ v' w', (Builtin.append_ #[60, 60] ty #[V, .slice A ss.length c]).run Tryd.prog w = .ok v' w' ∧ w'.ownsRow base 9 1 v' (d ++ ss).length ((d ++ ss).map Value.string) ∧ w.grownBy w' V.ownBlock := by
  obtain ⟨i0, hi, hz0, hz1, hz2⟩ := info_parts infoString
  by_cases h0 : ss = []
  · subst h0
    simp only [List.append_nil, List.length_nil]
    cases A with
    | none => exact ⟨V, w, run_append_nil base _ ty _ i0 1 Tryd.underlying60 hi V d.length c _ hown, hown, ⟨rfl, rfl, rfl, Nat.le_refl _, fun _ _ _ => rfl⟩⟩
    | some ad =>
      obtain ⟨v', w', hr, h2, h3, _, _⟩ := _root_.Go.run_append_own_at (P := Tryd.prog) (w := w) base _ ty _ i0 _ 1 16 Tryd.underlying60 hi hz0 hz1 hz2 rfl (by decide) V d.length _ hown ad 0 c [] (by simp) (by simp) (by simp) (by unfold maxLen; omega) (by omega) hbase
      exact ⟨v', w', hr, by simpa using h2, h3⟩
  · rcases hA with hA | ⟨g, o, rfl, hg, hc⟩
    · exact absurd hA h0
    · obtain ⟨v', w', hr, h2, h3, _, _⟩ := _root_.Go.run_append_own_at (P := Tryd.prog) (w := w) base _ ty _ i0 _ 1 16 Tryd.underlying60 hi hz0 hz1 hz2 rfl (by decide) V d.length _ hown ⟨g, o, none⟩ ss.length c (ss.map Value.string) (by simp)
        (fun j u hj => by
          rw [List.getElem?_map] at hj
          cases hs : ss[j]? with
          | none => rw [hs] at hj; cases hj
          | some s =>
            rw [hs] at hj
            simp at hj
            subst hj
            have := hc j s hs
            rw [Go.WideShapes.add_plain]
            exact this)
        (fun u hu => by
          rw [List.mem_map] at hu
          obtain ⟨s, _, rfl⟩ := hu
          rfl) (by unfold maxLen; omega) (by omega) hbase
      exact ⟨v', w', hr, by rw [List.length_append, List.map_append]; exact h2, h3⟩

end Go.Proofs.YtngbilblddngcaaDoor
namespace Go.Proofs.YtngbilblddngcaaDoor
open Go.RowKit Go.Lib

theorem Seen.below {P : Program} {k e : TypeId} {w w' : World} {b n : Nat} {l : List ByteArray} (h : Seen P k e w b n l) (hb : Below w.heap.size w w') : Seen P k e w' b n l :=
  h.kept (row := none) ⟨hb.os, hb.tape, hb.output, hb.size, fun j hj _ => hb.block j hj⟩ (by simp)
theorem own_wide {w : World} {B B' size n : Nat} {e : TypeId} {v : Value} {xs : List Value} (h : w.ownsRow B e size v n xs) (hB : B' ≤ B) : w.ownsRow B' e size v n xs := by
  refine ⟨h.1, ?_⟩
  rcases h.2 with hn | ⟨g, cap, cur, rfl, hbg, rest⟩
  · exact .inl hn
  · exact .inr ⟨g, cap, cur, rfl, by omega, rest⟩

end Go.Proofs.YtngbilblddngcaaDoor
namespace Go.Proofs.YtngbilblddngcaaDoor
open Go.RowKit Go.Lib

theorem digs_pos_step (m : Int) (l : List UInt8) (h : 0 < m) : digs (m / 10).natAbs ++ UInt8.ofNat (48 + m % 10).toNat :: l = digs m.natAbs ++ l := by
  rw [digs_step (show m.natAbs ≠ 0 by omega), show (m / 10).natAbs = m.natAbs / 10 by omega, show (48 + m % 10).toNat = 48 + m.natAbs % 10 by omega]
  simp
theorem digs_neg_step (m : Nat) (l : List UInt8) (h : 0 < m) (b : UInt8) (hb : b = UInt8.ofNat (48 + m % 10)) : digs (m / 10) ++ b :: l = digs m ++ l := by
  rw [digs_step (show m ≠ 0 by omega), hb]
  simp

set_option maxRecDepth 100000 in
set_option maxHeartbeats 400000 in
theorem fmt_pos (n : Int) (w : World) (h0 : 0 < n) (h1 : n ≤ 9223372036854775807) :
    Calls Tryd.prog 34 #[.int .i64 n] w fun e w' => e = .returned (.string ⟨(digs n.natAbs).toArray⟩) ∧ Below w.heap.size w w' := by
  have kc := fun (w : World) (z : Int) => conv_one (P := Tryd.prog) Tryd.underlying22 Tryd.underlying5 Tryd.underlying9 w z
  go_enter Tryd.func34, Tryd.ntmps34
  go_wp2
  go_loopw [0, 4] (fun a s wr => ∃ (m : Int) (l : List UInt8), 0 ≤ m ∧ m ≤ n ∧ a = .int .i64 m ∧ s = .string ⟨l.toArray⟩ ∧ digs m.natAbs ++ l = digs n.natAbs ∧ Below w.heap.size w wr) (fun a _ _ => (Go.RowKit.intOf a).toNat)
  case atStart => exact ⟨n, [], by omega, by omega, rfl, rfl, by simp, Below.refl _ _⟩
  case round =>
    obtain ⟨m, l, hm0, hm1, rfl, rfl, hl, hb⟩ := hrel
    have hll : (l.length : Int) ≤ 20 := by
      have := congrArg List.length hl
      have := digs_length_le 20 n.natAbs (by omega)
      rw [List.length_append] at *
      omega
    have HL := Lib.hid hl; clear hl
    by_cases hz : 0 < m
    · go_wp2
      go_roundw
      case rel => exact ⟨m / 10, UInt8.ofNat (48 + m % 10).toNat :: l, by omega, by omega, rfl, str_of (append_byte _ _), by rw [← HL.out]; exact digs_pos_step m l hz, hb.alloc hb.size _⟩
      case measure => simp [Go.RowKit.intOf]; omega
    · go_wp2
      go_ret
      refine ⟨ret_str ?_, hb⟩
      have := HL.out
      rw [show m.natAbs = 0 by omega, digs_zero, List.nil_append] at this
      rw [this]

set_option maxRecDepth 100000 in
set_option maxHeartbeats 400000 in
theorem fmt_neg (n : Int) (w : World) (h0 : n < 0) (h1 : -9223372036854775808 ≤ n) :
    Calls Tryd.prog 34 #[.int .i64 n] w fun e w' => e = .returned (.string ⟨(45 :: digs n.natAbs).toArray⟩) ∧ Below w.heap.size w w' := by
  have kc := fun (w : World) (z : Int) => conv_one (P := Tryd.prog) Tryd.underlying22 Tryd.underlying5 Tryd.underlying9 w z
  go_enter Tryd.func34, Tryd.ntmps34
  go_wp2
  go_loopw [0, 4] (fun a s wr => ∃ (m : Nat) (l : List UInt8), (m : Int) ≤ 9223372036854775808 ∧ a = .int .i64 (-(m : Int)) ∧ s = .string ⟨l.toArray⟩ ∧ digs m ++ l = digs n.natAbs ∧ Below w.heap.size w wr) (fun a _ _ => (Go.RowKit.intOf a).natAbs)
  case atStart => exact ⟨n.natAbs, [], by omega, by rw [show -(n.natAbs : Int) = n by omega], rfl, by simp, Below.refl _ _⟩
  case round =>
    obtain ⟨m, l, hm1, rfl, rfl, hl, hb⟩ := hrel
    have hll : (l.length : Int) ≤ 20 := by
      have := congrArg List.length hl
      have := digs_length_le 20 n.natAbs (by omega)
      rw [List.length_append] at *
      omega
    have HL := Lib.hid hl; clear hl
    by_cases hz : 0 < m
    · have e1 : (-(m : Int)).tmod 10 = -((m % 10 : Nat) : Int) := by rw [Int.neg_tmod]; rfl
      have e2 : (-(m : Int)).tdiv 10 = -((m / 10 : Nat) : Int) := by rw [Int.neg_tdiv]; rfl
      have hd : (m % 10 : Nat) < 10 := by omega
      have E1 := Lib.hid e1; clear e1
      have E2 := Lib.hid e2; clear e2
      go_wp2
      all_goals go_roundw
      case rel => exact ⟨m / 10, (48 + UInt8.ofNat (m % 10)) :: l, by omega, int_of (by omega), str_of (append_byte _ _), by rw [← HL.out]; exact digs_neg_step m l hz _ (by rw [show (48 : UInt8) = UInt8.ofNat 48 from rfl, ← UInt8.ofNat_add]), hb.alloc hb.size _⟩
      case measure => simp [Go.RowKit.intOf]; omega
      case rel => exact ⟨m / 10, UInt8.ofNat (48 + -((m : Int) % 10)).toNat :: l, by omega, int_of (by omega), str_of (append_byte _ _), by rw [← HL.out]; exact digs_neg_step m l hz _ (congrArg UInt8.ofNat (by omega)), hb.alloc hb.size _⟩
      case measure => simp [Go.RowKit.intOf]; omega
    · go_wp2
      go_ret
      refine ⟨ret_str ?_, hb⟩
      have := HL.out
      rw [show m = 0 by omega, digs_zero, List.nil_append] at this
      rw [← this]
      exact append_byte 45 l

set_option maxRecDepth 100000 in
theorem fmt_zero (w : World) : Calls Tryd.prog 34 #[.int .i64 0] w fun e w' => e = .returned (.string ⟨#[48]⟩) ∧ w = w' := by
  go_enter Tryd.func34, Tryd.ntmps34
  go_wp2
  go_ret
  exact ⟨rfl, rfl⟩

/-- THE REFERENCE MODEL's FormatInt, AT EVERY int: the numeral; of what was there nothing has turned. -/
theorem fmt_any (n : Int) (w : World) (h0 : -9223372036854775808 ≤ n) (h1 : n ≤ 9223372036854775807) :
    Calls Tryd.prog 34 #[.int .i64 n] w fun e w' => e = .returned (.string ⟨(itoa n).toArray⟩) ∧ Below w.heap.size w w' := by
  rcases Int.lt_trichotomy n 0 with h | rfl | h
  · rw [itoa_of_neg h]; exact fmt_neg n w h h0
  · rw [itoa_zero]; exact (fmt_zero w).mono fun e w' ⟨he, hw⟩ => ⟨he, hw ▸ Below.refl _ _⟩
  · rw [itoa_of_pos h]; exact fmt_pos n w h h1
#print axioms fmt_any
end Go.Proofs.YtngbilblddngcaaDoor
namespace Go.Proofs.YtngbilblddngcaaDoor
open Go.RowKit Go.Lib

theorem news4 (w : World) (t : TypeId) (a b c d : Value) : ∀ (j : Nat) (u : Value), [a, b, c, d][j]? = some u → (w.alloc (.cells #[a, b, c, d] t)).cell? ((⟨w.heap.size, 0, none⟩ : Addr).add j) = some u := by
  intro j u hj
  match j, hj with
  | 0, hj => simp at hj; subst hj; simp [Addr.add]
  | 1, hj => simp at hj; subst hj; simp [Addr.add]
  | 2, hj => simp at hj; subst hj; simp [Addr.add]
  | 3, hj => simp at hj; subst hj; simp [Addr.add]
theorem one4 (s t : ByteArray) (k : Int) (A : Option Addr) (n c : Nat) : ∀ u ∈ [Value.string s, .int .i64 k, .string t, .slice A n c], u.oneCell' = true := by
  intro u hu
  simp at hu
  rcases hu with rfl | rfl | rfl | rfl <;> rfl
/-- One element more on a row of the call's own. -/
theorem row_push {w w6 w7 : World} {B K n : Nat} {e : TypeId} {xs : List (List DV)} {x : List DV} {V V' : Value} {vs news : List Value} {bs' b2 : List Nat} {O : Obj}
    (ho : w.ownsRow B e K V n vs) (hE : OwVE w B K xs vs bs') (hnd : (V.ownBlock.toList ++ bs').Nodup) (hb : Below w.heap.size w w6) (hx : OwVs w6 w.heap.size x news b2) (hn2 : b2.Nodup) (hk : x.length = K) (hB : B ≤ w.heap.size)
    (hl : n = xs.length) (hown7 : w7.ownsRow B e K V' (n + 1) (vs ++ news)) (hg : (w6.alloc O).grownBy w7 V.ownBlock) (hv : V'.ownBlock = V.ownBlock ∨ V'.ownBlock = some (w6.heap.size + 1)) :
    OwV w7 B (.row e K (xs ++ [x])) V' (V'.ownBlock.toList ++ (bs' ++ b2)) ∧ (V'.ownBlock.toList ++ (bs' ++ b2)).Nodup := by
  have hs := hb.size
  have hEl := OwVE_lt _ hE
  have hxl := OwVs_lt _ hx
  rw [List.nodup_append] at hnd
  obtain ⟨hd1, hd2, hd3⟩ := hnd
  have hVb : ∀ b, V.ownBlock = some b → B ≤ b ∧ b < w.heap.size := ho.lt
  have hE7 : OwVE w7 B K xs vs bs' := OwVE_frame _ (fun b hm => by
    have hlt := (hEl b hm).2
    rw [hg.block b (by rw [World.size_alloc]; omega) (fun e => hd3 b (by rw [← e]; simp) b hm rfl), Below.heap_alloc _ _ _ (by omega)]
    exact hb.block b hlt) hE
  have hx7 : OwVs w7 B x news b2 := OwVs_wide hB _ (OwVs_frame _ (fun b hm => by
    have hlt := hxl b hm
    rw [hg.block b (by rw [World.size_alloc]; omega) (fun e => by have := (hVb b e.symm).2; omega), Below.heap_alloc _ _ _ hlt.2]) hx)
  have hbb : (bs' ++ b2).Nodup := by
    rw [List.nodup_append]
    exact ⟨hd2, hn2, fun a ha b hb' e => by have := (hEl a ha).2; have := (hxl b hb').1; omega⟩
  refine ⟨?_, ?_⟩
  · rw [OwV]
    exact ⟨vs ++ news, bs' ++ b2, by rw [List.length_append, List.length_singleton, ← hl]; exact hown7, OwVE_snoc hE7 hk hx7, rfl⟩
  · rw [List.nodup_append]
    refine ⟨?_, hbb, fun a ha b hb' e => ?_⟩
    · cases hV' : V'.ownBlock with
      | none => simp
      | some g => simp
    · subst e
      rcases hv with h | h
      · rw [h] at ha
        rcases List.mem_append.1 hb' with hb' | hb'
        · exact hd3 a ha a hb' rfl
        · have := (hVb a (by simpa using ha)).2; have := (hxl a hb').1; omega
      · rw [h] at ha
        simp at ha
        rcases List.mem_append.1 hb' with hb' | hb'
        · have := (hEl a hb').2; omega
        · have := (hxl a hb').2; omega
theorem infoBd : (Tryd.prog.info? 58).map (fun i => (i.zero, i.size, i.bytes)) = some (some (.agg #[.string ByteArray.empty, .int .i64 0, .string ByteArray.empty, .slice none 0 0]), 4, 64) := by kernel_rfl
/-- The row of what has been kept. -/
def KeptAt (B : Nat) (acc : List BindingX) (V : Value) (w : World) : Prop := ∃ (vs : List Value) (bs : List Nat), w.ownsRow B 58 4 V acc.length vs ∧ OwVE w B 4 (BindingX.rows acc) vs bs ∧ (V.ownBlock.toList ++ bs).Nodup
theorem KeptAt.row {B : Nat} {acc : List BindingX} {V : Value} {w : World} (h : KeptAt B acc V w) : ∃ bs, OwV w B (.row 58 4 (BindingX.rows acc)) V bs ∧ bs.Nodup := by
  obtain ⟨vs, bs, h1, h2, h3⟩ := h
  refine ⟨_, ?_, h3⟩
  rw [OwV, BindingX.rows_length]
  exact ⟨vs, bs, h1, h2, rfl⟩
theorem KeptAt.below {B : Nat} {acc : List BindingX} {V : Value} {w w' : World} (h : KeptAt B acc V w) (hb : Below w.heap.size w w') : KeptAt B acc V w' := by
  obtain ⟨vs, bs, h1, h2, h3⟩ := h
  exact ⟨vs, bs, owns_below h1 hb, OwVE_frame _ (fun b hm => hb.block b (OwVE_lt _ h2 b hm).2) h2, h3⟩
theorem KeptAt.push {w w6 w7 : World} {B : Nat} {acc : List BindingX} {x : BindingX} {V V' : Value} {vs : List Value} {A : Option Addr} {c : Nat} {bs' b2 : List Nat} {O : Obj}
    (ho : w.ownsRow B 58 4 V acc.length vs) (hE : OwVE w B 4 (BindingX.rows acc) vs bs') (hnd : (V.ownBlock.toList ++ bs').Nodup) (hb : Below w.heap.size w w6)
    (hx : OwVs w6 w.heap.size x.type_.cells [.int .i64 x.type_.kind_, .string x.type_.name_, .slice A x.type_.args_.length c] b2) (hn2 : b2.Nodup) (hB : B ≤ w.heap.size)
    (hown7 : w7.ownsRow B 58 4 V' (acc.length + 1) (vs ++ [.string x.var_, .int .i64 x.type_.kind_, .string x.type_.name_, .slice A x.type_.args_.length c])) (hg : (w6.alloc O).grownBy w7 V.ownBlock) (hv : V'.ownBlock = V.ownBlock ∨ V'.ownBlock = some (w6.heap.size + 1)) :
    KeptAt B (acc ++ [x]) V' w7 := by
  have hx' : OwVs w6 w.heap.size x.cells [.string x.var_, .int .i64 x.type_.kind_, .string x.type_.name_, .slice A x.type_.args_.length c] b2 := by
    rw [TypeX.cells_eq] at hx
    rw [BindingX.cells_eq, OwVs]
    exact ⟨_, _, [], b2, rfl, rfl, by rw [OwV]; exact ⟨rfl, rfl⟩, hx⟩
  obtain ⟨h1, h2⟩ := row_push ho hE hnd hb hx' hn2 (BindingX.cells_length x) hB (BindingX.rows_length acc).symm hown7 hg hv
  rw [← BindingX.rows_snoc, OwV, BindingX.rows_length] at h1
  obtain ⟨vs', bs'', h3, h4, h5⟩ := h1
  rw [h5] at h2
  exact ⟨vs', bs'', h3, h4, h2⟩

theorem news3 (w : World) (t : TypeId) (a b c : Value) : ∀ (j : Nat) (u : Value), [a, b, c][j]? = some u → (w.alloc (.cells #[a, b, c] t)).cell? ((⟨w.heap.size, 0, none⟩ : Addr).add j) = some u := by
  intro j u hj
  match j, hj with
  | 0, hj => simp at hj; subst hj; simp [Addr.add]
  | 1, hj => simp at hj; subst hj; simp [Addr.add]
  | 2, hj => simp at hj; subst hj; simp [Addr.add]
theorem one3 (k : Int) (t : ByteArray) (A : Option Addr) (n c : Nat) : ∀ u ∈ [Value.int .i64 k, .string t, .slice A n c], u.oneCell' = true := by
  intro u hu
  simp at hu
  rcases hu with rfl | rfl | rfl <;> rfl
/-- A row of types under way. -/
def MoreT (B : Nat) (acc : List TypeX) (V : Value) (w : World) : Prop := ∃ (vs : List Value) (bs : List Nat), w.ownsRow B 26 3 V acc.length vs ∧ OwVE w B 3 (TypeX.rows acc) vs bs ∧ (V.ownBlock.toList ++ bs).Nodup
theorem MoreT.row {B : Nat} {acc : List TypeX} {V : Value} {w : World} (h : MoreT B acc V w) : ∃ bs, OwV w B (.row 26 3 (TypeX.rows acc)) V bs ∧ bs.Nodup := by
  obtain ⟨vs, bs, h1, h2, h3⟩ := h
  refine ⟨_, ?_, h3⟩
  rw [OwV, TypeX.rows_length]
  exact ⟨vs, bs, h1, h2, rfl⟩
theorem MoreT.below {B : Nat} {acc : List TypeX} {V : Value} {w w' : World} (h : MoreT B acc V w) (hb : Below w.heap.size w w') : MoreT B acc V w' := by
  obtain ⟨vs, bs, h1, h2, h3⟩ := h
  exact ⟨vs, bs, owns_below h1 hb, OwVE_frame _ (fun b hm => hb.block b (OwVE_lt _ h2 b hm).2) h2, h3⟩
theorem MoreT.push {w w6 w7 : World} {B B6 : Nat} {acc : List TypeX} {x : TypeX} {V V' : Value} {vs : List Value} {A : Option Addr} {c : Nat} {bs' b2 : List Nat} {O : Obj}
    (ho : w.ownsRow B 26 3 V acc.length vs) (hE : OwVE w B 3 (TypeX.rows acc) vs bs') (hnd : (V.ownBlock.toList ++ bs').Nodup) (hb : Below w.heap.size w w6) (hB6 : B6 = w.heap.size)
    (hx : OwVs w6 B6 x.cells [.int .i64 x.kind_, .string x.name_, .slice A x.args_.length c] b2) (hn2 : b2.Nodup) (hB : B ≤ w.heap.size)
    (hown7 : w7.ownsRow B 26 3 V' (acc.length + 1) (vs ++ [.int .i64 x.kind_, .string x.name_, .slice A x.args_.length c])) (hg : (w6.alloc O).grownBy w7 V.ownBlock) (hv : V'.ownBlock = V.ownBlock ∨ V'.ownBlock = some (w6.heap.size + 1)) :
    MoreT B (acc ++ [x]) V' w7 := by
  subst hB6
  obtain ⟨h1, h2⟩ := row_push ho hE hnd hb hx hn2 (TypeX.cells_length x) hB (TypeX.rows_length acc).symm hown7 hg hv
  rw [← TypeX.rows_snoc, OwV, TypeX.rows_length] at h1
  obtain ⟨vs', bs'', h3, h4, h5⟩ := h1
  rw [h5] at h2
  exact ⟨vs', bs'', h3, h4, h2⟩
/-- A type's cells out of its row. -/
theorem cells_own {w : World} {B : Nat} {k : Int} {s : ByteArray} {l : List TypeX} {V : Value} {bs : List Nat} (h : OwV w B (.row 26 3 (TypeX.rows l)) V bs) : OwVs w B (TypeX.mk k s l).cells [.int .i64 k, .string s, V] bs := by
  rw [TypeX.cells]
  simp only [OwVs]
  exact ⟨_, _, [], _, rfl, rfl, by rw [OwV]; exact ⟨rfl, rfl⟩, _, _, [], _, rfl, rfl, by rw [OwV]; exact ⟨rfl, rfl⟩, V, [], _, [], rfl, (List.append_nil _).symm, h, rfl, rfl⟩
end Go.Proofs.YtngbilblddngcaaDoor
namespace Go.Proofs.YtngbilblddngcaaDoor
open Go.RowKit Go.Lib

mutual
def TypeX.same : TypeX → TypeX → Bool
  | .mk k s l, .mk k' s' m => (k == k') && (decide (s = s') && (decide (l.length = m.length) && TypeX.sameL l m))
def TypeX.sameL : List TypeX → List TypeX → Bool
  | [], _ => true
  | _ :: _, [] => true
  | x :: r, y :: s => x.same y && TypeX.sameL r s
end
theorem TypeX.same_eq (x y : TypeX) : x.same y = ((x.kind_ == y.kind_) && (decide (x.name_ = y.name_) && (decide (x.args_.length = y.args_.length) && TypeX.sameL x.args_ y.args_))) := by cases x; cases y; rw [TypeX.same]; rfl
theorem TypeX.sameL_take : ∀ (l m : List TypeX) (j : Nat) (h : j < l.length) (h' : j < m.length), TypeX.sameL (l.take (j + 1)) (m.take (j + 1)) = (TypeX.sameL (l.take j) (m.take j) && l[j].same m[j])
  | x :: r, y :: s, 0, _, _ => by simp [TypeX.sameL]
  | x :: r, y :: s, j + 1, h, h' => by
    have := TypeX.sameL_take r s j (by simpa using h) (by simpa using h')
    rw [List.take_succ_cons, List.take_succ_cons, List.take_succ_cons, List.take_succ_cons, TypeX.sameL, TypeX.sameL, this]
    simp [Bool.and_assoc]
theorem TypeX.sameL_false : ∀ (l m : List TypeX) (j : Nat) (h : j < l.length) (h' : j < m.length), l[j].same m[j] = false → TypeX.sameL l m = false
  | x :: r, y :: s, 0, _, _, hf => by rw [TypeX.sameL]; simp at hf; rw [hf]; rfl
  | x :: r, y :: s, j + 1, h, h', hf => by rw [TypeX.sameL, TypeX.sameL_false r s j (by simpa using h) (by simpa using h') (by simpa using hf), Bool.and_false]
mutual
theorem TypeX.same_iff : ∀ (x y : TypeX), x.same y = true ↔ x = y
  | .mk a s l, .mk b t m => by
    rw [TypeX.same, Bool.and_eq_true, Bool.and_eq_true, Bool.and_eq_true, decide_eq_true_eq, decide_eq_true_eq, beq_iff_eq, TypeX.mk.injEq]
    constructor
    · rintro ⟨h1, h2, h3, h4⟩; exact ⟨h1, h2, (TypeX.sameL_iff l m h3).1 h4⟩
    · rintro ⟨h1, h2, h3⟩; subst h3; exact ⟨h1, h2, rfl, (TypeX.sameL_iff l l rfl).2 rfl⟩
theorem TypeX.sameL_iff : ∀ (l m : List TypeX), l.length = m.length → (TypeX.sameL l m = true ↔ l = m)
  | [], m, h => by rw [TypeX.sameL]; simp; exact List.eq_nil_of_length_eq_zero h.symm
  | x :: r, [], h => by simp at h
  | x :: r, y :: s, h => by rw [TypeX.sameL, Bool.and_eq_true, TypeX.same_iff x y, TypeX.sameL_iff r s (by simpa using h), List.cons.injEq]
end
theorem TypeX.sizeL_at : ∀ (l : List TypeX) (j : Nat) (h : j < l.length), l[j].size ≤ TypeX.sizeL l
  | x :: r, 0, _ => by rw [TypeX.sizeL]; simp
  | x :: r, j + 1, h => by
    have := TypeX.sizeL_at r j (by simpa using h)
    rw [TypeX.sizeL]; simp; omega

def SameT (N : Nat) : Prop := ∀ (x y : TypeX) (v v' : Value) (w : World), x.size ≤ N → TypeAt w (Und w.heap.size) x v → TypeAt w (Und w.heap.size) y v' →
  Calls Tryd.prog 15 #[v, v'] w fun e w' => e = .returned (.bool (x.same y)) ∧ Below w.heap.size w w'
def SameTL (N : Nat) : Prop := ∀ (l m : List TypeX) (A B : Option Addr) (c d : Nat) (w : World), TypeX.sizeL l ≤ N → TypeRow w (Und w.heap.size) A c l → TypeRow w (Und w.heap.size) B d m →
  Calls Tryd.prog 44 #[.slice A l.length c, .slice B m.length d] w fun e w' => e = .returned (.bool (decide (l.length = m.length) && TypeX.sameL l m)) ∧ Below w.heap.size w w'

set_option maxRecDepth 100000 in
set_option maxHeartbeats 2000000 in
theorem sameTL_step (N : Nat) (ih : SameT N) : SameTL N := by
  intro l m A B c d w hn hA hB
  have hcl := hA.cap
  have hcm := hB.cap
  have HA := Lib.hid hA
  have HB := Lib.hid hB
  have HN := Lib.hid hn
  clear hA hB hn
  by_cases hlen : l.length = m.length
  · rw [decide_eq_true hlen, Bool.true_and, ← hlen]
    have HL := Lib.hid hlen
    clear hlen hcm
    go_enter Tryd.func44, Tryd.ntmps44
    go_wp2
    go_loopw [5] (fun iv wr => ∃ k : Nat, k ≤ l.length ∧ iv = .int .i64 k ∧ TypeX.sameL (l.take k) (m.take k) = true ∧ Below w.heap.size w wr) (fun iv _ => l.length - (Go.RowKit.intOf iv).toNat)
    case atStart => exact ⟨0, Nat.zero_le _, rfl, by simp [TypeX.sameL], Below.refl _ _⟩
    case round =>
      obtain ⟨k, hk, rfl, hs, hb⟩ := hrel
      have HT := Lib.hid hs
      clear hs
      by_cases hlt : k < l.length
      · have hlt2 : k < m.length := by have := HL.out; omega
        obtain ⟨b, o, A2, c2, hAe, hP, p0, p1, p2, h2⟩ := (HA.out.grow hb).at_ hlt
        subst hAe
        obtain ⟨b2, o2, B2, d2, hBe, hP2, r0, r1, r2, g2⟩ := (HB.out.grow hb).at_ hlt2
        subst hBe
        have hst := TypeX.sameL_take l m k hlt hlt2
        have hno := TypeX.sameL_false l m k hlt hlt2
        rw [HT.out, Bool.true_and] at hst
        have hnx : l[k].size ≤ N := by have := TypeX.sizeL_at l k hlt; have := HN.out; omega
        have cE : ∀ dr os, Calls Tryd.prog 15 #[.agg #[.int .i64 l[k].kind_, .string l[k].name_, .slice A2 l[k].args_.length c2], .agg #[.int .i64 m[k].kind_, .string m[k].name_, .slice B2 m[k].args_.length d2]] (Go.Sort.grow (redrawn wr dr) os) fun e w'' => e = .returned (.bool (l[k].same m[k])) ∧ ∃ p : Regrown, w'' = Go.Sort.grow (redrawn wr p.d) p.os :=
          fun dr os => Calls.regrown_of (ih l[k] m[k] _ _ _ hnx ⟨_, _, rfl, h2.grow (below_regrown wr dr os)⟩ ⟨_, _, rfl, g2.grow (below_regrown wr dr os)⟩)
        have kp0 := cell_regrown p0
        have kr0 := cell_regrown r0
        have kp1 := cell_regrown p1
        have kr1 := cell_regrown r1
        have kp2 := cell_regrown p2
        have kr2 := cell_regrown r2
        have hk0 : (0 : Int) ≤ k := by omega
        have HSt := Lib.hid hst
        have HNo := Lib.hid hno
        clear h2 g2 hnx hst hno
        go_wp2
        refine wp_region_quiet_below (by kernel_rfl) (by kernel_rfl) ?_
        repeat (quiet_step (exact cE _ _))
        refine wpQuiet_nil ?_
        intro _ hw'
        obtain ⟨⟨dq, osq⟩, hw''⟩ := hw'
        subst hw''
        have hb3 := hb.trans ((below_regrown wr dq osq).mono hb.size)
        clear cE kp0 kr0 kp1 kr1 kp2 kr2
        cases hc : l[k].same m[k] with
        | true =>
          have HC := Lib.hid hc
          clear hc
          go_wp2
          go_roundw
          case rel => exact ⟨k + 1, by omega, by go_num, by rw [HSt.out, HC.out], hb3⟩
          case measure => simp [Go.RowKit.intOf]; omega
        | false =>
          have HC := Lib.hid hc
          clear hc
          go_wp2
          go_ret
          exact ⟨congrArg (fun b => Ending.returned (.bool b)) (HNo.out HC.out).symm, hb3⟩
      · have hkl : k = l.length := by omega
        subst hkl
        have ht := HT.out
        rw [List.take_length, HL.out, List.take_length] at ht
        have HT' := Lib.hid ht
        clear ht
        go_wp2
        go_ret
        exact ⟨congrArg (fun b => Ending.returned (.bool b)) HT'.out.symm, hb⟩
  · rw [decide_eq_false hlen, Bool.false_and]
    have hlz : ((l.length : Int) == m.length) = false := by rw [beq_eq_false_iff_ne]; omega
    clear hlen
    go_enter Tryd.func44, Tryd.ntmps44
    go_wp2
    go_ret
    exact ⟨rfl, Below.refl _ _⟩

set_option maxRecDepth 100000 in
set_option maxHeartbeats 2000000 in
theorem sameT_step (N : Nat) (ih : SameTL N) : SameT (N + 1) := by
  intro x y v v' w hn hv hv'
  obtain ⟨A, c, rfl, hx⟩ := hv
  obtain ⟨B, d, rfl, hy⟩ := hv'
  have hsq := TypeX.same_eq x y
  have hb0 : Below w.heap.size w ((w.alloc (.cells #[.int .i64 x.kind_, .string x.name_, .slice A x.args_.length c] 26)).alloc (.cells #[.int .i64 y.kind_, .string y.name_, .slice B y.args_.length d] 26)) := ((Below.refl _ _).alloc (Nat.le_refl _) _).alloc (by simp) _
  have HX := Lib.hid (hx.grow hb0)
  have HY := Lib.hid (hy.grow hb0)
  have HN := Lib.hid hn
  clear hx hy hn
  cases hk : (x.kind_ == y.kind_) with
  | false =>
    rw [hk, Bool.false_and] at hsq
    have HS := Lib.hid hsq
    clear hsq
    go_enter Tryd.func15, Tryd.ntmps15
    go_wp2
    go_ret
    exact ⟨congrArg (fun b => Ending.returned (.bool b)) HS.out.symm, hb0⟩
  | true =>
    rw [hk, Bool.true_and] at hsq
    by_cases hnm : x.name_ = y.name_
    · rw [decide_eq_true hnm, Bool.true_and] at hsq
      have HS := Lib.hid hsq
      have he1 : (x.name_.toList == y.name_.toList) = true := by rw [hnm]; simp
      clear hsq hnm
      go_enter Tryd.func15, Tryd.ntmps15
      go_wp2_with fail
      refine (ih x.args_ y.args_ _ _ _ _ _ (by have := HN.out; rw [TypeX.size_eq] at this; omega) HX.out HY.out).mono ?_
      rw [← HS.out]
      rintro e w1 ⟨rfl, hb1⟩
      have hb2 := hb0.trans (hb1.mono hb0.size)
      go_wp2
      go_ret
      exact ⟨rfl, hb2⟩
    · rw [decide_eq_false hnm, Bool.false_and] at hsq
      have HS := Lib.hid hsq
      have he1 : (x.name_.toList == y.name_.toList) = false := text_ne hnm
      clear hsq hnm
      go_enter Tryd.func15, Tryd.ntmps15
      go_wp2
      go_ret
      exact ⟨congrArg (fun b => Ending.returned (.bool b)) HS.out.symm, hb0⟩
theorem sameTAll : ∀ N, SameT N
  | 0 => fun x y v v' w hn => by rw [TypeX.size_eq] at hn; omega
  | N + 1 => sameT_step N (sameTL_step N (sameTAll N))
theorem specSameTy (x y : TypeX) (v v' : Value) (w : World) (hv : TypeAt w (Und w.heap.size) x v) (hv' : TypeAt w (Und w.heap.size) y v') :
    Calls Tryd.prog 15 #[v, v'] w fun e w' => e = .returned (.bool (x.same y)) ∧ Below w.heap.size w w' := sameTAll _ x y v v' w (Nat.le_refl _) hv hv'
end Go.Proofs.YtngbilblddngcaaDoor
namespace Go.Proofs
open Go.Shelf
def Tryd.laysM171_ren : Go.Shelf.Ren := ⟨fun | 171 => 52 | 243 => 71 | 246 => 80 | 283 => 83 | 284 => 84 | 285 => 85 | 286 => 86 | 129 => 88 | 317 => 87 | 318 => 89 | 319 => 90 | 320 => 91 | 337 => 92 | 338 => 93 | n => n, fun | 3 => 3 | 9 => 9 | 2 => 2 | 4 => 4 | 171 => 121 | 0 => 0 | 53 => 122 | 37 => 22 | 5 => 5 | 173 => 125 | 212 => 129 | 51 => 130 | 20 => 20 | 213 => 131 | 46 => 115 | 232 => 134 | 233 => 135 | n => n, fun | 17 => 0 | 18 => 1 | 19 => 2 | n => n⟩
theorem Tryd.laysM171 : Go.Proofs.LaysM.n171 Tryd.prog Tryd.laysM171_ren := {
  mixed := by kernel_rfl
  f129 := Tryd.func88.trans (congrArg some (by kernel_rfl))
  f171 := Tryd.func52.trans (congrArg some (by kernel_rfl))
  f243 := Tryd.func71.trans (congrArg some (by kernel_rfl))
  f246 := Tryd.func80.trans (congrArg some (by kernel_rfl))
  f283 := Tryd.func83.trans (congrArg some (by kernel_rfl))
  f284 := Tryd.func84.trans (congrArg some (by kernel_rfl))
  f285 := Tryd.func85.trans (congrArg some (by kernel_rfl))
  f286 := Tryd.func86.trans (congrArg some (by kernel_rfl))
  f317 := Tryd.func87.trans (congrArg some (by kernel_rfl))
  f318 := Tryd.func89.trans (congrArg some (by kernel_rfl))
  f319 := Tryd.func90.trans (congrArg some (by kernel_rfl))
  f320 := Tryd.func91.trans (congrArg some (by kernel_rfl))
  f337 := Tryd.func92.trans (congrArg some (by kernel_rfl))
  f338 := Tryd.func93.trans (congrArg some (by kernel_rfl))
  t0 := Tryd.underlying0
  a0 := Tryd.isAgg0
  z0 := Tryd.sizeOf0
  v0 := Tryd.zeroValue0
  t2 := Tryd.underlying2
  a2 := Tryd.isAgg2
  z2 := Tryd.sizeOf2
  v2 := Tryd.zeroValue2
  t3 := Tryd.underlying3
  a3 := Tryd.isAgg3
  z3 := Tryd.sizeOf3
  v3 := Tryd.zeroValue3
  t4 := Tryd.underlying4
  a4 := Tryd.isAgg4
  z4 := Tryd.sizeOf4
  v4 := Tryd.zeroValue4
  t5 := Tryd.underlying5
  a5 := Tryd.isAgg5
  z5 := Tryd.sizeOf5
  v5 := Tryd.zeroValue5
  t9 := Tryd.underlying9
  a9 := Tryd.isAgg9
  z9 := Tryd.sizeOf9
  v9 := Tryd.zeroValue9
  t20 := Tryd.underlying20
  a20 := Tryd.isAgg20
  z20 := Tryd.sizeOf20
  v20 := Tryd.zeroValue20
  t37 := Tryd.underlying22
  a37 := Tryd.isAgg22
  z37 := Tryd.sizeOf22
  v37 := Tryd.zeroValue22
  t46 := Tryd.underlying115
  a46 := Tryd.isAgg115
  z46 := Tryd.sizeOf115
  v46 := Tryd.zeroValue115
  t51 := Tryd.underlying130
  a51 := Tryd.isAgg130
  z51 := Tryd.sizeOf130
  v51 := Tryd.zeroValue130
  t53 := Tryd.underlying122
  a53 := Tryd.isAgg122
  z53 := Tryd.sizeOf122
  v53 := Tryd.zeroValue122
  t171 := Tryd.underlying121
  a171 := Tryd.isAgg121
  z171 := Tryd.sizeOf121
  v171 := Tryd.zeroValue121
  t173 := Tryd.underlying125
  a173 := Tryd.isAgg125
  z173 := Tryd.sizeOf125
  v173 := Tryd.zeroValue125
  t212 := Tryd.underlying129
  a212 := Tryd.isAgg129
  z212 := Tryd.sizeOf129
  v212 := Tryd.zeroValue129
  t213 := Tryd.underlying131
  a213 := Tryd.isAgg131
  z213 := Tryd.sizeOf131
  t232 := Tryd.underlying134
  a232 := Tryd.isAgg134
  z232 := Tryd.sizeOf134
  v232 := Tryd.zeroValue134
  t233 := Tryd.underlying135
  a233 := Tryd.isAgg135
  z233 := Tryd.sizeOf135
  v233 := Tryd.zeroValue135
  g17 := by kernel_rfl
  g18 := by kernel_rfl
  g19 := by kernel_rfl
  i0 := by kernel_rfl
  i2 := by kernel_rfl
  i3 := by kernel_rfl
  i4 := by kernel_rfl
  i5 := by kernel_rfl
  i9 := by kernel_rfl
  i20 := by kernel_rfl
  i37 := by kernel_rfl
  i46 := by kernel_rfl
  i51 := by kernel_rfl
  i53 := by kernel_rfl
  i171 := by kernel_rfl
  i173 := by kernel_rfl
  i212 := by kernel_rfl
  i232 := by kernel_rfl
  i233 := by kernel_rfl
  m17 := by kernel_rfl
  m18 := by kernel_rfl
  m19 := by kernel_rfl }
open Go.RowKit Go.Sort Go.Lib in
theorem Tryd.strconv_Itoa (n : Int) (h0 : -9223372036854775808 ≤ n) (h1 : n ≤ 9223372036854775807) (w : World) (htab : Lib.TabIs Tryd.prog w "internal/strconv.uint64pow10" .u64 Lib.pow10Tab) :
    Calls Tryd.prog 52 #[.int .i64 n] w fun e w' => e = .returned (.string ⟨(Lib.itoa n).toArray⟩) ∧ ∃ k os, w' = grow (w.drewN k) os := Any.strconv_Itoa Tryd.laysM171 n h0 h1 w htab
end Go.Proofs
namespace Go.Proofs.YtngbilblddngcaaDoor
open Go.RowKit Go.Lib

theorem gPow : Tryd.prog.globalNamed "internal/strconv.uint64pow10" = some 0 := by kernel_rfl
theorem gPowType : (Tryd.prog.globals[0]?).map (·.type) = some 129 := by kernel_rfl
theorem cellsPow : Tryd.prog.cellsOf 129 = 20 := by kernel_rfl
theorem cellsU64 : Tryd.prog.cellsOf 122 = 1 := by kernel_rfl

/-- The library's table of powers of ten holds what its text lays. -/
def Pow (w : World) : Prop := Lib.TabIs Tryd.prog w "internal/strconv.uint64pow10" .u64 Lib.pow10Tab
theorem var_kept {P : Program} {w w' : World} {n : String} {cs : Array Value} (hb : Below w.heap.size w w') (h : w.var? P n = some cs) : w'.var? P n = some cs := by
  unfold World.var? at h ⊢
  cases hg : P.globalNamed n with
  | none => simp [hg] at h
  | some g =>
    simp only [hg, Option.bind_some] at h ⊢
    have hlt : g < w.heap.size := by
      rcases Nat.lt_or_ge g w.heap.size with h' | h'
      · exact h'
      · simp [Array.getElem?_eq_none h'] at h
    rw [hb.block g hlt]
    exact h
theorem Pow.below {w w' : World} (h : Pow w) (hb : Below w.heap.size w w') : Pow w' := var_kept hb h
theorem pow_of_head {W : World} {r : List (String × DataW Unit)} (h : laidMet Tryd.prog (("internal/strconv.uint64pow10", Rows.laid_internal_strconv_uint64pow10) :: r) W) : Pow W :=
  Lib.tabIs_of_head (rest := r) gPow gPowType Tryd.underlying129 Tryd.underlying122 cellsU64 cellsPow h
end Go.Proofs.YtngbilblddngcaaDoor
namespace Go.Proofs.YtngbilblddngcaaDoor
open Go.RowKit Go.Lib

/-- THE PROGRAM's FormatInt, at every int. -/
theorem implFmt (n : Int) (w : World) (h0 : -9223372036854775808 ≤ n) (h1 : n ≤ 9223372036854775807) (hp : Pow w) :
    Calls Tryd.prog 35 #[.int .i64 n] w fun e w' => e = .returned (.string ⟨(itoa n).toArray⟩) ∧ Below w.heap.size w w' := by
  go_enter Tryd.func35, Tryd.ntmps35
  go_wp2_with fail
  refine (Tryd.strconv_Itoa n h0 h1 _ hp).mono ?_
  rintro e w1 ⟨rfl, k, os, rfl⟩
  have hb := below_grow w.heap.size w (Nat.le_refl _) k os
  go_wp2
  go_ret
  exact ⟨rfl, hb⟩

set_option maxRecDepth 100000 in
theorem lawFmt (n : Int) (w : World) (h0 : -9223372036854775808 ≤ n) (h1 : n ≤ 9223372036854775807) (hp : Pow w) :
    Calls Tryd.prog 8 #[.int .i64 n] w fun e w' => e = .returned (.bool true) ∧ Below w.heap.size w w' := by
  go_enter Tryd.func8, Tryd.ntmps8
  go_wp2_with fail
  refine (fmt_any n _ h0 h1).mono ?_
  rintro e w1 ⟨rfl, hb1⟩
  have hp1 := hp.below hb1
  go_wp2_with fail
  refine (implFmt n _ h0 h1 hp1).mono ?_
  rintro e w2 ⟨rfl, hb2⟩
  have hb := hb1.trans (hb2.mono hb1.size)
  go_wp2
  go_ret
  exact ⟨rfl, hb⟩
end Go.Proofs.YtngbilblddngcaaDoor
namespace Go.Proofs.YtngbilblddngcaaDoor
open Go.ChangeShapes Go.WideShapes Go.ChangeAt Go.RowKit Go.Deep

/-- The fields lie one behind another. -/
def contig (P : Program) : Nat → Nat → List Field → Prop
  | off, n, [] => off = n
  | off, n, f :: r => f.offset = off ∧ contig P (off + P.cellsOf f.type) n r
/-- A type that is made of types of G alone. -/
def KindOk (P : Program) (G : TypeId → Prop) (t : TypeId) : Prop :=
  P.underlying t = some (.int .i64) ∨ P.underlying t = some .string ∨ P.underlying t = some .bool ∨ (∃ e, P.underlying t = some (.slice e) ∧ G e ∧ 0 < P.cellsOf e) ∨
  (∃ fs : Array Field, P.underlying t = some (.struct fs) ∧ (∀ f ∈ fs.toList, G f.type) ∧ contig P 0 (P.cellsOf t) fs.toList)
/-- The shape of a type's data. -/
def Fits (P : Program) (φ : TypeId → TypeId) : Nat → TypeId → List DV → Prop
  | 0, _, _ => False
  | n + 1, t, ds =>
    (P.underlying t = some (.int .i64) ∧ ∃ z, ds = [.pl (.int .i64 z)]) ∨ (P.underlying t = some .string ∧ ∃ s, ds = [.pl (.string s)]) ∨ (P.underlying t = some .bool ∧ ∃ b, ds = [.pl (.bool b)]) ∨
    (∃ e, P.underlying t = some (.slice e) ∧ ∃ xs, ds = [.row (φ e) (P.cellsOf e) xs] ∧ ∀ x ∈ xs, Fits P φ n e x) ∨
    (∃ fs : Array Field, P.underlying t = some (.struct fs) ∧ ∃ parts : List (List DV), ds = parts.flatten ∧ parts.length = fs.size ∧ ∀ (i : Nat) (f : Field) (p : List DV), fs[i]? = some f → parts[i]? = some p → Fits P φ n f.type p)

theorem RdVs_app {w : World} {Q : Nat → Prop} : ∀ {ds : List DV} {vs : List Value}, RdVs w Q ds vs → ∀ {es : List DV} {us : List Value}, RdVs w Q es us → RdVs w Q (ds ++ es) (vs ++ us)
  | [], vs, h, es, us, h' => by rw [RdVs] at h; subst h; exact h'
  | d :: r, vs, h, es, us, h' => by
    rw [RdVs] at h
    obtain ⟨v, vs', rfl, h1, h2⟩ := h
    rw [List.cons_append, RdVs]
    exact ⟨v, _, rfl, h1, RdVs_app h2 h'⟩
theorem okL_app : ∀ {ds es : List DV}, DV.okL ds → DV.okL es → DV.okL (ds ++ es)
  | [], es, _, h => h
  | d :: r, es, h, h' => by
    rw [DV.okL] at h
    rw [List.cons_append, DV.okL]
    exact ⟨h.1, okL_app h.2 h'⟩
theorem okE_of : ∀ {xs : List (List DV)}, (∀ x ∈ xs, DV.okL x) → DV.okE xs
  | [], _ => by rw [DV.okE]; trivial
  | x :: r, h => by
    rw [DV.okE]
    exact ⟨h x (by simp), okE_of fun y hy => h y (List.mem_cons_of_mem _ hy)⟩
theorem RdVE_of {w : World} {Q : Nat → Prop} {k b : Nat} : ∀ (xs : List (List DV)) (o : Nat), (∀ (j : Nat) (h : j < xs.length), xs[j].length = k ∧ ∃ vs : List Value, RdVs w Q xs[j] vs ∧ ∀ (i : Nat) (v : Value), vs[i]? = some v → w.cell? ⟨b, o + j * k + i, none⟩ = some v) →
    ∃ vs : List Value, RdVE w Q k xs vs ∧ ∀ (i : Nat) (v : Value), vs[i]? = some v → w.cell? ⟨b, o + i, none⟩ = some v
  | [], o, _ => ⟨[], by rw [RdVE], by simp⟩
  | x :: r, o, h => by
    obtain ⟨hk, vs, h1, h2⟩ := h 0 (by simp)
    have hk' : x.length = k := hk
    have h1' : RdVs w Q x vs := h1
    obtain ⟨us, h3, h4⟩ := RdVE_of r (o + k) fun j hj => by
      obtain ⟨hk2, us, g1, g2⟩ := h (j + 1) (by simpa using hj)
      refine ⟨by simpa using hk2, us, by simpa using g1, fun i v hi => ?_⟩
      have := g2 i v hi
      rw [show o + (j + 1) * k + i = o + k + j * k + i by rw [Nat.add_mul]; omega] at this
      exact this
    have hvl : vs.length = k := by rw [RdVs_length h1', hk']
    refine ⟨vs ++ us, by rw [RdVE]; exact ⟨vs, us, rfl, hk', h1', h3⟩, fun i v hi => ?_⟩
    by_cases hlt : i < vs.length
    · rw [List.getElem?_append_left hlt] at hi
      have := h2 i v hi
      rw [Nat.zero_mul, Nat.add_zero] at this
      exact this
    · rw [List.getElem?_append_right (by omega)] at hi
      have := h4 _ v hi
      rw [show o + k + (i - vs.length) = o + i by omega] at this
      exact this

section
variable {H : Type} {enc : TypeId × Value → H} {P : Program} {w : World} {base : Nat} {spare : Nat → Bool} {held : Bool} {φ : TypeId → TypeId} {G : TypeId → Prop}

theorem fits_fields {m n : Nat} {cs : List Value} (ih : ∀ (t : TypeId) (cs : List Value) (y : DataW H × List MemPlace), G t → DataW.trod enc P w base spare held m t cs = some y → ∃ ds, Fits P φ n t ds ∧ RdVs w (Und w.heap.size) ds cs ∧ DV.okL ds) :
    ∀ (fl : List Field) (off : Nat), contig P off cs.length fl → (∀ f ∈ fl, G f.type ∧ ∃ y, DataW.trod enc P w base spare held m f.type ((cs.drop f.offset).take (P.cellsOf f.type)) = some y) →
      ∃ parts : List (List DV), parts.length = fl.length ∧ (∀ (i : Nat) (f : Field) (p : List DV), fl[i]? = some f → parts[i]? = some p → Fits P φ n f.type p) ∧ RdVs w (Und w.heap.size) parts.flatten (cs.drop off) ∧ DV.okL parts.flatten
  | [], off, hc, _ => by
    rw [contig] at hc
    subst hc
    exact ⟨[], rfl, by simp, by rw [List.drop_length]; rfl, by rw [List.flatten_nil, DV.okL]; trivial⟩
  | f :: r, off, hc, hf => by
    rw [contig] at hc
    obtain ⟨rfl, hc⟩ := hc
    obtain ⟨hg, y, hy⟩ := hf f (by simp)
    obtain ⟨ds, d1, d2, d3⟩ := ih _ _ _ hg hy
    obtain ⟨parts, p1, p2, p3, p4⟩ := fits_fields ih r _ hc fun g hg => hf g (List.mem_cons_of_mem _ hg)
    refine ⟨ds :: parts, by simp [p1], fun i g p hi hp => ?_, ?_, ?_⟩
    · match i, hi, hp with
      | 0, hi, hp =>
        simp at hi hp
        subst hi hp
        exact d1
      | i + 1, hi, hp => exact p2 i g p (by simpa using hi) (by simpa using hp)
    · rw [List.flatten_cons]
      have h := RdVs_app d2 p3
      rw [← List.drop_drop, List.take_append_drop] at h
      exact h
    · rw [List.flatten_cons]; exact okL_app d3 p4

theorem trod_fits (hG : ∀ t, G t → KindOk P G t) : ∀ (F fuel : Nat) (t : TypeId) (cs : List Value) (y : DataW H × List MemPlace), fuel ≤ F → G t → DataW.trod enc P w base spare held fuel t cs = some y →
    ∃ ds, Fits P φ F t ds ∧ RdVs w (Und w.heap.size) ds cs ∧ DV.okL ds := by
  intro F
  induction F with
  | zero =>
    intro fuel t cs y hf _ h
    obtain rfl : fuel = 0 := by omega
    simp [DataW.trod] at h
  | succ F ih =>
    intro fuel t cs y hf hg h
    rcases hG t hg with hk | hk | hk | ⟨e, hk, he, hpos⟩ | ⟨fs, hk, hfs, hct⟩
    · obtain ⟨z, rfl, _, hz⟩ := DataW.trod_int hk h
      refine ⟨[.pl (.int .i64 z)], by rw [Fits]; exact .inl ⟨hk, z, rfl⟩, by rw [RdVs]; exact ⟨_, [], rfl, by rw [RdV], by rw [RdVs]⟩, ?_⟩
      simp only [DV.okL, DV.ok, uok, and_true]
      have := hz
      simp [Lit.wf] at this
      exact ⟨this.1, this.2⟩
    · obtain ⟨s, rfl, _, hs⟩ := DataW.trod_string hk h
      refine ⟨[.pl (.string s)], by rw [Fits]; exact .inr (.inl ⟨hk, s, rfl⟩), by rw [RdVs]; exact ⟨_, [], rfl, by rw [RdV], by rw [RdVs]⟩, ?_⟩
      simp only [DV.okL, DV.ok, uok, and_true]
      unfold maxLen at hs; omega
    · obtain ⟨b, rfl, _⟩ := DataW.trod_bool hk h
      refine ⟨[.pl (.bool b)], by rw [Fits]; exact .inr (.inr (.inl ⟨hk, b, rfl⟩)), by rw [RdVs]; exact ⟨_, [], rfl, by rw [RdV], by rw [RdVs]⟩, ?_⟩
      simp only [DV.okL, DV.ok, uok, and_true]
    · rcases DataW.trod_slice hk h with ⟨rfl, _⟩ | ⟨a, len, cap, elems, rest, m, rfl, rfl, _, _, hlc, hcm, hel, hes, _, _⟩
      · refine ⟨[.row (φ e) (P.cellsOf e) []], by rw [Fits]; exact .inr (.inr (.inr (.inl ⟨e, hk, [], rfl, by simp⟩))), by rw [RdVs]; exact ⟨_, [], rfl, RdV_row.2 ⟨none, 0, rfl, Nat.le_refl _, by omega, .inl rfl⟩, by rw [RdVs]⟩, ?_⟩
        simp [DV.okL, DV.ok, DV.okE]
      · have each : ∀ i, i < len → ∃ ds, Fits P φ F e ds ∧ DV.okL ds ∧ ds.length = P.cellsOf e ∧ ∃ vs : List Value, RdVs w (Und w.heap.size) ds vs ∧ ∀ j, j < P.cellsOf e → w.cell? ((a.add (i * P.cellsOf e)).add j) = vs[j]? := by
          intro i hi
          have h2 := hes i hi
          rw [List.getElem?_eq_getElem (by omega)] at h2
          obtain ⟨cs', hc, ht⟩ := Option.bind_eq_some_iff.1 h2
          obtain ⟨ds, d1, d2, d3⟩ := ih m e cs' _ (by omega) he ht
          obtain ⟨_, hl, hat⟩ := World.cells?_some hc
          exact ⟨ds, d1, d3, by rw [← RdVs_length d2, hl], cs', d2, hat⟩
        obtain ⟨f, hf2⟩ := choose_lt each
        have hxl : ((List.range len).map f).length = len := by simp
        refine ⟨[.row (φ e) (P.cellsOf e) ((List.range len).map f)], by
          rw [Fits]
          refine .inr (.inr (.inr (.inl ⟨e, hk, _, rfl, fun x hx => ?_⟩)))
          obtain ⟨i, hi, rfl⟩ := List.mem_map.1 hx
          exact (hf2 i (by simpa using hi)).1, ?_, ?_⟩
        · rw [RdVs]
          refine ⟨_, [], rfl, RdV_row.2 ⟨some a, cap, by rw [hxl], by rw [hxl]; exact hlc, by unfold maxLen at hcm; omega, ?_⟩, by rw [RdVs]⟩
          by_cases hz : len = 0
          · exact .inl (by rw [hz]; rfl)
          · obtain ⟨b, o, spot⟩ := a
            obtain ⟨_, _, hl0, vs0, hr0, hc0⟩ := hf2 0 (by omega)
            have hv0 : 0 < vs0.length := by rw [RdVs_length hr0, hl0]; exact hpos
            have c00 := hc0 0 hpos
            rw [List.getElem?_eq_getElem hv0] at c00
            have hspot : spot = none := by simpa [Addr.add] using World.cell?_spot c00
            subst hspot
            have hb : b < w.heap.size := by
              have := World.block_lt_of_cell? w _ c00
              simpa [Addr.add] using this
            obtain ⟨vs, h1, h2⟩ := RdVE_of (w := w) (Q := Und w.heap.size) (k := P.cellsOf e) (b := b) ((List.range len).map f) o fun j hj => by
              have hjl : j < len := by simpa using hj
              obtain ⟨_, _, hlj, vsj, hrj, hcj⟩ := hf2 j hjl
              simp only [List.getElem_map, List.getElem_range]
              refine ⟨hlj, vsj, hrj, fun i v hi => ?_⟩
              have hil : i < P.cellsOf e := by
                rw [← hlj, ← RdVs_length hrj]
                exact (List.getElem?_eq_some_iff.1 hi).1
              have := hcj i hil
              rw [Go.WideShapes.add_plain, Go.WideShapes.add_plain, hi] at this
              exact this
            exact .inr ⟨b, o, rfl, hb, vs, h1, h2⟩
        · simp only [DV.okL, DV.ok, and_true]
          refine ⟨by rw [hxl]; unfold maxLen at hcm; omega, okE_of fun x hx => ?_⟩
          obtain ⟨i, hi, rfl⟩ := List.mem_map.1 hx
          exact (hf2 i (by simpa using hi)).2.1
    · obtain ⟨xs, m, rfl, _, hcl, hxl, hat⟩ := DataW.trod_struct hk h
      rw [← hcl] at hct
      obtain ⟨parts, p1, p2, p3, p4⟩ := fits_fields (φ := φ) (G := G) (m := m) (n := F) (cs := cs) (fun t cs y hg' h' => ih m t cs y (by omega) hg' h') fs.toList 0 hct fun f hf => by
        refine ⟨hfs f hf, ?_⟩
        obtain ⟨i, hi, rfl⟩ := List.mem_iff_getElem.1 hf
        have hi' : i < fs.size := by simpa using hi
        refine ⟨xs[i]'(by omega), ?_⟩
        rw [hat i _ (by simp [hi']), List.getElem?_eq_getElem (by omega)]
      refine ⟨parts.flatten, ?_, by simpa using p3, p4⟩
      rw [Fits]
      exact .inr (.inr (.inr (.inr ⟨fs, hk, parts, rfl, by simpa using p1, fun i f p hi hp => p2 i f p (by simpa using hi) hp⟩)))
end
end Go.Proofs.YtngbilblddngcaaDoor
namespace Go.Proofs.YtngbilblddngcaaDoor
open Go.ChangeShapes Go.WideShapes Go.ChangeAt Go.RowKit Go.Deep

/-- The laws' types by the program's. -/
def toImplT (t : TypeId) : TypeId := if t = 42 then 26 else t
def typeG (t : TypeId) : Prop := t = 42 ∨ t = 31 ∨ t = 3 ∨ t = 9
theorem typeG_ok : ∀ t, typeG t → KindOk Tryd.prog typeG t := by
  rintro t (rfl | rfl | rfl | rfl)
  · refine .inr (.inr (.inr (.inr ⟨_, Tryd.underlying42, ?_, ?_⟩)))
    · intro f hf
      simp only [List.mem_cons, List.not_mem_nil, or_false] at hf
      rcases hf with rfl | rfl | rfl
      · exact .inr (.inr (.inl rfl))
      · exact .inr (.inr (.inr rfl))
      · exact .inr (.inl rfl)
    · simp only [contig]
      exact ⟨trivial, by kernel_rfl, by kernel_rfl, by kernel_rfl⟩
  · exact .inr (.inr (.inr (.inl ⟨_, Tryd.underlying31, .inl rfl, by rw [show Tryd.prog.cellsOf 42 = 3 by kernel_rfl]; decide⟩)))
  · exact .inl Tryd.underlying3
  · exact .inr (.inl Tryd.underlying9)

/-- Only one of a type's five shapes is its own. -/
theorem fits_int {φ : TypeId → TypeId} {P : Program} {n : Nat} {t : TypeId} {ds : List DV} (hu : P.underlying t = some (.int .i64)) (h : Fits P φ n t ds) : ∃ z, ds = [.pl (.int .i64 z)] := by
  cases n with
  | zero => rw [Fits] at h; exact h.elim
  | succ n =>
    rw [Fits, hu] at h
    rcases h with ⟨_, h⟩ | ⟨h, _⟩ | ⟨h, _⟩ | ⟨_, h, _⟩ | ⟨_, h, _⟩
    · exact h
    all_goals cases h
theorem fits_string {φ : TypeId → TypeId} {P : Program} {n : Nat} {t : TypeId} {ds : List DV} (hu : P.underlying t = some .string) (h : Fits P φ n t ds) : ∃ s, ds = [.pl (.string s)] := by
  cases n with
  | zero => rw [Fits] at h; exact h.elim
  | succ n =>
    rw [Fits, hu] at h
    rcases h with ⟨h, _⟩ | ⟨_, h⟩ | ⟨h, _⟩ | ⟨_, h, _⟩ | ⟨_, h, _⟩
    · cases h
    · exact h
    all_goals cases h
theorem fits_bool {φ : TypeId → TypeId} {P : Program} {n : Nat} {t : TypeId} {ds : List DV} (hu : P.underlying t = some .bool) (h : Fits P φ n t ds) : ∃ b, ds = [.pl (.bool b)] := by
  cases n with
  | zero => rw [Fits] at h; exact h.elim
  | succ n =>
    rw [Fits, hu] at h
    rcases h with ⟨h, _⟩ | ⟨h, _⟩ | ⟨_, h⟩ | ⟨_, h, _⟩ | ⟨_, h, _⟩
    · cases h
    · cases h
    · exact h
    all_goals cases h
theorem fits_slice {φ : TypeId → TypeId} {P : Program} {n : Nat} {t e : TypeId} {ds : List DV} (hu : P.underlying t = some (.slice e)) (h : Fits P φ n t ds) : ∃ (m : Nat) (xs : List (List DV)), n = m + 1 ∧ ds = [.row (φ e) (P.cellsOf e) xs] ∧ ∀ x ∈ xs, Fits P φ m e x := by
  cases n with
  | zero => rw [Fits] at h; exact h.elim
  | succ n =>
    rw [Fits, hu] at h
    rcases h with ⟨h, _⟩ | ⟨h, _⟩ | ⟨h, _⟩ | ⟨e', h, xs, h1, h2⟩ | ⟨_, h, _⟩
    · cases h
    · cases h
    · cases h
    · injection h with h; injection h with h; subst h; exact ⟨n, xs, rfl, h1, h2⟩
    · cases h
theorem fits_struct {φ : TypeId → TypeId} {P : Program} {n : Nat} {t : TypeId} {fs : Array Field} {ds : List DV} (hu : P.underlying t = some (.struct fs)) (h : Fits P φ n t ds) : ∃ (m : Nat) (parts : List (List DV)), n = m + 1 ∧ ds = parts.flatten ∧ parts.length = fs.size ∧ ∀ (i : Nat) (f : Field) (p : List DV), fs[i]? = some f → parts[i]? = some p → Fits P φ m f.type p := by
  cases n with
  | zero => rw [Fits] at h; exact h.elim
  | succ n =>
    rw [Fits, hu] at h
    rcases h with ⟨h, _⟩ | ⟨h, _⟩ | ⟨h, _⟩ | ⟨_, h, _⟩ | ⟨fs', h, parts, h1, h2, h3⟩
    · cases h
    · cases h
    · cases h
    · cases h
    · injection h with h; injection h with h; subst h; exact ⟨n, parts, rfl, h1, h2, h3⟩
/-- Each of these is one of those: all of them are. -/
theorem list_of {α β : Type} (f : α → β) : ∀ (l : List β), (∀ x ∈ l, ∃ a, x = f a) → ∃ l' : List α, l = l'.map f
  | [], _ => ⟨[], rfl⟩
  | x :: r, h => by
    obtain ⟨a, rfl⟩ := h x (by simp)
    obtain ⟨l', rfl⟩ := list_of f r fun y hy => h y (List.mem_cons_of_mem _ hy)
    exact ⟨a :: l', rfl⟩

theorem cellsOf_Type : Tryd.prog.cellsOf 42 = 3 := by kernel_rfl
theorem fits_Type : ∀ (N n : Nat) (ds : List DV), n ≤ N → Fits Tryd.prog toImplT n 42 ds → ∃ x : TypeX, ds = x.cells
  | 0, n, ds, hn, h => by
    obtain rfl : n = 0 := by omega
    rw [Fits] at h; exact h.elim
  | N + 1, n, ds, hn, h => by
    obtain ⟨m, parts, rfl, rfl, hl, hp⟩ := fits_struct Tryd.underlying42 h
    match parts, hl with
    | [p0, p1, p2], _ =>
      obtain ⟨z, rfl⟩ := fits_int Tryd.underlying3 (hp 0 _ p0 rfl rfl)
      obtain ⟨s, rfl⟩ := fits_string Tryd.underlying9 (hp 1 _ p1 rfl rfl)
      obtain ⟨m', xs, rfl, rfl, hx⟩ := fits_slice Tryd.underlying31 (hp 2 _ p2 rfl rfl)
      obtain ⟨l, rfl⟩ := list_of TypeX.cells xs fun y hy => fits_Type N m' y (by omega) (hx y hy)
      exact ⟨.mk z s l, by rw [TypeX.cells, TypeX.rows_map, cellsOf_Type]; rfl⟩

theorem type_arg {H : Type} {enc : TypeId × Value → H} {w : World} {base : Nat} {spare : Nat → Bool} {held : Bool} {fuel : Nat} {cs : List Value} {y : DataW H × List MemPlace} (h : DataW.trod enc Tryd.prog w base spare held fuel 42 cs = some y) :
    ∃ x : TypeX, TypeAt w (Und w.heap.size) x (.agg cs.toArray) ∧ DV.okL x.cells := by
  obtain ⟨ds, h1, h2, h3⟩ := trod_fits (φ := toImplT) typeG_ok fuel fuel _ _ _ (Nat.le_refl _) (.inl rfl) h
  obtain ⟨x, rfl⟩ := fits_Type fuel fuel ds (Nat.le_refl _) h1
  exact ⟨x, TypeAt.of_reads h2, h3⟩
end Go.Proofs.YtngbilblddngcaaDoor
namespace Go.Proofs.YtngbilblddngcaaDoor
open Go.ChangeShapes Go.WideShapes Go.ChangeAt Go.RowKit Go.Deep

section
variable {H : Type} {enc : TypeId × Value → H} {w : World} {base : Nat} {spare : Nat → Bool} {held : Bool} {fuel : Nat} {A : Option Addr} {n c : Nat} {y : DataW H × List MemPlace}
theorem row_inT {e : TypeId} {k : Nat} {xs : List (List DV)} {N : Nat} (hx : xs.length = N) (h2 : RdVs w (Und w.heap.size) [.row e k xs] [.slice A n c]) : n = N ∧ RdV w (Und w.heap.size) (.row e k xs) (.slice A N c) := by
  rw [RdVs] at h2
  obtain ⟨v, vs', e1, h3, h4⟩ := h2
  injection e1 with e1 _
  subst e1
  have h5 := h3
  rw [RdV] at h5
  obtain ⟨A', c', e2, _⟩ := h5
  injection e2 with _ e2 _
  rw [hx] at e2
  subst e2
  exact ⟨rfl, h3⟩
theorem types_argT (h : DataW.trod enc Tryd.prog w base spare held fuel 31 [.slice A n c] = some y) :
    ∃ l : List TypeX, n = l.length ∧ TypeRow w (Und w.heap.size) A c l ∧ DV.okE (TypeX.rows l) ∧ l.length ≤ 9223372036854775807 := by
  obtain ⟨ds, h1, h2, h3⟩ := trod_fits (φ := toImplT) typeG_ok fuel fuel _ _ _ (Nat.le_refl _) (.inr (.inl rfl)) h
  obtain ⟨m, xs, hf, rfl, hx⟩ := fits_slice Tryd.underlying31 h1
  obtain ⟨l, rfl⟩ := list_of TypeX.cells xs fun y hy => fits_Type m m y (Nat.le_refl _) (hx y hy)
  rw [cellsOf_Type] at h2 h3
  rw [← TypeX.rows_map] at h2 h3
  obtain ⟨hn, hr⟩ := row_inT (TypeX.rows_length l) h2
  simp only [DV.okL, DV.ok] at h3
  exact ⟨l, hn, hr, h3.1.2, by have := h3.1.1; rwa [TypeX.rows_length] at this⟩
end
end Go.Proofs.YtngbilblddngcaaDoor

/- Texts that the claims share, joined. -/
import Derived.Test.YtbcfeoobhemdcaaGreatQ1
import Derived.Lib.QuietBelow
import Derived.BigQuiet
import Derived.RangeFuncNested
import Derived.RangeFuncBound
import Derived.Lib.Hide
import Derived.RangeFuncCalls
import Derived.WalkKit
import Derived.Shelf.Strings.Builder1
import Derived.Shelf.Strings.Builder2
import Derived.Shelf.Strings.OnBuilder
import Derived.Test.YtbcfeoobhemdcaaGreatProg
import Derived.Lib.Join
import Derived.Laws.MakeOwn
import Derived.Lib.ItoaNum
import Derived.Lib.ItoaLen
import Derived.Outline
import Derived.Laws.OwnMore
import Derived.Deep.QuietTactic
import Derived.Deep.RegionLaw
import Derived.Deep.AppendLies
import Derived.RegionTactic
import Derived.Deep.CutRange
import Derived.ProofKit
import Derived.OpenShut
import Derived.ChangeOld
namespace Go.Proofs.YtbcfeoobhemdcaaGreat
open Go.RowKit Go.Lib

mutual
def SX.same : SX → SX → Bool
  | .mk a l, .mk b m => decide (a = b) && decide (l.length = m.length) && SX.sameL l m
def SX.sameL : List SX → List SX → Bool
  | [], _ => true
  | _ :: _, [] => true
  | x :: r, y :: s => x.same y && SX.sameL r s
end
theorem SX.same_eq (x y : SX) : x.same y = (decide (x.atom = y.atom) && decide (x.list.length = y.list.length) && SX.sameL x.list y.list) := by cases x; cases y; rw [SX.same]; rfl
theorem SX.sameL_take : ∀ (l m : List SX) (j : Nat) (h : j < l.length) (h' : j < m.length), SX.sameL (l.take (j + 1)) (m.take (j + 1)) = (SX.sameL (l.take j) (m.take j) && l[j].same m[j])
  | x :: r, y :: s, 0, _, _ => by simp [SX.sameL]
  | x :: r, y :: s, j + 1, h, h' => by
    have := SX.sameL_take r s j (by simpa using h) (by simpa using h')
    rw [List.take_succ_cons, List.take_succ_cons, List.take_succ_cons, List.take_succ_cons, SX.sameL, SX.sameL, this]
    simp [Bool.and_assoc]
theorem SX.sameL_false : ∀ (l m : List SX) (j : Nat) (h : j < l.length) (h' : j < m.length), l[j].same m[j] = false → SX.sameL l m = false
  | x :: r, y :: s, 0, _, _, hf => by rw [SX.sameL]; simp at hf; rw [hf]; rfl
  | x :: r, y :: s, j + 1, h, h', hf => by rw [SX.sameL, SX.sameL_false r s j (by simpa using h) (by simpa using h') (by simpa using hf), Bool.and_false]
mutual
theorem SX.same_iff : ∀ (x y : SX), x.same y = true ↔ x = y
  | .mk a l, .mk b m => by
    rw [SX.same, Bool.and_eq_true, Bool.and_eq_true, decide_eq_true_eq, decide_eq_true_eq, SX.mk.injEq]
    constructor
    · rintro ⟨⟨h1, h2⟩, h3⟩; exact ⟨h1, (SX.sameL_iff l m h2).1 h3⟩
    · rintro ⟨h1, h2⟩; subst h2; exact ⟨⟨h1, rfl⟩, (SX.sameL_iff l l rfl).2 rfl⟩
theorem SX.sameL_iff : ∀ (l m : List SX), l.length = m.length → (SX.sameL l m = true ↔ l = m)
  | [], m, h => by rw [SX.sameL]; simp; exact List.eq_nil_of_length_eq_zero h.symm
  | x :: r, [], h => by simp at h
  | x :: r, y :: s, h => by rw [SX.sameL, Bool.and_eq_true, SX.same_iff x y, SX.sameL_iff r s (by simpa using h), List.cons.injEq]
end

theorem bytes_ne {a b : ByteArray} (h : a ≠ b) : (a.toList == b.toList) = false := by
  rw [beq_eq_false_iff_ne]
  intro e
  rw [ByteArray.toList_eq, ByteArray.toList_eq] at e
  exact h (ByteArray.ext (Array.toList_inj.1 e))
/-- Two boxed parameters, and what the loop reads of them. -/
theorem boxed2 {w wr : World} {t : TypeId} {a a' : ByteArray} {A A' : Option Addr} {n c n' c' : Nat}
    (hb : Below (w.heap.size + 2) ((w.alloc (.cells #[.string a, .slice A n c] t)).alloc (.cells #[.string a', .slice A' n' c'] t)) wr) :
    wr.cell? ⟨w.heap.size, 0, none⟩ = some (.string a) ∧ wr.cell? ⟨w.heap.size, 1, none⟩ = some (.slice A n c) ∧
    wr.cell? ⟨w.heap.size + 1, 0, none⟩ = some (.string a') ∧ wr.cell? ⟨w.heap.size + 1, 1, none⟩ = some (.slice A' n' c') ∧ Below w.heap.size w wr := by
  have hw : Below (w.heap.size + 1) (w.alloc (.cells #[.string a, .slice A n c] t)) wr := ((Below.refl _ _).alloc (by simp) _).trans (hb.mono (by omega))
  obtain ⟨h0, h1, h2⟩ := boxed (hw.mono (by simp))
  have h := (Whole.new (w.alloc (.cells #[.string a, .slice A n c] t)) t #[.string a', .slice A' n' c']).below hb (by simp)
  rw [World.size_alloc] at h
  exact ⟨h0, h1, by rw [h.cell]; rfl, by rw [h.cell]; rfl, h2⟩

def SameX (N : Nat) : Prop := ∀ (x y : SX) (A B : Option Addr) (c d : Nat) (w : World), x.nodes ≤ N → x.nodes ≤ 4294967296 → y.nodes ≤ 4294967296 → ListAt w (Lt w.heap.size) A x.list → ListAt w (Lt w.heap.size) B y.list →
  Calls Tryz.prog 15 #[.agg #[.string x.atom, .slice A x.list.length c], .agg #[.string y.atom, .slice B y.list.length d]] w fun e w' => e = .returned (.bool (x.same y)) ∧ Below w.heap.size w w'

set_option maxRecDepth 100000 in
set_option maxHeartbeats 2000000 in
theorem sameX : ∀ N, SameX N
  | 0 => fun x y A B c d w hn => by rw [SX.nodes_eq] at hn; omega
  | N + 1 => by
    intro x y A B c d w hn hmx hmy hA hB
    have ih := sameX N
    have hne := SX.nodes_eq x
    have hny := SX.nodes_eq y
    have hlx := SX.nodesL_length x.list
    have hly := SX.nodesL_length y.list
    have hxl : x.list.length ≤ 4294967296 := by omega
    have hyl : y.list.length ≤ 4294967296 := by omega
    have hsq := SX.same_eq x y
    have hb2 : Below w.heap.size w ((w.alloc (.cells #[.string x.atom, .slice A x.list.length c] 33)).alloc (.cells #[.string y.atom, .slice B y.list.length d] 33)) :=
      ((Below.refl _ _).alloc (Nat.le_refl _) _).alloc (by simp) _
    have HA := Lib.hid hA
    have HB := Lib.hid hB
    have HE := Lib.hid hne
    have HF := Lib.hid hny
    clear hA hB hne hny
    by_cases hat : x.atom = y.atom
    case neg =>
      rw [decide_eq_false hat, Bool.false_and, Bool.false_and] at hsq
      have HS := Lib.hid hsq
      have hq := bytes_ne hat
      clear hsq hat
      go_enter Tryz.func15, Tryz.ntmps15
      go_wp2
      go_ret
      exact ⟨congrArg (fun b => Ending.returned (.bool b)) HS.out.symm, hb2⟩
    case pos =>
      rw [decide_eq_true hat, Bool.true_and] at hsq
      by_cases hlen : x.list.length = y.list.length
      · rw [decide_eq_true hlen, Bool.true_and] at hsq
        have HS := Lib.hid hsq
        have HL := Lib.hid hlen
        rw [hat, ← hlen]
        clear hsq hat hlen
        go_enter Tryz.func15, Tryz.ntmps15
        go_wp2
        go_loopw [5] (fun iv wr => ∃ k : Nat, k ≤ x.list.length ∧ iv = .int .i64 k ∧ SX.sameL (x.list.take k) (y.list.take k) = true ∧ Below (w.heap.size + 2) ((w.alloc (.cells #[.string y.atom, .slice A x.list.length c] 33)).alloc (.cells #[.string y.atom, .slice B x.list.length d] 33)) wr) (fun iv _ => x.list.length - (Go.RowKit.intOf iv).toNat)
        case atStart => exact ⟨0, Nat.zero_le _, rfl, by simp [SX.sameL], Below.refl _ _⟩
        case round =>
          obtain ⟨k, hk, rfl, hs, hb⟩ := hrel
          obtain ⟨a0, a1, c0, c1, hbw⟩ := boxed2 hb
          have hbs : w.heap.size + 2 ≤ wr.heap.size := by simpa using hb.size
          have HT := Lib.hid hs
          clear hs
          by_cases hlt : k < x.list.length
          · have hlt2 : k < y.list.length := by have := HL.out; omega
            obtain ⟨b, o, A', c', rfl, hP, hc0, hc1, hl'⟩ := (HA.out.below hbw).at_ hlt
            obtain ⟨b2, o2, B', d', rfl, hP2, hd0, hd1, hm'⟩ := (HB.out.below hbw).at_ hlt2
            have hx := hl'.frame (Q := Lt wr.heap.size) (fun b h => Nat.lt_of_lt_of_le h hbw.size) (fun _ _ _ => rfl)
            have hy := hm'.frame (Q := Lt wr.heap.size) (fun b h => Nat.lt_of_lt_of_le h hbw.size) (fun _ _ _ => rfl)
            have hst := SX.sameL_take x.list y.list k hlt hlt2
            have hno := SX.sameL_false x.list y.list k hlt hlt2
            rw [HT.out, Bool.true_and] at hst
            have hnx : x.list[k].nodes ≤ N := by have := SX.nodesL_at x.list k hlt; have := HE.out; omega
            have hnm : x.list[k].nodes ≤ 4294967296 := by have := SX.nodesL_at x.list k hlt; have := HE.out; omega
            have hny : y.list[k].nodes ≤ 4294967296 := by have := SX.nodesL_at y.list k hlt2; have := HF.out; omega
            have cE : ∀ dr os, Calls Tryz.prog 15 #[.agg #[.string x.list[k].atom, .slice A' x.list[k].list.length c'], .agg #[.string y.list[k].atom, .slice B' y.list[k].list.length d']] (Go.Sort.grow (redrawn wr dr) os) fun e w'' => e = .returned (.bool (x.list[k].same y.list[k])) ∧ ∃ p : Regrown, w'' = Go.Sort.grow (redrawn wr p.d) p.os :=
              fun dr os => Calls.regrown_of (ih x.list[k] y.list[k] A' B' c' d' _ hnx hnm hny (hx.grow (below_regrown wr dr os)) (hy.grow (below_regrown wr dr os)))
            have k0 := cell_regrown hc0
            have k1 := cell_regrown hc1
            have k2 := cell_regrown hd0
            have k3 := cell_regrown hd1
            have k4 := cell_regrown a1
            have k5 := cell_regrown c1
            have hk0 : (0 : Int) ≤ k := by omega
            have HSt := Lib.hid hst
            have HNo := Lib.hid hno
            clear hx hy hl' hm' hnx hst hno
            go_wp2
            refine wp_region_quiet_below (by kernel_rfl) (by kernel_rfl) ?_
            repeat (quiet_step (exact cE _ _))
            refine wpQuiet_nil ?_
            intro _ hw'
            obtain ⟨⟨dq, osq⟩, hw''⟩ := hw'
            subst hw''
            have hb3 := hb.trans ((below_regrown wr dq osq).mono hbs)
            have hbw3 := hbw.trans ((below_regrown wr dq osq).mono hbw.size)
            clear cE k0 k1 k2 k3 k4 k5
            cases hc : x.list[k].same y.list[k] with
            | true =>
              have HC := Lib.hid hc
              clear hc
              go_wp2
              go_roundw
              case rel => exact ⟨k + 1, by omega, by go_num, by rw [HSt.out, HC.out], hb3⟩
              case measure => simp [Go.RowKit.intOf]; omega
            | false =>
              have HC := Lib.hid hc
              clear hc
              go_wp2
              go_ret
              exact ⟨congrArg (fun b => Ending.returned (.bool b)) (HS.out.trans (HNo.out HC.out)).symm, hbw3⟩
          · have hkl : k = x.list.length := by omega
            subst hkl
            have ht := HT.out
            rw [List.take_length, HL.out, List.take_length] at ht
            have HT' := Lib.hid ht
            clear ht
            go_wp2
            go_ret
            exact ⟨congrArg (fun b => Ending.returned (.bool b)) (HS.out.trans HT'.out).symm, hbw⟩
      · rw [decide_eq_false hlen, Bool.false_and] at hsq
        have HS := Lib.hid hsq
        have hlz : ((x.list.length : Int) == y.list.length) = false := by rw [beq_eq_false_iff_ne]; omega
        clear hsq
        rw [hat] at hb2 ⊢
        clear hat
        go_enter Tryz.func15, Tryz.ntmps15
        go_wp2
        go_ret
        exact ⟨congrArg (fun b => Ending.returned (.bool b)) HS.out.symm, hb2⟩
end Go.Proofs.YtbcfeoobhemdcaaGreat
namespace Go.Proofs.YtbcfeoobhemdcaaGreat
open Go.RowKit

/-- What a round keeps: what lay below n₀, and the iterator's own blocks. -/
structure KeepsM (n₀ : Nat) (M : Nat → Prop) (W W' : World) : Prop where
  below : Below n₀ W W'
  own : ∀ b, M b → W'.heap[b]? = W.heap[b]?
theorem KeepsM.refl (n₀ : Nat) (M : Nat → Prop) (W : World) : KeepsM n₀ M W W := ⟨Below.refl _ _, fun _ _ => rfl⟩
theorem KeepsM.trans {n₀ : Nat} {M : Nat → Prop} {A B C : World} (h : KeepsM n₀ M A B) (k : KeepsM n₀ M B C) : KeepsM n₀ M A C := ⟨h.below.trans k.below, fun b hb => (k.own b hb).trans (h.own b hb)⟩
theorem KeepsM.putObj {n₀ : Nat} {M : Nat → Prop} {W : World} {l : Nat} {o' : Obj} (hn : n₀ ≤ l) (hl : l < W.heap.size) (hM : ¬ M l) : KeepsM n₀ M W (W.putObj l o') :=
  ⟨(Below.refl n₀ W).grown (grownBy_putObj' W l o') (by omega) (fun k e => by cases e; exact hn), fun b hb => World.putObj_heap_other (fun e => hM (e ▸ hb))⟩
theorem KeepsM.alloc {n₀ : Nat} {M : Nat → Prop} {W : World} (hn : n₀ ≤ W.heap.size) (hM : ∀ b, M b → b < W.heap.size) (o : Obj) : KeepsM n₀ M W (W.alloc o) :=
  ⟨(Below.refl n₀ W).alloc hn o, fun b hb => Below.heap_alloc W o b (hM b hb)⟩
theorem KeepsM.setCell {n₀ : Nat} {M : Nat → Prop} {W : World} {b : Nat} {o : Nat} (hn : n₀ ≤ b) (hM : ¬ M b) (v : Value) : KeepsM n₀ M W (W.setCell ⟨b, o, none⟩ v) :=
  ⟨(Below.refl n₀ W).setCell (p := ⟨b, o, none⟩) hn v, fun k hk => Below.heap_setCell W _ v k (fun e => hM (by rw [← show k = b from e]; exact hk))⟩
theorem KeepsM.grown {n₀ : Nat} {M : Nat → Prop} {W W' : World} {row : Option Nat} (hg : W.grownBy W' row) (hn : n₀ ≤ W.heap.size) (hM : ∀ b, M b → b < W.heap.size) (hr : ∀ k, row = some k → n₀ ≤ k ∧ ¬ M k) : KeepsM n₀ M W W' :=
  ⟨(Below.refl n₀ W).grown hg hn (fun k e => (hr k e).1), fun b hb => hg.block b (hM b hb) (fun e => (hr b e.symm).2 hb)⟩
theorem KeepsM.of_below {n₀ : Nat} {M : Nat → Prop} {W W' : World} (hb : Below W.heap.size W W') (hn : n₀ ≤ W.heap.size) (hM : ∀ b, M b → b < W.heap.size) : KeepsM n₀ M W W' :=
  ⟨hb.mono hn, fun b hb' => hb.block b (hM b hb')⟩
theorem grown_none {A B : World} (h : Below A.heap.size A B) : A.grownBy B none := ⟨h.os, h.tape, h.output, h.size, fun k hk _ => h.block k hk⟩
theorem grownBy_setCell'' (W : World) (b o : Nat) (v : Value) : W.grownBy (W.setCell ⟨b, o, none⟩ v) (some b) :=
  ⟨rfl, rfl, rfl, by simp, fun k _ hk => Below.heap_setCell _ _ _ k (fun e => hk (by rw [e]))⟩
theorem KeepsFrom.of_below {B : Nat} {W W' : World} (hb : Below W.heap.size W W') : KeepsFrom B W W' :=
  ⟨hb.size, fun k _ _ hk _ => (hb.block k (Array.getElem?_eq_some_iff.1 hk).1).trans hk⟩

/-- THE ITERATOR's CONTRACT: J and Jx are the caller's; M: the blocks that the iterator has made; Rd: those that it only reads. -/
def SeqM {α : Type} (F : Fence) (n : Nat) (P : Program) (g : Nat) (lb : Array Value) (encs : α → Array Value) (Ok : List α → α → Prop) (S : List α → Prop) (n₀ : Nat) (Rd : Nat → Prop) (w : World) : Prop :=
  ∀ (l : Nat) (J : (Nat → Prop) → List α → World → Prop) (Jx : List α → World → Prop) (W : World), Below w.heap.size w W →
    (∀ M s A B row, J M s A → A.grownBy B row → (∀ r, row = some r → M r) → J (fun b => M b ∨ (A.heap.size ≤ b ∧ b < B.heap.size)) s B) →
    (∀ M pre x W1, J M pre W1 → Ok pre x → YieldAt F (n - 1) P l (encs x) W1 fun e W' =>
      (e = .returned (.bool true) ∧ J M (pre ++ [x]) W' ∧ KeepsM n₀ (fun b => M b ∨ Rd b) W1 W') ∨ (e = .returned (.bool false) ∧ Jx (pre ++ [x]) W')) →
    J (fun _ => False) [] W →
    CallsIn F n P g (#[.func (.yield l) #[] #[]] ++ lb) W fun e W' => (∃ v, e = .returned v) ∧ ((∃ M xs, S xs ∧ J M xs W') ∨ (∃ pre, Jx pre W'))

/-- THE CALLER's INVARIANT abides the iterator's steps, and the turns of what is no cells, from B on. -/
def OwnM {β : Type} (B : Nat) (I : (Nat → Prop) → β → World → Prop) : Prop :=
  ∀ M M' s A A' row, I M s A → A.grownBy A' row → (∀ r, row = some r → B ≤ r ∧ (M r ∨ ∃ o : Obj, A.heap[r]? = some o ∧ o.isCells = false)) → (∀ b, M' b → M b ∨ A.heap.size ≤ b) → I M' s A'
theorem OwnM.and {β : Type} {B : Nat} {I I' : (Nat → Prop) → β → World → Prop} (h : OwnM B I) (h' : OwnM B I') : OwnM B (fun M s W => I M s W ∧ I' M s W) :=
  fun M M' s A A' row hs hg hr hM => ⟨h M M' s A A' row hs.1 hg hr hM, h' M M' s A A' row hs.2 hg hr hM⟩
theorem OwnM.from {β : Type} {B : Nat} {I : (Nat → Prop) → β → World → Prop} (h : OwnM B I) (M : Nat → Prop) : OwnFrom B (I M) :=
  fun s A A' row hs hg hr => h M M s A A' row hs hg (fun r e => ⟨(hr r e).1, .inr (hr r e).2⟩) (fun _ hb => .inl hb)
theorem ownM_pure {β : Type} (B : Nat) (p : β → Prop) : OwnM B (fun _ s (_ : World) => p s) := fun _ _ _ _ _ _ hs _ _ _ => hs
theorem ownM_below {β : Type} {B n₀ : Nat} {w : World} (hn : n₀ ≤ B) (hs : n₀ ≤ w.heap.size) : OwnM B (fun _ (_ : β) W => Below n₀ w W) :=
  fun _ _ _ A A' row h hg hr _ => h.grown hg (by have := h.size; omega) (fun k e => by have := (hr k e).1; omega)
theorem ownM_boxed {β : Type} {B Bx : Nat} (t : TypeId) (f : β → Value) (hx : Bx < B) : OwnM B (fun _ s W => Boxed W Bx t (f s)) :=
  fun _ _ _ _ _ _ hs hg hr _ => hs.kept hg (fun e => by have := (hr _ e.symm).1; omega)
/-- A box that holds a slice with memory of its own, none of it the iterator's. -/
theorem ownM_row {β : Type} (n₀ : Nat) {B Bx : Nat} (t e : TypeId) (size : Nat) (k : β → Nat) (f : β → List Value) (G : β → Value → Prop) (hx : Bx < B) :
    OwnM B (fun M s W => ∃ v, Boxed W Bx t v ∧ W.ownsRow n₀ e size v (k s) (f s) ∧ (∀ b, v.ownBlock = some b → ¬ M b) ∧ G s v) := by
  rintro M M' s A A' row ⟨v, hv, hr, hn, hG⟩ hg hrow hM
  refine ⟨v, hv.kept hg (fun e' => by have := (hrow _ e'.symm).1; omega), hr.kept hg ?_, fun b hb h' => ?_, hG⟩
  · rcases hr.2 with ⟨rfl, _⟩ | ⟨g, cap, cur, rfl, _, hgb, _⟩
    · exact .inl rfl
    · refine .inr fun e' => ?_
      have e2 : row = some g := by simpa [Value.ownBlock] using e'.symm
      rcases (hrow g e2).2 with h | ⟨o, ho, hc⟩
      · exact hn g rfl h
      · rw [hgb] at ho; cases ho; cases hc
  · rcases hM b h' with h | h
    · exact hn b hb h
    · have := (hr.lt b hb).2; omega

theorem boxed_set_int {W : World} {B : Nat} {t : TypeId} {v : Value} {z z' : Int} (h : Boxed W B t v) (e : z = z') : Boxed (W.setCell ⟨B, 0, none⟩ (.int .i64 z)) B t (.int .i64 z') := e ▸ h.set _
theorem whole_kept {W W' : World} {row : Option Nat} {B : Nat} {t : TypeId} {cs : Array Value} (h : Whole W B t cs) (hg : W.grownBy W' row) (hr : ∀ r, row = some r → ∃ o : Obj, W.heap[r]? = some o ∧ o.isCells = false) : Whole W' B t cs :=
  (hg.block B h.lt (fun e => by obtain ⟨o, ho, hc⟩ := hr B e.symm; rw [show W.heap[B]? = _ from h] at ho; cases ho; cases hc)).trans h
/-- A new block of the round's. -/
theorem OwnM.alloc_ {β : Type} {B : Nat} {I : (Nat → Prop) → β → World → Prop} (h : OwnM B I) {M : Nat → Prop} {s : β} {W : World} {o : Obj} (hs : I M s W) (_hM : ∀ b, M b → B < b) : I M s (W.alloc o) :=
  h M M s W _ none hs (World.grownBy_alloc W o none) (fun r e => by cases e) (fun _ hb => .inl hb)

/-- HOW THE BODY OF A ROUND MAY BE LEFT. -/
def ownPostM {α : Type} (B n₀ : Nat) (Rd : Nat → Prop) (I : (Nat → Prop) → List α → World → Prop) (Ix : Code → List α → World → Prop) (M : Nat → Prop) (xs : List α) (W : World) : Exit → Act → World → Prop
  | .normal, _, W' => KeepsFrom B W W' ∧ KeepsM n₀ (fun b => M b ∨ Rd b) W W' ∧ I M xs W'
  | .ret, _, W' => KeepsFrom B W W' ∧ Ix .ret xs W'
  | .exit id, _, W' => KeepsFrom B W W' ∧ Ix (.exit id) xs W'
  | .goto t, _, W' => KeepsFrom B W W' ∧ Ix (.goto t) xs W'
  | .panic _, _, _ => False
  | .outgrown, _, _ => False

variable {F : Fence} {n : Nat} {P : Program}

theorem wpIn_rangeFunc_ownM {α : Type} {g : Operand} {ps : Array Tmp} {assign body : Code} {Q : Exit → Act → World → Prop} {a : Act} {w : World}
    (hro : F.round = none) (h1 : 1 ≤ n) {gf : Nat} {lb : Array Value} (hg : a.eval g = .func (.func gf) #[] lb) (hFg : F.fn gf) (eg : ∀ args w, (callFunc gf args).run P w = .ok (.enter gf args) w)
    {encs : α → Array Value} {Ok : List α → α → Prop} {S : List α → Prop} {n₀ : Nat} {Rd : Nat → Prop} {w0 : World} (hseq : SeqM F (n - 1) P gf lb encs Ok S n₀ Rd w0) (hRd : ∀ b, Rd b → b < w.heap.size)
    (hb0 : Below w0.heap.size w0 w) (hn0 : n₀ ≤ w.heap.size) (hps : ∀ x, (encs x).size = ps.size)
    (I : (Nat → Prop) → List α → World → Prop) (Ix : Code → List α → World → Prop) (hI : OwnM w.heap.size I) (hIx : ∀ c, OwnFrom w.heap.size (Ix c)) (h0 : ∀ M : Nat → Prop, (∀ b, M b → w.heap.size ≤ b) → I M [] w) (Ax : α → Act → World → Prop) (hAx : ∀ x a', OwnFrom w.heap.size (fun (_ : Unit) W => Ax x a' W))
    (hassign : ∀ (l : Nat) (M : Nat → Prop) (pre : List α) (x : α) (W : World) (K : Act → World → Prop), (∀ b, M b → w.heap.size < b) → (∀ b, M b ∨ Rd b → b < W.heap.size) → w.heap.size + 1 < W.heap.size → I M pre W → Ok pre x → (∀ a' W', KeepsFrom w.heap.size W W' → KeepsM n₀ (fun b => M b ∨ Rd b) W W' → I M pre W' → Ax x a' W' → K a' W') →
      assign.wpIn (F.inRound l) (n - 1 - 1) P (Exit.then K (fun _ _ _ => False)) { tmps := (ps.zip (encs x)).foldl (fun t (p, v) => t.setIfInBounds p v) a.tmps, defers := [] } W)
    (hbody : ∀ (l : Nat) (M : Nat → Prop) (pre : List α) (x : α) (a' : Act) (W : World), (∀ b, M b → w.heap.size < b) → (∀ b, M b ∨ Rd b → b < W.heap.size) → w.heap.size + 1 < W.heap.size → I M pre W → Ax x a' W → Ok pre x → body.wpIn (F.inRound l) (n - 1 - 1) P (ownPostM w.heap.size n₀ Rd I Ix M (pre ++ [x]) W) a' W)
    (hdone : ∀ (D : Nat) (M : Nat → Prop) (xs : List α) (W : World), w.heap.size ≤ D → S xs → I M xs W → W.heap[D]? = some (.deferred (some [])) → Q .normal { a with defers := { target := .collected D, args := #[] } :: a.defers } W)
    (hstop : ∀ (D : Nat) (c : Code) (pre : List α) (W : World), w.heap.size ≤ D → Ix c pre W → W.heap[D]? = some (.deferred (some [])) → c.wpIn F n P Q { a with defers := { target := .collected D, args := #[] } :: a.defers } W) :
    (Code.rangeFunc g ps assign body).wpIn F n P Q a w := by
  refine wpIn_rangeFunc ?_
  intro fn hfn
  rw [hro]
  obtain ⟨rec, hrec⟩ : ∃ rec : LoopState → Option Code → Loop, rec = fun st pe => { state := st, pending := pe, fn, tmps := a.tmps, params := ps, assign, body, defers := w.heap.size } := ⟨_, rfl⟩
  obtain ⟨W1, hW1⟩ : ∃ W1, (w.alloc (.deferred (some []))).alloc (.loop (rec .ready none)) = W1 := ⟨_, rfl⟩
  have hsz : W1.heap.size = w.heap.size + 2 := by rw [← hW1]; simp
  have hL1 : W1.heap[w.heap.size + 1]? = some (.loop (rec .ready none)) := by
    rw [← hW1]; have := World.alloc_heap_new (w.alloc (.deferred (some []))) (.loop (rec .ready none)); rwa [World.size_alloc] at this
  have hK1 : W1.heap[w.heap.size]? = some (.deferred (some [])) := by
    rw [← hW1]; exact (Below.heap_alloc _ _ _ (by simp)).trans (World.alloc_heap_new w _)
  have hI1 : I (fun _ => False) [] W1 := by
    have h := h0 (fun _ => False) (fun _ h => h.elim)
    rw [← hW1]; exact (hI.from _).alloc _ ((hI.from _).alloc _ h)
  have hb1 : Below w0.heap.size w0 W1 := by
    rw [← hW1]; exact hb0.trans ((((Below.refl _ w).alloc (Nat.le_refl _) _).alloc (by simp) _).mono hb0.size)
  refine ⟨w.heap.size + 1, [{ target := .collected w.heap.size, args := #[] }], W1, { target := .fn (.func gf) lb, args := #[.func (.yield (w.heap.size + 1)) #[] #[]] }, W1, gf,
    #[.func (.yield (w.heap.size + 1)) #[] #[]] ++ lb, W1, ?_, ?_, ?_, ?_, fun _ => h1, ?_⟩
  · rw [← hW1, hrec]; exact run_enterLoop_outer _ _ _ _ _
  · simp only [resolve, hg]
    simp [go_sem]
  · intro f' hf'; simp [Target.leads] at hf'; subst hf'; exact hFg
  · simp [invoke, go_sem, eg]
  · refine (hseq (w.heap.size + 1)
      (fun M pre W => (∀ b, M b → w.heap.size + 2 ≤ b ∧ b < W.heap.size) ∧ I M pre W ∧ W.heap[w.heap.size + 1]? = some (.loop (rec .ready none)) ∧ W.heap[w.heap.size]? = some (.deferred (some [])))
      (fun pre W => ∃ c, Ix c pre W ∧ W.heap[w.heap.size + 1]? = some (.loop (rec .done (some c))) ∧ W.heap[w.heap.size]? = some (.deferred (some [])))
      W1 hb1 ?_ ?_ ⟨fun _ h => h.elim, hI1, hL1, hK1⟩).mono ?_
    · rintro M s A B row ⟨hM, hi, hl, hk⟩ hg' hr
      have hlt : w.heap.size + 1 < A.heap.size := (Array.getElem?_eq_some_iff.1 hl).1
      have hsz' := hg'.size
      refine ⟨fun b hb => ?_, hI M _ s A B row hi hg' (fun r e => ⟨by have := (hM r (hr r e)).1; omega, .inl (hr r e)⟩) (fun b hb => hb.imp_right (fun h => h.1)), ?_, ?_⟩
      · rcases hb with hb | hb
        · have := hM b hb; omega
        · omega
      · exact (hg'.block _ hlt (fun e => by have := (hM _ (hr _ e.symm)).1; omega)).trans hl
      · exact (hg'.block _ (by omega) (fun e => by have := (hM _ (hr _ e.symm)).1; omega)).trans hk
    · rintro M pre x W ⟨hM, hi, hl, hk⟩ hok
      have hlt : w.heap.size + 1 < W.heap.size := (Array.getElem?_eq_some_iff.1 hl).1
      have hy := run_yield (P := P) (args := encs x) hl (by rw [hrec]; exact hps x)
      rw [hrec] at hy
      refine ⟨fn, _, assign, body, hy, roundIn_of_wpIn hfn (hassign _ M pre x W _ (fun b hb => by have := hM b hb; omega) (fun b hb => hb.elim (fun h => (hM b h).2) (fun h => by have := hRd b h; omega)) hlt hi hok ?_)⟩
      clear hy
      intro a' Wa hkfa hkpa hia hax
      replace hl := hkfa.same _ _ (by omega) hl rfl
      replace hk := hkfa.same _ _ (Nat.le_refl _) hk rfl
      replace hlt : w.heap.size + 1 < Wa.heap.size := (Array.getElem?_eq_some_iff.1 hl).1
      replace hM : ∀ b, M b → w.heap.size + 2 ≤ b ∧ b < Wa.heap.size := fun b hb => ⟨(hM b hb).1, by have := (hM b hb).2; have := hkfa.size; omega⟩
      replace hi := hia
      clear hia
      revert hkpa hkfa
      generalize W = Wb
      intro hkfa hkpa
      obtain ⟨W, rfl⟩ : ∃ W, W = Wa := ⟨_, rfl⟩
      refine ⟨_, run_beginRound hl (by rw [hrec]), ?_⟩
      have hl2 : (W.putObj (w.heap.size + 1) (.loop { rec .ready none with state := .busy })).heap[w.heap.size + 1]? = some (.loop { rec .ready none with state := .busy }) := World.putObj_heap_same hlt
      have hk2 : (W.putObj (w.heap.size + 1) (.loop { rec .ready none with state := .busy })).heap[w.heap.size]? = some (.deferred (some [])) := (World.putObj_heap_other (by omega)).trans hk
      have hw2 : KeepsM n₀ (fun b => M b ∨ Rd b) W (W.putObj (w.heap.size + 1) (.loop { rec .ready none with state := .busy })) := KeepsM.putObj (by omega) hlt (fun h => h.elim (fun h => by have := (hM _ h).1; omega) (fun h => by have := hRd _ h; omega))
      refine wpIn_mono (hbody _ M pre x a' _ (fun b hb => by have := hM b hb; omega) (fun b hb => by simp; exact hb.elim (fun h => (hM b h).2) (fun h => by have := hRd b h; omega)) (by simp; omega) ((hI.from M).putObj _ hi (by omega) hl rfl) ((hAx x a').putObj (s := ()) _ hax (by omega) hl rfl) hok) ?_
      have fin : ∀ (jump : Option Code) (W3 : World), KeepsFrom w.heap.size (W.putObj (w.heap.size + 1) (.loop { rec .ready none with state := .busy })) W3 →
          (Instr.endRound (w.heap.size + 1) jump).run P W3 = .ok (.bool jump.isNone) (W3.putObj (w.heap.size + 1) (.loop (rec (if jump.isNone then .ready else .done) jump))) ∧
          W3.heap[w.heap.size + 1]? = some (.loop { rec .ready none with state := .busy }) ∧
          (W3.putObj (w.heap.size + 1) (.loop (rec (if jump.isNone then .ready else .done) jump))).heap[w.heap.size + 1]? = some (.loop (rec (if jump.isNone then .ready else .done) jump)) ∧
          (W3.putObj (w.heap.size + 1) (.loop (rec (if jump.isNone then .ready else .done) jump))).heap[w.heap.size]? = some (.deferred (some [])) := fun jump W3 hk3 => by
        have hl3 := hk3.same _ _ (by omega) hl2 rfl
        have := run_endRound (P := P) jump hl3
        rw [hrec] at this ⊢
        exact ⟨this, by rw [hrec] at hl3; exact hl3, World.putObj_heap_same (Array.getElem?_eq_some_iff.1 hl3).1, (World.putObj_heap_other (by omega)).trans (hk3.same _ _ (Nat.le_refl _) hk2 rfl)⟩
      rintro e a3 W3 hp
      cases e with
      | normal =>
        obtain ⟨hk3, hkp3, hi3⟩ := hp
        obtain ⟨hr, hl3, hl4, hk4⟩ := fin none W3 hk3
        have hlt3 := (Array.getElem?_eq_some_iff.1 hl3).1
        have hsz3 := hk3.size
        simp at hsz3
        exact ⟨_, _, hr, .inl ⟨rfl, ⟨fun b hb => by have := hM b hb; simp; omega, (hI.from M).putObj _ hi3 (by omega) hl3 rfl, hl4, hk4⟩, hkpa.trans ((hw2.trans hkp3).trans (KeepsM.putObj (by omega) hlt3 (fun h => h.elim (fun h => by have := (hM _ h).1; omega) (fun h => by have := hRd _ h; omega))))⟩⟩
      | ret =>
        obtain ⟨hk3, hi3⟩ := hp
        obtain ⟨hr, hl3, hl4, hk4⟩ := fin (some .ret) W3 hk3
        exact ⟨_, _, hr, .inr ⟨rfl, .ret, (hIx _).putObj _ hi3 (by omega) hl3 rfl, hl4, hk4⟩⟩
      | exit id =>
        obtain ⟨hk3, hi3⟩ := hp
        obtain ⟨hr, hl3, hl4, hk4⟩ := fin (some (.exit id)) W3 hk3
        exact ⟨_, _, hr, .inr ⟨rfl, .exit id, (hIx _).putObj _ hi3 (by omega) hl3 rfl, hl4, hk4⟩⟩
      | goto t =>
        obtain ⟨hk3, hi3⟩ := hp
        obtain ⟨hr, hl3, hl4, hk4⟩ := fin (some (.goto t)) W3 hk3
        exact ⟨_, _, hr, .inr ⟨rfl, .goto t, (hIx _).putObj _ hi3 (by omega) hl3 rfl, hl4, hk4⟩⟩
      | panic ch => exact hp.elim
      | outgrown => exact hp.elim
    · rintro e W2 ⟨⟨v, rfl⟩, (⟨M, xs, hS, hM, hi, hl, hk⟩ | ⟨pre, c, hi, hl, hk⟩)⟩
      · exact ⟨none, _, by have := run_endLoop (P := P) hl (by rw [hrec]; simp); rw [hrec] at this; exact this, hdone _ M xs _ (Nat.le_refl _) hS ((hI.from M).putObj _ hi (by omega) hl rfl) ((World.putObj_heap_other (by omega)).trans hk)⟩
      · exact ⟨some c, _, by have := run_endLoop (P := P) hl (by rw [hrec]; simp); rw [hrec] at this; exact this, hstop _ c pre _ (Nat.le_refl _) ((hIx c).putObj _ hi (by omega) hl rfl) ((World.putObj_heap_other (by omega)).trans hk)⟩
end Go.Proofs.YtbcfeoobhemdcaaGreat
namespace Go.Proofs.YtbcfeoobhemdcaaGreat
open Go.RowKit

mutual
def TypeX.walk (d : Nat) : TypeX → List (Nat × TypeX)
  | .mk a b c => (d, .mk a b c) :: TypeX.walkL (d + 1) c
def TypeX.walkL (d : Nat) : List TypeX → List (Nat × TypeX)
  | [] => []
  | x :: r => x.walk d ++ TypeX.walkL d r
end
theorem TypeX.walk_eq (d : Nat) (x : TypeX) : x.walk d = (d, x) :: TypeX.walkL (d + 1) x.args_ := by cases x with | mk a b c => rw [TypeX.walk]; rfl
/-- What the lists of a stack (the top one first) have still to give. -/
def todoType : List (List TypeX) → List (Nat × TypeX)
  | [] => []
  | l :: r => TypeX.walkL r.length l ++ todoType r
theorem todoType_pop (r : List (List TypeX)) : todoType ([] :: r) = todoType r := by rw [todoType, TypeX.walkL]; rfl
theorem todoType_step (x : TypeX) (l : List TypeX) (r : List (List TypeX)) : todoType ((x :: l) :: r) = (r.length, x) :: todoType (x.args_ :: l :: r) := by
  rw [todoType, todoType, todoType, TypeX.walkL, TypeX.walk_eq, List.length_cons]
  simp
theorem todoType_start (x : TypeX) : todoType [[x]] = x.walk 0 := by simp [todoType, TypeX.walkL]
end Go.Proofs.YtbcfeoobhemdcaaGreat
namespace Go.Proofs.YtbcfeoobhemdcaaGreat
open Go.RowKit
theorem boxed_below {W W' : World} {B : Nat} {t : TypeId} {v : Value} (h : Boxed W B t v) (hb : Below W.heap.size W W') : Boxed W' B t v := (hb.block _ h.lt).trans h
theorem boxed_far {W : World} {B b o : Nat} {t : TypeId} {v u : Value} (h : Boxed W B t v) (hne : B ≠ b) : Boxed (W.setCell ⟨b, o, none⟩ u) B t v := (Below.heap_setCell W _ u B hne).trans h
theorem boxed_bool {W : World} {B : Nat} {t : TypeId} {v : Value} {z z' : Bool} (h : Boxed W B t v) (e : z = z') : Boxed (W.setCell ⟨B, 0, none⟩ (.bool z)) B t (.bool z') := e ▸ h.set _
theorem boxed_putObj {W : World} {B l : Nat} {t : TypeId} {v : Value} {o : Obj} (h : Boxed W B t v) (hne : B ≠ l) : Boxed (W.putObj l o) B t v := (World.putObj_heap_other hne).trans h
theorem below_putObj {n₀ D : Nat} {w W : World} (h : Below n₀ w W) (o : Obj) (hn : n₀ ≤ w.heap.size) (hD : n₀ ≤ D) : Below n₀ w (W.putObj D o) :=
  h.grown (grownBy_putObj' W D o) (by have := h.size; omega) (fun k e => by cases e; exact hD)
theorem keepsFrom_set {W W' : World} {B b o : Nat} {u : Value} (h : KeepsFrom B W W') : KeepsFrom B W (W'.setCell ⟨b, o, none⟩ u) := h.trans ((KeepsOthers.setCell _ _ _).from _)
theorem keepsFrom_alloc {W W' : World} {B : Nat} {o : Obj} (h : KeepsFrom B W W') : KeepsFrom B W (W'.alloc o) := h.trans ((KeepsOthers.alloc _ _).from _)
end Go.Proofs.YtbcfeoobhemdcaaGreat
namespace Go.Proofs.YtbcfeoobhemdcaaGreat
open Go.RowKit Go.Lib

/-- What formOf hands back. -/
def tyForm (k : Int) (v : Value) : Value :=
  if k == 1 then .iface 95 v else if k == 2 then .iface 96 v else if k == 3 then .iface 97 v else if k == 4 then .iface 98 v else .nilIface
theorem tyForm1 {k : Int} (v : Value) (h : (k == 1) = true) : tyForm k v = .iface 95 v := by rw [tyForm, if_pos h]
theorem tyForm2 {k : Int} (v : Value) (h : (k == 2) = true) : tyForm k v = .iface 96 v := by
  have : k = 2 := by simpa using h
  subst this; rfl
theorem tyForm3 {k : Int} (v : Value) (h : (k == 3) = true) : tyForm k v = .iface 97 v := by
  have : k = 3 := by simpa using h
  subst this; rfl
theorem tyForm4 {k : Int} (v : Value) (h : (k == 4) = true) : tyForm k v = .iface 98 v := by
  have : k = 4 := by simpa using h
  subst this; rfl
theorem tyForm0 {k : Int} (v : Value) (h1 : (k == 1) = false) (h2 : (k == 2) = false) (h3 : (k == 3) = false) (h4 : (k == 4) = false) : tyForm k v = .nilIface := by
  rw [tyForm, h1, h2, h3, h4]; rfl

abbrev zeroTy : Value := .agg #[.int .i64 0, .string ByteArray.empty, .slice none 0 0]
theorem asV1 (v : Value) (w : World) : (Instr.typeAssert (.iface 95 v) 92 95 true).run Tryz.prog w = .ok (.tuple #[v, .bool true]) w := by kernel_rfl
theorem asV2 (v : Value) (w : World) : (Instr.typeAssert (.iface 96 v) 92 95 true).run Tryz.prog w = .ok (.tuple #[zeroTy, .bool false]) w := by kernel_rfl
theorem asV3 (v : Value) (w : World) : (Instr.typeAssert (.iface 97 v) 92 95 true).run Tryz.prog w = .ok (.tuple #[zeroTy, .bool false]) w := by kernel_rfl
theorem asV4 (v : Value) (w : World) : (Instr.typeAssert (.iface 98 v) 92 95 true).run Tryz.prog w = .ok (.tuple #[zeroTy, .bool false]) w := by kernel_rfl
theorem asV0 (w : World) : (Instr.typeAssert .nilIface 92 95 true).run Tryz.prog w = .ok (.tuple #[zeroTy, .bool false]) w := by kernel_rfl
theorem asP1 (v : Value) (w : World) : (Instr.typeAssert (.iface 95 v) 92 97 true).run Tryz.prog w = .ok (.tuple #[zeroTy, .bool false]) w := by kernel_rfl
theorem asP2 (v : Value) (w : World) : (Instr.typeAssert (.iface 96 v) 92 97 true).run Tryz.prog w = .ok (.tuple #[zeroTy, .bool false]) w := by kernel_rfl
theorem asP3 (v : Value) (w : World) : (Instr.typeAssert (.iface 97 v) 92 97 true).run Tryz.prog w = .ok (.tuple #[v, .bool true]) w := by kernel_rfl
theorem asP4 (v : Value) (w : World) : (Instr.typeAssert (.iface 98 v) 92 97 true).run Tryz.prog w = .ok (.tuple #[zeroTy, .bool false]) w := by kernel_rfl
theorem asP0 (w : World) : (Instr.typeAssert .nilIface 92 97 true).run Tryz.prog w = .ok (.tuple #[zeroTy, .bool false]) w := by kernel_rfl

/-- Whatever the kind: is it a variable? -/
theorem as_var {k : Int} (v : Value) (h : (k == 1) = false) (w : World) : (Instr.typeAssert (tyForm k v) 92 95 true).run Tryz.prog w = .ok (.tuple #[zeroTy, .bool false]) w := by
  unfold tyForm
  rw [h]
  simp only [Bool.false_eq_true, if_false]
  split
  · exact asV2 v w
  · split
    · exact asV3 v w
    · split
      · exact asV4 v w
      · exact asV0 w
theorem as_proj {k : Int} (v : Value) (h : (k == 3) = false) (w : World) : (Instr.typeAssert (tyForm k v) 92 97 true).run Tryz.prog w = .ok (.tuple #[zeroTy, .bool false]) w := by
  unfold tyForm
  rw [h]
  simp only [Bool.false_eq_true, if_false]
  split
  · exact asP1 v w
  · split
    · exact asP2 v w
    · split
      · exact asP4 v w
      · exact asP0 w

set_option maxRecDepth 100000 in
set_option maxHeartbeats 2000000 in
theorem implFormOf (k : Int) (s : ByteArray) (A : Option Addr) (n c : Nat) (w : World) :
    Calls Tryz.prog 75 #[.agg #[.int .i64 k, .string s, .slice A n c]] w fun e w' => e = .returned (tyForm k (.agg #[.int .i64 k, .string s, .slice A n c])) ∧ Below w.heap.size w w' := by
  have hb : Below w.heap.size w (w.alloc (.cells #[.int .i64 k, .string s, .slice A n c] 26)) := (Below.refl _ _).alloc (Nat.le_refl _) _
  cases h1 : (k == 1) with
  | true =>
    have HF := Lib.hid (tyForm1 (.agg #[.int .i64 k, .string s, .slice A n c]) h1)
    go_enter Tryz.func75, Tryz.ntmps75
    go_wp2
    go_ret
    exact ⟨congrArg Ending.returned HF.out.symm, hb⟩
  | false =>
    cases h2 : (k == 2) with
    | true =>
      have HF := Lib.hid (tyForm2 (.agg #[.int .i64 k, .string s, .slice A n c]) h2)
      go_enter Tryz.func75, Tryz.ntmps75
      go_wp2
      go_ret
      exact ⟨congrArg Ending.returned HF.out.symm, hb⟩
    | false =>
      cases h3 : (k == 3) with
      | true =>
        have HF := Lib.hid (tyForm3 (.agg #[.int .i64 k, .string s, .slice A n c]) h3)
        go_enter Tryz.func75, Tryz.ntmps75
        go_wp2
        go_ret
        exact ⟨congrArg Ending.returned HF.out.symm, hb⟩
      | false =>
        cases h4 : (k == 4) with
        | true =>
          have HF := Lib.hid (tyForm4 (.agg #[.int .i64 k, .string s, .slice A n c]) h4)
          go_enter Tryz.func75, Tryz.ntmps75
          go_wp2
          go_ret
          exact ⟨congrArg Ending.returned HF.out.symm, hb⟩
        | false =>
          have HF := Lib.hid (tyForm0 (.agg #[.int .i64 k, .string s, .slice A n c]) h1 h2 h3 h4)
          go_enter Tryz.func75, Tryz.ntmps75
          go_wp2
          go_ret
          exact ⟨congrArg Ending.returned HF.out.symm, hb⟩

end Go.Proofs.YtbcfeoobhemdcaaGreat
namespace Go.Proofs.YtbcfeoobhemdcaaGreat
open Go.RowKit

theorem name_low {s : ByteArray} {k : Nat} (h : k < s.size) (hc : goodAt k s[k] = true) : Utf8.decode s k = (s[k].toNat, 1) :=
  decode_ascii s k h (by unfold goodAt letterR digitR at hc; simp at hc; omega)
theorem name_bad {s : ByteArray} {k : Nat} (h : k < s.size) (hc : goodAt k s[k] = false) : letterR ((Utf8.decode s k).1 : Int) = false ∧ (k = 0 ∨ digitR ((Utf8.decode s k).1 : Int) = false) := by
  by_cases ha : s[k].toNat < 128
  · rw [decode_ascii s k h ha]
    simp only [goodAt, Bool.or_eq_false_iff, Bool.and_eq_false_iff] at hc
    refine ⟨hc.1, ?_⟩
    rcases hc.2 with h0 | h0
    · left; simpa using h0
    · right; exact h0
  · have := (decode_high s k h (by omega)).1
    unfold letterR digitR
    simp
    omega

set_option maxRecDepth 100000 in
set_option maxHeartbeats 2000000 in
theorem implName (s : ByteArray) (w : World) (hs : s.size ≤ 9223372036854775807) : Calls Tryz.prog 76 #[.string s] w fun e w' => e = .returned (.bool (okName s)) ∧ Below w.heap.size w w' := by
  by_cases h1 : 1 ≤ s.size ∧ s.size ≤ 8
  · have hall := @name_ok s h1
    have HA := Lib.hid hall
    clear hall
    obtain ⟨h2, h3⟩ := h1
    go_enter Tryz.func76, Tryz.ntmps76
    go_wp2
    go_loopw [] (fun wr => ∃ k : Nat, k ≤ s.size ∧ goods s k = true ∧ wr = w.iter s k) (fun wr => s.size - wr.iterPos w.heap.size)
    case atStart => exact ⟨0, Nat.zero_le _, rfl, rfl⟩
    case round =>
      obtain ⟨k, hk, ha, rfl⟩ := hrel
      have HT := Lib.hid ha
      clear ha
      have hb : ∀ j, Below w.heap.size w (w.iter s j) := fun j => (Below.refl _ _).alloc (Nat.le_refl _) _
      by_cases hlt : k < s.size
      · cases hc : goodAt k s[k] with
        | true =>
          have hst := goods_succ hlt
          rw [HT.out, hc] at hst
          have hd := name_low hlt hc
          have hnx := fun ty => run_next_any (P := Tryz.prog) w s k ty hlt
          rw [hd] at hnx
          have HS := Lib.hid hst
          clear hst hd
          cases hl : letterR (s[k].toNat : Int) with
          | true =>
            have HL := Lib.hid hl
            clear hc hl
            go_wp2_with fail
            refine (letterIs _ _).mono ?_
            rintro e w1 ⟨rfl, rfl⟩
            rw [HL.out]
            go_wp2
            go_roundw
            case rel => exact ⟨k + 1, by omega, HS.out, rfl⟩
            case measure => simp; omega
          | false =>
            rw [goodAt, hl, Bool.false_or, Bool.and_eq_true] at hc
            have q0 : ((k : Int) == 0) = false := by have := hc.1; simp at this ⊢; omega
            have HL := Lib.hid hl
            have HC := Lib.hid hc.2
            clear hc hl
            go_wp2_with fail
            refine (letterIs _ _).mono ?_
            rintro e w1 ⟨rfl, rfl⟩
            rw [HL.out]
            go_wp2_with fail
            refine (digitIs _ _).mono ?_
            rintro e w1 ⟨rfl, rfl⟩
            rw [HC.out]
            go_wp2
            go_roundw
            case rel => exact ⟨k + 1, by omega, HS.out, rfl⟩
            case measure => simp; omega
        | false =>
          have hno := goods_bad hlt hc
          have hd := name_bad hlt hc
          have hnx := fun ty => run_next_any (P := Tryz.prog) w s k ty hlt
          obtain ⟨hd1, hd2⟩ := hd
          have HN := Lib.hid hno
          have HD := Lib.hid hd1
          clear hno hd1 hc
          by_cases h0 : k = 0
          · clear hd2
            subst h0
            go_wp2_with fail
            refine (letterIs _ _).mono ?_
            rintro e w1 ⟨rfl, rfl⟩
            rw [HD.out]
            go_wp2
            go_ret
            exact ⟨congrArg (fun b => Ending.returned (.bool b)) HN.out.symm, hb _⟩
          · have hd3 := hd2.resolve_left h0
            have q0 : ((k : Int) == 0) = false := by simp; omega
            have HE := Lib.hid hd3
            clear hd2 hd3
            go_wp2_with fail
            refine (letterIs _ _).mono ?_
            rintro e w1 ⟨rfl, rfl⟩
            rw [HD.out]
            go_wp2_with fail
            refine (digitIs _ _).mono ?_
            rintro e w1 ⟨rfl, rfl⟩
            rw [HE.out]
            go_wp2
            go_ret
            exact ⟨congrArg (fun b => Ending.returned (.bool b)) HN.out.symm, hb _⟩
      · have hkl : k = s.size := by omega
        subst hkl
        have hok := HA.out HT.out
        have HK := Lib.hid hok
        clear hok
        have hnx := fun ty => run_next_end (P := Tryz.prog) w s s.size ty (Nat.lt_irrefl _)
        go_wp2_with fail
        refine (implReserved s _ hs).mono ?_
        rintro e w1 ⟨rfl, hb1⟩
        have hb2 := (hb s.size).trans (hb1.mono (hb s.size).size)
        go_wp2
        go_ret
        exact ⟨congrArg (fun b => Ending.returned (.bool b)) HK.out.symm, hb2⟩
  · have hno := name_size h1
    have HN := Lib.hid hno
    clear hno
    by_cases h2 : s.size < 1
    · go_enter Tryz.func76, Tryz.ntmps76
      go_wp2
      go_ret
      exact ⟨congrArg (fun b => Ending.returned (.bool b)) HN.out.symm, Below.refl _ _⟩
    · have h3 : 8 < s.size := by omega
      clear h1
      go_enter Tryz.func76, Tryz.ntmps76
      go_wp2
      go_ret
      exact ⟨congrArg (fun b => Ending.returned (.bool b)) HN.out.symm, Below.refl _ _⟩
end Go.Proofs.YtbcfeoobhemdcaaGreat
namespace Go.Proofs.YtbcfeoobhemdcaaGreat
open Go.RowKit

theorem okAtom_short {s : ByteArray} (h : ¬ (1 ≤ s.size ∧ s.size ≤ 12)) : okAtom s = false := by rw [okAtom, decide_eq_false h, Bool.and_false]
theorem okAtom_all {s : ByteArray} (h : 1 ≤ s.size ∧ s.size ≤ 12) (ha : s.data.toList.all okByte = true) : okAtom s = true := by rw [okAtom, decide_eq_true h, ha]; rfl

set_option maxRecDepth 100000 in
set_option maxHeartbeats 1000000 in
theorem implAtom (s : ByteArray) (w : World) (hs : s.size ≤ 9223372036854775807) : Calls Tryz.prog 82 #[.string s] w fun e w' => e = .returned (.bool (okAtom s)) ∧ Below w.heap.size w w' := by
  by_cases h1 : 1 ≤ s.size ∧ s.size ≤ 12
  · have hall := @okAtom_all s h1
    have HA := Lib.hid hall
    clear hall
    obtain ⟨h2, h3⟩ := h1
    go_enter Tryz.func82, Tryz.ntmps82
    go_wp2
    go_loopw [] (fun wr => ∃ k : Nat, k ≤ s.size ∧ (s.data.toList.take k).all okByte = true ∧ wr = w.iter s k) (fun wr => s.size - wr.iterPos w.heap.size)
    case atStart => exact ⟨0, Nat.zero_le _, rfl, rfl⟩
    case round =>
      obtain ⟨k, hk, ha, rfl⟩ := hrel
      have HT := Lib.hid ha
      clear ha
      have hb : Below w.heap.size w (w.iter s k) := (Below.refl _ _).alloc (Nat.le_refl _) _
      by_cases hlt : k < s.size
      · cases hc : okByte s[k] with
        | true =>
          have hst := all_take_snoc s k hlt
          rw [HT.out, hc] at hst
          have hd := decode_ok hlt hc
          have hnx := fun ty => run_next_any (P := Tryz.prog) w s k ty hlt
          rw [hd] at hnx
          have ho : okRune (s[k].toNat : Int) = true := by rw [okRune_byte, hc]
          have HS := Lib.hid hst
          have HO := Lib.hid ho
          clear hst hd hc ho
          go_wp2_with fail
          refine (runeIs _ _).mono ?_
          rintro e w1 ⟨rfl, rfl⟩
          rw [HO.out]
          go_wp2
          go_roundw
          case rel => exact ⟨k + 1, by omega, HS.out, rfl⟩
          case measure => simp; omega
        | false =>
          have hno := all_not hlt hc
          have hd := decode_bad hlt hc
          have hnx := fun ty => run_next_any (P := Tryz.prog) w s k ty hlt
          have hw1 : ∀ j, Below w.heap.size w (w.iter s j) := fun j => (Below.refl _ _).alloc (Nat.le_refl _) _
          have HN := Lib.hid hno
          have HD := Lib.hid hd
          clear hno hd hc
          go_wp2_with fail
          refine (runeIs _ _).mono ?_
          rintro e w1 ⟨rfl, rfl⟩
          rw [HD.out]
          go_wp2
          go_ret
          exact ⟨congrArg (fun b => Ending.returned (.bool b)) HN.out.symm, hw1 _⟩
      · have hkl : k = s.size := by omega
        subst hkl
        have hall : s.data.toList.all okByte = true := by have := HT.out; rw [List.take_of_length_le (by simp)] at this; exact this
        have hok := HA.out hall
        have HK := Lib.hid hok
        clear hok hall
        have hnx := fun ty => run_next_end (P := Tryz.prog) w s s.size ty (Nat.lt_irrefl _)
        go_wp2
        go_ret
        exact ⟨congrArg (fun b => Ending.returned (.bool b)) HK.out.symm, hb⟩
  · have hno := okAtom_short h1
    have HN := Lib.hid hno
    clear hno
    by_cases h2 : s.size < 1
    · go_enter Tryz.func82, Tryz.ntmps82
      go_wp2
      go_ret
      exact ⟨congrArg (fun b => Ending.returned (.bool b)) HN.out.symm, Below.refl _ _⟩
    · have h3 : 12 < s.size := by omega
      clear h1
      go_enter Tryz.func82, Tryz.ntmps82
      go_wp2
      go_ret
      exact ⟨congrArg (fun b => Ending.returned (.bool b)) HN.out.symm, Below.refl _ _⟩
end Go.Proofs.YtbcfeoobhemdcaaGreat
namespace Go.Proofs.YtbcfeoobhemdcaaGreat
open Go.RowKit Go.Lib

/-- Within both limits and in form. -/
def SX.fits (x : SX) (d m : Nat) : Bool := decide (x.nodes ≤ m) && x.form && decide (x.depth ≤ d)
def SX.fitsL (l : List SX) (d m : Nat) : Bool := decide (SX.nodesL l ≤ m) && SX.formL l && decide (SX.depthL l ≤ d)
theorem SX.fits_iff {x : SX} {d m : Nat} : x.fits d m = true ↔ x.nodes ≤ m ∧ x.form = true ∧ x.depth ≤ d := by
  rw [SX.fits, Bool.and_eq_true, Bool.and_eq_true, decide_eq_true_eq, decide_eq_true_eq, and_assoc]
theorem SX.fitsL_iff {l : List SX} {d m : Nat} : SX.fitsL l d m = true ↔ SX.nodesL l ≤ m ∧ SX.formL l = true ∧ SX.depthL l ≤ d := by
  rw [SX.fitsL, Bool.and_eq_true, Bool.and_eq_true, decide_eq_true_eq, decide_eq_true_eq, and_assoc]
theorem SX.fits_valid (x : SX) : x.fits 14 900 = x.valid := by rw [Bool.eq_iff_iff, SX.fits_iff, SX.valid_iff]
theorem SX.fits_small (x : SX) (d : Nat) : x.fits d 0 = false := by
  rw [← Bool.not_eq_true, SX.fits_iff, SX.nodes_eq]; omega
theorem SX.fits_atom {x : SX} {d m : Nat} (hm : 0 < m) (ha : ¬ x.atom.size = 0) : x.fits d m = (okAtom x.atom && decide (x.list.length = 0)) := by
  rw [Bool.eq_iff_iff, SX.fits_iff, SX.form_eq, SX.depth_eq, if_neg ha, if_neg ha, Bool.and_eq_true, decide_eq_true_eq, SX.nodes_eq]
  constructor
  · rintro ⟨_, h, _⟩; exact h
  · rintro ⟨h1, h2⟩
    rw [List.eq_nil_of_length_eq_zero h2, SX.nodesL]
    exact ⟨by omega, ⟨h1, by simp⟩, Nat.zero_le _⟩
theorem SX.fits_flat {x : SX} {m : Nat} (ha : x.atom.size = 0) : x.fits 0 m = false := by
  rw [← Bool.not_eq_true, SX.fits_iff, SX.depth_eq, if_pos ha]; omega
theorem SX.fits_list {x : SX} {d m : Nat} (ha : x.atom.size = 0) : x.fits (d + 1) (m + 1) = SX.fitsL x.list d m := by
  rw [Bool.eq_iff_iff, SX.fits_iff, SX.fitsL_iff, SX.form_eq, SX.depth_eq, if_pos ha, if_pos ha, SX.nodes_eq]
  constructor
  · rintro ⟨h1, h2, h3⟩; exact ⟨by omega, h2, by omega⟩
  · rintro ⟨h1, h2, h3⟩; exact ⟨by omega, h2, by omega⟩
theorem SX.depthL_at : ∀ (l : List SX) (j : Nat) (h : j < l.length), l[j].depth ≤ SX.depthL l
  | x :: r, 0, _ => by rw [SX.depthL]; simp; omega
  | x :: r, j + 1, h => by
    have := SX.depthL_at r j (by simpa using h)
    rw [SX.depthL]; simp; omega
theorem SX.fitsL_step {l : List SX} {d m j : Nat} (h : j < l.length) (hf : SX.fitsL (l.take j) d m = true) (hx : l[j].fits d (m - SX.nodesL (l.take j)) = true) : SX.fitsL (l.take (j + 1)) d m = true := by
  rw [SX.fitsL_iff] at *
  rw [SX.fits_iff] at hx
  rw [SX.nodesL_take l j h, SX.formL_take l j h, SX.depthL_take l j h, hf.2.1, hx.2.1]
  exact ⟨by omega, rfl, by omega⟩
theorem SX.fitsL_stop {l : List SX} {d m j : Nat} (h : j < l.length) (hf : SX.fitsL (l.take j) d m = true) (hx : l[j].fits d (m - SX.nodesL (l.take j)) = false) : SX.fitsL l d m = false := by
  rw [← Bool.not_eq_true] at *
  intro h1
  refine hx ?_
  rw [SX.fitsL_iff] at *
  rw [SX.fits_iff]
  have h2 := SX.nodesL_take l j h
  have h3 := SX.nodesL_le l (j + 1)
  have h4 := SX.depthL_at l j h
  refine ⟨by omega, ?_, by omega⟩
  cases hc : l[j].form with
  | true => rfl
  | false => rw [SX.formL_false l j h hc] at h1; exact absurd h1.2.1 (by decide)

/-- What the size's function returns. -/
def Sized (x : SX) (d m : Nat) (w : World) (e : Ending) (w' : World) : Prop := (∃ z : Int, e = .returned (.tuple #[.int .i64 z, .bool (x.fits d m)]) ∧ (x.fits d m = true → z = x.nodes)) ∧ Below w.heap.size w w'
theorem Sized.yes {x : SX} {d m : Nat} {w w' : World} {z : Int} (hf : x.fits d m = true) (hz : z = x.nodes) (hb : Below w.heap.size w w') : Sized x d m w (.returned (.tuple #[.int .i64 z, .bool true])) w' :=
  ⟨⟨z, by rw [hf], fun _ => hz⟩, hb⟩
theorem Sized.no {x : SX} {d m : Nat} {w w' : World} {z : Int} (hf : x.fits d m = false) (hb : Below w.heap.size w w') : Sized x d m w (.returned (.tuple #[.int .i64 z, .bool false])) w' :=
  ⟨⟨z, by rw [hf], fun h => by rw [hf] at h; cases h⟩, hb⟩

def VsX (N : Nat) : Prop := ∀ (x : SX) (A : Option Addr) (c d m : Nat) (w : World), x.nodes ≤ N → x.ok → d ≤ 14 → m ≤ 900 → ListAt w (Lt w.heap.size) A x.list →
  Calls Tryz.prog 62 #[.agg #[.string x.atom, .slice A x.list.length c], .int .i64 d, .int .i64 m] w (Sized x d m w)

set_option maxRecDepth 100000 in
set_option maxHeartbeats 2000000 in
theorem vsX : ∀ N, VsX N
  | 0 => fun x A c d m w hn => by rw [SX.nodes_eq] at hn; omega
  | N + 1 => by
    intro x A c d m w hn hok hd hm hl
    have ih := vsX N
    obtain ⟨hza, hll, hol⟩ := SX.ok_eq x hok
    have hne := SX.nodes_eq x
    have hb0 : Below w.heap.size w (w.alloc (.cells #[.string x.atom, .slice A x.list.length c] 33)) := (Below.refl _ _).alloc (Nat.le_refl _) _
    have HE := Lib.hid hne
    have HL := Lib.hid hl
    have HO := Lib.hid hol
    have HN := Lib.hid hn
    clear hne hl hol hok hn
    by_cases hm0 : m = 0
    · subst hm0
      have hf := SX.fits_small x d
      have HF := Lib.hid hf
      clear hf
      go_enter Tryz.func62, Tryz.ntmps62
      go_wp2
      go_ret2
      exact Sized.no HF.out hb0
    · have hm1 : ¬ (m : Int) < 1 := by omega
      by_cases ha : x.atom.size = 0
      · by_cases hd0 : d = 0
        · subst hd0
          have hf := @SX.fits_flat x m ha
          have HF := Lib.hid hf
          clear hf
          rw [empty_of ha] at hb0 ⊢
          clear ha
          go_enter Tryz.func62, Tryz.ntmps62
          go_wp2
          go_ret2
          exact Sized.no HF.out hb0
        · obtain ⟨d', rfl⟩ : ∃ d', d = d' + 1 := ⟨d - 1, by omega⟩
          obtain ⟨m', rfl⟩ : ∃ m', m = m' + 1 := ⟨m - 1, by omega⟩
          have hf := @SX.fits_list x d' m' ha
          have hd1 : ¬ ((d' + 1 : Nat) : Int) < 1 := by omega
          have HF := Lib.hid hf
          clear hf
          rw [empty_of ha] at hb0 ⊢
          clear ha
          go_enter Tryz.func62, Tryz.ntmps62
          go_wp2
          go_loopw [8, 32] (fun sv iv wr => ∃ k : Nat, k ≤ x.list.length ∧ iv = .int .i64 k ∧ sv = .int .i64 (1 + SX.nodesL (x.list.take k) : Nat) ∧ SX.fitsL (x.list.take k) d' m' = true ∧ Below (w.alloc (.cells #[.string ByteArray.empty, .slice A x.list.length c] 33)).heap.size (w.alloc (.cells #[.string ByteArray.empty, .slice A x.list.length c] 33)) wr) (fun _ iv _ => x.list.length - (Go.RowKit.intOf iv).toNat)
          case atStart => exact ⟨0, Nat.zero_le _, rfl, by simp [SX.nodesL], by rw [List.take_zero, SX.fitsL_iff, SX.nodesL, SX.formL, SX.depthL]; exact ⟨Nat.zero_le _, rfl, Nat.zero_le _⟩, Below.refl _ _⟩
          case round =>
            obtain ⟨k, hk, rfl, rfl, hfk, hb⟩ := hrel
            obtain ⟨b0, b1, hbw⟩ := boxed hb
            have hle := (SX.fitsL_iff.1 hfk).1
            have HK := Lib.hid hfk
            clear hfk
            by_cases hlt : k < x.list.length
            · obtain ⟨b, o, A', c', rfl, hP, hc0, hc1, hl'⟩ := (boxedList HL.out hb).at_ hlt
              have hx : x.list[k].nodes ≤ N := by have := SX.nodesL_at x.list k hlt; have := HE.out; have := HN.out; omega
              have hst := SX.nodesL_take x.list k hlt
              have hsub : (m' : Int) + 1 - (1 + (SX.nodesL (x.list.take k) : Int)) = ((m' - SX.nodesL (x.list.take k) : Nat) : Int) := by omega
              have hbe : Below wr.heap.size wr (wr.alloc (.cells #[.string x.list[k].atom, .slice A' x.list[k].list.length c'] 33)) := (Below.refl _ _).alloc (Nat.le_refl _) _
              have hlg := hl'.grow hbe
              have hyes := @SX.fitsL_step x.list d' m' k hlt HK.out
              have hno := @SX.fitsL_stop x.list d' m' k hlt HK.out
              have HG := Lib.hid hlg
              have HS := Lib.hid hst
              have HX := Lib.hid hl'
              have HU := Lib.hid hsub
              have HY := Lib.hid hyes
              have HNo := Lib.hid hno
              clear hst hl' hsub hlg hyes hno
              go_wp2_with fail
              rw [HU.out]
              refine (ih x.list[k] A' c' d' (m' - SX.nodesL (x.list.take k)) _ hx (SX.okL_at _ HO.out k hlt) (by omega) (by omega) HG.out).mono ?_
              rintro e w1 ⟨⟨z, rfl, hz⟩, hb1⟩
              have hb2 := hb.trans ((hbe.trans (hb1.mono hbe.size)).mono hb.size)
              have hbw2 := hbw.trans ((hbe.trans (hb1.mono hbe.size)).mono hbw.size)
              cases hc : x.list[k].fits d' (m' - SX.nodesL (x.list.take k)) with
              | true =>
                have hz2 := hz hc
                have hnew := HY.out hc
                have hle2 := (SX.fits_iff.1 hc).1
                have HC := Lib.hid hnew
                clear hz hc hnew
                subst hz2
                go_wp2
                go_roundw
                case rel => exact ⟨k + 1, by omega, by go_num, int_of (by rw [HS.out]; omega), HC.out, hb2⟩
                case measure => simp [Go.RowKit.intOf]; omega
              | false =>
                have hnew := HNo.out hc
                have HC := Lib.hid hnew
                clear hz hc hnew
                go_wp2
                go_ret2
                exact Sized.no (HF.out.trans HC.out) hbw2
            · have hkl : k = x.list.length := by omega
              subst hkl
              have ht := HK.out
              rw [List.take_length] at ht hle ⊢
              have HT := Lib.hid ht
              clear ht
              go_wp2
              go_ret2
              exact Sized.yes (HF.out.trans HT.out) (by rw [HE.out]) hbw
      · have hf := @SX.fits_atom x d m (by omega) ha
        have hnem := nonempty_of ha
        have hc0 := (boxed (w := w) (t := 33) (a := x.atom) (A := A) (n := x.list.length) (c := c) (Below.refl _ _)).1
        have hc1 := (boxed (w := w) (t := 33) (a := x.atom) (A := A) (n := x.list.length) (c := c) (Below.refl _ _)).2.1
        have kc0 := cell_regrown hc0
        have kc1 := cell_regrown hc1
        have HF := Lib.hid hf
        clear hf hc0 hc1
        have cM : ∀ d os, Calls Tryz.prog 82 #[.string x.atom] (Go.Sort.grow (redrawn (w.alloc (.cells #[.string x.atom, .slice A x.list.length c] 33)) d) os) fun e w'' => e = .returned (.bool (okAtom x.atom)) ∧ ∃ p : Regrown, w'' = Go.Sort.grow (redrawn (w.alloc (.cells #[.string x.atom, .slice A x.list.length c] 33)) p.d) p.os := fun d os => Calls.regrown_of (implAtom x.atom _ hza)
        cases hc : okAtom x.atom with
        | true =>
          rw [hc] at cM
          have HC := Lib.hid hc
          clear hc
          by_cases hlz : x.list.length = 0
          · have hq : ((x.list.length : Int) == 0) = true := by rw [hlz]; rfl
            have hfz : x.fits d m = true := by rw [HF.out, HC.out, decide_eq_true hlz]; rfl
            have HZ := Lib.hid hfz
            have hnz : x.nodes = 1 := by rw [HE.out, List.eq_nil_of_length_eq_zero hlz, SX.nodesL]
            have HNZ := Lib.hid hnz
            clear hnz hlz
            clear hfz
            go_enter Tryz.func62, Tryz.ntmps62
            go_wp2
            refine wp_region_quiet_below (by kernel_rfl) (by kernel_rfl) ?_
            repeat (go_big_quiet_step (exact cM _ _))
            refine wpQuiet_nil ?_
            intro _ hw'
            obtain ⟨⟨dq, osq⟩, hw''⟩ := hw'
            subst hw''
            have hb3 := hb0.trans ((below_regrown _ dq osq).mono hb0.size)
            clear cM kc0 kc1
            go_wp2
            go_ret2
            exact Sized.yes HZ.out (by rw [HNZ.out]; rfl) hb3
          · have hq : ((x.list.length : Int) == 0) = false := by rw [beq_eq_false_iff_ne]; omega
            have hfz : x.fits d m = false := by rw [HF.out, HC.out, decide_eq_false hlz]; rfl
            have HZ := Lib.hid hfz
            clear hlz
            clear hfz
            go_enter Tryz.func62, Tryz.ntmps62
            go_wp2
            refine wp_region_quiet_below (by kernel_rfl) (by kernel_rfl) ?_
            repeat (go_big_quiet_step (exact cM _ _))
            refine wpQuiet_nil ?_
            intro _ hw'
            obtain ⟨⟨dq, osq⟩, hw''⟩ := hw'
            subst hw''
            have hb3 := hb0.trans ((below_regrown _ dq osq).mono hb0.size)
            clear cM kc0 kc1
            go_wp2
            go_ret2
            exact Sized.no HZ.out hb3
        | false =>
          rw [hc] at cM
          have HC := Lib.hid hc
          clear hc
          go_enter Tryz.func62, Tryz.ntmps62
          go_wp2
          refine wp_region_quiet_below (by kernel_rfl) (by kernel_rfl) ?_
          repeat (go_big_quiet_step (exact cM _ _))
          refine wpQuiet_nil ?_
          intro _ hw'
          obtain ⟨⟨dq, osq⟩, hw''⟩ := hw'
          subst hw''
          have hb3 := hb0.trans ((below_regrown _ dq osq).mono hb0.size)
          clear cM kc0 kc1
          go_wp2
          go_ret2
          exact Sized.no (by rw [HF.out, HC.out]; rfl) hb3
end Go.Proofs.YtbcfeoobhemdcaaGreat
namespace Go.Proofs.YtbcfeoobhemdcaaGreat
open Go.RowKit Go.Lib

set_option maxRecDepth 100000 in
set_option maxHeartbeats 1000000 in
theorem implValid (x : SX) (A : Option Addr) (c : Nat) (w : World) (hok : x.ok) (hl : ListAt w (Lt w.heap.size) A x.list) :
    Calls Tryz.prog 29 #[.agg #[.string x.atom, .slice A x.list.length c]] w fun e w' => e = .returned (.bool x.valid) ∧ Below w.heap.size w w' := by
  have hb0 : Below w.heap.size w (w.alloc (.cells #[.string x.atom, .slice A x.list.length c] 33)) := (Below.refl _ _).alloc (Nat.le_refl _) _
  have HL := Lib.hid (hl.grow hb0)
  have HV := Lib.hid (SX.fits_valid x)
  clear hl
  go_enter Tryz.func29, Tryz.ntmps29
  go_wp2_with fail
  refine (vsX _ x A c 14 900 _ (Nat.le_refl _) hok (by omega) (by omega) HL.out).mono ?_
  rintro e w1 ⟨⟨z, rfl, -⟩, hb1⟩
  have hb2 := hb0.trans (hb1.mono hb0.size)
  go_wp2
  go_ret
  exact ⟨congrArg (fun b => Ending.returned (.bool b)) HV.out, hb2⟩
end Go.Proofs.YtbcfeoobhemdcaaGreat
namespace Go.Proofs
open Go.Shelf
def Tryz.lays156_ren : Go.Shelf.Ren := ⟨fun | 156 => 94 | 165 => 99 | 166 => 100 | 169 => 101 | 240 => 103 | 241 => 104 | 276 => 105 | 277 => 106 | n => n, fun | 31 => 59 | 9 => 9 | 3 => 3 | 4 => 4 | 0 => 0 | 20 => 20 | 72 => 115 | 76 => 119 | 70 => 113 | 37 => 22 | 75 => 118 | 127 => 123 | 164 => 124 | 5 => 5 | 80 => 121 | n => n, fun | n => n⟩
theorem Tryz.lays156 : Go.Proofs.Lays.n156 Tryz.prog Tryz.lays156_ren := {
  mixed := by kernel_rfl
  f156 := Tryz.func94.trans (congrArg some (by kernel_rfl))
  f165 := Tryz.func99.trans (congrArg some (by kernel_rfl))
  f166 := Tryz.func100.trans (congrArg some (by kernel_rfl))
  f169 := Tryz.func101.trans (congrArg some (by kernel_rfl))
  f240 := Tryz.func103.trans (congrArg some (by kernel_rfl))
  f241 := Tryz.func104.trans (congrArg some (by kernel_rfl))
  f276 := Tryz.func105.trans (congrArg some (by kernel_rfl))
  f277 := Tryz.func106.trans (congrArg some (by kernel_rfl))
  t0 := Tryz.underlying0
  a0 := Tryz.isAgg0
  z0 := Tryz.sizeOf0
  v0 := Tryz.zeroValue0
  t3 := Tryz.underlying3
  a3 := Tryz.isAgg3
  z3 := Tryz.sizeOf3
  v3 := Tryz.zeroValue3
  t4 := Tryz.underlying4
  a4 := Tryz.isAgg4
  z4 := Tryz.sizeOf4
  v4 := Tryz.zeroValue4
  t9 := Tryz.underlying9
  a9 := Tryz.isAgg9
  z9 := Tryz.sizeOf9
  v9 := Tryz.zeroValue9
  t20 := Tryz.underlying20
  a20 := Tryz.isAgg20
  z20 := Tryz.sizeOf20
  v20 := Tryz.zeroValue20
  t31 := Tryz.underlying59
  a31 := Tryz.isAgg59
  z31 := Tryz.sizeOf59
  v31 := Tryz.zeroValue59
  t37 := Tryz.underlying22
  a37 := Tryz.isAgg22
  z37 := Tryz.sizeOf22
  v37 := Tryz.zeroValue22
  t70 := Tryz.underlying113
  a70 := Tryz.isAgg113
  z70 := Tryz.sizeOf113
  v70 := Tryz.zeroValue113
  t72 := Tryz.underlying115
  a72 := Tryz.isAgg115
  z72 := Tryz.sizeOf115
  v72 := Tryz.zeroValue115
  t75 := Tryz.underlying118
  a75 := Tryz.isAgg118
  z75 := Tryz.sizeOf118
  v75 := Tryz.zeroValue118
  t76 := Tryz.underlying119
  a76 := Tryz.isAgg119
  z76 := Tryz.sizeOf119
  v76 := Tryz.zeroValue119
  t127 := Tryz.underlying123
  a127 := Tryz.isAgg123
  z127 := Tryz.sizeOf123
  v127 := Tryz.zeroValue123
  t164 := Tryz.underlying124
  a164 := Tryz.isAgg124
  z164 := Tryz.sizeOf124
  v164 := Tryz.zeroValue124 }
theorem Tryz.Builder_Extra_156 : Builder.Extra Tryz.prog Tryz.lays156_ren := {
  sizeBuilder := by kernel_rfl
  liesBuilder := by kernel_rfl
  t5 := Tryz.underlying5
  a5 := Tryz.isAgg5
  z5 := Tryz.sizeOf5
  v5 := Tryz.zeroValue5
  infoByte := by kernel_rfl
  cellsByte := by kernel_rfl
  sizeByte := by kernel_rfl
  neB5 := by decide }
open Go.RowKit in
theorem Tryz.strings_Join (bk o c : Nat) (xs : List ByteArray) (sep : ByteArray) (w : World) (hcells : ∀ (j : Nat) x, xs[j]? = some x → w.cell? ⟨bk, o + j, none⟩ = some (.string x)) (hbk : bk < w.heap.size) (hN : xs.length ≤ 140737488355328) (hcap : xs.length ≤ c) (hlen : (Lib.join (xs.map (·.data.toList)) sep.data.toList).length ≤ 140737488355328) :
    Calls Tryz.prog 94 #[.slice (some ⟨bk, o, none⟩) xs.length c, .string sep] w fun e w' => e = .returned (.string ⟨(Lib.join (xs.map (·.data.toList)) sep.data.toList).toArray⟩) ∧ Below w.heap.size w w' := Any.strings_Join Tryz.lays156 Tryz.Builder_Extra_156 bk o c xs sep w hcells hbk hN hcap hlen
end Go.Proofs
namespace Go.Proofs.YtbcfeoobhemdcaaGreat
open Go.RowKit Go.Lib

theorem implJoin (g : Nat) (ss : List ByteArray) (sep : ByteArray) (w : World) (hw : Whole w g 9 (ss.map Value.string).toArray) (h1 : ss.length ≤ 4294967296) (hl : (join (ss.map (·.data.toList)) sep.data.toList).length ≤ 1099512676352) :
    Calls Tryz.prog 78 #[.slice (some ⟨g, 0, none⟩) ss.length ss.length, .string sep] w fun e w' => e = .returned (.string ⟨(join (ss.map (·.data.toList)) sep.data.toList).toArray⟩) ∧ Below w.heap.size w w' := by
  have hc : ∀ (j : Nat) x, ss[j]? = some x → w.cell? ⟨g, 0 + j, none⟩ = some (.string x) := fun j x hj => by rw [hw.cell, Nat.zero_add]; simp [hj]
  have HC := Lib.hid hc
  clear hc
  go_enter Tryz.func78, Tryz.ntmps78
  go_wp2_with fail
  refine (Tryz.strings_Join g 0 ss.length ss sep _ HC.out hw.lt (by omega) (Nat.le_refl _) (by omega)).mono ?_
  rintro e w1 ⟨rfl, hb⟩
  go_wp2
  go_ret
  exact ⟨rfl, hb⟩
end Go.Proofs.YtbcfeoobhemdcaaGreat
namespace Go.Proofs.YtbcfeoobhemdcaaGreat
open Go.RowKit Go.Lib

/-- The first k strings lie in the row. -/
def FilledTo (cs : Array Value) (ss : List ByteArray) : Prop := ∀ (j : Nat) (s : ByteArray), ss[j]? = some s → cs[j]? = some (Value.string s)
theorem FilledTo.snoc {cs : Array Value} {ss : List ByteArray} {k : Nat} {s : ByteArray} (h : FilledTo cs ss) (hk : ss.length = k) (hc : k < cs.size) : FilledTo (cs.setIfInBounds k (.string s)) (ss ++ [s]) := by
  intro j t hj
  by_cases he : j = k
  · subst he
    rw [← hk, List.getElem?_append_right (Nat.le_refl _), Nat.sub_self] at hj
    simp at hj
    subst hj
    rw [Array.getElem?_setIfInBounds_self_of_lt hc]
  · have hl : j < (ss ++ [s]).length := (List.getElem?_eq_some_iff.1 hj).1
    rw [List.length_append, List.length_singleton] at hl
    rw [List.getElem?_append_left (by omega)] at hj
    rw [Array.getElem?_setIfInBounds_ne (Ne.symm he)]
    exact h j t hj
theorem FilledTo.full {cs : Array Value} {ss : List ByteArray} (h : FilledTo cs ss) (hc : cs.size = ss.length) : cs = (ss.map Value.string).toArray := by
  apply Array.ext_getElem?
  intro j
  by_cases hj : j < ss.length
  · rw [h j ss[j] (List.getElem?_eq_getElem hj)]
    simp [hj]
  · rw [Array.getElem?_eq_none (by omega), Array.getElem?_eq_none (by simp; omega)]

def FmtX (N : Nat) : Prop := ∀ (x : SX) (A : Option Addr) (c : Nat) (w : World), x.nodes ≤ N → x.wt + 3 * x.nodes ≤ 1048576 → ListAt w (Lt w.heap.size) A x.list →
  Calls Tryz.prog 48 #[.agg #[.string x.atom, .slice A x.list.length c]] w fun e w' => e = .returned (.string x.text) ∧ Below w.heap.size w w'

set_option maxRecDepth 100000 in
set_option maxHeartbeats 2000000 in
theorem fmtX : ∀ N, FmtX N
  | 0 => fun x A c w hn => by rw [SX.nodes_eq] at hn; omega
  | N + 1 => by
    intro x A c w hn hm hl
    have ih := fmtX N
    obtain ⟨i0, hi, hz0, hz1, hz2⟩ := info_parts infoString
    have hne := SX.nodes_eq x
    have hwe := SX.wt_eq x
    have hll := SX.wtL_length x.list
    have hlen : x.list.length ≤ 1048576 := by omega
    have hte := SX.text_eq x
    by_cases ha : x.atom.size = 0
    · rw [if_pos ha] at hte
      have htl := SX.textL_length x.list
      have hjl : (join ((SX.textL x.list).map (·.data.toList)) [32]).length ≤ 1048576 := by
        have h1 := SX.text_le x
        have h2 : x.text.size = 1 + (join ((SX.textL x.list).map (·.data.toList)) [32]).length + 1 := by rw [hte]; simp only [ByteArray.size_append]; rw [show (⟨(join ((SX.textL x.list).map (·.data.toList)) [32]).toArray⟩ : ByteArray).size = (join ((SX.textL x.list).map (·.data.toList)) [32]).length by simp [ByteArray.size]]; rfl
        omega
      have hm2 : SX.wtL x.list + 3 * SX.nodesL x.list ≤ 1048576 := by omega
      have hn2 : SX.nodesL x.list ≤ N := by omega
      have km := fun (w : World) => run_make (P := Tryz.prog) w 59 9 i0 (.string ByteArray.empty) Tryz.underlying59 hi hz0 .i64 .i64 (x.list.length : Int) (x.list.length : Int) (by omega) (by omega) (by rw [hz2]; omega) (by omega)
      simp only [Int.toNat_natCast, hz1] at km
      have hms : (madeCells (Value.string ByteArray.empty).cells (x.list.length * 1)).size = x.list.length * 1 := size_madeCells _ _
      rw [Nat.mul_one] at hms km
      generalize madeCells (Value.string ByteArray.empty).cells x.list.length = cs0 at *
      have HL := Lib.hid hl
      have HT := Lib.hid hte
      have HTL := Lib.hid htl
      have HM := Lib.hid hms
      clear hl hne hwe hll hte htl hm hn hi hz0 hz1 hz2 hms
      rw [empty_of ha]
      clear ha
      have hb0 : Below w.heap.size w ((w.alloc (.cells #[.string ByteArray.empty, .slice A x.list.length c] 33)).alloc (.cells cs0 9)) := ((Below.refl _ _).alloc (Nat.le_refl _) _).alloc (by simp) _
      have hw0 : Whole ((w.alloc (.cells #[.string ByteArray.empty, .slice A x.list.length c] 33)).alloc (.cells cs0 9)) (w.heap.size + 1) 9 cs0 := by
        have h := Whole.new (w.alloc (.cells #[.string ByteArray.empty, .slice A x.list.length c] 33)) 9 cs0
        simpa using h
      go_enter Tryz.func48, Tryz.ntmps48
      go_wp2
      clear km
      go_loopw [18] (fun iv wr => ∃ (k : Nat) (cs : Array Value), k ≤ x.list.length ∧ iv = .int .i64 k ∧ Whole wr (w.heap.size + 1) 9 cs ∧ cs.size = x.list.length ∧ FilledTo cs (SX.textL (x.list.take k)) ∧ Below (w.heap.size + 1) (w.alloc (.cells #[.string ByteArray.empty, .slice A x.list.length c] 33)) wr) (fun iv _ => x.list.length - (Go.RowKit.intOf iv).toNat)
      case atStart => exact ⟨0, cs0, Nat.zero_le _, rfl, hw0, HM.out, (by intro j s hj; simp [SX.textL] at hj), (Below.refl (w.heap.size + 1) (w.alloc (.cells #[.string ByteArray.empty, .slice A x.list.length c] 33))).alloc (by simp) _⟩
      case round =>
        obtain ⟨k, cs, hk, rfl, hwr, hcs, hfk, hb⟩ := hrel
        clear hw0 hb0
        have hbs : w.heap.size + 1 ≤ wr.heap.size := by simpa using hb.size
        obtain ⟨b0, b1, hbw⟩ := boxed (hb.mono (by simp))
        have HK := Lib.hid hfk
        have HC := Lib.hid hcs
        clear hfk hcs
        by_cases hlt : k < x.list.length
        · obtain ⟨b, o, A', c', rfl, hP, hc0, hc1, hl'⟩ := (boxedList HL.out (hb.mono (by simp))).at_ hlt
          have hst := SX.textL_take x.list k hlt
          have hx : x.list[k].nodes ≤ N := by have := SX.nodesL_at x.list k hlt; omega
          have hsm : x.list[k].wt + 3 * x.list[k].nodes ≤ 1048576 := by have := wt_nodes_at x.list k hlt; omega
          have hbe : Below wr.heap.size wr (wr.alloc (.cells #[.string x.list[k].atom, .slice A' x.list[k].list.length c'] 33)) := (Below.refl _ _).alloc (Nat.le_refl _) _
          have HG := Lib.hid (hl'.grow hbe)
          have HS := Lib.hid hst
          clear hst hl'
          go_wp2_with fail
          refine (ih x.list[k] A' c' _ hx hsm HG.out).mono ?_
          rintro e w1 ⟨rfl, hb1⟩
          have hbr := hbe.trans (hb1.mono hbe.size)
          have hw1 := hwr.below hbr hwr.lt
          have hb2 := hb.trans (hbr.mono hbs)
          have d0 : ∃ v, w1.cell? ⟨w.heap.size + 1, k, none⟩ = some v := by rw [hw1.cell]; exact ⟨_, Array.getElem?_eq_getElem (by rw [HC.out]; exact hlt)⟩
          obtain ⟨v0, d0⟩ := d0
          have f0 := hw1.frozen k
          have hk0 : (0 : Int) ≤ k := by omega
          have hfill : FilledTo (cs.setIfInBounds k (.string x.list[k].text)) (SX.textL (x.list.take (k + 1))) := by
            rw [HS.out]
            exact HK.out.snoc (by rw [SX.textL_length, List.length_take]; omega) (by rw [HC.out]; exact hlt)
          have HFI := Lib.hid hfill
          clear hfill
          go_wp2
          go_roundw
          case rel => exact ⟨k + 1, _, by omega, by go_num, hw1.set_ _ _, by rw [Array.size_setIfInBounds]; exact HC.out, HFI.out, hb2.setCell (by simp) _⟩
          case measure => simp [Go.RowKit.intOf]; omega
        · have hkl : k = x.list.length := by omega
          subst hkl
          have hf := HK.out
          rw [List.take_length] at hf
          have hfull := hf.full (by rw [HC.out, HTL.out])
          have hwf : Whole wr (w.heap.size + 1) 9 ((SX.textL x.list).map Value.string).toArray := by rw [← hfull]; exact hwr
          have hIJ := implJoin (w.heap.size + 1) (SX.textL x.list) ⟨#[32]⟩ wr hwf (by rw [HTL.out]; omega) (by have : (⟨#[32]⟩ : ByteArray).data.toList = [32] := rfl; rw [this]; omega)
          rw [HTL.out] at hIJ
          have HJ := Lib.hid hIJ
          clear hf hfull hwf hIJ hwr
          go_wp2_with fail
          refine HJ.out.mono ?_
          rintro e w1 ⟨rfl, hb1⟩
          have hb2 := hbw.trans (hb1.mono hbw.size)
          go_wp2
          go_ret
          exact ⟨ret_str (by rw [HT.out]), hb2⟩
    · rw [if_neg ha] at hte
      have HT := Lib.hid hte
      have hnem := nonempty_of ha
      clear hte hl
      go_enter Tryz.func48, Tryz.ntmps48
      go_wp2
      go_ret
      exact ⟨ret_str (by rw [HT.out]), (Below.refl _ _).alloc (Nat.le_refl _) _⟩

set_option maxRecDepth 100000 in
set_option maxHeartbeats 1000000 in
theorem implFormat (x : SX) (A : Option Addr) (c : Nat) (w : World) (_hm : x.nodes ≤ 4294967296) (hok : x.ok) (hl : ListAt w (Lt w.heap.size) A x.list) :
    Calls Tryz.prog 20 #[.agg #[.string x.atom, .slice A x.list.length c]] w fun e w' => e = .returned (.string x.said) ∧ Below w.heap.size w w' := by
  have hl0 := @boxed_grow w 33 x.atom A x.list.length c x.list hl
  have hb0 : Below w.heap.size w (w.alloc (.cells #[.string x.atom, .slice A x.list.length c] 33)) := (Below.refl _ _).alloc (Nat.le_refl _) _
  have HL := Lib.hid hl0
  clear hl hl0
  go_enter Tryz.func20, Tryz.ntmps20
  go_wp2_with fail
  refine (implValid x A c _ hok HL.out).mono ?_
  rintro e w1 ⟨rfl, hb1⟩
  have hb2 := hb0.trans (hb1.mono hb0.size)
  have hl1 := HL.out.grow hb1
  have hc0 := (boxed hb1).1
  have hc1 := (boxed hb1).2.1
  have HL1 := Lib.hid hl1
  clear hl1
  cases hv : x.valid with
  | true =>
    have hs : x.said = x.text := by rw [SX.said, if_pos hv]
    have hwt := SX.valid_wt hv
    have HS := Lib.hid hs
    clear hv hs
    go_wp2_with fail
    refine (fmtX _ x A c _ (Nat.le_refl _) hwt HL1.out).mono ?_
    rintro e w2 ⟨rfl, hb3⟩
    have hb4 := hb2.trans (hb3.mono hb2.size)
    go_wp2
    go_ret
    exact ⟨ret_str (by rw [HS.out]), hb4⟩
  | false =>
    have hs : x.said = ByteArray.empty := by rw [SX.said, if_neg (by rw [hv]; decide)]
    have HS := Lib.hid hs
    clear hv hs
    go_wp2
    go_ret
    exact ⟨ret_str (by rw [HS.out]; rfl), hb2⟩
end Go.Proofs.YtbcfeoobhemdcaaGreat
namespace Go.Proofs.YtbcfeoobhemdcaaGreat
open Go.Lib

/-- The digits of a number that the loop has still to write: none for 0. -/
def digs (u : Nat) : List UInt8 := if u = 0 then [] else decDigits u

theorem digs_zero : digs 0 = [] := rfl
theorem digs_pos {u : Nat} (h : u ≠ 0) : digs u = decDigits u := by unfold digs; rw [if_neg h]
theorem digs_step {u : Nat} (h : u ≠ 0) : digs u = digs (u / 10) ++ [UInt8.ofNat (48 + u % 10)] := by
  rw [digs_pos h, decDigits]
  by_cases h10 : u < 10
  · rw [dif_pos h10, show u / 10 = 0 by omega, digs_zero, Nat.mod_eq_of_lt h10]; rfl
  · rw [dif_neg h10, digs_pos (by omega)]
theorem digs_length_le : ∀ (k u : Nat), u < 10 ^ k → (digs u).length ≤ k
  | 0, u, h => by
    have : u = 0 := by simp at h; omega
    subst this; simp [digs_zero]
  | k + 1, u, h => by
    by_cases h0 : u = 0
    · subst h0; simp [digs_zero]
    · rw [digs_step h0, List.length_append]
      have := digs_length_le k (u / 10) (by rw [Nat.pow_succ] at h; omega)
      simp; omega
theorem itoa_of_neg {n : Int} (h : n < 0) : itoa n = 45 :: digs n.natAbs := by
  rw [itoa, if_pos h, digs_pos (by omega)]
theorem itoa_of_pos {n : Int} (h : 0 < n) : itoa n = digs n.natAbs := by
  rw [itoa, if_neg (by omega), digs_pos (by omega), show n.toNat = n.natAbs by omega]
theorem itoa_zero : itoa 0 = [48] := by rw [itoa, if_neg (by omega)]; rw [decDigits]; simp
end Go.Proofs.YtbcfeoobhemdcaaGreat
namespace Go.Proofs.YtbcfeoobhemdcaaGreat
open Go.RowKit Go.Lib

/-- The text of a mark. -/
def mark (k : Nat) : ByteArray := ⟨(109 :: digs k).toArray⟩
theorem mark_step (m : Nat) (l : List UInt8) (h : 0 < m) (b : UInt8) (hb : b = UInt8.ofNat (48 + m % 10)) : digs (m / 10) ++ b :: l = digs m ++ l := by
  rw [digs_step (show m ≠ 0 by omega), hb]
  simp

end Go.Proofs.YtbcfeoobhemdcaaGreat
namespace Go.Proofs.YtbcfeoobhemdcaaGreat
open Go.RowKit Go.Lib

mutual
/-- How many marks. -/
def DV.cnt : DV → Nat
  | .pl _ => 1
  | .row _ _ xs => DV.cntE xs
def DV.cntL : List DV → Nat
  | [] => 0
  | d :: r => d.cnt + DV.cntL r
def DV.cntE : List (List DV) → Nat
  | [] => 0
  | x :: r => DV.cntL x + DV.cntE r
end
/-- A plain value's mark. -/
def vmkU (k : Nat) : Value → Value
  | .string _ => .string (mark k)
  | .int q _ => .int q k
  | .bool _ => .bool ((k : Int) % 3 == 0)
  | u => u
mutual
/-- Marked from k on. -/
def DV.vmk (k : Nat) : DV → DV
  | .pl u => .pl (vmkU k u)
  | .row e s xs => .row e s (vmkE k xs)
def vmkL (k : Nat) : List DV → List DV
  | [] => []
  | d :: r => d.vmk k :: vmkL (k + d.cnt) r
def vmkE (k : Nat) : List (List DV) → List (List DV)
  | [] => []
  | x :: r => vmkL k x :: vmkE (k + DV.cntL x) r
end
theorem vmkL_length : ∀ (ds : List DV) (k : Nat), (vmkL k ds).length = ds.length
  | [], _ => by rw [vmkL]
  | d :: r, k => by rw [vmkL, List.length_cons, List.length_cons, vmkL_length r]
theorem vmkE_length : ∀ (l : List (List DV)) (k : Nat), (vmkE k l).length = l.length
  | [], _ => by rw [vmkE]
  | x :: r, k => by rw [vmkE, List.length_cons, List.length_cons, vmkE_length r]
theorem vmkE_take : ∀ (l : List (List DV)) (k i : Nat) (h : i < l.length), vmkE k (l.take (i + 1)) = vmkE k (l.take i) ++ [vmkL (k + DV.cntE (l.take i)) l[i]]
  | x :: r, k, 0, _ => by simp [vmkE, DV.cntE]
  | x :: r, k, i + 1, h => by
    rw [List.take_succ_cons, List.take_succ_cons, vmkE, vmkE, vmkE_take r _ i (by simpa using h), DV.cntE]
    simp [Nat.add_assoc]
theorem vmkE_at : ∀ (l : List (List DV)) (k i : Nat) (h : i < l.length), (vmkE k l)[i]? = some (vmkL (k + DV.cntE (l.take i)) l[i])
  | x :: r, k, 0, _ => by simp [vmkE, DV.cntE]
  | x :: r, k, i + 1, h => by
    rw [vmkE, List.getElem?_cons_succ, vmkE_at r _ i (by simpa using h), List.take_succ_cons, DV.cntE]
    simp [Nat.add_assoc]
theorem cntE_step : ∀ (l : List (List DV)) (j : Nat) (h : j < l.length), DV.cntE (l.take (j + 1)) = DV.cntE (l.take j) + DV.cntL l[j]
  | x :: r, 0, _ => by simp [DV.cntE]
  | x :: r, j + 1, h => by
    have := cntE_step r j (by simpa using h)
    rw [List.take_succ_cons, List.take_succ_cons, DV.cntE, DV.cntE, this]
    simp; omega
theorem cntE_part : ∀ (l : List (List DV)) (j : Nat), DV.cntE (l.take j) ≤ DV.cntE l
  | [], j => by simp
  | x :: r, 0 => by simp [DV.cntE]
  | x :: r, j + 1 => by
    have := cntE_part r j
    rw [List.take_succ_cons, DV.cntE, DV.cntE]; omega

/-- All blocks but these are as they were. -/
structure ButV (bs : List Nat) (w w' : World) : Prop where
  os : w'.os = w.os
  tape : w'.tape = w.tape
  output : w'.output = w.output
  size : w.heap.size ≤ w'.heap.size
  block : ∀ b, b < w.heap.size → b ∉ bs → w'.heap[b]? = w.heap[b]?
theorem ButV.refl (bs : List Nat) (w : World) : ButV bs w w := ⟨rfl, rfl, rfl, Nat.le_refl _, fun _ _ _ => rfl⟩
theorem ButV.trans {bs : List Nat} {a b c : World} (h : ButV bs a b) (k : ButV bs b c) : ButV bs a c :=
  ⟨k.os.trans h.os, k.tape.trans h.tape, k.output.trans h.output, Nat.le_trans h.size k.size, fun i hi hn => (k.block i (Nat.lt_of_lt_of_le hi h.size) hn).trans (h.block i hi hn)⟩
theorem ButV.of_below {bs : List Nat} {w w' : World} (h : Below w.heap.size w w') : ButV bs w w' := ⟨h.os, h.tape, h.output, h.size, fun b hb _ => h.block b hb⟩
theorem ButV.more {bs cs : List Nat} {w w' : World} (h : ButV bs w w') (hs : ∀ b ∈ bs, b ∈ cs) : ButV cs w w' := ⟨h.os, h.tape, h.output, h.size, fun b hb hn => h.block b hb fun hm => hn (hs b hm)⟩
theorem ButV.set_ {bs : List Nat} {a w : World} (h : ButV bs a w) {g : Nat} (hg : g ∈ bs) (i : Nat) (v : Value) : ButV bs a (w.setCell ⟨g, i, none⟩ v) :=
  h.trans ⟨rfl, rfl, rfl, by simp [World.setCell], fun b _ hn => Below.heap_setCell _ _ _ _ (by exact (fun e => hn (by rw [e]; exact hg)))⟩
theorem ButV.below {bs : List Nat} {B : Nat} {w w' : World} (h : ButV bs w w') (hB : B ≤ w.heap.size) (hbs : ∀ b ∈ bs, B ≤ b) : Below B w w' :=
  ⟨h.os, h.tape, h.output, h.size, fun k hk => h.block k (by omega) (fun hm => by have := hbs k hm; omega)⟩

theorem OwVE_split {w : World} {B K : Nat} : ∀ (p : List (List DV)) {x : List DV} {q : List (List DV)} {vs : List Value} {bs : List Nat}, OwVE w B K (p ++ x :: q) vs bs →
    ∃ vp vx vq bp bx bq, vs = vp ++ (vx ++ vq) ∧ bs = bp ++ (bx ++ bq) ∧ OwVE w B K p vp bp ∧ x.length = K ∧ OwVs w B x vx bx ∧ OwVE w B K q vq bq
  | [], x, q, vs, bs, h => by
    rw [List.nil_append, OwVE] at h
    obtain ⟨v1, v2, b1, b2, rfl, rfl, hk, h1, h2⟩ := h
    exact ⟨[], v1, v2, [], b1, b2, rfl, rfl, by rw [OwVE]; exact ⟨rfl, rfl⟩, hk, h1, h2⟩
  | y :: p, x, q, vs, bs, h => by
    rw [List.cons_append, OwVE] at h
    obtain ⟨v1, v2, b1, b2, rfl, rfl, hk, h1, h2⟩ := h
    obtain ⟨vp, vx, vq, bp, bx, bq, rfl, rfl, h3, h4, h5, h6⟩ := OwVE_split p h2
    refine ⟨v1 ++ vp, vx, vq, b1 ++ bp, bx, bq, by rw [List.append_assoc], by rw [List.append_assoc], ?_, h4, h5, h6⟩
    rw [OwVE]
    exact ⟨v1, vp, b1, bp, rfl, rfl, hk, h1, h3⟩
theorem OwVE_join {w : World} {B K : Nat} : ∀ (p : List (List DV)) {x : List DV} {q : List (List DV)} {vp vx vq : List Value} {bp bx bq : List Nat}, OwVE w B K p vp bp → x.length = K → OwVs w B x vx bx → OwVE w B K q vq bq →
    OwVE w B K (p ++ x :: q) (vp ++ (vx ++ vq)) (bp ++ (bx ++ bq))
  | [], x, q, vp, vx, vq, bp, bx, bq, h, hk, hx, hq => by
    rw [OwVE] at h
    obtain ⟨rfl, rfl⟩ := h
    rw [List.nil_append, List.nil_append, List.nil_append, OwVE]
    exact ⟨vx, vq, bx, bq, rfl, rfl, hk, hx, hq⟩
  | y :: p, x, q, vp, vx, vq, bp, bx, bq, h, hk, hx, hq => by
    rw [OwVE] at h
    obtain ⟨v1, v2, b1, b2, rfl, rfl, hk1, h1, h2⟩ := h
    rw [List.cons_append, OwVE]
    exact ⟨v1, _, b1, _, by rw [List.append_assoc], by rw [List.append_assoc], hk1, h1, OwVE_join p h2 hk hx hq⟩
theorem OwVs_split {w : World} {B : Nat} : ∀ (p : List DV) {d : DV} {q : List DV} {vs : List Value} {bs : List Nat}, OwVs w B (p ++ d :: q) vs bs →
    ∃ vp v vq bp bd bq, vs = vp ++ v :: vq ∧ bs = bp ++ (bd ++ bq) ∧ OwVs w B p vp bp ∧ OwV w B d v bd ∧ OwVs w B q vq bq
  | [], d, q, vs, bs, h => by
    rw [List.nil_append, OwVs] at h
    obtain ⟨v, v2, b1, b2, rfl, rfl, h1, h2⟩ := h
    exact ⟨[], v, v2, [], b1, b2, rfl, rfl, by rw [OwVs]; exact ⟨rfl, rfl⟩, h1, h2⟩
  | y :: p, d, q, vs, bs, h => by
    rw [List.cons_append, OwVs] at h
    obtain ⟨v1, v2, b1, b2, rfl, rfl, h1, h2⟩ := h
    obtain ⟨vp, v, vq, bp, bd, bq, rfl, rfl, h3, h4, h5⟩ := OwVs_split p h2
    refine ⟨v1 :: vp, v, vq, b1 ++ bp, bd, bq, rfl, by rw [List.append_assoc], ?_, h4, h5⟩
    rw [OwVs]
    exact ⟨v1, vp, b1, bp, rfl, rfl, h1, h3⟩
theorem OwVs_join {w : World} {B : Nat} : ∀ (p : List DV) {d : DV} {q : List DV} {vp vq : List Value} {v : Value} {bp bd bq : List Nat}, OwVs w B p vp bp → OwV w B d v bd → OwVs w B q vq bq →
    OwVs w B (p ++ d :: q) (vp ++ v :: vq) (bp ++ (bd ++ bq))
  | [], d, q, vp, vq, v, bp, bd, bq, h, hx, hq => by
    rw [OwVs] at h
    obtain ⟨rfl, rfl⟩ := h
    rw [List.nil_append, List.nil_append, List.nil_append, OwVs]
    exact ⟨v, vq, bd, bq, rfl, rfl, hx, hq⟩
  | y :: p, d, q, vp, vq, v, bp, bd, bq, h, hx, hq => by
    rw [OwVs] at h
    obtain ⟨v1, v2, b1, b2, rfl, rfl, h1, h2⟩ := h
    rw [List.cons_append, OwVs]
    exact ⟨v1, _, b1, _, rfl, by rw [List.append_assoc], h1, OwVs_join p h2 hx hq⟩

/-- A row that has elements lies somewhere. -/
theorem OwV_some {w : World} {B K n c : Nat} {e : TypeId} {xs : List (List DV)} {A : Option Addr} {bs : List Nat} (h : OwV w B (.row e K xs) (.slice A n c) bs) (hx : 0 < xs.length) : ∃ g, A = some ⟨g, 0, none⟩ ∧ g ∈ bs := by
  rw [OwV] at h
  obtain ⟨vs, bs', h1, _, rfl⟩ := h
  rcases h1.2 with ⟨_, h0⟩ | ⟨g, cap, cur, hv, _⟩
  · omega
  · injection hv with hA
    subst hA
    exact ⟨g, rfl, by simp [Value.ownBlock]⟩
/-- The cell at c of the element behind p: what it is; another in its place. -/
theorem OwV_focus {w : World} {B K n cap g i : Nat} {e : TypeId} {p q : List (List DV)} {x : List DV} {bs : List Nat} (h : OwV w B (.row e K (p ++ x :: q)) (.slice (some ⟨g, 0, none⟩) n cap) bs) (hn : bs.Nodup) (hi : p.length = i) {c : Nat} {d : DV} (hc : x[c]? = some d) :
    ∃ vd bd, w.cell? ⟨g, i * K + c, none⟩ = some vd ∧ w.frozen? ⟨g, i * K + c, none⟩ = false ∧ OwV w B d vd bd ∧ bd.Nodup ∧ g ∉ bd ∧ (∀ b ∈ bd, b ∈ bs) ∧
      (∀ w' d', OwV w' B d' vd bd → (∀ b ∈ bs, b ∉ bd → w'.heap[b]? = w.heap[b]?) → OwV w' B (.row e K (p ++ x.set c d' :: q)) (.slice (some ⟨g, 0, none⟩) n cap) bs) ∧
      (bd = [] → ∀ u', OwV (w.setCell ⟨g, i * K + c, none⟩ u') B (.row e K (p ++ x.set c (.pl u') :: q)) (.slice (some ⟨g, 0, none⟩) n cap) bs) := by
  rw [OwV] at h
  obtain ⟨vs, bs', hown, hE, rfl⟩ := h
  have hnl : n = (p ++ x :: q).length := by
    rcases hown.2 with ⟨h, _⟩ | ⟨g', c', cur, h, _⟩
    · cases h
    · injection h
  rw [← hnl] at hown
  obtain ⟨vp, vx, vq, bp, bx, bq, rfl, rfl, h1, hk, h2, h3⟩ := OwVE_split p hE
  have hcl : c < x.length := (List.getElem?_eq_some_iff.1 hc).1
  have hxe : x = x.take c ++ d :: x.drop (c + 1) := by
    have e1 : x[c] = d := (List.getElem?_eq_some_iff.1 hc).2
    rw [← e1, ← List.drop_eq_getElem_cons hcl, List.take_append_drop]
  have hset : ∀ d', x.set c d' = x.take c ++ d' :: x.drop (c + 1) := fun d' => by rw [List.set_eq_take_append_cons_drop, if_pos hcl]
  have h2' := h2
  rw [hxe] at h2'
  obtain ⟨v1, v, v2, b1, bd, b2, rfl, rfl, h4, h5, h6⟩ := OwVs_split _ h2'
  have hvp : vp.length = i * K := by rw [OwVE_length h1, hi]
  have hv1 : v1.length = c := by rw [OwVs_length h4, List.length_take]; omega
  have hlen : (p ++ x :: q).length = i + 1 + q.length := by rw [List.length_append, List.length_cons, hi]; omega
  have hix : i * K + c < n * K := by
    rw [hnl, hlen, show i + 1 + q.length = i + (1 + q.length) by omega, Nat.add_mul]
    have : 1 * K ≤ (1 + q.length) * K := Nat.mul_le_mul_right _ (by omega)
    omega
  have hcell : w.cell? ⟨g, i * K + c, none⟩ = some v := by
    rw [World.ownsRow.cellAt hown _ hix, List.getElem?_append_right (by omega), hvp, show i * K + c - i * K = c by omega, List.getElem?_append_left (by simp; omega), List.getElem?_append_right (by omega), hv1, Nat.sub_self]
    rfl
  simp only [Value.ownBlock, Option.toList_some, List.singleton_append, List.nodup_cons] at hn
  obtain ⟨hng, hn⟩ := hn
  rw [List.nodup_append, List.nodup_append, List.nodup_append, List.nodup_append] at hn
  obtain ⟨np, ⟨⟨nb1, ⟨nbd, nb2, dis1⟩, dis2⟩, nbq, dis3⟩, dis4⟩ := hn
  have join : ∀ (w' : World) (d' : DV) (v' : Value) (vs' : List Value), vs' = vp ++ ((v1 ++ v' :: v2) ++ vq) → w'.ownsRow B e K (.slice (some ⟨g, 0, none⟩) n cap) n vs' → OwV w' B d' v' bd → (∀ b ∈ bp ++ (b1 ++ (bd ++ b2) ++ bq), b ∉ bd → w'.heap[b]? = w.heap[b]?) → OwV w' B (.row e K (p ++ x.set c d' :: q)) (.slice (some ⟨g, 0, none⟩) n cap) ((Value.slice (some ⟨g, 0, none⟩) n cap).ownBlock.toList ++ (bp ++ (b1 ++ (bd ++ b2) ++ bq))) := by
    intro w' d' v' vs' hvs ho hd hb
    rw [OwV]
    refine ⟨vs', _, by rw [show (p ++ x.set c d' :: q).length = n by rw [hnl]; simp]; exact ho, ?_, rfl⟩
    rw [hvs]
    refine OwVE_join p (OwVE_frame p (fun b hm => hb b (by simp [hm]) (fun hm2 => dis4 b hm b (by simp [hm2]) rfl)) h1) (by rw [List.length_set]; exact hk) ?_ (OwVE_frame q (fun b hm => hb b (by simp [hm]) (fun hm2 => dis3 b (by simp [hm2]) b hm rfl)) h3)
    rw [hset]
    exact OwVs_join _ (OwVs_frame _ (fun b hm => hb b (by simp [hm]) (fun hm2 => dis2 b hm b (by simp [hm2]) rfl)) h4) hd (OwVs_frame _ (fun b hm => hb b (by simp [hm]) (fun hm2 => dis1 b hm2 b hm rfl)) h6)
  refine ⟨v, bd, hcell, hown.frozenAt _, h5, nbd, fun hm => hng (by simp [hm]), fun b hm => by simp [hm], fun w' d' hd hb => ?_, fun hbd u' => ?_⟩
  · refine join w' d' v _ rfl (own_same hown fun b hbv => ?_) hd fun b hm hnm => hb b (by simp at hm ⊢; right; exact hm) hnm
    have hbg : b = g := by simpa [Value.ownBlock] using hbv.symm
    subst hbg
    exact hb b (by simp [Value.ownBlock]) (fun hm => hng (by simp [hm]))
  · subst hbd
    refine join _ (.pl u') u' ((vp ++ ((v1 ++ v :: v2) ++ vq)).set (i * K + c) u') ?_ (hown.stored (i * K + c) u').1 (by rw [OwV]; exact ⟨rfl, rfl⟩) fun b hm _ => by refine Below.heap_setCell _ _ _ _ ?_; intro e; exact hng (by rw [← (show b = g from e)]; exact hm)
    rw [List.set_append_right _ _ (by omega), hvp, show i * K + c - i * K = c by omega, List.set_append_left _ _ (by simp; omega), List.set_append_right _ _ (by omega), hv1, Nat.sub_self]
    rfl
theorem OwV_plain_at {w : World} {B K n cap g i : Nat} {e : TypeId} {p q : List (List DV)} {x : List DV} {bs : List Nat} (h : OwV w B (.row e K (p ++ x :: q)) (.slice (some ⟨g, 0, none⟩) n cap) bs) (hn : bs.Nodup) (hi : p.length = i) {c : Nat} {u : Value} (hc : x[c]? = some (.pl u)) :
    w.cell? ⟨g, i * K + c, none⟩ = some u ∧ w.frozen? ⟨g, i * K + c, none⟩ = false ∧ ∀ u', OwV (w.setCell ⟨g, i * K + c, none⟩ u') B (.row e K (p ++ x.set c (.pl u') :: q)) (.slice (some ⟨g, 0, none⟩) n cap) bs := by
  obtain ⟨vd, bd, h1, h2, h3, _, _, _, _, h4⟩ := OwV_focus h hn hi hc
  rw [OwV] at h3
  obtain ⟨rfl, rfl⟩ := h3
  exact ⟨h1, h2, h4 rfl⟩
/-- The value at c of a struct: what it is; another in its place. -/
theorem OwVs_focus {w : World} {B : Nat} {ds : List DV} {vs : List Value} {bs : List Nat} (h : OwVs w B ds vs bs) (hn : bs.Nodup) {c : Nat} {d : DV} (hc : ds[c]? = some d) :
    ∃ v bd, vs[c]? = some v ∧ OwV w B d v bd ∧ bd.Nodup ∧ (∀ b ∈ bd, b ∈ bs) ∧
      (∀ w' d', OwV w' B d' v bd → (∀ b ∈ bs, b ∉ bd → w'.heap[b]? = w.heap[b]?) → OwVs w' B (ds.set c d') vs bs) := by
  have hcl : c < ds.length := (List.getElem?_eq_some_iff.1 hc).1
  have hxe : ds = ds.take c ++ d :: ds.drop (c + 1) := by
    have e1 : ds[c] = d := (List.getElem?_eq_some_iff.1 hc).2
    rw [← e1, ← List.drop_eq_getElem_cons hcl, List.take_append_drop]
  have hset : ∀ d', ds.set c d' = ds.take c ++ d' :: ds.drop (c + 1) := fun d' => by rw [List.set_eq_take_append_cons_drop, if_pos hcl]
  rw [hxe] at h
  obtain ⟨v1, v, v2, b1, bd, b2, rfl, rfl, h4, h5, h6⟩ := OwVs_split _ h
  have hv1 : v1.length = c := by rw [OwVs_length h4, List.length_take]; omega
  rw [List.nodup_append, List.nodup_append] at hn
  obtain ⟨nb1, ⟨nbd, nb2, dis1⟩, dis2⟩ := hn
  refine ⟨v, bd, by rw [List.getElem?_append_right (by omega), hv1, Nat.sub_self]; rfl, h5, nbd, fun b hm => by simp [hm], fun w' d' hd hb => ?_⟩
  rw [hset]
  exact OwVs_join _ (OwVs_frame _ (fun b hm => hb b (by simp [hm]) (fun hm2 => dis2 b hm b (by simp [hm2]) rfl)) h4) hd (OwVs_frame _ (fun b hm => hb b (by simp [hm]) (fun hm2 => dis1 b hm2 b hm rfl)) h6)
/-- A struct by value, its rows marked. -/
def DV.tcnt : DV → Nat
  | .pl _ => 0
  | .row _ _ xs => DV.cntE xs
def tcntL : List DV → Nat
  | [] => 0
  | d :: r => d.tcnt + tcntL r
def DV.tmk (k : Nat) : DV → DV
  | .pl u => .pl u
  | .row e s xs => .row e s (vmkE k xs)
def tmkL (k : Nat) : List DV → List DV
  | [] => []
  | d :: r => d.tmk k :: tmkL (k + d.tcnt) r
end Go.Proofs.YtbcfeoobhemdcaaGreat
namespace Go.Proofs.YtbcfeoobhemdcaaGreat
open Go.RowKit Go.Lib

end Go.Proofs.YtbcfeoobhemdcaaGreat
namespace Go.Proofs.YtbcfeoobhemdcaaGreat
open Go.RowKit Go.Lib

theorem TypeX.tcnt_eq (x : TypeX) : tcntL x.cells = DV.cntE (TypeX.rows x.args_) := by
  rw [TypeX.cells_eq]
  simp only [tcntL, DV.tcnt]
  omega
theorem TypeX.tmk_eq (x : TypeX) (k : Nat) : tmkL k x.cells = [.pl (.int .i64 x.kind_), .pl (.string x.name_), .row 26 3 (vmkE (k) (TypeX.rows x.args_))] := by
  rw [TypeX.cells_eq]
  simp only [tmkL, DV.tmk, DV.tcnt, Nat.add_zero]
end Go.Proofs.YtbcfeoobhemdcaaGreat
namespace Go.Proofs.YtbcfeoobhemdcaaGreat
open Go.RowKit Go.Lib

mutual
/-- An expression marked from k on. -/
def SX.mrk (k : Nat) : SX → SX
  | .mk _ l => .mk (mark k) (mrkL (k + 1) l)
def mrkL (k : Nat) : List SX → List SX
  | [] => []
  | x :: r => x.mrk k :: mrkL (k + x.nodes) r
end
theorem mrk_eq (k : Nat) (x : SX) : x.mrk k = .mk (mark k) (mrkL (k + 1) x.list) := by cases x; rw [SX.mrk]; rfl
theorem mrkL_length : ∀ (l : List SX) (k : Nat), (mrkL k l).length = l.length
  | [], _ => by rw [mrkL]
  | x :: r, k => by rw [mrkL, List.length_cons, List.length_cons, mrkL_length r]
theorem mrkL_take : ∀ (l : List SX) (k i : Nat) (h : i < l.length), mrkL k (l.take (i + 1)) = mrkL k (l.take i) ++ [l[i].mrk (k + SX.nodesL (l.take i))]
  | x :: r, k, 0, _ => by simp [mrkL, SX.nodesL]
  | x :: r, k, i + 1, h => by
    rw [List.take_succ_cons, List.take_succ_cons, mrkL, mrkL, mrkL_take r _ i (by simpa using h), SX.nodesL]
    simp [Nat.add_assoc]
theorem mrkL_at : ∀ (l : List SX) (k i : Nat) (h : i < l.length), (mrkL k l)[i]? = some (l[i].mrk (k + SX.nodesL (l.take i)))
  | x :: r, k, 0, _ => by simp [mrkL, SX.nodesL]
  | x :: r, k, i + 1, h => by
    rw [mrkL, List.getElem?_cons_succ, mrkL_at r _ i (by simpa using h), List.take_succ_cons, SX.nodesL]
    simp [Nat.add_assoc]
theorem nodesL_step : ∀ (l : List SX) (j : Nat) (h : j < l.length), SX.nodesL (l.take (j + 1)) = SX.nodesL (l.take j) + l[j].nodes
  | x :: r, 0, _ => by simp [SX.nodesL]
  | x :: r, j + 1, h => by
    have := nodesL_step r j (by simpa using h)
    rw [List.take_succ_cons, List.take_succ_cons, SX.nodesL, SX.nodesL, this]
    simp; omega
theorem nodesL_part : ∀ (l : List SX) (j : Nat), SX.nodesL (l.take j) ≤ SX.nodesL l
  | [], j => by simp
  | x :: r, 0 => by simp [SX.nodesL]
  | x :: r, j + 1 => by
    have := nodesL_part r j
    rw [List.take_succ_cons, SX.nodesL, SX.nodesL]; omega
theorem nodesL_count : ∀ (l : List SX), l.length ≤ SX.nodesL l
  | [] => by simp [SX.nodesL]
  | x :: r => by have := nodesL_count r; have := SX.nodes_eq x; rw [SX.nodesL, List.length_cons]; omega

/-- All blocks but these are as they were. -/
structure ButL (bs : List Nat) (w w' : World) : Prop where
  os : w'.os = w.os
  tape : w'.tape = w.tape
  output : w'.output = w.output
  size : w.heap.size ≤ w'.heap.size
  block : ∀ b, b < w.heap.size → b ∉ bs → w'.heap[b]? = w.heap[b]?
theorem ButL.refl (bs : List Nat) (w : World) : ButL bs w w := ⟨rfl, rfl, rfl, Nat.le_refl _, fun _ _ _ => rfl⟩
theorem ButL.trans {bs : List Nat} {a b c : World} (h : ButL bs a b) (k : ButL bs b c) : ButL bs a c :=
  ⟨k.os.trans h.os, k.tape.trans h.tape, k.output.trans h.output, Nat.le_trans h.size k.size, fun i hi hn => (k.block i (Nat.lt_of_lt_of_le hi h.size) hn).trans (h.block i hi hn)⟩
theorem ButL.of_below {bs : List Nat} {w w' : World} (h : Below w.heap.size w w') : ButL bs w w' := ⟨h.os, h.tape, h.output, h.size, fun b hb _ => h.block b hb⟩
theorem ButL.more {bs cs : List Nat} {w w' : World} (h : ButL bs w w') (hs : ∀ b ∈ bs, b ∈ cs) : ButL cs w w' := ⟨h.os, h.tape, h.output, h.size, fun b hb hn => h.block b hb fun hm => hn (hs b hm)⟩

theorem OwE_split {w : World} {B : Nat} : ∀ (p : List SX) {x : SX} {q : List SX} {xs : List Value} {bs : List Nat}, OwE w B (p ++ x :: q) xs bs →
    ∃ xp v0 v1 xq bp bx bq, xs = xp ++ v0 :: v1 :: xq ∧ bs = bp ++ (bx ++ bq) ∧ OwE w B p xp bp ∧ OwX w B x v0 v1 bx ∧ OwE w B q xq bq
  | [], x, q, xs, bs, h => by
    rw [List.nil_append, OwE] at h
    obtain ⟨v0, v1, xs', b1, b2, rfl, rfl, h1, h2⟩ := h
    exact ⟨[], v0, v1, xs', [], b1, b2, rfl, rfl, by rw [OwE]; exact ⟨rfl, rfl⟩, h1, h2⟩
  | y :: p, x, q, xs, bs, h => by
    rw [List.cons_append, OwE] at h
    obtain ⟨u0, u1, xs', b1, b2, rfl, rfl, h1, h2⟩ := h
    obtain ⟨xp, v0, v1, xq, bp, bx, bq, rfl, rfl, h3, h4, h5⟩ := OwE_split p h2
    refine ⟨u0 :: u1 :: xp, v0, v1, xq, b1 ++ bp, bx, bq, rfl, by simp, ?_, h4, h5⟩
    rw [OwE]
    exact ⟨u0, u1, xp, b1, bp, rfl, rfl, h1, h3⟩
theorem OwE_join {w : World} {B : Nat} : ∀ (p : List SX) {x : SX} {q : List SX} {xp xq : List Value} {v0 v1 : Value} {bp bx bq : List Nat}, OwE w B p xp bp → OwX w B x v0 v1 bx → OwE w B q xq bq →
    OwE w B (p ++ x :: q) (xp ++ v0 :: v1 :: xq) (bp ++ (bx ++ bq))
  | [], x, q, xp, xq, v0, v1, bp, bx, bq, h, hx, hq => by
    rw [OwE] at h
    obtain ⟨rfl, rfl⟩ := h
    rw [List.nil_append, List.nil_append, List.nil_append, OwE]
    exact ⟨v0, v1, xq, bx, bq, rfl, rfl, hx, hq⟩
  | y :: p, x, q, xp, xq, v0, v1, bp, bx, bq, h, hx, hq => by
    rw [OwE] at h
    obtain ⟨u0, u1, xs', b1, b2, rfl, rfl, h1, h2⟩ := h
    rw [List.cons_append, OwE]
    exact ⟨u0, u1, _, b1, _, rfl, by rw [List.append_assoc], h1, OwE_join p h2 hx hq⟩
theorem OwX_bare {w : World} {B : Nat} {x : SX} {v0 v1 : Value} {bs : List Nat} (h : OwX w B x v0 v1 bs) : OwX w B (.mk ByteArray.empty x.list) (.string ByteArray.empty) v1 bs := by
  cases x with
  | mk a l =>
    rw [OwX] at h ⊢
    exact ⟨rfl, h.2⟩
theorem OwX_dress {w : World} {B : Nat} {a : ByteArray} {l : List SX} {v1 : Value} {bs : List Nat} (h : OwX w B (.mk ByteArray.empty l) (.string ByteArray.empty) v1 bs) : OwX w B (.mk a l) (.string a) v1 bs := by
  rw [OwX] at h ⊢
  exact ⟨rfl, h.2⟩

end Go.Proofs.YtbcfeoobhemdcaaGreat
namespace Go.Proofs.YtbcfeoobhemdcaaGreat
open Go.RowKit Go.Lib

theorem SX.atom_mk (a : ByteArray) (l : List SX) : (SX.mk a l).atom = a := rfl
theorem SX.list_mk (a : ByteArray) (l : List SX) : (SX.mk a l).list = l := rfl
end Go.Proofs.YtbcfeoobhemdcaaGreat
namespace Go.Proofs.YtbcfeoobhemdcaaGreat
open Go.RowKit Go.Lib

theorem SX.dwt_eq (x : SX) : DV.wtL x.cells = x.atom.size + DV.wtE (SX.rows x.list) := by
  rw [SX.cells_eq]
  simp only [DV.wtL, DV.wt, uwt]
  omega
theorem SX.dnodes_eq (x : SX) : DV.nodesL x.cells = DV.nodesE (SX.rows x.list) := by
  rw [SX.cells_eq]
  simp only [DV.nodesL, DV.nodes]
  omega
end Go.Proofs.YtbcfeoobhemdcaaGreat
namespace Go.Proofs.YtbcfeoobhemdcaaGreat
open Go.RowKit Go.Lib

theorem infoSxG : (Tryz.prog.info? 33).map (fun i => (i.zero, i.size, i.bytes)) = some (some (.agg #[.string ByteArray.empty, .slice none 0 0]), 2, 40) := by kernel_rfl
end Go.Proofs.YtbcfeoobhemdcaaGreat
namespace Go.Proofs.YtbcfeoobhemdcaaGreat
open Go.RowKit Go.Lib

inductive Tok where
  | lp | rp | bad
  | word (l : List UInt8)
/-- A word that has ended; a byte that is none of a word. -/
def fl (l : List UInt8) : List Tok := if l = [] then [] else [.word l]
def mk1 (c : UInt8) : List Tok := if isW c then [] else if c = 40 then [.lp] else if c = 41 then [.rp] else [.bad]
/-- The tokens, a word under way. -/
def tk : List UInt8 → List UInt8 → List Tok
  | pend, [] => fl pend
  | pend, c :: r => if okByte c then tk (pend ++ [c]) r else fl pend ++ (mk1 c ++ tk [] r)
def tok (l : List UInt8) : List Tok := tk [] l
theorem fl_nil : fl [] = [] := rfl
theorem fl_some {l : List UInt8} (h : l ≠ []) : fl l = [.word l] := if_neg h
theorem tk_ok {pend r : List UInt8} {c : UInt8} (h : okByte c = true) : tk pend (c :: r) = tk (pend ++ [c]) r := by rw [tk, if_pos h]
theorem tk_no {pend r : List UInt8} {c : UInt8} (h : okByte c = false) : tk pend (c :: r) = fl pend ++ (mk1 c ++ tk [] r) := by rw [tk, if_neg (by rw [h]; decide)]
theorem tok_nil : tok [] = [] := rfl
theorem tk_word : ∀ (l pend : List UInt8), tk pend l = fl (pend ++ l.takeWhile okByte) ++ tok (l.dropWhile okByte)
  | [], pend => by simp [tk, tok, fl]
  | c :: r, pend => by
    cases h : okByte c with
    | true => rw [tk_ok h, tk_word r (pend ++ [c]), List.takeWhile_cons, if_pos h, List.dropWhile_cons, if_pos h]; simp
    | false => rw [List.takeWhile_cons, if_neg (by rw [h]; decide), List.dropWhile_cons, if_neg (by rw [h]; decide), tok, tk_no h, tk_no h]; simp [fl_nil]
/-- Cut at a byte that is none of a word. -/
theorem tk_cut {c : UInt8} (h : okByte c = false) : ∀ (l pend r : List UInt8), tk pend (l ++ c :: r) = tk pend l ++ (mk1 c ++ tok r)
  | [], pend, r => by rw [List.nil_append, tk_no h]; rfl
  | d :: l, pend, r => by
    cases hd : okByte d with
    | true => rw [List.cons_append, tk_ok hd, tk_ok hd, tk_cut h l _ r]
    | false => rw [List.cons_append, tk_no hd, tk_no hd, tk_cut h l [] r]; simp
theorem white_no {c : UInt8} (h : isW c = true) : okByte c = false := by
  rw [isW, Bool.or_eq_true, beq_iff_eq, beq_iff_eq] at h
  rcases h with rfl | rfl <;> rfl
theorem mk1_white {c : UInt8} (h : isW c = true) : mk1 c = [] := if_pos h
theorem tok_skip : ∀ (l : List UInt8), tok (skipW l) = tok l
  | [] => rfl
  | c :: r => by
    cases h : isW c with
    | true => rw [skipW_yes h, tok_skip r]; conv => rhs; rw [tok, tk_no (white_no h), mk1_white h]
              rfl
    | false => rw [skipW_no h]
theorem mk1_not {c : UInt8} (h : isW c = false) : mk1 c ≠ [] := by
  rw [mk1, if_neg (by rw [h]; decide)]
  split
  · simp
  · split <;> simp
theorem tok_end {l : List UInt8} (h : tok l = []) : skipW l = [] := by
  rw [← tok_skip] at h
  cases hs : skipW l with
  | nil => rfl
  | cons c r =>
    have hw := skipW_head (l := l) (c := c) (by rw [hs]; rfl)
    rw [hs] at h
    cases hc : okByte c with
    | true =>
      rw [tok, tk_ok hc, tk_word] at h
      rw [fl_some (by simp)] at h
      simp at h
    | false =>
      rw [tok, tk_no hc, fl_nil] at h
      simp at h
      exact absurd h.1 (mk1_not hw)

mutual
/-- An expression's tokens. -/
def xt : SX → List Tok
  | .mk a l => if a.size = 0 then .lp :: (xtL l ++ [.rp]) else [.word a.data.toList]
def xtL : List SX → List Tok
  | [] => []
  | x :: r => xt x ++ xtL r
end
theorem xt_list {a : ByteArray} {l : List SX} (h : a.size = 0) : xt (.mk a l) = .lp :: (xtL l ++ [.rp]) := by rw [xt, if_pos h]
theorem xt_word {a : ByteArray} {l : List SX} (h : ¬ a.size = 0) : xt (.mk a l) = [.word a.data.toList] := by rw [xt, if_neg h]
theorem xtL_snoc : ∀ (l : List SX) (x : SX), xtL (l ++ [x]) = xtL l ++ xt x
  | [], x => by simp [xtL]
  | y :: r, x => by rw [List.cons_append, xtL, xtL, xtL_snoc r x, List.append_assoc]
theorem xt_head (x : SX) : ∃ t ts, xt x = t :: ts ∧ t ≠ .rp := by
  cases x with
  | mk a l =>
    by_cases h : a.size = 0
    · exact ⟨.lp, _, xt_list h, by simp⟩
    · exact ⟨_, [], xt_word h, by simp⟩
/-- What a first token says of the text. -/
theorem tok_lp {l : List UInt8} {ts : List Tok} (h : tok l = .lp :: ts) : ∃ r, skipW l = 40 :: r ∧ tok r = ts := by
  rw [← tok_skip] at h
  cases hs : skipW l with
  | nil => rw [hs] at h; simp [tok_nil] at h
  | cons c r =>
    have hw := skipW_head (l := l) (c := c) (by rw [hs]; rfl)
    rw [hs] at h
    cases hc : okByte c with
    | true =>
      rw [tok, tk_ok hc, tk_word, fl_some (by simp)] at h
      simp at h
    | false =>
      rw [tok, tk_no hc, fl_nil, List.nil_append, mk1, if_neg (by rw [hw]; decide)] at h
      by_cases h40 : c = 40
      · subst h40
        simp at h
        exact ⟨r, rfl, h⟩
      · rw [if_neg h40] at h
        split at h <;> simp at h
theorem tok_rp {l : List UInt8} {ts : List Tok} (h : tok l = .rp :: ts) : ∃ r, skipW l = 41 :: r ∧ tok r = ts := by
  rw [← tok_skip] at h
  cases hs : skipW l with
  | nil => rw [hs] at h; simp [tok_nil] at h
  | cons c r =>
    have hw := skipW_head (l := l) (c := c) (by rw [hs]; rfl)
    rw [hs] at h
    cases hc : okByte c with
    | true =>
      rw [tok, tk_ok hc, tk_word, fl_some (by simp)] at h
      simp at h
    | false =>
      rw [tok, tk_no hc, fl_nil, List.nil_append, mk1, if_neg (by rw [hw]; decide)] at h
      by_cases h40 : c = 40
      · subst h40
        simp at h
      · rw [if_neg h40] at h
        by_cases h41 : c = 41
        · subst h41
          simp at h
          exact ⟨r, rfl, h⟩
        · rw [if_neg h41] at h
          simp at h
theorem tok_word {l a : List UInt8} {ts : List Tok} (h : tok l = .word a :: ts) : (skipW l).takeWhile okByte = a ∧ a ≠ [] ∧ tok ((skipW l).dropWhile okByte) = ts := by
  rw [← tok_skip, tok, tk_word, List.nil_append] at h
  by_cases he : (skipW l).takeWhile okByte = []
  · rw [he, fl_nil, List.nil_append] at h
    cases hs : skipW l with
    | nil => rw [hs] at h; simp [tok_nil] at h
    | cons c r =>
      have hw := skipW_head (l := l) (c := c) (by rw [hs]; rfl)
      have hc : okByte c = false := by
        cases hc : okByte c with
        | false => rfl
        | true => rw [hs, List.takeWhile_cons, if_pos hc] at he; simp at he
      rw [hs, List.dropWhile_cons, if_neg (by rw [hc]; decide), tok, tk_no hc, fl_nil, List.nil_append, mk1, if_neg (by rw [hw]; decide)] at h
      split at h
      · simp at h
      · split at h <;> simp at h
  · rw [fl_some he] at h
    simp at h
    exact ⟨h.1, by rw [← h.1]; exact he, h.2⟩
theorem tok_of_lp {l r : List UInt8} (h : skipW l = 40 :: r) : tok l = .lp :: tok r := by
  rw [← tok_skip, h, tok, tk_no (by rfl), fl_nil]; rfl
theorem tok_of_rp {l r : List UInt8} (h : skipW l = 41 :: r) : tok l = .rp :: tok r := by
  rw [← tok_skip, h, tok, tk_no (by rfl), fl_nil]; rfl
theorem tok_of_word {l : List UInt8} (h : (skipW l).takeWhile okByte ≠ []) : tok l = .word ((skipW l).takeWhile okByte) :: tok ((skipW l).dropWhile okByte) := by
  rw [← tok_skip, tok, tk_word, List.nil_append, fl_some h]; rfl
end Go.Proofs.YtbcfeoobhemdcaaGreat
namespace Go.Proofs.YtbcfeoobhemdcaaGreat
open Go.RowKit Go.Lib

mutual
/-- In form, but for the words' lengths. -/
def SX.wf : SX → Bool
  | .mk a l => if a.size = 0 then SX.wfL l else a.data.toList.all okByte && decide (l.length = 0)
def SX.wfL : List SX → Bool
  | [] => true
  | x :: r => x.wf && SX.wfL r
end
mutual
theorem SX.form_wf : ∀ (x : SX), x.form = true → x.wf = true
  | .mk a l => fun h => by
    rw [SX.form] at h
    rw [SX.wf]
    split at h
    · rename_i h0; rw [if_pos h0]; exact SX.formL_wf l h
    · rename_i h0
      rw [if_neg h0]
      rw [Bool.and_eq_true, okAtom, Bool.and_eq_true] at h
      rw [h.1.1, h.2]; rfl
theorem SX.formL_wf : ∀ (l : List SX), SX.formL l = true → SX.wfL l = true
  | [], _ => rfl
  | x :: r, h => by
    rw [SX.formL, Bool.and_eq_true] at h
    rw [SX.wfL, SX.form_wf x h.1, SX.formL_wf r h.2]; rfl
end
theorem wfL_snoc : ∀ (l : List SX) (x : SX), SX.wfL (l ++ [x]) = (SX.wfL l && x.wf)
  | [], x => by simp [SX.wfL]
  | y :: r, x => by rw [List.cons_append, SX.wfL, SX.wfL, wfL_snoc r x, Bool.and_assoc]

mutual
theorem readX_sound : ∀ (n : Nat) (l : List UInt8) (d z : Nat) {x : SX} {r : List UInt8} {z' : Nat}, d ≤ 14 → readX n l d z = some (x, r, z') → tok l = xt x ++ tok r ∧ z' = z + x.nodes ∧ d + x.depth ≤ 14 ∧ x.wf = true
  | 0, _, _, _, _, _, _, _, h => by rw [readX] at h; cases h
  | n + 1, l, d, z, x, r, z', hd, h => by
    rw [readX] at h
    split at h
    · cases h
    · split at h
      · rename_i h1 h2
        injection h with h; injection h with h h'; injection h' with h' h''
        subst h h' h''
        have hsz : ¬ (⟨((skipW l).takeWhile okByte).toArray⟩ : ByteArray).size = 0 := by
          show ¬ ((skipW l).takeWhile okByte).toArray.size = 0
          have := List.length_pos_iff.2 h2
          simp at this ⊢
          intro e
          exact h2 (List.eq_nil_of_length_eq_zero (by simp [e]))
        refine ⟨?_, ?_, ?_, ?_⟩
        · rw [tok_of_word h2, xt_word hsz]; rfl
        · rw [SX.nodes, SX.nodesL]
        · rw [SX.depth, if_neg hsz]; omega
        · rw [SX.wf, if_neg hsz]
          simp
      · split at h
        · cases h
        · rename_i h1 h2 h3
          have hne : skipW l ≠ [] := fun e => h1 (.inl e)
          have h40 : (skipW l).head? = some 40 := Decidable.not_not.1 fun e => h3 (.inl e)
          have h14 : d ≠ 14 := fun e => h3 (.inr e)
          obtain ⟨c, t, hs⟩ := List.exists_cons_of_ne_nil hne
          rw [hs] at h40 h
          injection h40 with h40
          subst h40
          obtain ⟨es, rfl, e1, e2, e3, e4⟩ := readL_sound n _ (d + 1) (z + 1) [] (by omega) h
          rw [List.tail_cons] at e1
          refine ⟨?_, ?_, ?_, ?_⟩
          · rw [tok_of_lp hs, e1, List.nil_append, xt_list (by rfl)]; simp
          · rw [e2, List.nil_append, SX.nodes]; omega
          · rw [List.nil_append, SX.depth, if_pos (by rfl)]; omega
          · rw [List.nil_append, SX.wf, if_pos (by rfl)]; exact e4
theorem readL_sound : ∀ (n : Nat) (l : List UInt8) (d z : Nat) (acc : List SX) {x : SX} {r : List UInt8} {z' : Nat}, d ≤ 14 → readL n l d z acc = some (x, r, z') →
    ∃ es, x = .mk ByteArray.empty (acc ++ es) ∧ tok l = xtL es ++ .rp :: tok r ∧ z' = z + SX.nodesL es ∧ d + SX.depthL es ≤ 14 ∧ SX.wfL es = true
  | 0, _, _, _, _, _, _, _, _, h => by rw [readL] at h; cases h
  | n + 1, l, d, z, acc, x, r, z', hd, h => by
    rw [readL] at h
    split at h
    · rename_i h1
      injection h with h; injection h with h h'; injection h' with h' h''
      subst h h' h''
      have hne : skipW l ≠ [] := fun e => by rw [e] at h1; cases h1
      obtain ⟨c, t, hs⟩ := List.exists_cons_of_ne_nil hne
      rw [hs] at h1 ⊢
      injection h1 with h1
      subst h1
      exact ⟨[], by rw [List.append_nil], by rw [tok_of_rp hs]; rfl, by rw [SX.nodesL]; rfl, by rw [SX.depthL]; omega, rfl⟩
    · split at h
      · cases h
      · rename_i y rest' z1 h1
        obtain ⟨a1, a2, a3, a4⟩ := readX_sound n _ d z hd h1
        obtain ⟨es, rfl, e1, e2, e3, e4⟩ := readL_sound n _ d _ _ hd h
        rw [tok_skip] at a1
        refine ⟨y :: es, by simp, ?_, ?_, ?_, ?_⟩
        · rw [a1, e1, xtL]; simp
        · rw [e2, a2, SX.nodesL]; omega
        · rw [SX.depthL]; omega
        · rw [SX.wfL, a4, e4]; rfl
end

theorem wf_word {a : ByteArray} {l : List SX} (h : ¬ a.size = 0) (hw : (SX.mk a l).wf = true) : l = [] ∧ a.data.toList.all okByte = true := by
  rw [SX.wf, if_neg h, Bool.and_eq_true, decide_eq_true_eq] at hw
  exact ⟨List.eq_nil_of_length_eq_zero hw.2, hw.1⟩
theorem skip_len (l : List UInt8) : (skipW l).length ≤ l.length := skipW_le l

mutual
theorem readX_full : ∀ (n : Nat) (l : List UInt8) (d z : Nat) (x : SX) (ts : List Tok), 2 * l.length + 1 ≤ n → d + x.depth ≤ 14 → z + x.nodes ≤ 900 → x.wf = true → tok l = xt x ++ ts → ∃ r, readX n l d z = some (x, r, z + x.nodes) ∧ tok r = ts
  | 0, _, _, _, _, _, hn, _, _, _, _ => by omega
  | n + 1, l, d, z, .mk a es, ts, hn, hd, hz, hw, ht => by
    have hnod := SX.nodes_eq (.mk a es)
    simp only [SX.list] at hnod
    have hl := skip_len l
    by_cases ha : a.size = 0
    · obtain rfl := empty_of ha
      rw [xt_list ha, List.cons_append] at ht
      obtain ⟨r, hs, hr⟩ := tok_lp ht
      rw [SX.depth, if_pos ha] at hd
      rw [SX.wf, if_pos ha] at hw
      rw [hs, List.length_cons] at hl
      obtain ⟨r', h1, h2⟩ := readL_full n r (d + 1) (z + 1) [] es ts (by omega) (by omega) (by omega) hw (by rw [hr]; simp)
      refine ⟨r', ?_, h2⟩
      rw [readX, hs, if_neg (by simp; omega), if_neg (by simp [show okByte 40 = false from rfl]), if_neg (by simp; omega), List.tail_cons, h1, hnod]
      simp
      omega
    · obtain ⟨rfl, hall⟩ := wf_word ha hw
      rw [xt_word ha] at ht
      obtain ⟨h1, h2, h3⟩ := tok_word ht
      refine ⟨_, ?_, h3⟩
      have hne : skipW l ≠ [] := fun e => by rw [e] at h1; exact h2 h1.symm
      rw [readX, if_neg (by rintro (e | e); exact hne e; rw [hnod, SX.nodesL] at hz; omega), if_pos (by rw [h1]; exact h2), h1, hnod, SX.nodesL]
theorem readL_full : ∀ (n : Nat) (l : List UInt8) (d z : Nat) (acc es : List SX) (ts : List Tok), 2 * l.length + 2 ≤ n → d + SX.depthL es ≤ 14 → z + SX.nodesL es ≤ 900 → SX.wfL es = true → tok l = xtL es ++ .rp :: ts →
    ∃ r, readL n l d z acc = some (.mk ByteArray.empty (acc ++ es), r, z + SX.nodesL es) ∧ tok r = ts
  | 0, _, _, _, _, _, _, hn, _, _, _, _ => by omega
  | n + 1, l, d, z, acc, [], ts, hn, hd, hz, hw, ht => by
    rw [xtL, List.nil_append] at ht
    obtain ⟨r, hs, hr⟩ := tok_rp ht
    refine ⟨r, ?_, hr⟩
    rw [readL, hs, if_pos (by rfl), List.append_nil, SX.nodesL]; rfl
  | n + 1, l, d, z, acc, y :: es, ts, hn, hd, hz, hw, ht => by
    have hl := skip_len l
    rw [SX.depthL] at hd
    rw [SX.nodesL] at hz
    rw [SX.wfL, Bool.and_eq_true] at hw
    rw [xtL, List.append_assoc] at ht
    obtain ⟨r, h1, h2⟩ := readX_full n (skipW l) d z y (xtL es ++ .rp :: ts) (by omega) (by omega) (by omega) hw.1 (by rw [tok_skip]; exact ht)
    have hless := readX_less n _ _ _ h1
    obtain ⟨r', h3, h4⟩ := readL_full n r d (z + y.nodes) (acc ++ [y]) es ts (by omega) (by omega) (by omega) hw.2 h2
    refine ⟨r', ?_, h4⟩
    have hno : ¬ (skipW l).head? = some 41 := by
      intro e
      have hne : skipW l ≠ [] := fun e0 => by rw [e0] at e; cases e
      obtain ⟨c, t, hs⟩ := List.exists_cons_of_ne_nil hne
      rw [hs] at e
      injection e with e
      subst e
      rw [tok_of_rp hs] at ht
      obtain ⟨t0, ts0, hx, hne2⟩ := xt_head y
      rw [hx] at ht
      injection ht with ht _
      exact hne2 ht.symm
    rw [readL, if_neg hno, h1]
    simp only
    rw [h3, SX.nodesL]
    simp
    omega
end

/-- What the reference model's reader answers. -/
def specP (l : List UInt8) : Option SX :=
  match readX (2 * l.length + 1) l 0 0 with
  | none => none
  | some (x, r, _) => if skipW r = [] ∧ x.valid = true then some x else none
theorem specP_iff (l : List UInt8) (x : SX) : specP l = some x ↔ tok l = xt x ∧ x.valid = true := by
  rw [specP]
  constructor
  · intro h
    split at h
    · cases h
    · rename_i y r z' h1
      split at h
      · rename_i h2
        injection h with h
        subst h
        obtain ⟨a1, _, _, _⟩ := readX_sound _ _ _ _ (by omega) h1
        refine ⟨?_, h2.2⟩
        rw [a1, ← tok_skip r, h2.1, tok_nil, List.append_nil]
      · cases h
  · rintro ⟨h1, h2⟩
    obtain ⟨v1, v2, v3⟩ := SX.valid_iff.1 h2
    obtain ⟨r, h3, h4⟩ := readX_full (2 * l.length + 1) l 0 0 x [] (Nat.le_refl _) (by omega) (by omega) (SX.form_wf x v2) (by rw [List.append_nil]; exact h1)
    rw [h3]
    simp only
    rw [if_pos ⟨tok_end h4, h2⟩]
end Go.Proofs.YtbcfeoobhemdcaaGreat
namespace Go.Proofs.YtbcfeoobhemdcaaGreat
open Go.RowKit Go.Lib

/-- The lists that are not closed yet, the innermost apart and first; how many expressions were read. -/
structure St where
  ini : List (List SX)
  top : List SX
  z : Nat
def addS (x : SX) (S : St) : Option St := if S.z + 1 ≤ 900 then some ⟨S.ini, S.top ++ [x], S.z + 1⟩ else none
def wordS (a : List UInt8) (S : St) : Option St := if a = [] then some S else if okAtom ⟨a.toArray⟩ then addS (.mk ⟨a.toArray⟩ []) S else none
def markS (c : UInt8) (S : St) : Option St :=
  if isW c then some S
  else if c = 40 then (if 14 < S.ini.length + 1 then none else some ⟨S.top :: S.ini, [], S.z⟩)
  else if c = 41 then (match S.ini with | [] => none | t :: r => addS (.mk ByteArray.empty S.top) ⟨r, t, S.z⟩)
  else none
/-- Over the bytes, a word under way. -/
def runS : List UInt8 → List UInt8 → St → Option St
  | pend, [], S => wordS pend S
  | pend, c :: r, S => if okByte c then runS (pend ++ [c]) r S else (wordS pend S).bind fun S1 => (markS c S1).bind fun S2 => runS [] r S2
/-- Over the tokens. -/
def stepT : Tok → St → Option St
  | .word a, S => if okAtom ⟨a.toArray⟩ then addS (.mk ⟨a.toArray⟩ []) S else none
  | .lp, S => if 14 < S.ini.length + 1 then none else some ⟨S.top :: S.ini, [], S.z⟩
  | .rp, S => match S.ini with | [] => none | t :: r => addS (.mk ByteArray.empty S.top) ⟨r, t, S.z⟩
  | .bad, _ => none
def runT : List Tok → St → Option St
  | [], S => some S
  | t :: r, S => (stepT t S).bind fun S1 => runT r S1
theorem runT_append : ∀ (a b : List Tok) (S : St), runT (a ++ b) S = (runT a S).bind fun S1 => runT b S1
  | [], b, S => rfl
  | t :: r, b, S => by
    rw [List.cons_append, runT, runT]
    cases stepT t S with
    | none => rfl
    | some S1 => exact runT_append r b S1
theorem runT_fl (a : List UInt8) (S : St) : runT (fl a) S = wordS a S := by
  by_cases h : a = []
  · subst h; rfl
  · rw [fl_some h, runT, wordS, if_neg h, stepT]
    cases (if okAtom ⟨a.toArray⟩ = true then addS (.mk ⟨a.toArray⟩ []) S else none) <;> rfl
theorem runT_mk1 (c : UInt8) (S : St) : runT (mk1 c) S = markS c S := by
  rw [mk1, markS]
  split
  · rfl
  · split
    · rw [runT, stepT]
      cases (if 14 < S.ini.length + 1 then none else some (⟨S.top :: S.ini, [], S.z⟩ : St)) <;> rfl
    · split
      · rw [runT, stepT]
        cases (match S.ini with | [] => none | t :: r => addS (.mk ByteArray.empty S.top) ⟨r, t, S.z⟩) <;> rfl
      · rw [runT, stepT]; rfl
theorem run_eq : ∀ (l pend : List UInt8) (S : St), runS pend l S = runT (tk pend l) S
  | [], pend, S => by rw [runS, tk, runT_fl]
  | c :: r, pend, S => by
    cases h : okByte c with
    | true => rw [runS, if_pos h, tk_ok h, run_eq r]
    | false =>
      rw [runS, if_neg (by rw [h]; decide), tk_no h, runT_append, runT_fl]
      cases wordS pend S with
      | none => rfl
      | some S1 =>
        simp only [Option.bind_some]
        rw [runT_append, runT_mk1]
        cases markS c S1 with
        | none => rfl
        | some S2 => simp only [Option.bind_some]; exact run_eq r [] S2

mutual
theorem runT_x : ∀ (x : SX) (ini : List (List SX)) (top : List SX) (z : Nat), x.form = true → ini.length + x.depth ≤ 14 → z + x.nodes ≤ 900 → runT (xt x) ⟨ini, top, z⟩ = some ⟨ini, top ++ [x], z + x.nodes⟩
  | .mk a l, ini, top, z, hf, hd, hz => by
    have hnod := SX.nodes_eq (.mk a l)
    simp only [SX.list] at hnod
    rw [SX.form] at hf
    rw [SX.depth] at hd
    by_cases ha : a.size = 0
    · rw [if_pos ha] at hf hd
      obtain rfl := empty_of ha
      rw [xt_list ha, runT, stepT, if_neg (by simp only; omega)]
      simp only [Option.bind_some]
      rw [runT_append, runT_l l _ _ _ hf (by simp; omega) (by omega)]
      simp only [Option.bind_some, List.nil_append]
      rw [runT, stepT]
      simp only
      rw [addS, if_pos (by simp only; omega)]
      simp only [Option.bind_some]
      rw [runT, hnod]
      simp
      omega
    · rw [if_neg ha, Bool.and_eq_true, decide_eq_true_eq] at hf
      obtain rfl := List.eq_nil_of_length_eq_zero hf.2
      rw [xt_word ha, runT, stepT, if_pos hf.1, addS, if_pos (by rw [hnod, SX.nodesL] at hz; simp only; omega)]
      simp only [Option.bind_some]
      rw [runT, hnod, SX.nodesL]
theorem runT_l : ∀ (l : List SX) (ini : List (List SX)) (top : List SX) (z : Nat), SX.formL l = true → ini.length + SX.depthL l ≤ 14 → z + SX.nodesL l ≤ 900 → runT (xtL l) ⟨ini, top, z⟩ = some ⟨ini, top ++ l, z + SX.nodesL l⟩
  | [], ini, top, z, _, _, _ => by rw [xtL, runT, SX.nodesL]; simp
  | x :: r, ini, top, z, hf, hd, hz => by
    rw [SX.formL, Bool.and_eq_true] at hf
    rw [SX.depthL] at hd
    rw [SX.nodesL] at hz
    rw [xtL, runT_append, runT_x x ini top z hf.1 (by omega) (by omega)]
    simp only [Option.bind_some]
    rw [runT_l r ini _ _ hf.2 (by omega) (by omega), SX.nodesL]
    simp
    omega
end

/-- The tokens that a state has read. -/
def spT : List (List SX) → List Tok
  | [] => []
  | t :: r => spT r ++ xtL t ++ [.lp]
/-- What holds of a state: the nodes counted; in form; within the depth. -/
def okI : List (List SX) → Prop
  | [] => True
  | t :: r => SX.formL t = true ∧ r.length + SX.depthL t ≤ 14 ∧ okI r
def nI : List (List SX) → Nat
  | [] => 0
  | t :: r => SX.nodesL t + nI r
structure Ok (S : St) : Prop where
  form : SX.formL S.top = true
  depth : S.ini.length + SX.depthL S.top ≤ 14
  ini : okI S.ini
  nodes : S.z = SX.nodesL S.top + nI S.ini
  most : S.z ≤ 900
theorem formL_snoc : ∀ (l : List SX) (x : SX), SX.formL (l ++ [x]) = (SX.formL l && x.form)
  | [], x => by simp [SX.formL]
  | y :: r, x => by rw [List.cons_append, SX.formL, SX.formL, formL_snoc r x, Bool.and_assoc]
theorem depthL_snoc : ∀ (l : List SX) (x : SX), SX.depthL (l ++ [x]) = max (SX.depthL l) x.depth
  | [], x => by simp [SX.depthL]
  | y :: r, x => by rw [List.cons_append, SX.depthL, SX.depthL, depthL_snoc r x]; omega
theorem nodesL_snoc : ∀ (l : List SX) (x : SX), SX.nodesL (l ++ [x]) = SX.nodesL l + x.nodes
  | [], x => by simp [SX.nodesL]
  | y :: r, x => by rw [List.cons_append, SX.nodesL, SX.nodesL, nodesL_snoc r x]; omega
theorem add_ok {x : SX} {ini : List (List SX)} {top : List SX} {z : Nat} {S' : St} (h : addS x ⟨ini, top, z⟩ = some S') (h1 : SX.formL top = true) (h2 : ini.length + SX.depthL top ≤ 14) (h3 : okI ini) (h4 : z + 1 = SX.nodesL top + x.nodes + nI ini) (hx : x.form = true) (hd : ini.length + x.depth ≤ 14) :
    Ok S' ∧ S'.ini = ini ∧ S'.top = top ++ [x] := by
  rw [addS] at h
  split at h
  · rename_i hz
    injection h with h
    subst h
    refine ⟨⟨by simp only; rw [formL_snoc, h1, hx]; rfl, by simp only; rw [depthL_snoc]; omega, h3, by simp only; rw [nodesL_snoc]; omega, hz⟩, rfl, rfl⟩
  · cases h
theorem step_sound {t : Tok} {S S' : St} (h : stepT t S = some S') (hk : Ok S) : Ok S' ∧ spT S.ini ++ xtL S.top ++ [t] = spT S'.ini ++ xtL S'.top := by
  obtain ⟨ini, top, z⟩ := S
  obtain ⟨k1, k2, k3, k4, k5⟩ := hk
  simp only at k1 k2 k3 k4 k5
  cases t with
  | bad => rw [stepT] at h; cases h
  | word a =>
    rw [stepT] at h
    split at h
    · rename_i ha
      have hsz : ¬ (⟨a.toArray⟩ : ByteArray).size = 0 := by
        rw [okAtom, Bool.and_eq_true, decide_eq_true_eq] at ha; omega
      obtain ⟨h1, h2, h3⟩ := add_ok h k1 k2 k3 (by rw [SX.nodes, SX.nodesL]; omega) (by rw [SX.form, if_neg hsz, ha]; rfl) (by rw [SX.depth, if_neg hsz]; omega)
      refine ⟨h1, ?_⟩
      rw [h2, h3, xtL_snoc, xt_word hsz]
      simp
    · cases h
  | lp =>
    rw [stepT] at h
    split at h
    · cases h
    · rename_i hd
      injection h with h
      subst h
      refine ⟨⟨rfl, by simp [SX.depthL]; simp only at hd; omega, ⟨k1, k2, k3⟩, by simp [SX.nodesL, nI]; omega, k5⟩, ?_⟩
      simp only [spT, xtL]
      simp
  | rp =>
    rw [stepT] at h
    simp only at h
    match ini, h, k2, k3, k4 with
    | [], h, _, _, _ => cases h
    | t :: r, h, k2, k3, k4 =>
      obtain ⟨o1, o2, o3⟩ := k3
      rw [List.length_cons] at k2
      rw [nI] at k4
      obtain ⟨h1, h2, h3⟩ := add_ok h o1 o2 o3 (by rw [SX.nodes]; omega) (by rw [SX.form, if_pos (by rfl)]; exact k1) (by rw [SX.depth, if_pos (by rfl)]; omega)
      refine ⟨h1, ?_⟩
      rw [h2, h3, xtL_snoc, xt_list (by rfl)]
      simp only [spT]
      simp
theorem run_sound : ∀ (ts : List Tok) {S S' : St}, runT ts S = some S' → Ok S → Ok S' ∧ spT S.ini ++ xtL S.top ++ ts = spT S'.ini ++ xtL S'.top
  | [], S, S', h, hk => by
    rw [runT] at h
    injection h with h
    subst h
    exact ⟨hk, by simp⟩
  | t :: r, S, S', h, hk => by
    rw [runT] at h
    obtain ⟨S1, h1, h2⟩ := Option.bind_eq_some_iff.1 h
    obtain ⟨k1, e1⟩ := step_sound h1 hk
    obtain ⟨k2, e2⟩ := run_sound r h2 k1
    refine ⟨k2, ?_⟩
    rw [← e2, ← e1]
    simp

def st0 : St := ⟨[], [], 0⟩
theorem st0_ok : Ok st0 := ⟨rfl, by simp [st0, SX.depthL], trivial, by simp [st0, SX.nodesL, nI], by simp [st0]⟩
/-- What the program's reader answers. -/
def endS : Option St → Option SX
  | some ⟨[], [x], _⟩ => some x
  | _ => none
def implP (l : List UInt8) : Option SX := endS (runS [] l st0)
theorem implP_iff (l : List UInt8) (x : SX) : implP l = some x ↔ tok l = xt x ∧ x.valid = true := by
  rw [implP, run_eq]
  change endS (runT (tok l) st0) = some x ↔ _
  constructor
  · intro h
    cases hr : runT (tok l) st0 with
    | none => rw [hr] at h; cases h
    | some S =>
      rw [hr] at h
      obtain ⟨ini, top, z⟩ := S
      obtain ⟨hk, he⟩ := run_sound _ hr st0_ok
      match ini, top, h, hk, he with
      | [], [y], h, hk, he =>
        injection h with h
        subst h
        obtain ⟨k1, k2, k3, k4, k5⟩ := hk
        simp only [SX.formL, SX.depthL, SX.nodesL, nI, Bool.and_true] at k1 k2 k4 k5
        refine ⟨?_, SX.valid_iff.2 ⟨by omega, k1, by simp at k2; omega⟩⟩
        simpa [st0, spT, xtL] using he
      | [], [], h, _, _ => cases h
      | [], _ :: _ :: _, h, _, _ => cases h
      | _ :: _, _, h, _, _ => cases h
  · rintro ⟨h1, h2⟩
    obtain ⟨v1, v2, v3⟩ := SX.valid_iff.1 h2
    rw [h1, st0, runT_x x [] [] 0 v2 (by simpa using v3) (by omega)]
    rfl
theorem impl_spec (l : List UInt8) : implP l = specP l := by
  apply Option.ext
  intro x
  rw [implP_iff, specP_iff]
end Go.Proofs.YtbcfeoobhemdcaaGreat
namespace Go.Proofs.YtbcfeoobhemdcaaGreat
open Go.RowKit Go.Lib

/-- The reader at G: a row of lists, its own row and all of theirs apart, from B on. -/
structure Rdr (w : World) (G B : Nat) (S : St) (vo : Value) (vs : List Value) (bs : List Nat) : Prop where
  cells : Whole w G 71 #[vo, .int .i64 S.z]
  row : w.ownsRow B 31 1 vo (S.ini.length + 1) vs
  levs : Levs w B (S.ini.reverse ++ [S.top]) vs bs
  nodup : (vo.ownBlock.toList ++ bs).Nodup
  inB : ∀ b ∈ vo.ownBlock.toList ++ bs, B ≤ b ∧ b < w.heap.size
/-- What a call of a method keeps. -/
structure Kept (G B : Nat) (w w' : World) : Prop where
  os : w'.os = w.os
  tape : w'.tape = w.tape
  output : w'.output = w.output
  size : w.heap.size ≤ w'.heap.size
  low : ∀ b, b < w.heap.size → b ≠ G → b < B → w'.heap[b]? = w.heap[b]?
  iter : ∀ (b : Nat) (s : ByteArray) (p : Nat), w.heap[b]? = some (Obj.stringIter s p) → w'.heap[b]? = w.heap[b]?
theorem Kept.refl (G B : Nat) (w : World) : Kept G B w w := ⟨rfl, rfl, rfl, Nat.le_refl _, fun _ _ _ _ => rfl, fun _ _ _ _ => rfl⟩
theorem Kept.trans {G B : Nat} {a b c : World} (h : Kept G B a b) (k : Kept G B b c) : Kept G B a c :=
  ⟨k.os.trans h.os, k.tape.trans h.tape, k.output.trans h.output, Nat.le_trans h.size k.size, fun i h1 h2 h3 => (k.low i (Nat.lt_of_lt_of_le h1 h.size) h2 h3).trans (h.low i h1 h2 h3),
    fun i s p hi => (k.iter i s p ((h.iter i s p hi).trans hi)).trans (h.iter i s p hi)⟩
theorem Kept.of_below {G B : Nat} {w w' : World} (h : Below w.heap.size w w') : Kept G B w w' :=
  ⟨h.os, h.tape, h.output, h.size, fun b hb _ _ => h.block b hb, fun b _ _ hb => h.block b (Array.getElem?_eq_some_iff.1 hb).1⟩
theorem owned_cells {w : World} {B size n : Nat} {e : TypeId} {v : Value} {xs : List Value} (h : w.ownsRow B e size v n xs) {g : Nat} (hg : v.ownBlock = some g) : ∃ cur, w.heap[g]? = some (.cells cur e (0, 0)) := by
  rcases h.2 with ⟨rfl, _⟩ | ⟨g', cap, cur, rfl, _, hc, _⟩
  · simp [Value.ownBlock] at hg
  · have : g' = g := by simpa [Value.ownBlock] using hg
    subst this
    exact ⟨cur, hc⟩

mutual
theorem OwX_cells {w : World} {B : Nat} : ∀ (x : SX) {v0 v1 : Value} {bs : List Nat}, OwX w B x v0 v1 bs → ∀ b ∈ bs, ∃ cur, w.heap[b]? = some (.cells cur 33 (0, 0))
  | .mk a l, v0, v1, bs, h, b, hb => by
    rw [OwX] at h
    obtain ⟨h0, xs, bs', h1, h2, rfl⟩ := h
    rcases List.mem_append.1 hb with h | h
    · refine owned_cells h1 ?_
      cases hv : v1.ownBlock with
      | none => rw [hv] at h; simp at h
      | some c => rw [hv] at h; simp at h; rw [h]
    · exact OwE_cells l h2 b h
theorem OwE_cells {w : World} {B : Nat} : ∀ (l : List SX) {xs : List Value} {bs : List Nat}, OwE w B l xs bs → ∀ b ∈ bs, ∃ cur, w.heap[b]? = some (.cells cur 33 (0, 0))
  | [], xs, bs, h, b, hb => by rw [OwE] at h; rw [h.2] at hb; simp at hb
  | x :: r, xs, bs, h, b, hb => by
    rw [OwE] at h
    obtain ⟨v0, v1, xs', b1, b2, rfl, rfl, h1, h2⟩ := h
    rcases List.mem_append.1 hb with h | h
    · exact OwX_cells x h1 b h
    · exact OwE_cells r h2 b h
end
theorem Levs.cells {w : World} {B : Nat} : ∀ {st : List (List SX)} {vs : List Value} {bs : List Nat}, Levs w B st vs bs → ∀ b ∈ bs, ∃ cur, w.heap[b]? = some (.cells cur 33 (0, 0))
  | [], vs, bs, h, b, hb => by rw [h.2] at hb; simp at hb
  | t :: r, vs, bs, h, b, hb => by
    obtain ⟨v, vs', b1, b2, rfl, rfl, h1, h2⟩ := h
    rcases List.mem_append.1 hb with h | h
    · exact OwX_cells _ h1 b h
    · exact h2.cells b h
theorem not_reader {w : World} {G b : Nat} {cs cur : Array Value} {t : TypeId} (hw : Whole w G 71 cs) (h : w.heap[b]? = some (.cells cur t (0, 0))) (ht : t ≠ 71) : b ≠ G := by
  rintro rfl
  unfold Whole at hw
  rw [hw] at h
  injection h with h
  injection h with _ h
  exact ht h.symm
theorem Rdr.ne {w : World} {G B : Nat} {S : St} {vo : Value} {vs : List Value} {bs : List Nat} (h : Rdr w G B S vo vs bs) : ∀ b ∈ vo.ownBlock.toList ++ bs, b ≠ G := by
  intro b hb
  rcases List.mem_append.1 hb with h1 | h1
  · obtain ⟨cur, hc⟩ := owned_cells h.row (g := b) (by
      cases hv : vo.ownBlock with
      | none => rw [hv] at h1; simp at h1
      | some c => rw [hv] at h1; simp at h1; rw [h1])
    exact not_reader h.cells hc (by decide)
  · obtain ⟨cur, hc⟩ := h.levs.cells b h1
    exact not_reader h.cells hc (by decide)
/-- One expression more in the innermost list. -/
theorem rdr_add {w w8 : World} {G B : Nat} {S : St} {vo v v' : Value} {vs0 : List Value} {b0 bt bx : List Nat} {x : SX} {v1 : Value} {g' : Nat}
    (hcells : Whole w8 G 71 #[vo, .int .i64 (S.z + 1 : Nat)]) (hrow : w8.ownsRow B 31 1 vo (S.ini.length + 1) (vs0 ++ [v']))
    (hlev : Levs w B S.ini.reverse vs0 b0) (htop : OwX w B (.mk ByteArray.empty S.top) (.string ByteArray.empty) v bt) (hx : OwX w B x (.string x.atom) v1 bx)
    (hnd : (vo.ownBlock.toList ++ (b0 ++ bt) ++ bx).Nodup) (hin : ∀ b ∈ vo.ownBlock.toList ++ (b0 ++ bt) ++ bx, B ≤ b ∧ b < w.heap.size) (hG : ∀ b ∈ vo.ownBlock.toList ++ (b0 ++ bt) ++ bx, b ≠ G)
    (hv' : ∀ xs, w.ownsRow B 33 2 v S.top.length xs → w8.ownsRow B 33 2 v' (S.top.length + 1) (xs ++ [.string x.atom, v1]))
    (hkeep : ∀ b, b < w.heap.size → b ≠ G → vo.ownBlock ≠ some b → v.ownBlock ≠ some b → w8.heap[b]? = w.heap[b]?)
    (hblk : v'.ownBlock = v.ownBlock ∨ v'.ownBlock = some g') (hg' : w.heap.size ≤ g' ∧ g' < w8.heap.size) :
    ∃ bs', Rdr w8 G B ⟨S.ini, S.top ++ [x], S.z + 1⟩ vo (vs0 ++ [v']) bs' := by
  rw [OwX] at htop
  obtain ⟨-, xs, bt', hown, hel, rfl⟩ := htop
  have hown8 := hv' xs hown
  rw [List.nodup_append, List.nodup_append, List.nodup_append, List.nodup_append] at hnd
  obtain ⟨⟨n1, ⟨n2, ⟨n3, n4, n5⟩, n6⟩, n7⟩, n8, n9⟩ := hnd
  have in1 : ∀ b ∈ vo.ownBlock.toList, B ≤ b ∧ b < w.heap.size := fun b hb => hin b (by simp [hb])
  have in2 : ∀ b ∈ b0, B ≤ b ∧ b < w.heap.size := fun b hb => hin b (by simp [hb])
  have in3 : ∀ b ∈ v.ownBlock.toList, B ≤ b ∧ b < w.heap.size := fun b hb => hin b (by simp [hb])
  have in4 : ∀ b ∈ bt', B ≤ b ∧ b < w.heap.size := fun b hb => hin b (by simp [hb])
  have in5 : ∀ b ∈ bx, B ≤ b ∧ b < w.heap.size := fun b hb => hin b (by simp [hb])
  have same : ∀ b, (B ≤ b ∧ b < w.heap.size) → b ≠ G → b ∉ vo.ownBlock.toList → b ∉ v.ownBlock.toList → w8.heap[b]? = w.heap[b]? := fun b hb h0 h1 h2 =>
    hkeep b hb.2 h0 (fun e => h1 (by rw [e]; simp)) (fun e => h2 (by rw [e]; simp))
  have f0 : ∀ b ∈ b0, w8.heap[b]? = w.heap[b]? := fun b hb => same b (in2 b hb) (hG b (by simp [hb])) (fun h => n7 b h b (by simp [hb]) rfl) (fun h => n6 b hb b (by simp [h]) rfl)
  have f1 : ∀ b ∈ bt', w8.heap[b]? = w.heap[b]? := fun b hb => same b (in4 b hb) (hG b (by simp [hb])) (fun h => n7 b h b (by simp [hb]) rfl) (fun h => n5 b h b hb rfl)
  have f2 : ∀ b ∈ bx, w8.heap[b]? = w.heap[b]? := fun b hb => same b (in5 b hb) (hG b (by simp [hb])) (fun h => n9 b (by simp [h]) b hb rfl) (fun h => n9 b (by simp [h]) b hb rfl)
  have hlt8 := hown8.lt
  have hnew : ∀ b ∈ v'.ownBlock.toList, b ∈ v.ownBlock.toList ∨ b = g' := fun b hb => by
    rcases hblk with h | h
    · rw [h] at hb; exact .inl hb
    · rw [h] at hb; simp at hb; exact .inr hb
  have hlow : ∀ b ∈ v'.ownBlock.toList, ∀ (l : List Nat), (∀ c ∈ l, c < w.heap.size) → (∀ c ∈ v.ownBlock.toList, c ∉ l) → b ∉ l := fun b hb l hl hn hm => by
    rcases hnew b hb with h | h
    · exact hn b h hm
    · have := hl b hm; omega
  refine ⟨b0 ++ (v'.ownBlock.toList ++ (bt' ++ bx)), hcells, hrow, ?_, ?_, ?_⟩
  · refine (hlev.frame f0).snoc ?_
    rw [OwX]
    exact ⟨rfl, _, _, by rw [List.length_append]; exact hown8, OwE_snoc (OwE_frame _ f1 hel) (OwX_frame _ f2 hx), rfl⟩
  · rw [List.nodup_append, List.nodup_append, List.nodup_append, List.nodup_append]
    refine ⟨n1, ⟨n2, ⟨?_, ⟨n4, n8, fun a ha b hb e => n9 a (by simp [ha]) b hb e⟩, ?_⟩, ?_⟩, ?_⟩
    · cases v'.ownBlock <;> simp
    · intro a ha b hb e
      subst e
      refine hlow a ha (bt' ++ bx) ?_ ?_ hb
      · intro c hc
        rcases List.mem_append.1 hc with h | h
        · exact (in4 c h).2
        · exact (in5 c h).2
      · intro c hc hm
        rcases List.mem_append.1 hm with h | h
        · exact n5 c hc c h rfl
        · exact n9 c (by simp [hc]) c h rfl
    · intro a ha b hb e
      subst e
      rcases List.mem_append.1 hb with h | h
      · exact hlow a h b0 (fun c hc => (in2 c hc).2) (fun c hc hm => n6 c hm c (by simp [hc]) rfl) ha
      · rcases List.mem_append.1 h with h | h
        · exact n6 a ha a (by simp [h]) rfl
        · exact n9 a (by simp [ha]) a h rfl
    · intro a ha b hb e
      subst e
      rcases List.mem_append.1 hb with h | h
      · exact n7 a ha a (by simp [h]) rfl
      · rcases List.mem_append.1 h with h | h
        · exact hlow a h vo.ownBlock.toList (fun c hc => (in1 c hc).2) (fun c hc hm => n7 c hm c (by simp [hc]) rfl) ha
        · rcases List.mem_append.1 h with h | h
          · exact n7 a ha a (by simp [h]) rfl
          · exact n9 a (by simp [ha]) a h rfl
  · intro b hb
    rcases List.mem_append.1 hb with h | h
    · have := in1 b h; omega
    · rcases List.mem_append.1 h with h | h
      · have := in2 b h; omega
      · rcases List.mem_append.1 h with h | h
        · have he : v'.ownBlock = some b := by
            cases hv : v'.ownBlock with
            | none => rw [hv] at h; simp at h
            | some c => rw [hv] at h; simp at h; rw [h]
          exact hlt8 b he
        · rcases List.mem_append.1 h with h | h
          · have := in4 b h; omega
          · have := in5 b h; omega
end Go.Proofs.YtbcfeoobhemdcaaGreat
namespace Go.Proofs.YtbcfeoobhemdcaaGreat
open Go.RowKit Go.Lib

/-- What 'add' leaves. -/
def Added (G B : Nat) (S : St) (x : SX) (w : World) (e : Ending) (w' : World) : Prop :=
  Kept G B w w' ∧ match addS x S with
    | some S' => e = .returned (.bool true) ∧ ∃ vo vs bs, Rdr w' G B S' vo vs bs
    | none => e = .returned (.bool false)

/-- What the last operations leave of what was there. -/
theorem behind_append {w2 w7 : World} {v : Value} {o : Obj} {G ob last n cap : Nat} {z : Int} {vs0 : List Value} {B g' cap' m : Nat} {xs news : List Value}
    (hgrow : (w2.alloc o).grownBy w7 v.ownBlock) (hcells : Whole w2 G 71 #[.slice (some ⟨ob, 0, none⟩) n cap, .int .i64 z]) (hrow : w2.ownsRow B 31 1 (.slice (some ⟨ob, 0, none⟩) n cap) n (vs0 ++ [v]))
    (hl : vs0.length = last) (hn : n = last + 1) (hGv : v.ownBlock ≠ some G) (hov : v.ownBlock ≠ some ob)
    (hown : w7.ownsRow B 33 2 (.slice (some ⟨g', 0, none⟩) m cap') m (xs ++ news)) :
    Whole w7 G 71 #[.slice (some ⟨ob, 0, none⟩) n cap, .int .i64 z] ∧ w7.ownsRow B 31 1 (.slice (some ⟨ob, 0, none⟩) n cap) n (vs0 ++ [v]) ∧ w7.cell? ⟨G, 0, none⟩ = some (.slice (some ⟨ob, 0, none⟩) n cap) ∧ w7.cell? ⟨G, 1, none⟩ = some (.int .i64 z) ∧
      w7.cell? ⟨ob, last, none⟩ = some v ∧ w7.frozen? ⟨ob, last, none⟩ = false ∧ g' < w7.heap.size := by
  have hob := (hrow.lt ob rfl).2
  have hG := hcells.lt
  have h7G : Whole w7 G 71 #[.slice (some ⟨ob, 0, none⟩) n cap, .int .i64 z] := (hgrow.block G (by simp; omega) (Ne.symm hGv)).trans ((Below.heap_alloc _ _ _ hG).trans hcells)
  have h7o : w7.ownsRow B 31 1 (.slice (some ⟨ob, 0, none⟩) n cap) n (vs0 ++ [v]) := own_same hrow fun b hb => by
    have : b = ob := by simpa [Value.ownBlock] using hb.symm
    subst this
    exact (hgrow.block b (by simp; omega) (Ne.symm hov)).trans (Below.heap_alloc _ _ _ hob)
  refine ⟨h7G, h7o, by rw [h7G.cell]; rfl, by rw [h7G.cell]; rfl, ?_, h7o.frozenAt last, (hown.lt g' rfl).2⟩
  rw [World.ownsRow.cellAt h7o last (by omega), ← hl]
  simp

theorem keptAlloc' {w : World} {h : Nat} {t : TypeId} {cs : Array Value} (hw : Whole w h t cs) (o : Obj) : Whole (w.alloc o) h t cs := hw.below ((Below.refl w.heap.size w).alloc (Nat.le_refl _) o) hw.lt
theorem news_at {w1 w2 : World} {o : Obj} {t : TypeId} {a b : Value} (hh : w2.heap = ((w1.alloc o).alloc (.cells #[a, b] t)).heap) : ∀ (j : Nat) (u : Value), [a, b][j]? = some u → w2.cell? ((⟨w1.heap.size + 1, 0, none⟩ : Addr).add j) = some u := by
  intro j u hj
  have h := news_sx (w1.alloc o) t a b j u hj
  rw [World.size_alloc] at h
  rw [← h]
  simp only [World.cell?, hh]
theorem one_pair {a b : Value} (ha : a.oneCell' = true) (hb : b.oneCell' = true) : ∀ u ∈ [a, b], u.oneCell' = true := by
  intro u hu
  simp at hu
  rcases hu with rfl | rfl <;> assumption

theorem own_unique {w : World} {B size n : Nat} {e : TypeId} {v : Value} {xs ys : List Value} (h : w.ownsRow B e size v n xs) (k : w.ownsRow B e size v n ys) : xs = ys := by
  rcases h.2 with ⟨rfl, h0⟩ | ⟨g, cap, cur, rfl, _, hg, _, _, _, ht⟩
  · subst h0
    have h1 := h.1
    have k1 := k.1
    rw [Nat.zero_mul] at h1 k1
    rw [List.eq_nil_of_length_eq_zero h1, List.eq_nil_of_length_eq_zero k1]
  · rcases k.2 with ⟨hv, _⟩ | ⟨g', cap', cur', hv, _, hg', _, _, _, ht'⟩
    · simp at hv
    · simp only [Value.slice.injEq, Option.some.injEq, Addr.mk.injEq, and_true, true_and] at hv
      obtain ⟨rfl, rfl⟩ := hv
      rw [hg] at hg'
      injection hg' with hg'
      injection hg' with hg'
      subst hg'
      rw [← ht, ← ht']
/-- What the end of 'add' comes to. -/
theorem add_end {w w8 : World} {G B ob cap n1 c1 : Nat} {A1 : Option Addr} {S : St} {v v' : Value} {vs0 : List Value} {b0 bt bx : List Nat} {x : SX}
    (hcw : Whole w G 71 #[.slice (some ⟨ob, 0, none⟩) (S.ini.length + 1) cap, .int .i64 S.z]) (hrw : w.ownsRow B 31 1 (.slice (some ⟨ob, 0, none⟩) (S.ini.length + 1) cap) (S.ini.length + 1) (vs0 ++ [v]))
    (hlev : Levs w B S.ini.reverse vs0 b0) (htop : OwX w B (.mk ByteArray.empty S.top) (.string ByteArray.empty) v bt) (hx : OwX w B x (.string x.atom) (.slice A1 n1 c1) bx)
    (hnd : ((Value.slice (some ⟨ob, 0, none⟩) (S.ini.length + 1) cap).ownBlock.toList ++ (b0 ++ bt) ++ bx).Nodup) (hin : ∀ b ∈ bx, B ≤ b ∧ b < w.heap.size) (hin1 : ∀ b ∈ (Value.slice (some ⟨ob, 0, none⟩) (S.ini.length + 1) cap).ownBlock.toList ++ (b0 ++ bt), B ≤ b ∧ b < w.heap.size) (hG : ∀ b ∈ (Value.slice (some ⟨ob, 0, none⟩) (S.ini.length + 1) cap).ownBlock.toList ++ (b0 ++ bt) ++ bx, b ≠ G)
    (hos : w8.os = w.os) (htape : w8.tape = w.tape) (hout : w8.output = w.output) (hsz : w.heap.size + 1 ≤ w8.heap.size)
    (hcells : Whole w8 G 71 #[.slice (some ⟨ob, 0, none⟩) (S.ini.length + 1) cap, .int .i64 ((S.z : Int) + 1)]) (hrow : w8.ownsRow B 31 1 (.slice (some ⟨ob, 0, none⟩) (S.ini.length + 1) cap) (S.ini.length + 1) (vs0 ++ [v']))
    {xs0 : List Value} (hxs : w.ownsRow B 33 2 v S.top.length xs0) (hv0 : w8.ownsRow B 33 2 v' (S.top.length + 1) (xs0 ++ [.string x.atom, .slice A1 n1 c1]))
    (hkeep : ∀ b, b < w.heap.size → b ≠ G → b ≠ ob → v.ownBlock ≠ some b → w8.heap[b]? = w.heap[b]?)
    (hblk0 : v'.ownBlock = v.ownBlock ∨ ∃ g', v'.ownBlock = some g' ∧ w.heap.size ≤ g' ∧ g' < w8.heap.size) :
    Added G B S x w (.returned (.bool (decide ((S.z : Int) + 1 ≤ 900)))) w8 := by
  have htop' := htop
  rw [OwX] at htop'
  obtain ⟨-, xs, bt', hownv, -, -⟩ := htop'
  have hvB := hownv.lt
  have hobB := hrw.lt ob rfl
  have hv' : ∀ xs, w.ownsRow B 33 2 v S.top.length xs → w8.ownsRow B 33 2 v' (S.top.length + 1) (xs ++ [.string x.atom, .slice A1 n1 c1]) := fun xs h => by
    rw [own_unique h hxs]; exact hv0
  obtain ⟨g', hblk, hg'⟩ : ∃ g', (v'.ownBlock = v.ownBlock ∨ v'.ownBlock = some g') ∧ w.heap.size ≤ g' ∧ g' < w8.heap.size := by
    rcases hblk0 with h | ⟨g', h1, h2⟩
    · exact ⟨w.heap.size, .inl h, Nat.le_refl _, by omega⟩
    · exact ⟨g', .inr h1, h2⟩
  refine ⟨⟨hos, htape, hout, by omega, fun b h1 h2 h3 => hkeep b h1 h2 (by omega) (fun e => by have := (hvB b e).1; omega), fun b s q hb => ?_⟩, ?_⟩
  · refine hkeep b (Array.getElem?_eq_some_iff.1 hb).1 ?_ ?_ ?_
    · rintro rfl
      unfold Whole at hcw
      rw [hb] at hcw; cases hcw
    · rintro rfl
      obtain ⟨cur, hc⟩ := owned_cells hrw rfl
      rw [hb] at hc; cases hc
    · intro e
      obtain ⟨cur, hc⟩ := owned_cells hownv e
      rw [hb] at hc; cases hc
  · obtain ⟨ini, top, z⟩ := S
    simp only at *
    rw [addS]
    by_cases hz : z + 1 ≤ 900
    · rw [if_pos hz, decide_eq_true (by omega)]
      refine ⟨rfl, ?_⟩
      obtain ⟨bs', h⟩ := rdr_add (S := ⟨ini, top, z⟩) (w := w) (w8 := w8) (G := G) (B := B) (vo := .slice (some ⟨ob, 0, none⟩) (ini.length + 1) cap) (by simpa using hcells) hrow hlev htop hx hnd (fun b hb => by
        rcases List.mem_append.1 hb with h | h
        · exact hin1 b h
        · exact hin b h) hG hv' (fun b h1 h2 h3 h4 => hkeep b h1 h2 (fun e => h3 (by simp [Value.ownBlock, e])) h4) hblk hg'
      exact ⟨_, _, _, h⟩
    · rw [if_neg hz, decide_eq_false (by omega)]

/-- Behind the append and the store of the row's new slice. -/
theorem add_set {w w1 w7 : World} {o1 o2 : Obj} {G B ob cap g' cap' : Nat} {S : St} {v : Value} {vs0 xs news : List Value} {z' : Int}
    (hs1 : w1.heap.size = w.heap.size + 1) (hk1 : ∀ b, b < w.heap.size → b ≠ G → w1.heap[b]? = w.heap[b]?) (hos1 : w1.os = w.os ∧ w1.tape = w.tape ∧ w1.output = w.output)
    (hg : ((w1.alloc o1).alloc o2).grownBy w7 v.ownBlock) (hob : B ≤ ob ∧ ob < w.heap.size) (hGo : ob ≠ G)
    (b1 : Whole w7 G 71 #[.slice (some ⟨ob, 0, none⟩) (S.ini.length + 1) cap, .int .i64 z']) (b2 : w7.ownsRow B 31 1 (.slice (some ⟨ob, 0, none⟩) (S.ini.length + 1) cap) (S.ini.length + 1) (vs0 ++ [v])) (hvl : vs0.length = S.ini.length)
    (b7 : w7.ownsRow B 33 2 (.slice (some ⟨g', 0, none⟩) (S.top.length + 1) cap') (S.top.length + 1) (xs ++ news)) (hat : v.ownBlock = some g' ∨ g' = w1.heap.size + 2) (hov : v.ownBlock ≠ some ob) (hGv : v.ownBlock ≠ some G) (hGlt : G < w.heap.size) :
    ∃ w8, w8 = w7.setCell ⟨ob, S.ini.length, none⟩ (.slice (some ⟨g', 0, none⟩) (S.top.length + 1) cap') ∧ w8.os = w.os ∧ w8.tape = w.tape ∧ w8.output = w.output ∧ w.heap.size + 3 ≤ w8.heap.size ∧
      Whole w8 G 71 #[.slice (some ⟨ob, 0, none⟩) (S.ini.length + 1) cap, .int .i64 z'] ∧ w8.ownsRow B 31 1 (.slice (some ⟨ob, 0, none⟩) (S.ini.length + 1) cap) (S.ini.length + 1) (vs0 ++ [.slice (some ⟨g', 0, none⟩) (S.top.length + 1) cap']) ∧
      w8.ownsRow B 33 2 (.slice (some ⟨g', 0, none⟩) (S.top.length + 1) cap') (S.top.length + 1) (xs ++ news) ∧ (∀ b, b < w.heap.size → b ≠ G → b ≠ ob → v.ownBlock ≠ some b → w8.heap[b]? = w.heap[b]?) ∧ g' ≠ ob ∧ g' ≠ G ∧ (v.ownBlock = some g' ∨ w.heap.size ≤ g') ∧ g' < w8.heap.size := by
  have hsz7 : w.heap.size + 3 ≤ w7.heap.size := by have := hg.size; simp at this; omega
  have hne : g' ≠ ob := by
    rcases hat with h | h
    · rintro rfl; exact hov h
    · omega
  have hneG : g' ≠ G := by
    rcases hat with h | h
    · rintro rfl; exact hGv h
    · omega
  refine ⟨_, rfl, by exact hg.os.trans hos1.1, by exact hg.tape.trans hos1.2.1, by exact hg.output.trans hos1.2.2, by simpa using hsz7, ?_, ?_, ?_, ?_, hne, hneG, ?_, ?_⟩
  · exact (Below.heap_setCell _ _ _ _ (by exact Ne.symm hGo)).trans b1
  · have h := (b2.stored S.ini.length (.slice (some ⟨g', 0, none⟩) (S.top.length + 1) cap')).1
    rw [List.set_append_right _ _ (by omega), hvl, Nat.sub_self] at h
    simpa using h
  · exact own_same b7 fun b hb => by
      have : b = g' := by simpa [Value.ownBlock] using hb.symm
      subst this
      exact Below.heap_setCell _ _ _ _ (by exact hne)
  · intro b h1 h2 h3 h4
    rw [Below.heap_setCell _ _ _ _ (by exact h3), hg.block b (by simp; omega) (Ne.symm h4), Below.heap_alloc _ _ _ (by simp; omega), Below.heap_alloc _ _ _ (by omega)]
    exact hk1 b h1 h2
  · rcases hat with h | h
    · exact .inl h
    · exact .inr (by omega)
  · have := (b7.lt g' rfl).2
    simpa using this

/-- .. and of the element itself, laid as zero first. -/
theorem add_fill {w w8 : World} {G B ob cap g' cap' : Nat} {S : St} {v a b u0 u1 v' : Value} {vs0 xs : List Value} {z' : Int}
    (hcells : Whole w8 G 71 #[.slice (some ⟨ob, 0, none⟩) (S.ini.length + 1) cap, .int .i64 z']) (hrow : w8.ownsRow B 31 1 (.slice (some ⟨ob, 0, none⟩) (S.ini.length + 1) cap) (S.ini.length + 1) (vs0 ++ [v']))
    (hown : w8.ownsRow B 33 2 (.slice (some ⟨g', 0, none⟩) (S.top.length + 1) cap') (S.top.length + 1) (xs ++ [u0, u1])) (hxl : xs.length = S.top.length * 2)
    (hkeep : ∀ b, b < w.heap.size → b ≠ G → b ≠ ob → v.ownBlock ≠ some b → w8.heap[b]? = w.heap[b]?) (h1 : g' ≠ ob) (h2 : g' ≠ G) (h3 : v.ownBlock = some g' ∨ w.heap.size ≤ g') :
    ∃ w9, w9 = (w8.setCell ⟨g', S.top.length * 2, none⟩ a).setCell ⟨g', S.top.length * 2 + 1, none⟩ b ∧ w9.os = w8.os ∧ w9.tape = w8.tape ∧ w9.output = w8.output ∧ w9.heap.size = w8.heap.size ∧
      Whole w9 G 71 #[.slice (some ⟨ob, 0, none⟩) (S.ini.length + 1) cap, .int .i64 z'] ∧ w9.ownsRow B 31 1 (.slice (some ⟨ob, 0, none⟩) (S.ini.length + 1) cap) (S.ini.length + 1) (vs0 ++ [v']) ∧
      w9.ownsRow B 33 2 (.slice (some ⟨g', 0, none⟩) (S.top.length + 1) cap') (S.top.length + 1) (xs ++ [a, b]) ∧ (∀ b, b < w.heap.size → b ≠ G → b ≠ ob → v.ownBlock ≠ some b → w9.heap[b]? = w.heap[b]?) := by
  have far : ∀ k, k ≠ g' → ((w8.setCell ⟨g', S.top.length * 2, none⟩ a).setCell ⟨g', S.top.length * 2 + 1, none⟩ b).heap[k]? = w8.heap[k]? := fun k hk => by
    rw [Below.heap_setCell _ _ _ _ (by exact hk), Below.heap_setCell _ _ _ _ (by exact hk)]
  refine ⟨_, rfl, rfl, rfl, rfl, by simp, (far G (Ne.symm h2)).trans hcells, ?_, ?_, ?_⟩
  · exact own_same hrow fun k hk => by
      have : k = ob := by simpa [Value.ownBlock] using hk.symm
      subst this
      exact far k (Ne.symm h1)
  · have k1 := (hown.stored (S.top.length * 2) a).1
    have k2 := (k1.stored (S.top.length * 2 + 1) b).1
    have e : ((xs ++ [u0, u1]).set (S.top.length * 2) a).set (S.top.length * 2 + 1) b = xs ++ [a, b] := by
      rw [List.set_append_right _ _ (by omega), List.set_append_right _ _ (by omega), hxl]
      simp
    rw [e] at k2
    exact k2
  · intro k k1 k2 k3 k4
    rw [far k (fun e => by
      rcases h3 with h | h
      · exact k4 (by rw [h, e])
      · omega)]
    exact hkeep k k1 k2 k3 k4
/-- What stands where the two ways of the append meet. -/
def AddMid (w : World) (G B ob cap : Nat) (S : St) (v : Value) (vs0 xs : List Value) (a : ByteArray) (A1 : Option Addr) (n1 c1 : Nat) (wc : World) : Prop :=
  ∃ v', wc.os = w.os ∧ wc.tape = w.tape ∧ wc.output = w.output ∧ w.heap.size + 1 ≤ wc.heap.size ∧ Whole wc G 71 #[.slice (some ⟨ob, 0, none⟩) (S.ini.length + 1) cap, .int .i64 ((S.z : Int) + 1)] ∧
    wc.ownsRow B 31 1 (.slice (some ⟨ob, 0, none⟩) (S.ini.length + 1) cap) (S.ini.length + 1) (vs0 ++ [v']) ∧ wc.ownsRow B 33 2 v' (S.top.length + 1) (xs ++ [.string a, .slice A1 n1 c1]) ∧
    (∀ b, b < w.heap.size → b ≠ G → b ≠ ob → v.ownBlock ≠ some b → wc.heap[b]? = w.heap[b]?) ∧ (v'.ownBlock = v.ownBlock ∨ ∃ g', v'.ownBlock = some g' ∧ w.heap.size ≤ g' ∧ g' < wc.heap.size)
theorem mid_set {w w1 w7 : World} {o1 o2 : Obj} {G B ob cap g' cap' n1 c1 : Nat} {S : St} {v : Value} {vs0 xs : List Value} {a : ByteArray} {A1 : Option Addr}
    (hs1 : w1.heap.size = w.heap.size + 1) (hk1 : ∀ b, b < w.heap.size → b ≠ G → w1.heap[b]? = w.heap[b]?) (hos1 : w1.os = w.os ∧ w1.tape = w.tape ∧ w1.output = w.output)
    (hg : ((w1.alloc o1).alloc o2).grownBy w7 v.ownBlock) (hob : B ≤ ob ∧ ob < w.heap.size) (hGo : ob ≠ G)
    (b1 : Whole w7 G 71 #[.slice (some ⟨ob, 0, none⟩) (S.ini.length + 1) cap, .int .i64 ((S.z : Int) + 1)]) (b2 : w7.ownsRow B 31 1 (.slice (some ⟨ob, 0, none⟩) (S.ini.length + 1) cap) (S.ini.length + 1) (vs0 ++ [v])) (hvl : vs0.length = S.ini.length)
    (b7 : w7.ownsRow B 33 2 (.slice (some ⟨g', 0, none⟩) (S.top.length + 1) cap') (S.top.length + 1) (xs ++ [.string a, .slice A1 n1 c1])) (hat : v.ownBlock = some g' ∨ g' = w1.heap.size + 2) (hov : v.ownBlock ≠ some ob) (hGv : v.ownBlock ≠ some G) (hGlt : G < w.heap.size) :
    AddMid w G B ob cap S v vs0 xs a A1 n1 c1 (w7.setCell ⟨ob, S.ini.length, none⟩ (.slice (some ⟨g', 0, none⟩) (S.top.length + 1) cap')) := by
  obtain ⟨w8, hw8, s1, s2, s3, s4, s5, s6, s7, s8, s9, t9, s10, s11⟩ := add_set hs1 hk1 hos1 hg hob hGo b1 b2 hvl b7 hat hov hGv hGlt
  rw [← hw8]
  refine ⟨_, s1, s2, s3, by omega, s5, s6, s7, s8, ?_⟩
  rcases s10 with h | h
  · exact .inl h.symm
  · exact .inr ⟨g', rfl, h, s11⟩
theorem mid_fill {w w1 w7 : World} {o1 o2 : Obj} {G B ob cap g' cap' n1 c1 : Nat} {S : St} {v u0 u1 : Value} {vs0 xs : List Value} {a : ByteArray} {A1 : Option Addr}
    (hs1 : w1.heap.size = w.heap.size + 1) (hk1 : ∀ b, b < w.heap.size → b ≠ G → w1.heap[b]? = w.heap[b]?) (hos1 : w1.os = w.os ∧ w1.tape = w.tape ∧ w1.output = w.output)
    (hg : ((w1.alloc o1).alloc o2).grownBy w7 v.ownBlock) (hob : B ≤ ob ∧ ob < w.heap.size) (hGo : ob ≠ G)
    (b1 : Whole w7 G 71 #[.slice (some ⟨ob, 0, none⟩) (S.ini.length + 1) cap, .int .i64 ((S.z : Int) + 1)]) (b2 : w7.ownsRow B 31 1 (.slice (some ⟨ob, 0, none⟩) (S.ini.length + 1) cap) (S.ini.length + 1) (vs0 ++ [v])) (hvl : vs0.length = S.ini.length)
    (b7 : w7.ownsRow B 33 2 (.slice (some ⟨g', 0, none⟩) (S.top.length + 1) cap') (S.top.length + 1) (xs ++ [u0, u1])) (hxl : xs.length = S.top.length * 2) (hat : v.ownBlock = some g' ∨ g' = w1.heap.size + 2) (hov : v.ownBlock ≠ some ob) (hGv : v.ownBlock ≠ some G) (hGlt : G < w.heap.size) :
    AddMid w G B ob cap S v vs0 xs a A1 n1 c1 (((w7.setCell ⟨ob, S.ini.length, none⟩ (.slice (some ⟨g', 0, none⟩) (S.top.length + 1) cap')).setCell ⟨g', S.top.length * 2, none⟩ (.string a)).setCell ⟨g', S.top.length * 2 + 1, none⟩ (.slice A1 n1 c1)) := by
  obtain ⟨w8, hw8, s1, s2, s3, s4, s5, s6, s7, s8, s9, t9, s10, s11⟩ := add_set hs1 hk1 hos1 hg hob hGo b1 b2 hvl b7 hat hov hGv hGlt
  rw [← hw8]
  obtain ⟨w9, hw9, r1, r2, r3, r4, r5, r6, r7, r8⟩ := add_fill (w := w) (a := .string a) (b := .slice A1 n1 c1) s5 s6 s7 hxl s8 s9 t9 s10
  rw [← hw9]
  refine ⟨_, r1.trans s1, r2.trans s2, r3.trans s3, by omega, r5, r6, r7, r8, ?_⟩
  rcases s10 with h | h
  · exact .inl h.symm
  · exact .inr ⟨g', rfl, h, by omega⟩
end Go.Proofs.YtbcfeoobhemdcaaGreat
namespace Go.Proofs.YtbcfeoobhemdcaaGreat
open Go.RowKit Go.Lib

set_option maxRecDepth 100000 in
set_option maxHeartbeats 4000000 in
theorem addX (G B : Nat) (S : St) (vo : Value) (vs bs bx : List Nat) (vs' : List Value) (x : SX) (v1 : Value) (w : World) (_hvs : vs = bs) (hR : Rdr w G B S vo vs' bs) (hx : OwX w B x (.string x.atom) v1 bx)
    (hnd : (vo.ownBlock.toList ++ bs ++ bx).Nodup) (hin : ∀ b ∈ bx, B ≤ b ∧ b < w.heap.size) (hGx : ∀ b ∈ bx, b ≠ G) (hz : S.z ≤ 900) (ht : S.top.length ≤ 900) (hi : S.ini.length ≤ 14) :
    Calls Tryz.prog 83 #[.pointer (some ⟨G, 0, none⟩), .agg #[.string x.atom, v1]] w (Added G B S x w) := by
  obtain ⟨i0, hi0, hz0, hz1, hz2⟩ := info_parts infoSx
  have hRne := hR.ne
  obtain ⟨hcells, hrow, hlevs, hn1, hin1⟩ := hR
  obtain ⟨vs0, v, b0, bt, rfl, rfl, hlev0, htop⟩ := hlevs.last
  obtain ⟨ob, cap, rfl⟩ := own_some hrow
  have hvl : vs0.length = S.ini.length := by rw [hlev0.length, List.length_reverse]
  have hvoG : (ob : Nat) ≠ G := hRne ob (by simp [Value.ownBlock])
  have hG : ∀ b ∈ (Value.slice (some ⟨ob, 0, none⟩) (S.ini.length + 1) cap).ownBlock.toList ++ (b0 ++ bt) ++ bx, b ≠ G := fun b hb => by
    rcases List.mem_append.1 hb with h | h
    · exact hRne b h
    · exact hGx b h
  have htop' := htop
  rw [OwX] at htop'
  obtain ⟨-, xs, bt', hownv, -, hbt⟩ := htop'
  have hvB := hownv.lt
  have hob := hrow.lt ob rfl
  have hov : v.ownBlock ≠ some ob := by
    intro e
    rw [hbt, e] at hn1
    simp [Value.ownBlock] at hn1
  have hGv : v.ownBlock ≠ some G := fun e => hRne G (by rw [hbt, e]; simp) rfl
  obtain ⟨Av, cv, rfl⟩ := own_nil hownv
  obtain ⟨A1, c1, -, rfl⟩ := OwX_form hx
  have hGlt := hcells.lt
  have gc0 : w.cell? ⟨G, 0, none⟩ = some (.slice (some ⟨ob, 0, none⟩) (S.ini.length + 1) cap) := by rw [hcells.cell]; rfl
  have gc1 : w.cell? ⟨G, 1, none⟩ = some (.int .i64 S.z) := by rw [hcells.cell]; rfl
  have gf1 : w.frozen? ⟨G, 1, none⟩ = false := hcells.frozen 1
  obtain ⟨w1, hw1⟩ : ∃ w1, w1 = (w.setCell ⟨G, 1, none⟩ (.int .i64 ((S.z : Int) + 1))).alloc (.cells #[.string x.atom, .slice A1 x.list.length c1] 33) := ⟨_, rfl⟩
  have hsz1 : w1.heap.size = w.heap.size + 1 := by rw [hw1]; simp
  have k1 : ∀ b, b < w.heap.size → b ≠ G → w1.heap[b]? = w.heap[b]? := fun b hb hne => by
    rw [hw1, Below.heap_alloc _ _ _ (by simpa using hb)]
    exact Below.heap_setCell _ _ _ _ (by exact hne)
  have cG1 : Whole w1 G 71 #[.slice (some ⟨ob, 0, none⟩) (S.ini.length + 1) cap, .int .i64 ((S.z : Int) + 1)] := by
    have h := keptAlloc' (hcells.set_ 1 (.int .i64 ((S.z : Int) + 1))) (.cells #[.string x.atom, .slice A1 x.list.length c1] 33)
    rw [hw1]
    simpa using h
  have box1 : Whole w1 w.heap.size 33 #[.string x.atom, .slice A1 x.list.length c1] := by
    have h := Whole.new (w.setCell ⟨G, 1, none⟩ (.int .i64 ((S.z : Int) + 1))) 33 #[.string x.atom, .slice A1 x.list.length c1]
    rw [hw1]
    simpa using h
  have row1 := own_same (w' := w1) hrow fun b hb => by
    have : b = ob := by simpa [Value.ownBlock] using hb.symm
    subst this
    exact k1 b hob.2 hvoG
  have own1 := own_same (w' := w1) hownv fun b hb => k1 b (hvB b hb).2 (fun e => hGv (by rw [← e]; exact hb))
  have e0 : w1.cell? ⟨G, 0, none⟩ = some (.slice (some ⟨ob, 0, none⟩) (S.ini.length + 1) cap) := by rw [cG1.cell]; rfl
  have e1 : w1.cell? ⟨G, 1, none⟩ = some (.int .i64 ((S.z : Int) + 1)) := by rw [cG1.cell]; rfl
  have x0 : w1.cell? ⟨w.heap.size, 0, none⟩ = some (.string x.atom) := by rw [box1.cell]; rfl
  have x1 : w1.cell? ⟨w.heap.size, 1, none⟩ = some (.slice A1 x.list.length c1) := by rw [box1.cell]; rfl
  have v0 : w1.cell? ⟨ob, S.ini.length, none⟩ = some (.slice Av S.top.length cv) := by
    rw [World.ownsRow.cellAt row1 _ (by omega), ← hvl]
    simp
  have vf0 : w1.frozen? ⟨ob, S.ini.length, none⟩ = false := row1.frozenAt _
  have hG1 : G < w1.heap.size := by omega
  have hob1 : ob < w1.heap.size := by omega
  have hbx1 : w.heap.size < w1.heap.size := by omega
  have hi0' : (0 : Int) ≤ S.ini.length := by omega
  have hi1' : (S.ini.length : Int) < (S.ini.length : Int) + 1 := by omega
  have hB1 : B ≤ w1.heap.size := by omega
  have HW1 := Lib.hid hw1
  have HS1 := Lib.hid hsz1
  have HK1 := Lib.hid k1
  have HC1 := Lib.hid cG1
  have HR1 := Lib.hid row1
  have HO1 := Lib.hid own1
  have HV := Lib.hid hlev0
  have HT := Lib.hid htop
  have HX := Lib.hid hx
  have HND := Lib.hid hnd
  have HGN := Lib.hid hG
  have HCW := Lib.hid hcells
  have HRW := Lib.hid hrow
  have HOS := Lib.hid (show w1.os = w.os ∧ w1.tape = w.tape ∧ w1.output = w.output by rw [hw1]; exact ⟨rfl, rfl, rfl⟩)
  have HOW := Lib.hid hownv
  have HXL := Lib.hid (show xs.length = S.top.length * 2 from hownv.1)
  have HIN := Lib.hid hin
  have HIN1 := Lib.hid hin1
  have HVB := Lib.hid hvB
  have HVL := Lib.hid hvl
  have HOV := Lib.hid hov
  have HGV := Lib.hid hGv
  clear hRne hG hGx hw1 hsz1 k1 cG1 row1 own1 hlev0 htop hx hnd hin hin1 hvB hvl hov hGv hcells hrow hlevs hn1 hownv hbt box1
  go_enter Tryz.func83, Tryz.ntmps83
  go_wp2
  rw [← HW1.out]
  clear gc0 gc1 gf1
  go_region
  · go_upto_if 20 with (fail)
    go_cut [] from 21 to 49 (fun wc => AddMid w G B ob cap S (.slice Av S.top.length cv) vs0 xs x.atom A1 x.list.length c1 wc)
    case first =>
      go_wp2
      go_region_law
        ((refine step_append_lies _ (by rfl) _ _ _ (by rfl) B 33 i0 _ 2 40 Tryz.underlying31 hi0 hz0 hz1 hz2 rfl (by omega) (.slice Av S.top.length cv) S.top.length xs (by rfl)
              (own_same ((HO1.out.alloc (.cells #[.bool false] 4)).alloc (.cells #[.string x.atom, .slice A1 x.list.length c1] 33)) fun _ _ => rfl) ⟨w1.heap.size + 1, 0, none⟩ 1 1 [.string x.atom, .slice A1 x.list.length c1] (by rfl) (by rfl) (news_at (o := .cells #[.bool false] 4) (t := 33) rfl) (one_pair rfl rfl) (by omega)
              (by unfold maxLen; omega) (by omega) (by simp; omega) (w1.heap.size + 2) (by simp) ?_
          intro g' cap' w7 hown7 hgrow7 hat7 hlt7
          have hg7 : ((w1.alloc (.cells #[.bool false] 4)).alloc (.cells #[.string x.atom, .slice A1 x.list.length c1] 33)).grownBy w7 (Value.slice Av S.top.length cv).ownBlock := ⟨hgrow7.os, hgrow7.tape, hgrow7.output, hgrow7.size, hgrow7.block⟩
          obtain ⟨b1, b2, b3, b4, b5, b6, b7⟩ := behind_append hg7 (keptAlloc' HC1.out _) (HR1.out.alloc _) HVL.out rfl HGV.out HOV.out hown7
          have B1 := Lib.hid b1
          have B2 := Lib.hid b2
          have B7 := Lib.hid hown7
          have BG := Lib.hid hg7
          clear b1 b2 hown7 hg7 hgrow7))
      all_goals go_wp2
      all_goals (
        go_meet
        case rel => exact mid_set HS1.out HK1.out HOS.out BG.out hob hvoG B1.out B2.out HVL.out B7.out hat7 HOV.out HGV.out hGlt)
    case rest =>
      obtain ⟨v', s1, s2, s3, s4, s5, s6, s7, s8, s9⟩ := hcut
      have e1' : wc.cell? ⟨G, 1, none⟩ = some (.int .i64 ((S.z : Int) + 1)) := by rw [s5.cell]; rfl
      have hfin := add_end HCW.out HRW.out HV.out HT.out HX.out HND.out HIN.out HIN1.out HGN.out s1 s2 s3 s4 s5 s6 HOW.out s7 s8 s9
      have HFIN := Lib.hid hfin
      clear hfin s1 s2 s3 s4 s5 s6 s7 s8 s9 e0 e1 x0 x1 v0 vf0
      go_wp2
      go_ret
      exact HFIN.out
  · go_upto_if 20 with (fail)
    go_cut [] from 21 to 49 (fun wc => AddMid w G B ob cap S (.slice Av S.top.length cv) vs0 xs x.atom A1 x.list.length c1 wc)
    case first =>
      go_wp2
      go_region_law
        ((refine step_append_lies _ (by rfl) _ _ _ (by rfl) B 33 i0 _ 2 40 Tryz.underlying31 hi0 hz0 hz1 hz2 rfl (by omega) (.slice Av S.top.length cv) S.top.length xs (by rfl)
              (own_same ((HO1.out.alloc (.cells #[.bool true] 4)).alloc (.cells #[.string ⟨#[]⟩, .slice none 0 0] 33)) fun _ _ => rfl) ⟨w1.heap.size + 1, 0, none⟩ 1 1 [.string ⟨#[]⟩, .slice none 0 0] (by rfl) (by rfl) (news_at (o := .cells #[.bool true] 4) (t := 33) rfl) (one_pair rfl rfl) (by omega)
              (by unfold maxLen; omega) (by omega) (by simp; omega) (w1.heap.size + 2) (by simp) ?_
          intro g' cap' w7 hown7 hgrow7 hat7 hlt7
          have hg7 : ((w1.alloc (.cells #[.bool true] 4)).alloc (.cells #[.string ⟨#[]⟩, .slice none 0 0] 33)).grownBy w7 (Value.slice Av S.top.length cv).ownBlock := ⟨hgrow7.os, hgrow7.tape, hgrow7.output, hgrow7.size, hgrow7.block⟩
          obtain ⟨b1, b2, b3, b4, b5, b6, b7⟩ := behind_append hg7 (keptAlloc' HC1.out _) (HR1.out.alloc _) HVL.out rfl HGV.out HOV.out hown7
          have B1 := Lib.hid b1
          have B2 := Lib.hid b2
          have B7 := Lib.hid hown7
          have BG := Lib.hid hg7
          have z0 : w7.cell? ⟨g', S.top.length * 2, none⟩ = some (.string ⟨#[]⟩) := by rw [World.ownsRow.cellAt hown7 _ (by omega), List.getElem?_append_right (by have := HXL.out; omega), HXL.out, Nat.sub_self]; rfl
          have z1 : w7.cell? ⟨g', S.top.length * 2 + 1, none⟩ = some (.slice none 0 0) := by rw [World.ownsRow.cellAt hown7 _ (by omega), List.getElem?_append_right (by have := HXL.out; omega), HXL.out, Nat.add_sub_cancel_left]; rfl
          have zf0 : w7.frozen? ⟨g', S.top.length * 2, none⟩ = false := hown7.frozenAt _
          have zf1 : w7.frozen? ⟨g', S.top.length * 2 + 1, none⟩ = false := hown7.frozenAt _
          have zne : ¬ g' = ob := by
            rcases hat7 with h | h
            · rintro rfl; exact HOV.out h
            · omega
          clear b1 b2 hown7 hg7 hgrow7))
      all_goals go_wp2
      all_goals (
        go_meet
        case rel => exact mid_fill HS1.out HK1.out HOS.out BG.out hob hvoG B1.out B2.out HVL.out B7.out HXL.out hat7 HOV.out HGV.out hGlt)
    case rest =>
      obtain ⟨v', s1, s2, s3, s4, s5, s6, s7, s8, s9⟩ := hcut
      have e1' : wc.cell? ⟨G, 1, none⟩ = some (.int .i64 ((S.z : Int) + 1)) := by rw [s5.cell]; rfl
      have hfin := add_end HCW.out HRW.out HV.out HT.out HX.out HND.out HIN.out HIN1.out HGN.out s1 s2 s3 s4 s5 s6 HOW.out s7 s8 s9
      have HFIN := Lib.hid hfin
      clear hfin s1 s2 s3 s4 s5 s6 s7 s8 s9 e0 e1 x0 x1 v0 vf0
      go_wp2
      go_ret
      exact HFIN.out
end Go.Proofs.YtbcfeoobhemdcaaGreat
namespace Go.Proofs.YtbcfeoobhemdcaaGreat
open Go.RowKit Go.Lib

theorem elems_but {w w' : World} {g B : Nat} {l : List SX} {vs : List Value} {V : Value} (h : Elems w (Own V B w.heap.size) l vs) (hb : But g w w') (hg : g < B) : Elems w' (Own V B w'.heap.size) l vs :=
  h.frame (fun b hP => ⟨⟨hP.1.1, Nat.lt_of_lt_of_le hP.1.2 hb.size⟩, hP.2⟩) fun b o hP => World.cell?_of_block (a := ⟨b, o, none⟩) (hb.block b hP.1.2 (by have := hP.1.1; omega))
theorem ask_close {m d z k k3 : Nat} {s : ByteArray} {acc : List SX} (hlt : k3 < s.size) (h : s[k3] = 41) (hs : s.data.toList.drop k3 = skipW (s.data.toList.drop k)) :
    readL (m + 1) (s.data.toList.drop k) d z acc = some (.mk ByteArray.empty acc, s.data.toList.drop (k3 + 1), z) := by
  rw [readL, ← hs, drop_step s k3 hlt, if_pos (by rw [h]; rfl)]
  rfl
def more (m d : Nat) (acc : List SX) : Option (SX × List UInt8 × Nat) → Option (SX × List UInt8 × Nat)
  | none => none
  | some (y, rest', z') => readL m rest' d z' (acc ++ [y])
theorem ask_more {m d z k k3 : Nat} {s : ByteArray} {acc : List SX} (h : (s.data.toList.drop k3).head? ≠ some 41) (hs : s.data.toList.drop k3 = skipW (s.data.toList.drop k)) :
    readL (m + 1) (s.data.toList.drop k) d z acc = more m d acc (readX m (s.data.toList.drop k3) d z) := by
  rw [readL, ← hs, if_neg h]
  cases readX m (s.data.toList.drop k3) d z with
  | none => rfl
  | some p => rfl
end Go.Proofs.YtbcfeoobhemdcaaGreat
namespace Go.Proofs.YtbcfeoobhemdcaaGreat
open Go.RowKit Go.Lib

end Go.Proofs.YtbcfeoobhemdcaaGreat
namespace Go.Proofs.YtbcfeoobhemdcaaGreat
open Go.RowKit Go.Lib

mutual
theorem readX_wt : ∀ (n : Nat) (l : List UInt8) (d z : Nat) {x : SX} {r : List UInt8} {z' : Nat}, readX n l d z = some (x, r, z') → 1 + x.wt + 2 * r.length ≤ 2 * l.length
  | 0, _, _, _, _, _, _, h => by rw [readX] at h; cases h
  | n + 1, l, d, z, x, r, z', h => by
    rw [readX] at h
    have hl := skipW_le l
    split at h
    · cases h
    · split at h
      · rename_i h1 h2
        injection h with h; injection h with h h'; injection h' with h' h''
        subst h h'
        have e := congrArg List.length (List.takeWhile_append_dropWhile (p := okByte) (l := skipW l))
        rw [List.length_append] at e
        have := List.length_pos_iff.2 h2
        have hs : (⟨((skipW l).takeWhile okByte).toArray⟩ : ByteArray).size = ((skipW l).takeWhile okByte).length := by simp [ByteArray.size]
        rw [SX.wt, SX.wtL, hs]
        omega
      · split at h
        · cases h
        · rename_i h1 _ _
          obtain ⟨es, rfl, h2⟩ := readL_wt n _ _ _ _ h
          have h3 : skipW l ≠ [] := fun e => h1 (.inl e)
          have := List.length_pos_iff.2 h3
          rw [List.length_tail] at h2
          rw [List.nil_append, SX.wt]
          have : ByteArray.empty.size = 0 := rfl
          omega
theorem readL_wt : ∀ (n : Nat) (l : List UInt8) (d z : Nat) (acc : List SX) {x : SX} {r : List UInt8} {z' : Nat}, readL n l d z acc = some (x, r, z') → ∃ es, x = .mk ByteArray.empty (acc ++ es) ∧ SX.wtL es + 2 * r.length + 2 ≤ 2 * l.length
  | 0, _, _, _, _, _, _, _, h => by rw [readL] at h; cases h
  | n + 1, l, d, z, acc, x, r, z', h => by
    rw [readL] at h
    have hl := skipW_le l
    split at h
    · rename_i h1
      injection h with h; injection h with h h'; injection h' with h' h''
      subst h h'
      have h3 : skipW l ≠ [] := fun e => by rw [e] at h1; cases h1
      have := List.length_pos_iff.2 h3
      refine ⟨[], by rw [List.append_nil], ?_⟩
      rw [SX.wtL, List.length_tail]
      omega
    · split at h
      · cases h
      · rename_i y rest' z1 h1
        have a1 := readX_wt n _ _ _ h1
        obtain ⟨es, rfl, h2⟩ := readL_wt n _ _ _ _ h
        refine ⟨y :: es, by simp, ?_⟩
        rw [SX.wtL]
        omega
end
mutual
theorem SX.ok_wt : ∀ (x : SX), x.wt ≤ 9223372036854775807 → x.ok
  | .mk a l, h => by
    rw [SX.wt] at h
    have := SX.wtL_length l
    rw [SX.ok]
    exact ⟨by omega, by omega, SX.okL_wt l (by omega)⟩
theorem SX.okL_wt : ∀ (l : List SX), SX.wtL l ≤ 9223372036854775807 → SX.okL l
  | [], _ => by rw [SX.okL]; trivial
  | x :: r, h => by
    rw [SX.wtL] at h
    rw [SX.okL]
    exact ⟨SX.ok_wt x (by omega), SX.okL_wt r (by omega)⟩
end

/-- What a reading of a whole text gives: the expression and true; or the empty one and false. -/
def Parsed (o : Option SX) (w : World) (e : Ending) (w' : World) : Prop :=
  ∃ (x : SX) (A : Option Addr) (c : Nat), x = o.getD (.mk ByteArray.empty []) ∧ e = .returned (.tuple #[.agg #[.string x.atom, .slice A x.list.length c], .bool o.isSome]) ∧ ListAt w' (New w.heap.size w'.heap.size) A x.list ∧ Below w.heap.size w w'

mutual
theorem SX.nodes_wt : ∀ (x : SX), x.nodes ≤ 1 + x.wt
  | .mk a l => by
    have := SX.nodesL_wt l
    rw [SX.nodes, SX.wt]; omega
theorem SX.nodesL_wt : ∀ (l : List SX), SX.nodesL l ≤ SX.wtL l
  | [] => by simp [SX.nodesL, SX.wtL]
  | x :: r => by
    have := SX.nodes_wt x
    have := SX.nodesL_wt r
    rw [SX.nodesL, SX.wtL]; omega
end
theorem Parsed.none {o : Option SX} {w w' : World} (ho : o = Option.none) (hb : Below w.heap.size w w') : Parsed o w (.returned (.tuple #[.agg #[.string ⟨#[]⟩, .slice Option.none 0 0], .bool false])) w' := by
  subst ho
  exact ⟨.mk ByteArray.empty [], Option.none, 0, rfl, rfl, .inl rfl, hb⟩
theorem drop_end {s : ByteArray} {k : Nat} (hk : k ≤ s.size) (h : s.data.toList.drop k = []) : k = s.size := by
  have := congrArg List.length h
  simp at this; omega
theorem drop_more {s : ByteArray} {k : Nat} (h : s.data.toList.drop k ≠ []) : k ≠ s.size := by
  rintro rfl
  exact h (List.drop_of_length_le (by simp))

end Go.Proofs.YtbcfeoobhemdcaaGreat
namespace Go.Proofs.YtbcfeoobhemdcaaGreat
open Go.RowKit Go.Lib

theorem tok_cut {c : UInt8} (h : okByte c = false) (l r : List UInt8) : tok (l ++ c :: r) = tok l ++ (mk1 c ++ tok r) := tk_cut h l [] r
theorem all_while : ∀ (l : List UInt8), l.all okByte = true → l.takeWhile okByte = l ∧ l.dropWhile okByte = []
  | [], _ => ⟨rfl, rfl⟩
  | c :: r, h => by
    rw [List.all_cons, Bool.and_eq_true] at h
    obtain ⟨h1, h2⟩ := all_while r h.2
    rw [List.takeWhile_cons, if_pos h.1, List.dropWhile_cons, if_pos h.1, h1]
    exact ⟨rfl, h2⟩
theorem tok_all {l : List UInt8} (h : l.all okByte = true) (hne : l ≠ []) : tok l = [.word l] := by
  rw [tok, tk_word, (all_while l h).1, (all_while l h).2, List.nil_append, fl_some hne]; rfl
mutual
theorem tok_text : ∀ (x : SX), x.form = true → tok x.text.data.toList = xt x
  | .mk a l, h => by
    rw [SX.form] at h
    rw [SX.text]
    by_cases h0 : a.size = 0
    · rw [if_pos h0] at h
      rw [if_pos h0, xt_list h0]
      have e : ((⟨#[40]⟩ : ByteArray) ++ ⟨(join ((SX.textL l).map (·.data.toList)) [32]).toArray⟩ ++ ⟨#[41]⟩).data.toList = 40 :: (join ((SX.textL l).map (·.data.toList)) [32] ++ 41 :: []) := by simp
      rw [e]
      have h1 := tok_cut (c := 40) rfl [] (join ((SX.textL l).map (·.data.toList)) [32] ++ 41 :: [])
      rw [List.nil_append] at h1
      rw [h1, tok_cut (c := 41) rfl, tok_join l h]
      rfl
    · rw [if_neg h0, Bool.and_eq_true, okAtom, Bool.and_eq_true] at h
      rw [if_neg h0, xt_word h0]
      refine tok_all h.1.1 fun e => h0 ?_
      have := congrArg List.length e
      simpa using this
theorem tok_join : ∀ (l : List SX), SX.formL l = true → tok (join ((SX.textL l).map (·.data.toList)) [32]) = xtL l
  | [], _ => rfl
  | x :: r, h => by
    rw [SX.formL, Bool.and_eq_true] at h
    rw [SX.textL, List.map_cons, join_cons, tok_tail r x.text.data.toList h.2, tok_text x h.1, xtL]
theorem tok_tail : ∀ (l : List SX) (A : List UInt8), SX.formL l = true → tok (A ++ joinTail [32] ((SX.textL l).map (·.data.toList))) = tok A ++ xtL l
  | [], A, _ => by simp [SX.textL, joinTail, xtL]
  | x :: r, A, h => by
    rw [SX.formL, Bool.and_eq_true] at h
    have e : joinTail [32] ((SX.textL (x :: r)).map (·.data.toList)) = 32 :: (x.text.data.toList ++ joinTail [32] ((SX.textL r).map (·.data.toList))) := by
      rw [SX.textL]; simp [joinTail]
    rw [e, tok_cut (c := 32) rfl, tok_tail r _ h.2, tok_text x h.1, xtL]
    rfl
end
theorem specP_text (x : SX) (h : x.valid = true) : specP x.text.data.toList = some x := by
  rw [specP_iff]
  exact ⟨tok_text x (SX.valid_iff.1 h).2.1, h⟩
theorem specP_nil : specP [] = none := by
  cases h : specP [] with
  | none => rfl
  | some x =>
    have h1 := ((specP_iff _ _).1 h).1
    obtain ⟨t, ts, e, _⟩ := xt_head x
    rw [e] at h1
    cases h1
theorem specP_tok {a b : List UInt8} (h : tok a = tok b) : specP a = specP b := by
  apply Option.ext
  intro x
  rw [specP_iff, specP_iff, h]
theorem tok_blanks (l : List UInt8) : tok (10 :: 32 :: (l ++ [32, 10])) = tok l := by
  have h1 := tok_cut (c := 10) rfl [] (32 :: (l ++ [32, 10]))
  have h2 := tok_cut (c := 32) rfl [] (l ++ [32, 10])
  have h3 := tok_cut (c := 32) rfl l [10]
  rw [List.nil_append] at h1 h2
  rw [h1, h2, h3, mk1_white rfl, mk1_white rfl]
  have h4 : tok [10] = [] := rfl
  rw [h4]
  simp [tok_nil]
end Go.Proofs.YtbcfeoobhemdcaaGreat
namespace Go.Proofs.YtbcfeoobhemdcaaGreat
open Go.RowKit

theorem bigNo (A : Option Addr) (n c : Nat) (w : World) (hn : n ≤ 1048576) : Calls Tryz.prog 4 #[.slice A n c] w fun e w' => e = .returned (.bool false) ∧ w = w' := by
  have g : decide ((1048576 : Int) < n) = false := by simp; omega
  go_enter Tryz.func4, Tryz.ntmps4
  go_wp2
  go_ret
  exact ⟨rfl, rfl⟩
theorem bigYes (A : Option Addr) (n c : Nat) (w : World) (hn : 1048576 < n) : Calls Tryz.prog 4 #[.slice A n c] w fun e w' => e = .returned (.bool true) ∧ w = w' := by
  have g : decide ((1048576 : Int) < n) = true := by simp; omega
  go_enter Tryz.func4, Tryz.ntmps4
  go_wp2
  go_ret
  exact ⟨rfl, rfl⟩
end Go.Proofs.YtbcfeoobhemdcaaGreat
namespace Go.Proofs.YtbcfeoobhemdcaaGreat
open Go.ChangeShapes Go.WideShapes Go.ChangeAt Go.RowKit

theorem bytes_of {w : World} {a : Addr} {len cap : Nat} {zs : List Int} (hl : len ≤ cap) (hz : zs.length = cap) (hc : ∀ i, i < zs.length → w.cell? (a.add i) = some (.int .u8 (zs.getD i 0))) (hw : ∀ z ∈ zs, (Lit.int .u8 z).wf = true) : BytesAt w w.heap.size (some a) len := by
  intro j hj
  have hjz : j < zs.length := by omega
  obtain ⟨b, off, spot⟩ := a
  have hspot : spot = none := by simpa [Addr.add] using World.cell?_spot (hc 0 (by omega))
  subst hspot
  have h := hc j hjz
  rw [Go.WideShapes.add_plain] at h
  have hmem : zs.getD j 0 ∈ zs := by
    rw [List.getD_eq_getElem?_getD, List.getElem?_eq_getElem hjz]
    exact List.getElem_mem hjz
  have hwf := hw _ hmem
  have hx : 0 ≤ zs.getD j 0 ∧ zs.getD j 0 ≤ 255 := by simpa [Lit.wf, IntKind.min, IntKind.max, IntKind.signed, IntKind.bits] using hwf
  exact ⟨b, off, _, rfl, World.block_lt_of_cell? w _ h, hx.1, hx.2, h⟩
end Go.Proofs.YtbcfeoobhemdcaaGreat

/- Texts that the claims share, joined. -/
import Derived.Test.YtkiofeiinecpiaaQ1
import Derived.Lib.QuietBelow
import Derived.BigQuiet
import Derived.Deep.Slices
import Derived.Lib.SmallJoins
import Derived.ProofKit
import Derived.Test.YtkiofeiinecpiaaProg
import Derived.Lib.Hide
import Derived.Deep.QuietTactic
import Derived.Lib.Join
import Derived.Laws.IdiomStrings
import Derived.Laws.MakeOwn
import Derived.Outline
import Derived.Laws.OwnMore
import Derived.RangeFuncNested
import Derived.RangeFuncBound
import Derived.RangeFuncCalls
import Derived.OpenShut
import Derived.SliceStrings
import Derived.RegionTactic
import Derived.Deep.CutRange
import Derived.RangeFuncBox
import Derived.RangeFuncLeaves
import Derived.Shelf.Abstract
import Derived.OwnWalkIn
import Derived.TacticsInMore
import Derived.LoopIn
import Derived.Sort.LoopGhostIn
import Derived.Lib.AppendZeros
import Derived.Lib.AppendZerosOnto
import Derived.Lib.SliceRun
import Derived.Deep.RegionHeld3
import Derived.Laws.BitsLemmas
import Derived.IntWalk
import Derived.ChangeOld
namespace Go.Proofs.Ytkiofeiinecpiaa
open Go.RowKit Go.Lib

mutual
def TypeX.same : TypeX → TypeX → Bool
  | .mk k s l, .mk k' s' m => (k == k') && (decide (s = s') && (decide (l.length = m.length) && TypeX.sameL l m))
def TypeX.sameL : List TypeX → List TypeX → Bool
  | [], _ => true
  | _ :: _, [] => true
  | x :: r, y :: s => x.same y && TypeX.sameL r s
end
theorem TypeX.same_eq (x y : TypeX) : x.same y = ((x.kind_ == y.kind_) && (decide (x.name_ = y.name_) && (decide (x.args_.length = y.args_.length) && TypeX.sameL x.args_ y.args_))) := by cases x; cases y; rw [TypeX.same]; rfl
theorem TypeX.sameL_take : ∀ (l m : List TypeX) (j : Nat) (h : j < l.length) (h' : j < m.length), TypeX.sameL (l.take (j + 1)) (m.take (j + 1)) = (TypeX.sameL (l.take j) (m.take j) && l[j].same m[j])
  | x :: r, y :: s, 0, _, _ => by simp [TypeX.sameL]
  | x :: r, y :: s, j + 1, h, h' => by
    have := TypeX.sameL_take r s j (by simpa using h) (by simpa using h')
    rw [List.take_succ_cons, List.take_succ_cons, List.take_succ_cons, List.take_succ_cons, TypeX.sameL, TypeX.sameL, this]
    simp [Bool.and_assoc]
theorem TypeX.sameL_false : ∀ (l m : List TypeX) (j : Nat) (h : j < l.length) (h' : j < m.length), l[j].same m[j] = false → TypeX.sameL l m = false
  | x :: r, y :: s, 0, _, _, hf => by rw [TypeX.sameL]; simp at hf; rw [hf]; rfl
  | x :: r, y :: s, j + 1, h, h', hf => by rw [TypeX.sameL, TypeX.sameL_false r s j (by simpa using h) (by simpa using h') (by simpa using hf), Bool.and_false]
mutual
theorem TypeX.same_iff : ∀ (x y : TypeX), x.same y = true ↔ x = y
  | .mk a s l, .mk b t m => by
    rw [TypeX.same, Bool.and_eq_true, Bool.and_eq_true, Bool.and_eq_true, decide_eq_true_eq, decide_eq_true_eq, beq_iff_eq, TypeX.mk.injEq]
    constructor
    · rintro ⟨h1, h2, h3, h4⟩; exact ⟨h1, h2, (TypeX.sameL_iff l m h3).1 h4⟩
    · rintro ⟨h1, h2, h3⟩; subst h3; exact ⟨h1, h2, rfl, (TypeX.sameL_iff l l rfl).2 rfl⟩
theorem TypeX.sameL_iff : ∀ (l m : List TypeX), l.length = m.length → (TypeX.sameL l m = true ↔ l = m)
  | [], m, h => by rw [TypeX.sameL]; simp; exact List.eq_nil_of_length_eq_zero h.symm
  | x :: r, [], h => by simp at h
  | x :: r, y :: s, h => by rw [TypeX.sameL, Bool.and_eq_true, TypeX.same_iff x y, TypeX.sameL_iff r s (by simpa using h), List.cons.injEq]
end
theorem TypeX.sizeL_at : ∀ (l : List TypeX) (j : Nat) (h : j < l.length), l[j].size ≤ TypeX.sizeL l
  | x :: r, 0, _ => by rw [TypeX.sizeL]; simp
  | x :: r, j + 1, h => by
    have := TypeX.sizeL_at r j (by simpa using h)
    rw [TypeX.sizeL]; simp; omega

def SameT (N : Nat) : Prop := ∀ (x y : TypeX) (v v' : Value) (w : World), x.size ≤ N → TypeAt w (Und w.heap.size) x v → TypeAt w (Und w.heap.size) y v' →
  Calls Try.prog 42 #[v, v'] w fun e w' => e = .returned (.bool (x.same y)) ∧ Below w.heap.size w w'
def SameTL (N : Nat) : Prop := ∀ (l m : List TypeX) (A B : Option Addr) (c d : Nat) (w : World), TypeX.sizeL l ≤ N → TypeRow w (Und w.heap.size) A c l → TypeRow w (Und w.heap.size) B d m →
  Calls Try.prog 80 #[.slice A l.length c, .slice B m.length d] w fun e w' => e = .returned (.bool (decide (l.length = m.length) && TypeX.sameL l m)) ∧ Below w.heap.size w w'

set_option maxRecDepth 100000 in
set_option maxHeartbeats 2000000 in
theorem sameTL_step (N : Nat) (ih : SameT N) : SameTL N := by
  intro l m A B c d w hn hA hB
  have hcl := hA.cap
  have hcm := hB.cap
  have HA := Lib.hid hA
  have HB := Lib.hid hB
  have HN := Lib.hid hn
  clear hA hB hn
  by_cases hlen : l.length = m.length
  · rw [decide_eq_true hlen, Bool.true_and, ← hlen]
    have HL := Lib.hid hlen
    clear hlen hcm
    go_enter Try.func80, Try.ntmps80
    go_wp2
    go_loopw [5] (fun iv wr => ∃ k : Nat, k ≤ l.length ∧ iv = .int .i64 k ∧ TypeX.sameL (l.take k) (m.take k) = true ∧ Below w.heap.size w wr) (fun iv _ => l.length - (Go.RowKit.intOf iv).toNat)
    case atStart => exact ⟨0, Nat.zero_le _, rfl, by simp [TypeX.sameL], Below.refl _ _⟩
    case round =>
      obtain ⟨k, hk, rfl, hs, hb⟩ := hrel
      have HT := Lib.hid hs
      clear hs
      by_cases hlt : k < l.length
      · have hlt2 : k < m.length := by have := HL.out; omega
        obtain ⟨b, o, A2, c2, hAe, hP, p0, p1, p2, h2⟩ := (HA.out.grow hb).at_ hlt
        subst hAe
        obtain ⟨b2, o2, B2, d2, hBe, hP2, r0, r1, r2, g2⟩ := (HB.out.grow hb).at_ hlt2
        subst hBe
        have hst := TypeX.sameL_take l m k hlt hlt2
        have hno := TypeX.sameL_false l m k hlt hlt2
        rw [HT.out, Bool.true_and] at hst
        have hnx : l[k].size ≤ N := by have := TypeX.sizeL_at l k hlt; have := HN.out; omega
        have cE : ∀ dr os, Calls Try.prog 42 #[.agg #[.int .i64 l[k].kind_, .string l[k].name_, .slice A2 l[k].args_.length c2], .agg #[.int .i64 m[k].kind_, .string m[k].name_, .slice B2 m[k].args_.length d2]] (Go.Sort.grow (redrawn wr dr) os) fun e w'' => e = .returned (.bool (l[k].same m[k])) ∧ ∃ p : Regrown, w'' = Go.Sort.grow (redrawn wr p.d) p.os :=
          fun dr os => Calls.regrown_of (ih l[k] m[k] _ _ _ hnx ⟨_, _, rfl, h2.grow (below_regrown wr dr os)⟩ ⟨_, _, rfl, g2.grow (below_regrown wr dr os)⟩)
        have kp0 := cell_regrown p0
        have kr0 := cell_regrown r0
        have kp1 := cell_regrown p1
        have kr1 := cell_regrown r1
        have kp2 := cell_regrown p2
        have kr2 := cell_regrown r2
        have hk0 : (0 : Int) ≤ k := by omega
        have HSt := Lib.hid hst
        have HNo := Lib.hid hno
        clear h2 g2 hnx hst hno
        go_wp2
        refine wp_region_quiet_below (by kernel_rfl) (by kernel_rfl) ?_
        repeat (quiet_step (exact cE _ _))
        refine wpQuiet_nil ?_
        intro _ hw'
        obtain ⟨⟨dq, osq⟩, hw''⟩ := hw'
        subst hw''
        have hb3 := hb.trans ((below_regrown wr dq osq).mono hb.size)
        clear cE kp0 kr0 kp1 kr1 kp2 kr2
        cases hc : l[k].same m[k] with
        | true =>
          have HC := Lib.hid hc
          clear hc
          go_wp2
          go_roundw
          case rel => exact ⟨k + 1, by omega, by go_num, by rw [HSt.out, HC.out], hb3⟩
          case measure => simp [Go.RowKit.intOf]; omega
        | false =>
          have HC := Lib.hid hc
          clear hc
          go_wp2
          go_ret
          exact ⟨congrArg (fun b => Ending.returned (.bool b)) (HNo.out HC.out).symm, hb3⟩
      · have hkl : k = l.length := by omega
        subst hkl
        have ht := HT.out
        rw [List.take_length, HL.out, List.take_length] at ht
        have HT' := Lib.hid ht
        clear ht
        go_wp2
        go_ret
        exact ⟨congrArg (fun b => Ending.returned (.bool b)) HT'.out.symm, hb⟩
  · rw [decide_eq_false hlen, Bool.false_and]
    have hlz : ((l.length : Int) == m.length) = false := by rw [beq_eq_false_iff_ne]; omega
    clear hlen
    go_enter Try.func80, Try.ntmps80
    go_wp2
    go_ret
    exact ⟨rfl, Below.refl _ _⟩

set_option maxRecDepth 100000 in
set_option maxHeartbeats 2000000 in
theorem sameT_step (N : Nat) (ih : SameTL N) : SameT (N + 1) := by
  intro x y v v' w hn hv hv'
  obtain ⟨A, c, rfl, hx⟩ := hv
  obtain ⟨B, d, rfl, hy⟩ := hv'
  have hsq := TypeX.same_eq x y
  have hb0 : Below w.heap.size w ((w.alloc (.cells #[.int .i64 x.kind_, .string x.name_, .slice A x.args_.length c] 26)).alloc (.cells #[.int .i64 y.kind_, .string y.name_, .slice B y.args_.length d] 26)) := ((Below.refl _ _).alloc (Nat.le_refl _) _).alloc (by simp) _
  have HX := Lib.hid (hx.grow hb0)
  have HY := Lib.hid (hy.grow hb0)
  have HN := Lib.hid hn
  clear hx hy hn
  cases hk : (x.kind_ == y.kind_) with
  | false =>
    rw [hk, Bool.false_and] at hsq
    have HS := Lib.hid hsq
    clear hsq
    go_enter Try.func42, Try.ntmps42
    go_wp2
    go_ret
    exact ⟨congrArg (fun b => Ending.returned (.bool b)) HS.out.symm, hb0⟩
  | true =>
    rw [hk, Bool.true_and] at hsq
    by_cases hnm : x.name_ = y.name_
    · rw [decide_eq_true hnm, Bool.true_and] at hsq
      have HS := Lib.hid hsq
      have he1 : (x.name_.toList == y.name_.toList) = true := by rw [hnm]; simp
      clear hsq hnm
      go_enter Try.func42, Try.ntmps42
      go_wp2_with fail
      refine (ih x.args_ y.args_ _ _ _ _ _ (by have := HN.out; rw [TypeX.size_eq] at this; omega) HX.out HY.out).mono ?_
      rw [← HS.out]
      rintro e w1 ⟨rfl, hb1⟩
      have hb2 := hb0.trans (hb1.mono hb0.size)
      go_wp2
      go_ret
      exact ⟨rfl, hb2⟩
    · rw [decide_eq_false hnm, Bool.false_and] at hsq
      have HS := Lib.hid hsq
      have he1 : (x.name_.toList == y.name_.toList) = false := text_ne hnm
      clear hsq hnm
      go_enter Try.func42, Try.ntmps42
      go_wp2
      go_ret
      exact ⟨congrArg (fun b => Ending.returned (.bool b)) HS.out.symm, hb0⟩
theorem sameTAll : ∀ N, SameT N
  | 0 => fun x y v v' w hn => by rw [TypeX.size_eq] at hn; omega
  | N + 1 => sameT_step N (sameTL_step N (sameTAll N))
theorem specSameTy (x y : TypeX) (v v' : Value) (w : World) (hv : TypeAt w (Und w.heap.size) x v) (hv' : TypeAt w (Und w.heap.size) y v') :
    Calls Try.prog 42 #[v, v'] w fun e w' => e = .returned (.bool (x.same y)) ∧ Below w.heap.size w w' := sameTAll _ x y v v' w (Nat.le_refl _) hv hv'
end Go.Proofs.Ytkiofeiinecpiaa
namespace Go.Proofs.Ytkiofeiinecpiaa
open Go.ChangeShapes Go.WideShapes Go.ChangeAt Go.RowKit Go.Deep

/-- The fields lie one behind another. -/
def contig (P : Program) : Nat → Nat → List Field → Prop
  | off, n, [] => off = n
  | off, n, f :: r => f.offset = off ∧ contig P (off + P.cellsOf f.type) n r
/-- A type that is made of types of G alone. -/
def KindOk (P : Program) (G : TypeId → Prop) (t : TypeId) : Prop :=
  P.underlying t = some (.int .i64) ∨ P.underlying t = some .string ∨ P.underlying t = some .bool ∨ (∃ e, P.underlying t = some (.slice e) ∧ G e ∧ 0 < P.cellsOf e) ∨
  (∃ fs : Array Field, P.underlying t = some (.struct fs) ∧ (∀ f ∈ fs.toList, G f.type) ∧ contig P 0 (P.cellsOf t) fs.toList)
/-- The shape of a type's data. -/
def Fits (P : Program) (φ : TypeId → TypeId) : Nat → TypeId → List DV → Prop
  | 0, _, _ => False
  | n + 1, t, ds =>
    (P.underlying t = some (.int .i64) ∧ ∃ z, ds = [.pl (.int .i64 z)]) ∨ (P.underlying t = some .string ∧ ∃ s, ds = [.pl (.string s)]) ∨ (P.underlying t = some .bool ∧ ∃ b, ds = [.pl (.bool b)]) ∨
    (∃ e, P.underlying t = some (.slice e) ∧ ∃ xs, ds = [.row (φ e) (P.cellsOf e) xs] ∧ ∀ x ∈ xs, Fits P φ n e x) ∨
    (∃ fs : Array Field, P.underlying t = some (.struct fs) ∧ ∃ parts : List (List DV), ds = parts.flatten ∧ parts.length = fs.size ∧ ∀ (i : Nat) (f : Field) (p : List DV), fs[i]? = some f → parts[i]? = some p → Fits P φ n f.type p)

theorem RdVs_app {w : World} {Q : Nat → Prop} : ∀ {ds : List DV} {vs : List Value}, RdVs w Q ds vs → ∀ {es : List DV} {us : List Value}, RdVs w Q es us → RdVs w Q (ds ++ es) (vs ++ us)
  | [], vs, h, es, us, h' => by rw [RdVs] at h; subst h; exact h'
  | d :: r, vs, h, es, us, h' => by
    rw [RdVs] at h
    obtain ⟨v, vs', rfl, h1, h2⟩ := h
    rw [List.cons_append, RdVs]
    exact ⟨v, _, rfl, h1, RdVs_app h2 h'⟩
theorem okL_app : ∀ {ds es : List DV}, DV.okL ds → DV.okL es → DV.okL (ds ++ es)
  | [], es, _, h => h
  | d :: r, es, h, h' => by
    rw [DV.okL] at h
    rw [List.cons_append, DV.okL]
    exact ⟨h.1, okL_app h.2 h'⟩
theorem okE_of : ∀ {xs : List (List DV)}, (∀ x ∈ xs, DV.okL x) → DV.okE xs
  | [], _ => by rw [DV.okE]; trivial
  | x :: r, h => by
    rw [DV.okE]
    exact ⟨h x (by simp), okE_of fun y hy => h y (List.mem_cons_of_mem _ hy)⟩
theorem RdVE_of {w : World} {Q : Nat → Prop} {k b : Nat} : ∀ (xs : List (List DV)) (o : Nat), (∀ (j : Nat) (h : j < xs.length), xs[j].length = k ∧ ∃ vs : List Value, RdVs w Q xs[j] vs ∧ ∀ (i : Nat) (v : Value), vs[i]? = some v → w.cell? ⟨b, o + j * k + i, none⟩ = some v) →
    ∃ vs : List Value, RdVE w Q k xs vs ∧ ∀ (i : Nat) (v : Value), vs[i]? = some v → w.cell? ⟨b, o + i, none⟩ = some v
  | [], o, _ => ⟨[], by rw [RdVE], by simp⟩
  | x :: r, o, h => by
    obtain ⟨hk, vs, h1, h2⟩ := h 0 (by simp)
    have hk' : x.length = k := hk
    have h1' : RdVs w Q x vs := h1
    obtain ⟨us, h3, h4⟩ := RdVE_of r (o + k) fun j hj => by
      obtain ⟨hk2, us, g1, g2⟩ := h (j + 1) (by simpa using hj)
      refine ⟨by simpa using hk2, us, by simpa using g1, fun i v hi => ?_⟩
      have := g2 i v hi
      rw [show o + (j + 1) * k + i = o + k + j * k + i by rw [Nat.add_mul]; omega] at this
      exact this
    have hvl : vs.length = k := by rw [RdVs_length h1', hk']
    refine ⟨vs ++ us, by rw [RdVE]; exact ⟨vs, us, rfl, hk', h1', h3⟩, fun i v hi => ?_⟩
    by_cases hlt : i < vs.length
    · rw [List.getElem?_append_left hlt] at hi
      have := h2 i v hi
      rw [Nat.zero_mul, Nat.add_zero] at this
      exact this
    · rw [List.getElem?_append_right (by omega)] at hi
      have := h4 _ v hi
      rw [show o + k + (i - vs.length) = o + i by omega] at this
      exact this

section
variable {H : Type} {enc : TypeId × Value → H} {P : Program} {w : World} {base : Nat} {spare : Nat → Bool} {held : Bool} {φ : TypeId → TypeId} {G : TypeId → Prop}

theorem fits_fields {m n : Nat} {cs : List Value} (ih : ∀ (t : TypeId) (cs : List Value) (y : DataW H × List MemPlace), G t → DataW.trod enc P w base spare held m t cs = some y → ∃ ds, Fits P φ n t ds ∧ RdVs w (Und w.heap.size) ds cs ∧ DV.okL ds) :
    ∀ (fl : List Field) (off : Nat), contig P off cs.length fl → (∀ f ∈ fl, G f.type ∧ ∃ y, DataW.trod enc P w base spare held m f.type ((cs.drop f.offset).take (P.cellsOf f.type)) = some y) →
      ∃ parts : List (List DV), parts.length = fl.length ∧ (∀ (i : Nat) (f : Field) (p : List DV), fl[i]? = some f → parts[i]? = some p → Fits P φ n f.type p) ∧ RdVs w (Und w.heap.size) parts.flatten (cs.drop off) ∧ DV.okL parts.flatten
  | [], off, hc, _ => by
    rw [contig] at hc
    subst hc
    exact ⟨[], rfl, by simp, by rw [List.drop_length]; rfl, by rw [List.flatten_nil, DV.okL]; trivial⟩
  | f :: r, off, hc, hf => by
    rw [contig] at hc
    obtain ⟨rfl, hc⟩ := hc
    obtain ⟨hg, y, hy⟩ := hf f (by simp)
    obtain ⟨ds, d1, d2, d3⟩ := ih _ _ _ hg hy
    obtain ⟨parts, p1, p2, p3, p4⟩ := fits_fields ih r _ hc fun g hg => hf g (List.mem_cons_of_mem _ hg)
    refine ⟨ds :: parts, by simp [p1], fun i g p hi hp => ?_, ?_, ?_⟩
    · match i, hi, hp with
      | 0, hi, hp =>
        simp at hi hp
        subst hi hp
        exact d1
      | i + 1, hi, hp => exact p2 i g p (by simpa using hi) (by simpa using hp)
    · rw [List.flatten_cons]
      have h := RdVs_app d2 p3
      rw [← List.drop_drop, List.take_append_drop] at h
      exact h
    · rw [List.flatten_cons]; exact okL_app d3 p4

theorem trod_fits (hG : ∀ t, G t → KindOk P G t) : ∀ (F fuel : Nat) (t : TypeId) (cs : List Value) (y : DataW H × List MemPlace), fuel ≤ F → G t → DataW.trod enc P w base spare held fuel t cs = some y →
    ∃ ds, Fits P φ F t ds ∧ RdVs w (Und w.heap.size) ds cs ∧ DV.okL ds := by
  intro F
  induction F with
  | zero =>
    intro fuel t cs y hf _ h
    obtain rfl : fuel = 0 := by omega
    simp [DataW.trod] at h
  | succ F ih =>
    intro fuel t cs y hf hg h
    rcases hG t hg with hk | hk | hk | ⟨e, hk, he, hpos⟩ | ⟨fs, hk, hfs, hct⟩
    · obtain ⟨z, rfl, _, hz⟩ := DataW.trod_int hk h
      refine ⟨[.pl (.int .i64 z)], by rw [Fits]; exact .inl ⟨hk, z, rfl⟩, by rw [RdVs]; exact ⟨_, [], rfl, by rw [RdV], by rw [RdVs]⟩, ?_⟩
      simp only [DV.okL, DV.ok, uok, and_true]
      have := hz
      simp [Lit.wf] at this
      exact ⟨this.1, this.2⟩
    · obtain ⟨s, rfl, _, hs⟩ := DataW.trod_string hk h
      refine ⟨[.pl (.string s)], by rw [Fits]; exact .inr (.inl ⟨hk, s, rfl⟩), by rw [RdVs]; exact ⟨_, [], rfl, by rw [RdV], by rw [RdVs]⟩, ?_⟩
      simp only [DV.okL, DV.ok, uok, and_true]
      unfold maxLen at hs; omega
    · obtain ⟨b, rfl, _⟩ := DataW.trod_bool hk h
      refine ⟨[.pl (.bool b)], by rw [Fits]; exact .inr (.inr (.inl ⟨hk, b, rfl⟩)), by rw [RdVs]; exact ⟨_, [], rfl, by rw [RdV], by rw [RdVs]⟩, ?_⟩
      simp only [DV.okL, DV.ok, uok, and_true]
    · rcases DataW.trod_slice hk h with ⟨rfl, _⟩ | ⟨a, len, cap, elems, rest, m, rfl, rfl, _, _, hlc, hcm, hel, hes, _, _⟩
      · refine ⟨[.row (φ e) (P.cellsOf e) []], by rw [Fits]; exact .inr (.inr (.inr (.inl ⟨e, hk, [], rfl, by simp⟩))), by rw [RdVs]; exact ⟨_, [], rfl, RdV_row.2 ⟨none, 0, rfl, Nat.le_refl _, by omega, .inl rfl⟩, by rw [RdVs]⟩, ?_⟩
        simp [DV.okL, DV.ok, DV.okE]
      · have each : ∀ i, i < len → ∃ ds, Fits P φ F e ds ∧ DV.okL ds ∧ ds.length = P.cellsOf e ∧ ∃ vs : List Value, RdVs w (Und w.heap.size) ds vs ∧ ∀ j, j < P.cellsOf e → w.cell? ((a.add (i * P.cellsOf e)).add j) = vs[j]? := by
          intro i hi
          have h2 := hes i hi
          rw [List.getElem?_eq_getElem (by omega)] at h2
          obtain ⟨cs', hc, ht⟩ := Option.bind_eq_some_iff.1 h2
          obtain ⟨ds, d1, d2, d3⟩ := ih m e cs' _ (by omega) he ht
          obtain ⟨_, hl, hat⟩ := World.cells?_some hc
          exact ⟨ds, d1, d3, by rw [← RdVs_length d2, hl], cs', d2, hat⟩
        obtain ⟨f, hf2⟩ := choose_lt each
        have hxl : ((List.range len).map f).length = len := by simp
        refine ⟨[.row (φ e) (P.cellsOf e) ((List.range len).map f)], by
          rw [Fits]
          refine .inr (.inr (.inr (.inl ⟨e, hk, _, rfl, fun x hx => ?_⟩)))
          obtain ⟨i, hi, rfl⟩ := List.mem_map.1 hx
          exact (hf2 i (by simpa using hi)).1, ?_, ?_⟩
        · rw [RdVs]
          refine ⟨_, [], rfl, RdV_row.2 ⟨some a, cap, by rw [hxl], by rw [hxl]; exact hlc, by unfold maxLen at hcm; omega, ?_⟩, by rw [RdVs]⟩
          by_cases hz : len = 0
          · exact .inl (by rw [hz]; rfl)
          · obtain ⟨b, o, spot⟩ := a
            obtain ⟨_, _, hl0, vs0, hr0, hc0⟩ := hf2 0 (by omega)
            have hv0 : 0 < vs0.length := by rw [RdVs_length hr0, hl0]; exact hpos
            have c00 := hc0 0 hpos
            rw [List.getElem?_eq_getElem hv0] at c00
            have hspot : spot = none := by simpa [Addr.add] using World.cell?_spot c00
            subst hspot
            have hb : b < w.heap.size := by
              have := World.block_lt_of_cell? w _ c00
              simpa [Addr.add] using this
            obtain ⟨vs, h1, h2⟩ := RdVE_of (w := w) (Q := Und w.heap.size) (k := P.cellsOf e) (b := b) ((List.range len).map f) o fun j hj => by
              have hjl : j < len := by simpa using hj
              obtain ⟨_, _, hlj, vsj, hrj, hcj⟩ := hf2 j hjl
              simp only [List.getElem_map, List.getElem_range]
              refine ⟨hlj, vsj, hrj, fun i v hi => ?_⟩
              have hil : i < P.cellsOf e := by
                rw [← hlj, ← RdVs_length hrj]
                exact (List.getElem?_eq_some_iff.1 hi).1
              have := hcj i hil
              rw [Go.WideShapes.add_plain, Go.WideShapes.add_plain, hi] at this
              exact this
            exact .inr ⟨b, o, rfl, hb, vs, h1, h2⟩
        · simp only [DV.okL, DV.ok, and_true]
          refine ⟨by rw [hxl]; unfold maxLen at hcm; omega, okE_of fun x hx => ?_⟩
          obtain ⟨i, hi, rfl⟩ := List.mem_map.1 hx
          exact (hf2 i (by simpa using hi)).2.1
    · obtain ⟨xs, m, rfl, _, hcl, hxl, hat⟩ := DataW.trod_struct hk h
      rw [← hcl] at hct
      obtain ⟨parts, p1, p2, p3, p4⟩ := fits_fields (φ := φ) (G := G) (m := m) (n := F) (cs := cs) (fun t cs y hg' h' => ih m t cs y (by omega) hg' h') fs.toList 0 hct fun f hf => by
        refine ⟨hfs f hf, ?_⟩
        obtain ⟨i, hi, rfl⟩ := List.mem_iff_getElem.1 hf
        have hi' : i < fs.size := by simpa using hi
        refine ⟨xs[i]'(by omega), ?_⟩
        rw [hat i _ (by simp [hi']), List.getElem?_eq_getElem (by omega)]
      refine ⟨parts.flatten, ?_, by simpa using p3, p4⟩
      rw [Fits]
      exact .inr (.inr (.inr (.inr ⟨fs, hk, parts, rfl, by simpa using p1, fun i f p hi hp => p2 i f p (by simpa using hi) hp⟩)))
end
end Go.Proofs.Ytkiofeiinecpiaa
namespace Go.Proofs.Ytkiofeiinecpiaa
open Go.ChangeShapes Go.WideShapes Go.ChangeAt Go.RowKit Go.Deep

/-- The laws' types by the program's. -/
def toImplT (t : TypeId) : TypeId := if t = 44 then 26 else t
def typeG (t : TypeId) : Prop := t = 44 ∨ t = 42 ∨ t = 3 ∨ t = 9
theorem typeG_ok : ∀ t, typeG t → KindOk Try.prog typeG t := by
  rintro t (rfl | rfl | rfl | rfl)
  · refine .inr (.inr (.inr (.inr ⟨_, Try.underlying44, ?_, ?_⟩)))
    · intro f hf
      simp only [List.mem_cons, List.not_mem_nil, or_false] at hf
      rcases hf with rfl | rfl | rfl
      · exact .inr (.inr (.inl rfl))
      · exact .inr (.inr (.inr rfl))
      · exact .inr (.inl rfl)
    · simp only [contig]
      exact ⟨trivial, by kernel_rfl, by kernel_rfl, by kernel_rfl⟩
  · exact .inr (.inr (.inr (.inl ⟨_, Try.underlying42, .inl rfl, by rw [show Try.prog.cellsOf 44 = 3 by kernel_rfl]; decide⟩)))
  · exact .inl Try.underlying3
  · exact .inr (.inl Try.underlying9)

/-- Only one of a type's five shapes is its own. -/
theorem fits_int {φ : TypeId → TypeId} {P : Program} {n : Nat} {t : TypeId} {ds : List DV} (hu : P.underlying t = some (.int .i64)) (h : Fits P φ n t ds) : ∃ z, ds = [.pl (.int .i64 z)] := by
  cases n with
  | zero => rw [Fits] at h; exact h.elim
  | succ n =>
    rw [Fits, hu] at h
    rcases h with ⟨_, h⟩ | ⟨h, _⟩ | ⟨h, _⟩ | ⟨_, h, _⟩ | ⟨_, h, _⟩
    · exact h
    all_goals cases h
theorem fits_string {φ : TypeId → TypeId} {P : Program} {n : Nat} {t : TypeId} {ds : List DV} (hu : P.underlying t = some .string) (h : Fits P φ n t ds) : ∃ s, ds = [.pl (.string s)] := by
  cases n with
  | zero => rw [Fits] at h; exact h.elim
  | succ n =>
    rw [Fits, hu] at h
    rcases h with ⟨h, _⟩ | ⟨_, h⟩ | ⟨h, _⟩ | ⟨_, h, _⟩ | ⟨_, h, _⟩
    · cases h
    · exact h
    all_goals cases h
theorem fits_bool {φ : TypeId → TypeId} {P : Program} {n : Nat} {t : TypeId} {ds : List DV} (hu : P.underlying t = some .bool) (h : Fits P φ n t ds) : ∃ b, ds = [.pl (.bool b)] := by
  cases n with
  | zero => rw [Fits] at h; exact h.elim
  | succ n =>
    rw [Fits, hu] at h
    rcases h with ⟨h, _⟩ | ⟨h, _⟩ | ⟨_, h⟩ | ⟨_, h, _⟩ | ⟨_, h, _⟩
    · cases h
    · cases h
    · exact h
    all_goals cases h
theorem fits_slice {φ : TypeId → TypeId} {P : Program} {n : Nat} {t e : TypeId} {ds : List DV} (hu : P.underlying t = some (.slice e)) (h : Fits P φ n t ds) : ∃ (m : Nat) (xs : List (List DV)), n = m + 1 ∧ ds = [.row (φ e) (P.cellsOf e) xs] ∧ ∀ x ∈ xs, Fits P φ m e x := by
  cases n with
  | zero => rw [Fits] at h; exact h.elim
  | succ n =>
    rw [Fits, hu] at h
    rcases h with ⟨h, _⟩ | ⟨h, _⟩ | ⟨h, _⟩ | ⟨e', h, xs, h1, h2⟩ | ⟨_, h, _⟩
    · cases h
    · cases h
    · cases h
    · injection h with h; injection h with h; subst h; exact ⟨n, xs, rfl, h1, h2⟩
    · cases h
theorem fits_struct {φ : TypeId → TypeId} {P : Program} {n : Nat} {t : TypeId} {fs : Array Field} {ds : List DV} (hu : P.underlying t = some (.struct fs)) (h : Fits P φ n t ds) : ∃ (m : Nat) (parts : List (List DV)), n = m + 1 ∧ ds = parts.flatten ∧ parts.length = fs.size ∧ ∀ (i : Nat) (f : Field) (p : List DV), fs[i]? = some f → parts[i]? = some p → Fits P φ m f.type p := by
  cases n with
  | zero => rw [Fits] at h; exact h.elim
  | succ n =>
    rw [Fits, hu] at h
    rcases h with ⟨h, _⟩ | ⟨h, _⟩ | ⟨h, _⟩ | ⟨_, h, _⟩ | ⟨fs', h, parts, h1, h2, h3⟩
    · cases h
    · cases h
    · cases h
    · cases h
    · injection h with h; injection h with h; subst h; exact ⟨n, parts, rfl, h1, h2, h3⟩
/-- Each of these is one of those: all of them are. -/
theorem list_of {α β : Type} (f : α → β) : ∀ (l : List β), (∀ x ∈ l, ∃ a, x = f a) → ∃ l' : List α, l = l'.map f
  | [], _ => ⟨[], rfl⟩
  | x :: r, h => by
    obtain ⟨a, rfl⟩ := h x (by simp)
    obtain ⟨l', rfl⟩ := list_of f r fun y hy => h y (List.mem_cons_of_mem _ hy)
    exact ⟨a :: l', rfl⟩

theorem cellsOf_Type : Try.prog.cellsOf 44 = 3 := by kernel_rfl
theorem fits_Type : ∀ (N n : Nat) (ds : List DV), n ≤ N → Fits Try.prog toImplT n 44 ds → ∃ x : TypeX, ds = x.cells
  | 0, n, ds, hn, h => by
    obtain rfl : n = 0 := by omega
    rw [Fits] at h; exact h.elim
  | N + 1, n, ds, hn, h => by
    obtain ⟨m, parts, rfl, rfl, hl, hp⟩ := fits_struct Try.underlying44 h
    match parts, hl with
    | [p0, p1, p2], _ =>
      obtain ⟨z, rfl⟩ := fits_int Try.underlying3 (hp 0 _ p0 rfl rfl)
      obtain ⟨s, rfl⟩ := fits_string Try.underlying9 (hp 1 _ p1 rfl rfl)
      obtain ⟨m', xs, rfl, rfl, hx⟩ := fits_slice Try.underlying42 (hp 2 _ p2 rfl rfl)
      obtain ⟨l, rfl⟩ := list_of TypeX.cells xs fun y hy => fits_Type N m' y (by omega) (hx y hy)
      exact ⟨.mk z s l, by rw [TypeX.cells, TypeX.rows_map, cellsOf_Type]; rfl⟩

theorem type_arg {H : Type} {enc : TypeId × Value → H} {w : World} {base : Nat} {spare : Nat → Bool} {held : Bool} {fuel : Nat} {cs : List Value} {y : DataW H × List MemPlace} (h : DataW.trod enc Try.prog w base spare held fuel 44 cs = some y) :
    ∃ x : TypeX, TypeAt w (Und w.heap.size) x (.agg cs.toArray) ∧ DV.okL x.cells := by
  obtain ⟨ds, h1, h2, h3⟩ := trod_fits (φ := toImplT) typeG_ok fuel fuel _ _ _ (Nat.le_refl _) (.inl rfl) h
  obtain ⟨x, rfl⟩ := fits_Type fuel fuel ds (Nat.le_refl _) h1
  exact ⟨x, TypeAt.of_reads h2, h3⟩
end Go.Proofs.Ytkiofeiinecpiaa
namespace Go.Proofs.Ytkiofeiinecpiaa
open Go.ChangeShapes Go.WideShapes Go.ChangeAt Go.RowKit Go.Deep

/-- The laws' types by the program's. -/
def toImplB (t : TypeId) : TypeId := if t = 44 then 26 else if t = 102 then 77 else t
def bindG (t : TypeId) : Prop := t = 44 ∨ t = 42 ∨ t = 3 ∨ t = 9 ∨ t = 102 ∨ t = 61
theorem bindG_ok : ∀ t, bindG t → KindOk Try.prog bindG t := by
  rintro t (rfl | rfl | rfl | rfl | rfl | rfl)
  · refine .inr (.inr (.inr (.inr ⟨_, Try.underlying44, ?_, ?_⟩)))
    · intro f hf
      simp only [List.mem_cons, List.not_mem_nil, or_false] at hf
      rcases hf with rfl | rfl | rfl
      · exact .inr (.inr (.inl rfl))
      · exact .inr (.inr (.inr (.inl rfl)))
      · exact .inr (.inl rfl)
    · simp only [contig]
      exact ⟨trivial, by kernel_rfl, by kernel_rfl, by kernel_rfl⟩
  · exact .inr (.inr (.inr (.inl ⟨_, Try.underlying42, .inl rfl, by rw [show Try.prog.cellsOf 44 = 3 by kernel_rfl]; decide⟩)))
  · exact .inl Try.underlying3
  · exact .inr (.inl Try.underlying9)
  · refine .inr (.inr (.inr (.inr ⟨_, Try.underlying102, ?_, ?_⟩)))
    · intro f hf
      simp only [List.mem_cons, List.not_mem_nil, or_false] at hf
      rcases hf with rfl | rfl
      · exact .inr (.inr (.inr (.inl rfl)))
      · exact .inl rfl
    · simp only [contig]
      exact ⟨trivial, by kernel_rfl, by kernel_rfl⟩
  · exact .inr (.inr (.inr (.inl ⟨_, Try.underlying61, .inr (.inr (.inr (.inr (.inl rfl)))), by rw [show Try.prog.cellsOf 102 = 4 by kernel_rfl]; decide⟩)))
theorem cellsOf_Binding : Try.prog.cellsOf 102 = 4 := by kernel_rfl
theorem fitsB_Type : ∀ (N n : Nat) (ds : List DV), n ≤ N → Fits Try.prog toImplB n 44 ds → ∃ x : TypeX, ds = x.cells
  | 0, n, ds, hn, h => by
    obtain rfl : n = 0 := by omega
    rw [Fits] at h; exact h.elim
  | N + 1, n, ds, hn, h => by
    obtain ⟨m, parts, rfl, rfl, hl, hp⟩ := fits_struct Try.underlying44 h
    match parts, hl with
    | [p0, p1, p2], _ =>
      obtain ⟨z, rfl⟩ := fits_int Try.underlying3 (hp 0 _ p0 rfl rfl)
      obtain ⟨s, rfl⟩ := fits_string Try.underlying9 (hp 1 _ p1 rfl rfl)
      obtain ⟨m', xs, rfl, rfl, hx⟩ := fits_slice Try.underlying42 (hp 2 _ p2 rfl rfl)
      obtain ⟨l, rfl⟩ := list_of TypeX.cells xs fun y hy => fitsB_Type N m' y (by omega) (hx y hy)
      exact ⟨.mk z s l, by rw [TypeX.cells, TypeX.rows_map, cellsOf_Type]; rfl⟩
theorem fits_Binding (n : Nat) (ds : List DV) (h : Fits Try.prog toImplB n 102 ds) : ∃ x : BindingX, ds = x.cells := by
  obtain ⟨m, parts, rfl, rfl, hl, hp⟩ := fits_struct Try.underlying102 h
  match parts, hl with
  | [p0, p1], _ =>
    obtain ⟨s, rfl⟩ := fits_string Try.underlying9 (hp 0 _ p0 rfl rfl)
    obtain ⟨x, rfl⟩ := fitsB_Type m m p1 (Nat.le_refl _) (hp 1 _ p1 rfl rfl)
    refine ⟨.mk s x, ?_⟩
    rw [BindingX.cells, TypeX.cells_eq]
    rfl

section
variable {H : Type} {enc : TypeId × Value → H} {w : World} {base : Nat} {spare : Nat → Bool} {held : Bool} {fuel : Nat} {A : Option Addr} {n c : Nat} {y : DataW H × List MemPlace}
theorem row_in {e : TypeId} {k : Nat} {xs : List (List DV)} {N : Nat} (hx : xs.length = N) (h2 : RdVs w (Und w.heap.size) [.row e k xs] [.slice A n c]) : n = N ∧ RdV w (Und w.heap.size) (.row e k xs) (.slice A N c) := by
  rw [RdVs] at h2
  obtain ⟨v, vs', e1, h3, h4⟩ := h2
  injection e1 with e1 _
  subst e1
  have h5 := h3
  rw [RdV] at h5
  obtain ⟨A', c', e2, _⟩ := h5
  injection e2 with _ e2 _
  rw [hx] at e2
  subst e2
  exact ⟨rfl, h3⟩
theorem binds_arg (h : DataW.trod enc Try.prog w base spare held fuel 61 [.slice A n c] = some y) :
    ∃ l : List BindingX, n = l.length ∧ BindingRow w (Und w.heap.size) A c l ∧ DV.okE (BindingX.rows l) ∧ l.length ≤ 9223372036854775807 := by
  obtain ⟨ds, h1, h2, h3⟩ := trod_fits (φ := toImplB) bindG_ok fuel fuel _ _ _ (Nat.le_refl _) (.inr (.inr (.inr (.inr (.inr rfl))))) h
  obtain ⟨m, xs, hf, rfl, hx⟩ := fits_slice Try.underlying61 h1
  obtain ⟨l, rfl⟩ := list_of BindingX.cells xs fun y hy => fits_Binding m y (hx y hy)
  rw [cellsOf_Binding] at h2 h3
  obtain ⟨hn, hr⟩ := row_in (BindingX.rows_length l) h2
  simp only [DV.okL, DV.ok] at h3
  exact ⟨l, hn, hr, h3.1.2, by have := h3.1.1; rwa [List.length_map] at this⟩
theorem types_arg (h : DataW.trod enc Try.prog w base spare held fuel 42 [.slice A n c] = some y) :
    ∃ l : List TypeX, n = l.length ∧ TypeRow w (Und w.heap.size) A c l ∧ DV.okE (TypeX.rows l) ∧ l.length ≤ 9223372036854775807 := by
  obtain ⟨ds, h1, h2, h3⟩ := trod_fits (φ := toImplB) bindG_ok fuel fuel _ _ _ (Nat.le_refl _) (.inr (.inl rfl)) h
  obtain ⟨m, xs, hf, rfl, hx⟩ := fits_slice Try.underlying42 h1
  obtain ⟨l, rfl⟩ := list_of TypeX.cells xs fun y hy => fitsB_Type m m y (Nat.le_refl _) (hx y hy)
  rw [cellsOf_Type] at h2 h3
  rw [← TypeX.rows_map] at h2 h3
  obtain ⟨hn, hr⟩ := row_in (TypeX.rows_length l) h2
  simp only [DV.okL, DV.ok] at h3
  exact ⟨l, hn, hr, h3.1.2, by have := h3.1.1; rwa [TypeX.rows_length] at this⟩
end
end Go.Proofs.Ytkiofeiinecpiaa
namespace Go.Proofs.Ytkiofeiinecpiaa
open Go.RowKit Go.Lib

set_option maxRecDepth 100000 in
set_option maxHeartbeats 4000000 in
theorem implSetOf (vars : List ByteArray) (D : Option Addr) (d : Nat) (w : World) (hvn : vars.length ≤ 4294967296) (hvz : ∀ s ∈ vars, s.size ≤ 9223372036854775807) (hD : Strs w D vars) :
    Calls Try.prog 85 #[.slice D vars.length d] w fun e w' => e = .returned (.map (some w.heap.size)) ∧ Seen Try.prog 9 4 w' w.heap.size vars.length vars ∧ Below w.heap.size w w' := by
  have hmm := @run_makeMap Try.prog
  have hs0 := Seen.made (P := Try.prog) (k := 9) (e := 4) w
  have hb0 : Below w.heap.size w (w.alloc (.map #[] 0)) := (Below.refl _ _).alloc (Nat.le_refl _) _
  have HD := Lib.hid hD
  have HVZ := Lib.hid hvz
  have HS0 := Lib.hid hs0
  have HB0 := Lib.hid hb0
  clear hD hvz hs0 hb0
  go_enter Try.func85, Try.ntmps85
  go_wp2
  go_loopw [9] (fun iv wr => ∃ k : Nat, k ≤ vars.length ∧ iv = .int .i64 k ∧ Seen Try.prog 9 4 wr w.heap.size k (vars.take k) ∧ Below w.heap.size w wr) (fun iv _ => vars.length - (Go.RowKit.intOf iv).toNat)
  case atStart => exact ⟨0, Nat.zero_le _, rfl, HS0.out, HB0.out⟩
  case round =>
    obtain ⟨k, hk, rfl, hseen, hb⟩ := hrel
    clear hmm
    by_cases hlt : k < vars.length
    · obtain ⟨b, o, rfl, p0⟩ := (HD.out.below hb).at_ hlt
      obtain ⟨w2, hrun, hs2, hg2⟩ := hseen.store Try.underlying97 Try.underlying9 Try.underlying4 (by omega) vars[k] (HVZ.out _ (List.getElem_mem hlt))
      rw [← List.take_succ_eq_append_getElem hlt] at hs2
      have HS := Lib.hid hs2
      have HB := Lib.hid (hb.grown hg2 hb.size (fun j hj => by cases hj; exact Nat.le_refl _))
      clear hseen hs2 hg2
      go_wp2
      go_roundw
      case rel => exact ⟨k + 1, by omega, by go_num, HS.out, HB.out⟩
      case measure => simp [Go.RowKit.intOf]; omega
    · obtain rfl : k = vars.length := by omega
      rw [List.take_length] at hseen
      have HSN := Lib.hid hseen
      clear hseen
      go_wp2
      go_ret
      exact ⟨rfl, HSN.out, hb⟩
end Go.Proofs.Ytkiofeiinecpiaa
namespace Go.Proofs.Ytkiofeiinecpiaa
open Go.RowKit

set_option maxRecDepth 100000 in
set_option maxHeartbeats 400000 in
theorem eqStrings (A B : Option Addr) (c d : Nat) (ss : List ByteArray) (w : World) (hA : Strs w A ss) (hB : Strs w B ss) (hlen : ss.length ≤ 9223372036854775807) :
    Calls Try.prog 58 #[.slice A ss.length c, .slice B ss.length d] w fun e w' => e = .returned (.bool true) ∧ Below w.heap.size w w' := by
  have HA := Lib.hid hA
  have HB := Lib.hid hB
  clear hA hB
  go_enter Try.func58, Try.ntmps58
  go_wp2
  go_loopw [5] (fun i wr => ∃ k : Nat, k ≤ ss.length ∧ i = .int .i64 k ∧ Below w.heap.size w wr) (fun i _ => ss.length - (Go.RowKit.intOf i).toNat)
  case atStart => exact ⟨0, Nat.zero_le _, rfl, Below.refl _ _⟩
  case round =>
    obtain ⟨k, hk, rfl, hb⟩ := hrel
    by_cases hlt : k < ss.length
    · obtain ⟨g, o, rfl, hc⟩ := (HA.out.below hb).at_ hlt
      obtain ⟨g', o', rfl, hc'⟩ := (HB.out.below hb).at_ hlt
      have hk0 : (0 : Int) ≤ k := by omega
      go_wp2
      go_quiet (fail)
      go_wp2
      go_roundw
      case rel => exact ⟨k + 1, by omega, by go_num, hb.trans ⟨rfl, rfl, rfl, Nat.le_refl _, fun _ _ => rfl⟩⟩
      case measure => simp [Go.RowKit.intOf]; omega
    · go_wp2
      go_ret
      exact ⟨rfl, hb⟩

end Go.Proofs.Ytkiofeiinecpiaa
namespace Go.Proofs.Ytkiofeiinecpiaa
open Go.RowKit Go.Lib

def sizes (ss : List ByteArray) : Nat := (ss.map (·.size)).sum
theorem sizes_take (ss : List ByteArray) (k : Nat) (h : k < ss.length) : sizes (ss.take (k + 1)) = sizes (ss.take k) + ss[k].size := by
  rw [List.take_succ_eq_append_getElem h, sizes, List.map_append, List.sum_append]
  simp [sizes]
theorem sizes_le (ss : List ByteArray) (k : Nat) : sizes (ss.take k) ≤ sizes ss := by
  have h : ss = ss.take k ++ ss.drop k := (List.take_append_drop k ss).symm
  have h2 : sizes ss = sizes (ss.take k) + sizes (ss.drop k) := by
    conv => lhs; rw [h]
    simp only [sizes, List.map_append, List.sum_append]
  omega

theorem join_take_one (d : List (List UInt8)) (sep : List UInt8) (h : 0 < d.length) : join (d.take 1) sep = d[0] := by
  match d, h with
  | x :: r, _ => rw [List.take_succ_cons, List.take_zero, join_one]; rfl
theorem join_take_succ (d : List (List UInt8)) (sep : List UInt8) (k : Nat) (h0 : 0 < k) (h : k < d.length) : join (d.take (k + 1)) sep = join (d.take k) sep ++ sep ++ d[k] := by
  match d, k, h0, h with
  | x :: r, k + 1, _, h =>
    have hr : k < r.length := by simp at h; omega
    rw [List.take_succ_cons, List.take_succ_cons, join_cons, join_cons, joinTail_take_succ sep r k r[k] (List.getElem?_eq_getElem hr)]
    simp [List.append_assoc]
theorem join_length_le (d : List (List UInt8)) (sep : List UInt8) : (join d sep).length ≤ sep.length * d.length + lens d := by
  cases d with
  | nil => simp [join_nil]
  | cons x r =>
    rw [join_length, List.length_cons, Nat.mul_add]
    omega
theorem lens_sizes (ss : List ByteArray) : lens (ss.map (·.data.toList)) = sizes ss := by
  simp [lens, sizes, Function.comp_def]
/-- How long what is joined may become. -/
theorem joined_le (ss : List ByteArray) (sep : ByteArray) (k : Nat) (h1 : ss.length + sizes ss ≤ 1048576) (h2 : sep.size ≤ 1048576) : (join ((ss.map (·.data.toList)).take k) sep.data.toList).length ≤ 1099512676352 := by
  have h := join_length_le ((ss.map (·.data.toList)).take k) sep.data.toList
  have hl := lens_take_le (ss.map (·.data.toList)) k
  rw [lens_sizes] at hl
  have hn : ((ss.map (·.data.toList)).take k).length ≤ 1048576 := by
    have := List.length_take_le k (ss.map (·.data.toList))
    rw [List.length_take, List.length_map]
    omega
  have hs : sep.data.toList.length ≤ 1048576 := by simpa using h2
  have hm := Nat.mul_le_mul hs hn
  omega
end Go.Proofs.Ytkiofeiinecpiaa
namespace Go.Proofs.Ytkiofeiinecpiaa
open Go.RowKit Go.Lib

set_option maxRecDepth 100000 in
set_option maxHeartbeats 400000 in
theorem szYes (A : Option Addr) (c : Nat) (ss : List ByteArray) (L : Nat) (w : World) (hA : Strs w A ss) (hL : ss.length + sizes ss ≤ L) (h1 : L ≤ 4294967296) :
    Calls Try.prog 55 #[.slice A ss.length c, .int .i64 L] w fun e w' => e = .returned (.int .i64 ((L : Int) - ss.length - (sizes ss : Nat))) ∧ w = w' := by
  have HA := Lib.hid hA
  clear hA
  go_enter Try.func55, Try.ntmps55
  go_wp2
  go_loop [1, 5] (fun q i => ∃ k : Nat, k ≤ ss.length ∧ i = .int .i64 k ∧ q = .int .i64 ((L : Int) - ss.length - (sizes (ss.take k) : Nat))) (fun _ i => ss.length - (Go.RowKit.intOf i).toNat)
  case atStart => exact ⟨0, Nat.zero_le _, rfl, int_of (by simp [sizes])⟩
  case round =>
    obtain ⟨k, hk, rfl, rfl⟩ := hrel
    have hs1 := sizes_le ss k
    by_cases hlt : k < ss.length
    · obtain ⟨g, o, rfl, hc⟩ := HA.out.at_ hlt
      have hs2 := sizes_le ss (k + 1)
      have hst := sizes_take ss k hlt
      have HS := Lib.hid hst
      have hz : ss[k].size ≤ 4294967296 := by omega
      have hnn : ¬ (L : Int) - ss.length - (sizes (ss.take k) : Nat) - (ss[k].size : Nat) < 0 := by omega
      clear hst
      go_wp2
      go_round
      case rel => exact ⟨k + 1, by omega, by go_num, int_of (by rw [HS.out]; omega)⟩
      case measure => simp [Go.RowKit.intOf]; omega
    · have hkl : k = ss.length := by omega
      subst hkl
      rw [List.take_length]
      go_wp2
      go_ret
      exact ⟨rfl, rfl⟩

set_option maxRecDepth 100000 in
set_option maxHeartbeats 400000 in
theorem szNo (A : Option Addr) (c : Nat) (ss : List ByteArray) (L : Nat) (w : World) (hA : Strs w A ss) (hL : L < ss.length + sizes ss) (h1 : L ≤ 4294967296) (hn : ss.length ≤ 9223372036854775807) (hz : ∀ x ∈ ss, x.size ≤ 9223372036854775807) :
    Calls Try.prog 55 #[.slice A ss.length c, .int .i64 L] w fun e w' => e = .returned (.int .i64 (-1)) ∧ w = w' := by
  have HA := Lib.hid hA
  have HZ := Lib.hid hz
  clear hA hz
  by_cases hfst : L < ss.length
  · have hnn : (L : Int) - ss.length < 0 := by omega
    go_enter Try.func55, Try.ntmps55
    go_wp2
    go_ret
    exact ⟨rfl, rfl⟩
  · go_enter Try.func55, Try.ntmps55
    go_wp2
    go_loop [1, 5] (fun q i => ∃ k : Nat, k ≤ ss.length ∧ i = .int .i64 k ∧ sizes (ss.take k) + ss.length ≤ L ∧ q = .int .i64 ((L : Int) - ss.length - (sizes (ss.take k) : Nat))) (fun _ i => ss.length - (Go.RowKit.intOf i).toNat)
    case atStart => exact ⟨0, Nat.zero_le _, rfl, by simp [sizes]; omega, int_of (by simp [sizes])⟩
    case round =>
      obtain ⟨k, hk, rfl, hle, rfl⟩ := hrel
      by_cases hlt : k < ss.length
      · obtain ⟨g, o, rfl, hc⟩ := HA.out.at_ hlt
        have hst := sizes_take ss k hlt
        have hz := HZ.out ss[k] (List.getElem_mem hlt)
        by_cases hnx : sizes (ss.take (k + 1)) + ss.length ≤ L
        · have HS := Lib.hid hst
          have hnn : ¬ (L : Int) - ss.length - (sizes (ss.take k) : Nat) - (ss[k].size : Nat) < 0 := by omega
          clear hst
          go_wp2
          go_round
          case rel => exact ⟨k + 1, by omega, by go_num, hnx, int_of (by rw [HS.out]; omega)⟩
          case measure => simp [Go.RowKit.intOf]; omega
        · have hnn : (L : Int) - ss.length - (sizes (ss.take k) : Nat) - (ss[k].size : Nat) < 0 := by omega
          clear hst
          go_wp2
          go_ret
          exact ⟨rfl, rfl⟩
      · have hkl : k = ss.length := by omega
        subst hkl
        rw [List.take_length] at hle
        omega

/-- The cells of a row of which the first k are written. -/
def filled (xs : List Value) (k : Nat) (z : Value) : Array Value := (xs.take k ++ List.replicate (xs.length - k) z).toArray
theorem filled_zero (xs : List Value) (z : Value) : filled xs 0 z = madeCells #[z] xs.length := by
  apply Array.ext'
  rw [toList_madeCells_one]
  simp [filled]
theorem filled_step (xs : List Value) (k : Nat) (z : Value) (h : k < xs.length) : (filled xs k z).setIfInBounds k xs[k] = filled xs (k + 1) z := by
  unfold filled
  rw [List.setIfInBounds_toArray, List.set_append_right _ _ (by simp; omega)]
  have e : k - (xs.take k).length = 0 := by simp; omega
  rw [e, show xs.length - k = (xs.length - (k + 1)) + 1 by omega, List.replicate_succ, List.set_cons_zero, List.take_succ_eq_append_getElem h, List.append_assoc]
  rfl
theorem filled_full (xs : List Value) (z : Value) : filled xs xs.length z = xs.toArray := by simp [filled]
theorem filled_at (xs : List Value) (k : Nat) (z : Value) (h : k < xs.length) : (filled xs k z)[k]? = some z := by
  unfold filled
  rw [List.getElem?_toArray, List.getElem?_append_right (by simp; omega)]
  have e : k - (xs.take k).length = 0 := by simp; omega
  rw [e, List.getElem?_replicate]
  simp; omega

theorem infoStr : (Try.prog.info? 9).map (fun i => (i.zero, i.size, i.bytes)) = some (some (.string ByteArray.empty), 1, 16) := by kernel_rfl

/-- A COPY: a new row of the same strings. -/
def CopyOf (ss : List ByteArray) (w : World) (e : Ending) (w' : World) : Prop :=
  ∃ g : Nat, e = .returned (.slice (some ⟨g, 0, none⟩) ss.length ss.length) ∧ w.heap.size ≤ g ∧ Whole w' g 9 (ss.map Value.string).toArray ∧ Below w.heap.size w w'

set_option maxRecDepth 100000 in
set_option maxHeartbeats 400000 in
theorem toStrings (A : Option Addr) (c : Nat) (ss : List ByteArray) (w : World) (hA : Strs w A ss) (hn : ss.length ≤ 4294967296) :
    Calls Try.prog 57 #[.slice A ss.length c] w (CopyOf ss w) := by
  obtain ⟨i0, hi, hz0, hz1, hz2⟩ := info_parts infoStr
  have hlen : (ss.map Value.string).length = ss.length := by simp
  have km := fun (w : World) => run_make (P := Try.prog) w 35 9 i0 (.string ByteArray.empty) Try.underlying35 hi hz0 .i64 .i64 (ss.length : Int) (ss.length : Int) (by omega) (by omega) (by rw [hz2]; omega) (by omega)
  simp only [Int.toNat_natCast, hz1, Nat.mul_one] at km
  have e0 : madeCells (Value.string ByteArray.empty).cells ss.length = filled (ss.map Value.string) 0 (.string ByteArray.empty) := by rw [filled_zero, hlen]; rfl
  rw [e0] at km
  have HA := Lib.hid hA
  have HL := Lib.hid hlen
  clear hA hlen e0 hi hz0 hz1 hz2
  go_enter Try.func57, Try.ntmps57
  go_wp2
  clear km
  have hb0 : Below w.heap.size w (w.alloc (.cells (filled (ss.map Value.string) 0 (.string ByteArray.empty)) 9)) := (Below.refl _ _).alloc (Nat.le_refl _) _
  have hw0 := Whole.new w 9 (filled (ss.map Value.string) 0 (.string ByteArray.empty))
  go_loopw [4] (fun i wr => ∃ k : Nat, k ≤ ss.length ∧ i = .int .i64 k ∧ Whole wr w.heap.size 9 (filled (ss.map Value.string) k (.string ByteArray.empty)) ∧ Below w.heap.size w wr) (fun i _ => ss.length - (Go.RowKit.intOf i).toNat)
  case atStart => exact ⟨0, Nat.zero_le _, rfl, hw0, hb0⟩
  case round =>
    obtain ⟨k, hk, rfl, hw, hb⟩ := hrel
    clear hw0 hb0
    by_cases hlt : k < ss.length
    · obtain ⟨g, o, rfl, hc⟩ := (HA.out.below hb).at_ hlt
      have hfl : k < (ss.map Value.string).length := by rw [HL.out]; exact hlt
      have hcw : wr.cell? ⟨w.heap.size, k, none⟩ = some (.string ByteArray.empty) := by rw [hw.cell, filled_at _ _ _ hfl]
      have hfz : wr.frozen? ⟨w.heap.size, k, none⟩ = false := hw.frozen k
      have hst := filled_step (ss.map Value.string) k (.string ByteArray.empty) hfl
      rw [List.getElem_map] at hst
      have HS := Lib.hid hst
      clear hst
      go_wp2
      go_roundw
      case rel => exact ⟨k + 1, by omega, by go_num, by rw [← HS.out]; exact hw.set_ _ _, hb.setCell (by simp) _⟩
      case measure => simp [Go.RowKit.intOf]; omega
    · have hkl : k = ss.length := by omega
      subst hkl
      have hfull : filled (ss.map Value.string) ss.length (.string ByteArray.empty) = (ss.map Value.string).toArray := by rw [← HL.out]; exact filled_full _ _
      rw [hfull] at hw
      clear hfull
      go_wp2
      go_ret
      exact ⟨_, rfl, Nat.le_refl _, hw, hb⟩
end Go.Proofs.Ytkiofeiinecpiaa
namespace Go.Proofs.Ytkiofeiinecpiaa
open Go.RowKit Go.Lib

/-- A row of n strings in block g that may be written. -/
def RowAt (w : World) (A : Option Addr) (g n : Nat) : Prop := n = 0 ∨ (A = some ⟨g, 0, none⟩ ∧ g < w.heap.size ∧ ∀ j, j < n → (∃ s, w.cell? ⟨g, j, none⟩ = some (.string s)) ∧ w.frozen? ⟨g, j, none⟩ = false)
/-- The row bears its marks. -/
def MarkedAt (w : World) (A : Option Addr) (g k n : Nat) : Prop := n = 0 ∨ (A = some ⟨g, 0, none⟩ ∧ g < w.heap.size ∧ ∀ j, j < n → w.cell? ⟨g, j, none⟩ = some (.string (mark (k + j))))
theorem RowAt.keep {w w' : World} {A : Option Addr} {g n : Nat} (h : RowAt w A g n) (hsz : w.heap.size ≤ w'.heap.size) (hb : g < w.heap.size → w'.heap[g]? = w.heap[g]?) : RowAt w' A g n := by
  rcases h with h | ⟨rfl, hg, hc⟩
  · exact .inl h
  · refine .inr ⟨rfl, by omega, fun j hj => ⟨?_, ?_⟩⟩
    · obtain ⟨s, hs⟩ := (hc j hj).1
      exact ⟨s, (World.cell?_of_block (a := ⟨g, j, none⟩) (hb hg)).trans hs⟩
    · have hf := (hc j hj).2
      unfold World.frozen? at hf ⊢
      rw [hb hg]
      exact hf
theorem RowAt.below {w w' : World} {A : Option Addr} {g n : Nat} (h : RowAt w A g n) (hb : Below w.heap.size w w') : RowAt w' A g n := h.keep hb.size (hb.block g)
theorem RowAt.but {w w' : World} {A : Option Addr} {g k n : Nat} (h : RowAt w A g n) (hb : But k w w') (hne : g ≠ k) : RowAt w' A g n := h.keep hb.size fun hg => hb.block g hg hne
theorem MarkedAt.keep {w w' : World} {A : Option Addr} {g k n : Nat} (h : MarkedAt w A g k n) (hsz : w.heap.size ≤ w'.heap.size) (hb : g < w.heap.size → w'.heap[g]? = w.heap[g]?) : MarkedAt w' A g k n := by
  rcases h with h | ⟨rfl, hg, hc⟩
  · exact .inl h
  · exact .inr ⟨rfl, by omega, fun j hj => (World.cell?_of_block (a := ⟨g, j, none⟩) (hb hg)).trans (hc j hj)⟩
theorem MarkedAt.below {w w' : World} {A : Option Addr} {g k n : Nat} (h : MarkedAt w A g k n) (hb : Below w.heap.size w w') : MarkedAt w' A g k n := h.keep hb.size (hb.block g)
theorem Whole.row {w : World} {g : Nat} {t : TypeId} {ss : List ByteArray} (h : Whole w g t (ss.map Value.string).toArray) : RowAt w (some ⟨g, 0, none⟩) g ss.length :=
  .inr ⟨rfl, h.lt, fun j hj => ⟨⟨ss[j], by rw [h.cell]; simp [hj]⟩, h.frozen j⟩⟩
theorem Strs.but {w w' : World} {A : Option Addr} {ss : List ByteArray} {g : Nat} (h : Strs w A ss) (hb : But g w w') (hne : ∀ ad, A = some ad → ad.block ≠ g) : Strs w' A ss := by
  rcases h with h | ⟨b, o, rfl, hg, hc⟩
  · exact .inl h
  · exact .inr ⟨b, o, rfl, Nat.lt_of_lt_of_le hg hb.size, fun j s hj => (World.cell?_of_block (a := ⟨b, o + j, none⟩) (hb.block b hg (hne _ rfl))).trans (hc j s hj)⟩
/-- What an owned row of strings is: its strings, its block. -/
theorem own_row {w : World} {B : Nat} {e : TypeId} {V : Value} {d : List ByteArray} (h : w.ownsRow B e 1 V d.length (d.map Value.string)) :
    ∃ A c g, V = .slice A d.length c ∧ Strs w A d ∧ RowAt w A g d.length ∧ B ≤ g ∧ (∀ ad, A = some ad → ad.block = g ∧ g < w.heap.size) := by
  rcases h.2 with ⟨rfl, h0⟩ | ⟨g, cap, cur, rfl, hBg, hblk, _⟩
  · exact ⟨none, 0, B, by rw [h0], .inl (List.eq_nil_of_length_eq_zero h0), .inl h0, Nat.le_refl _, fun ad e => by cases e⟩
  · have hlt := (h.lt g rfl).2
    have hc : ∀ j, j < d.length → w.cell? ⟨g, j, none⟩ = (d.map Value.string)[j]? := fun j hj => World.ownsRow.cellAt h j (by omega)
    refine ⟨_, cap, g, rfl, .inr ⟨g, 0, rfl, hlt, fun j s hj => ?_⟩, .inr ⟨rfl, hlt, fun j hj => ⟨⟨d[j], ?_⟩, ?_⟩⟩, hBg, fun ad e => by injection e with e; subst e; exact ⟨rfl, hlt⟩⟩
    · have hjl : j < d.length := by
        rcases Nat.lt_or_ge j d.length with h | h
        · exact h
        · rw [List.getElem?_eq_none h] at hj; cases hj
      rw [Nat.zero_add, hc j hjl, List.getElem?_map, hj]
      rfl
    · rw [hc j hj]; simp [hj]
    · simp [World.frozen?, hblk]

set_option maxRecDepth 100000 in
set_option maxHeartbeats 1000000 in
theorem markS (A : Option Addr) (g n k0 c : Nat) (w : World) (h : RowAt w A g n) (h0 : 0 < k0) (h1 : k0 ≤ 8589934592) (hn : n ≤ 8589934592) :
    Calls Try.prog 59 #[.slice A n c, .int .i64 k0] w fun e w' => e = .returned (.int .i64 (k0 + n : Nat)) ∧ MarkedAt w' A g k0 n ∧ But g w w' := by
  have HR := Lib.hid h
  clear h
  go_enter Try.func59, Try.ntmps59
  go_wp2
  go_loopw [1, 5] (fun q i wr => ∃ j : Nat, j ≤ n ∧ i = .int .i64 j ∧ q = .int .i64 (k0 + j : Nat) ∧ RowAt wr A g n ∧ MarkedAt wr A g k0 j ∧ But g w wr) (fun _ i _ => n - (Go.RowKit.intOf i).toNat)
  case atStart => exact ⟨0, Nat.zero_le _, rfl, rfl, HR.out, .inl rfl, But.refl _ _⟩
  case round =>
    clear HR
    obtain ⟨j, hj, rfl, rfl, hr, hm, hb⟩ := hrel
    by_cases hlt : j < n
    · have hr' := hr
      rcases hr' with h | ⟨rfl, hg, hc⟩
      · omega
      · have HM := Lib.hid hm
        have HR := Lib.hid hr
        have hc' := hc j hlt
        clear hm hr hc
        go_wp2_with fail
        refine (markText (k0 + j) _ (by omega) (by omega)).mono ?_
        rintro e w1 ⟨rfl, hb1⟩
        obtain ⟨⟨s, hs⟩, hf⟩ := hc'
        have hc1 : w1.cell? ⟨g, j, none⟩ = some (.string s) := (hb1.cell (p := ⟨g, j, none⟩) hg).trans hs
        have hf1 : w1.frozen? ⟨g, j, none⟩ = false := (hb1.frozen (p := ⟨g, j, none⟩) hg).trans hf
        have hb2 : But g w w1 := hb.trans (But.of_below hb1)
        have hr1 := HR.out.below hb1
        have hm1 := HM.out.below hb1
        have hr2 : RowAt (w1.setCell ⟨g, j, none⟩ (.string (mark (k0 + j)))) (some ⟨g, 0, none⟩) g n := by
          rcases hr1 with h | ⟨_, hg1, hc1'⟩
          · exact .inl h
          · refine .inr ⟨rfl, by simpa [World.setCell] using hg1, fun i hi => ⟨?_, by rw [World.frozen?_setCell]; exact (hc1' i hi).2⟩⟩
            by_cases hij : i = j
            · subst hij; exact ⟨_, World.cell?_setCell_same _ _ _ hc1⟩
            · obtain ⟨s', hs'⟩ := (hc1' i hi).1
              exact ⟨s', (World.cell?_setCell_other _ _ _ _ (fun e => hij (by injection e with _ e; exact e.symm))).trans hs'⟩
        have hm2 : MarkedAt (w1.setCell ⟨g, j, none⟩ (.string (mark (k0 + j)))) (some ⟨g, 0, none⟩) g k0 (j + 1) := by
          refine .inr ⟨rfl, by have := hb1.size; simp [World.setCell]; omega, fun i hi => ?_⟩
          by_cases hij : i = j
          · subst hij; exact World.cell?_setCell_same _ _ _ hc1
          · rcases hm1 with h | ⟨_, _, hcm⟩
            · omega
            · exact (World.cell?_setCell_other _ _ _ _ (fun e => hij (by injection e with _ e; exact e.symm))).trans (hcm i (by omega))
        have HR2 := Lib.hid hr2
        have HM2 := Lib.hid hm2
        clear hr1 hr2 hm1 hm2 HM HR
        go_wp2
        go_roundw
        case rel => exact ⟨j + 1, by omega, by go_num, int_of (by omega), HR2.out, HM2.out, hb2.trans (But.set_ _ _ _ _)⟩
        case measure => simp [Go.RowKit.intOf]; omega
    · have hjl : j = n := by omega
      subst hjl
      have HM := Lib.hid hm
      clear hm hr
      go_wp2
      go_ret
      exact ⟨rfl, HM.out, hb⟩

set_option maxRecDepth 100000 in
set_option maxHeartbeats 400000 in
theorem heldS (A : Option Addr) (g n k0 c : Nat) (w : World) (h : MarkedAt w A g k0 n) (h0 : 0 < k0) (h1 : k0 ≤ 8589934592) (hlen : n ≤ 8589934592) :
    Calls Try.prog 61 #[.slice A n c, .int .i64 k0] w fun e w' => e = .returned (.int .i64 (k0 + n : Nat)) ∧ Below w.heap.size w w' := by
  have HW := Lib.hid h
  clear h
  go_enter Try.func61, Try.ntmps61
  go_wp2
  go_loopw [1, 5] (fun q i wr => ∃ j : Nat, j ≤ n ∧ i = .int .i64 j ∧ q = .int .i64 (k0 + j : Nat) ∧ Below w.heap.size w wr) (fun _ i _ => n - (Go.RowKit.intOf i).toNat)
  case atStart => exact ⟨0, Nat.zero_le _, rfl, rfl, Below.refl _ _⟩
  case round =>
    obtain ⟨j, hj, rfl, rfl, hb⟩ := hrel
    by_cases hlt : j < n
    · rcases HW.out.below hb with h | ⟨rfl, hg, hcs⟩
      · omega
      · have hc := hcs j hlt
        have cM : ∀ d os, Calls Try.prog 77 #[.int .i64 (k0 + j : Nat)] (Go.Sort.grow (redrawn wr d) os) fun e w'' => e = .returned (.string (mark (k0 + j))) ∧ ∃ p : Regrown, w'' = Go.Sort.grow (redrawn wr p.d) p.os := fun d os => Calls.regrown_of (markText (k0 + j) _ (by omega) (by omega))
        have kc := cell_regrown hc
        have hj0 : (0 : Int) ≤ j := by omega
        clear hcs
        go_wp2
        refine wp_region_quiet_below (by kernel_rfl) (by kernel_rfl) ?_
        repeat (quiet_step (exact cM _ _))
        refine wpQuiet_nil ?_
        intro _ hw'
        obtain ⟨⟨dq, osq⟩, hw''⟩ := hw'
        subst hw''
        have hb3 := hb.trans ((below_regrown wr dq osq).mono hb.size)
        clear cM kc
        go_wp2
        go_roundw
        case rel => exact ⟨j + 1, by omega, by go_num, int_of (by omega), hb3⟩
        case measure => simp [Go.RowKit.intOf]; omega
    · go_wp2
      go_ret
      have hjl : j = n := by omega
      subst hjl
      exact ⟨rfl, hb⟩
end Go.Proofs.Ytkiofeiinecpiaa
namespace Go.Proofs.Ytkiofeiinecpiaa
open Go.RowKit

theorem name_low {s : ByteArray} {k : Nat} (h : k < s.size) (hc : goodAt k s[k] = true) : Utf8.decode s k = (s[k].toNat, 1) :=
  decode_ascii s k h (by unfold goodAt letterR digitR at hc; simp at hc; omega)
theorem name_bad {s : ByteArray} {k : Nat} (h : k < s.size) (hc : goodAt k s[k] = false) : letterR ((Utf8.decode s k).1 : Int) = false ∧ (k = 0 ∨ digitR ((Utf8.decode s k).1 : Int) = false) := by
  by_cases ha : s[k].toNat < 128
  · rw [decode_ascii s k h ha]
    simp only [goodAt, Bool.or_eq_false_iff, Bool.and_eq_false_iff] at hc
    refine ⟨hc.1, ?_⟩
    rcases hc.2 with h0 | h0
    · left; simpa using h0
    · right; exact h0
  · have := (decode_high s k h (by omega)).1
    unfold letterR digitR
    simp
    omega

set_option maxRecDepth 100000 in
set_option maxHeartbeats 2000000 in
theorem implName (s : ByteArray) (w : World) (hs : s.size ≤ 9223372036854775807) : Calls Try.prog 81 #[.string s] w fun e w' => e = .returned (.bool (okName s)) ∧ Below w.heap.size w w' := by
  by_cases h1 : 1 ≤ s.size ∧ s.size ≤ 8
  · have hall := @name_ok s h1
    have HA := Lib.hid hall
    clear hall
    obtain ⟨h2, h3⟩ := h1
    go_enter Try.func81, Try.ntmps81
    go_wp2
    go_loopw [] (fun wr => ∃ k : Nat, k ≤ s.size ∧ goods s k = true ∧ wr = w.iter s k) (fun wr => s.size - wr.iterPos w.heap.size)
    case atStart => exact ⟨0, Nat.zero_le _, rfl, rfl⟩
    case round =>
      obtain ⟨k, hk, ha, rfl⟩ := hrel
      have HT := Lib.hid ha
      clear ha
      have hb : ∀ j, Below w.heap.size w (w.iter s j) := fun j => (Below.refl _ _).alloc (Nat.le_refl _) _
      by_cases hlt : k < s.size
      · cases hc : goodAt k s[k] with
        | true =>
          have hst := goods_succ hlt
          rw [HT.out, hc] at hst
          have hd := name_low hlt hc
          have hnx := fun ty => run_next_any (P := Try.prog) w s k ty hlt
          rw [hd] at hnx
          have HS := Lib.hid hst
          clear hst hd
          cases hl : letterR (s[k].toNat : Int) with
          | true =>
            have HL := Lib.hid hl
            clear hc hl
            go_wp2_with fail
            refine (letterIs _ _).mono ?_
            rintro e w1 ⟨rfl, rfl⟩
            rw [HL.out]
            go_wp2
            go_roundw
            case rel => exact ⟨k + 1, by omega, HS.out, rfl⟩
            case measure => simp; omega
          | false =>
            rw [goodAt, hl, Bool.false_or, Bool.and_eq_true] at hc
            have q0 : ((k : Int) == 0) = false := by have := hc.1; simp at this ⊢; omega
            have HL := Lib.hid hl
            have HC := Lib.hid hc.2
            clear hc hl
            go_wp2_with fail
            refine (letterIs _ _).mono ?_
            rintro e w1 ⟨rfl, rfl⟩
            rw [HL.out]
            go_wp2_with fail
            refine (digitIs _ _).mono ?_
            rintro e w1 ⟨rfl, rfl⟩
            rw [HC.out]
            go_wp2
            go_roundw
            case rel => exact ⟨k + 1, by omega, HS.out, rfl⟩
            case measure => simp; omega
        | false =>
          have hno := goods_bad hlt hc
          have hd := name_bad hlt hc
          have hnx := fun ty => run_next_any (P := Try.prog) w s k ty hlt
          obtain ⟨hd1, hd2⟩ := hd
          have HN := Lib.hid hno
          have HD := Lib.hid hd1
          clear hno hd1 hc
          by_cases h0 : k = 0
          · clear hd2
            subst h0
            go_wp2_with fail
            refine (letterIs _ _).mono ?_
            rintro e w1 ⟨rfl, rfl⟩
            rw [HD.out]
            go_wp2
            go_ret
            exact ⟨congrArg (fun b => Ending.returned (.bool b)) HN.out.symm, hb _⟩
          · have hd3 := hd2.resolve_left h0
            have q0 : ((k : Int) == 0) = false := by simp; omega
            have HE := Lib.hid hd3
            clear hd2 hd3
            go_wp2_with fail
            refine (letterIs _ _).mono ?_
            rintro e w1 ⟨rfl, rfl⟩
            rw [HD.out]
            go_wp2_with fail
            refine (digitIs _ _).mono ?_
            rintro e w1 ⟨rfl, rfl⟩
            rw [HE.out]
            go_wp2
            go_ret
            exact ⟨congrArg (fun b => Ending.returned (.bool b)) HN.out.symm, hb _⟩
      · have hkl : k = s.size := by omega
        subst hkl
        have hok := HA.out HT.out
        have HK := Lib.hid hok
        clear hok
        have hnx := fun ty => run_next_end (P := Try.prog) w s s.size ty (Nat.lt_irrefl _)
        go_wp2_with fail
        refine (implReserved s _ hs).mono ?_
        rintro e w1 ⟨rfl, hb1⟩
        have hb2 := (hb s.size).trans (hb1.mono (hb s.size).size)
        go_wp2
        go_ret
        exact ⟨congrArg (fun b => Ending.returned (.bool b)) HK.out.symm, hb2⟩
  · have hno := name_size h1
    have HN := Lib.hid hno
    clear hno
    by_cases h2 : s.size < 1
    · go_enter Try.func81, Try.ntmps81
      go_wp2
      go_ret
      exact ⟨congrArg (fun b => Ending.returned (.bool b)) HN.out.symm, Below.refl _ _⟩
    · have h3 : 8 < s.size := by omega
      clear h1
      go_enter Try.func81, Try.ntmps81
      go_wp2
      go_ret
      exact ⟨congrArg (fun b => Ending.returned (.bool b)) HN.out.symm, Below.refl _ _⟩
end Go.Proofs.Ytkiofeiinecpiaa
namespace Go.Proofs.Ytkiofeiinecpiaa
open Go.RowKit

/-- What a round keeps: what lay below n₀, and the iterator's own blocks. -/
structure KeepsM (n₀ : Nat) (M : Nat → Prop) (W W' : World) : Prop where
  below : Below n₀ W W'
  own : ∀ b, M b → W'.heap[b]? = W.heap[b]?
theorem KeepsM.refl (n₀ : Nat) (M : Nat → Prop) (W : World) : KeepsM n₀ M W W := ⟨Below.refl _ _, fun _ _ => rfl⟩
theorem KeepsM.trans {n₀ : Nat} {M : Nat → Prop} {A B C : World} (h : KeepsM n₀ M A B) (k : KeepsM n₀ M B C) : KeepsM n₀ M A C := ⟨h.below.trans k.below, fun b hb => (k.own b hb).trans (h.own b hb)⟩
theorem KeepsM.putObj {n₀ : Nat} {M : Nat → Prop} {W : World} {l : Nat} {o' : Obj} (hn : n₀ ≤ l) (hl : l < W.heap.size) (hM : ¬ M l) : KeepsM n₀ M W (W.putObj l o') :=
  ⟨(Below.refl n₀ W).grown (grownBy_putObj' W l o') (by omega) (fun k e => by cases e; exact hn), fun b hb => World.putObj_heap_other (fun e => hM (e ▸ hb))⟩
theorem KeepsM.alloc {n₀ : Nat} {M : Nat → Prop} {W : World} (hn : n₀ ≤ W.heap.size) (hM : ∀ b, M b → b < W.heap.size) (o : Obj) : KeepsM n₀ M W (W.alloc o) :=
  ⟨(Below.refl n₀ W).alloc hn o, fun b hb => Below.heap_alloc W o b (hM b hb)⟩
theorem KeepsM.setCell {n₀ : Nat} {M : Nat → Prop} {W : World} {b : Nat} {o : Nat} (hn : n₀ ≤ b) (hM : ¬ M b) (v : Value) : KeepsM n₀ M W (W.setCell ⟨b, o, none⟩ v) :=
  ⟨(Below.refl n₀ W).setCell (p := ⟨b, o, none⟩) hn v, fun k hk => Below.heap_setCell W _ v k (fun e => hM (by rw [← show k = b from e]; exact hk))⟩
theorem KeepsM.grown {n₀ : Nat} {M : Nat → Prop} {W W' : World} {row : Option Nat} (hg : W.grownBy W' row) (hn : n₀ ≤ W.heap.size) (hM : ∀ b, M b → b < W.heap.size) (hr : ∀ k, row = some k → n₀ ≤ k ∧ ¬ M k) : KeepsM n₀ M W W' :=
  ⟨(Below.refl n₀ W).grown hg hn (fun k e => (hr k e).1), fun b hb => hg.block b (hM b hb) (fun e => (hr b e.symm).2 hb)⟩
theorem KeepsM.of_below {n₀ : Nat} {M : Nat → Prop} {W W' : World} (hb : Below W.heap.size W W') (hn : n₀ ≤ W.heap.size) (hM : ∀ b, M b → b < W.heap.size) : KeepsM n₀ M W W' :=
  ⟨hb.mono hn, fun b hb' => hb.block b (hM b hb')⟩
theorem grown_none {A B : World} (h : Below A.heap.size A B) : A.grownBy B none := ⟨h.os, h.tape, h.output, h.size, fun k hk _ => h.block k hk⟩
theorem grownBy_setCell'' (W : World) (b o : Nat) (v : Value) : W.grownBy (W.setCell ⟨b, o, none⟩ v) (some b) :=
  ⟨rfl, rfl, rfl, by simp, fun k _ hk => Below.heap_setCell _ _ _ k (fun e => hk (by rw [e]))⟩
theorem KeepsFrom.of_below {B : Nat} {W W' : World} (hb : Below W.heap.size W W') : KeepsFrom B W W' :=
  ⟨hb.size, fun k _ _ hk _ => (hb.block k (Array.getElem?_eq_some_iff.1 hk).1).trans hk⟩

/-- THE ITERATOR's CONTRACT: J and Jx are the caller's; M: the blocks that the iterator has made; Rd: those that it only reads. -/
def SeqM {α : Type} (F : Fence) (n : Nat) (P : Program) (g : Nat) (lb : Array Value) (encs : α → Array Value) (Ok : List α → α → Prop) (S : List α → Prop) (n₀ : Nat) (Rd : Nat → Prop) (w : World) : Prop :=
  ∀ (l : Nat) (J : (Nat → Prop) → List α → World → Prop) (Jx : List α → World → Prop) (W : World), Below w.heap.size w W →
    (∀ M s A B row, J M s A → A.grownBy B row → (∀ r, row = some r → M r) → J (fun b => M b ∨ (A.heap.size ≤ b ∧ b < B.heap.size)) s B) →
    (∀ M pre x W1, J M pre W1 → Ok pre x → YieldAt F (n - 1) P l (encs x) W1 fun e W' =>
      (e = .returned (.bool true) ∧ J M (pre ++ [x]) W' ∧ KeepsM n₀ (fun b => M b ∨ Rd b) W1 W') ∨ (e = .returned (.bool false) ∧ Jx (pre ++ [x]) W')) →
    J (fun _ => False) [] W →
    CallsIn F n P g (#[.func (.yield l) #[] #[]] ++ lb) W fun e W' => (∃ v, e = .returned v) ∧ ((∃ M xs, S xs ∧ J M xs W') ∨ (∃ pre, Jx pre W'))

/-- THE CALLER's INVARIANT abides the iterator's steps, and the turns of what is no cells, from B on. -/
def OwnM {β : Type} (B : Nat) (I : (Nat → Prop) → β → World → Prop) : Prop :=
  ∀ M M' s A A' row, I M s A → A.grownBy A' row → (∀ r, row = some r → B ≤ r ∧ (M r ∨ ∃ o : Obj, A.heap[r]? = some o ∧ o.isCells = false)) → (∀ b, M' b → M b ∨ A.heap.size ≤ b) → I M' s A'
theorem OwnM.and {β : Type} {B : Nat} {I I' : (Nat → Prop) → β → World → Prop} (h : OwnM B I) (h' : OwnM B I') : OwnM B (fun M s W => I M s W ∧ I' M s W) :=
  fun M M' s A A' row hs hg hr hM => ⟨h M M' s A A' row hs.1 hg hr hM, h' M M' s A A' row hs.2 hg hr hM⟩
theorem OwnM.from {β : Type} {B : Nat} {I : (Nat → Prop) → β → World → Prop} (h : OwnM B I) (M : Nat → Prop) : OwnFrom B (I M) :=
  fun s A A' row hs hg hr => h M M s A A' row hs hg (fun r e => ⟨(hr r e).1, .inr (hr r e).2⟩) (fun _ hb => .inl hb)
theorem ownM_pure {β : Type} (B : Nat) (p : β → Prop) : OwnM B (fun _ s (_ : World) => p s) := fun _ _ _ _ _ _ hs _ _ _ => hs
theorem ownM_below {β : Type} {B n₀ : Nat} {w : World} (hn : n₀ ≤ B) (hs : n₀ ≤ w.heap.size) : OwnM B (fun _ (_ : β) W => Below n₀ w W) :=
  fun _ _ _ A A' row h hg hr _ => h.grown hg (by have := h.size; omega) (fun k e => by have := (hr k e).1; omega)
theorem ownM_boxed {β : Type} {B Bx : Nat} (t : TypeId) (f : β → Value) (hx : Bx < B) : OwnM B (fun _ s W => Boxed W Bx t (f s)) :=
  fun _ _ _ _ _ _ hs hg hr _ => hs.kept hg (fun e => by have := (hr _ e.symm).1; omega)
/-- A box that holds a slice with memory of its own, none of it the iterator's. -/
theorem ownM_row {β : Type} (n₀ : Nat) {B Bx : Nat} (t e : TypeId) (size : Nat) (k : β → Nat) (f : β → List Value) (G : β → Value → Prop) (hx : Bx < B) :
    OwnM B (fun M s W => ∃ v, Boxed W Bx t v ∧ W.ownsRow n₀ e size v (k s) (f s) ∧ (∀ b, v.ownBlock = some b → ¬ M b) ∧ G s v) := by
  rintro M M' s A A' row ⟨v, hv, hr, hn, hG⟩ hg hrow hM
  refine ⟨v, hv.kept hg (fun e' => by have := (hrow _ e'.symm).1; omega), hr.kept hg ?_, fun b hb h' => ?_, hG⟩
  · rcases hr.2 with ⟨rfl, _⟩ | ⟨g, cap, cur, rfl, _, hgb, _⟩
    · exact .inl rfl
    · refine .inr fun e' => ?_
      have e2 : row = some g := by simpa [Value.ownBlock] using e'.symm
      rcases (hrow g e2).2 with h | ⟨o, ho, hc⟩
      · exact hn g rfl h
      · rw [hgb] at ho; cases ho; cases hc
  · rcases hM b h' with h | h
    · exact hn b hb h
    · have := (hr.lt b hb).2; omega

theorem boxed_set_int {W : World} {B : Nat} {t : TypeId} {v : Value} {z z' : Int} (h : Boxed W B t v) (e : z = z') : Boxed (W.setCell ⟨B, 0, none⟩ (.int .i64 z)) B t (.int .i64 z') := e ▸ h.set _
theorem whole_kept {W W' : World} {row : Option Nat} {B : Nat} {t : TypeId} {cs : Array Value} (h : Whole W B t cs) (hg : W.grownBy W' row) (hr : ∀ r, row = some r → ∃ o : Obj, W.heap[r]? = some o ∧ o.isCells = false) : Whole W' B t cs :=
  (hg.block B h.lt (fun e => by obtain ⟨o, ho, hc⟩ := hr B e.symm; rw [show W.heap[B]? = _ from h] at ho; cases ho; cases hc)).trans h
/-- A new block of the round's. -/
theorem OwnM.alloc_ {β : Type} {B : Nat} {I : (Nat → Prop) → β → World → Prop} (h : OwnM B I) {M : Nat → Prop} {s : β} {W : World} {o : Obj} (hs : I M s W) (_hM : ∀ b, M b → B < b) : I M s (W.alloc o) :=
  h M M s W _ none hs (World.grownBy_alloc W o none) (fun r e => by cases e) (fun _ hb => .inl hb)

/-- HOW THE BODY OF A ROUND MAY BE LEFT. -/
def ownPostM {α : Type} (B n₀ : Nat) (Rd : Nat → Prop) (I : (Nat → Prop) → List α → World → Prop) (Ix : Code → List α → World → Prop) (M : Nat → Prop) (xs : List α) (W : World) : Exit → Act → World → Prop
  | .normal, _, W' => KeepsFrom B W W' ∧ KeepsM n₀ (fun b => M b ∨ Rd b) W W' ∧ I M xs W'
  | .ret, _, W' => KeepsFrom B W W' ∧ Ix .ret xs W'
  | .exit id, _, W' => KeepsFrom B W W' ∧ Ix (.exit id) xs W'
  | .goto t, _, W' => KeepsFrom B W W' ∧ Ix (.goto t) xs W'
  | .panic _, _, _ => False
  | .outgrown, _, _ => False

variable {F : Fence} {n : Nat} {P : Program}

theorem wpIn_rangeFunc_ownM {α : Type} {g : Operand} {ps : Array Tmp} {assign body : Code} {Q : Exit → Act → World → Prop} {a : Act} {w : World}
    (hro : F.round = none) (h1 : 1 ≤ n) {gf : Nat} {lb : Array Value} (hg : a.eval g = .func (.func gf) #[] lb) (hFg : F.fn gf) (eg : ∀ args w, (callFunc gf args).run P w = .ok (.enter gf args) w)
    {encs : α → Array Value} {Ok : List α → α → Prop} {S : List α → Prop} {n₀ : Nat} {Rd : Nat → Prop} {w0 : World} (hseq : SeqM F (n - 1) P gf lb encs Ok S n₀ Rd w0) (hRd : ∀ b, Rd b → b < w.heap.size)
    (hb0 : Below w0.heap.size w0 w) (hn0 : n₀ ≤ w.heap.size) (hps : ∀ x, (encs x).size = ps.size)
    (I : (Nat → Prop) → List α → World → Prop) (Ix : Code → List α → World → Prop) (hI : OwnM w.heap.size I) (hIx : ∀ c, OwnFrom w.heap.size (Ix c)) (h0 : ∀ M : Nat → Prop, (∀ b, M b → w.heap.size ≤ b) → I M [] w) (Ax : α → Act → World → Prop) (hAx : ∀ x a', OwnFrom w.heap.size (fun (_ : Unit) W => Ax x a' W))
    (hassign : ∀ (l : Nat) (M : Nat → Prop) (pre : List α) (x : α) (W : World) (K : Act → World → Prop), (∀ b, M b → w.heap.size < b) → (∀ b, M b ∨ Rd b → b < W.heap.size) → w.heap.size + 1 < W.heap.size → I M pre W → Ok pre x → (∀ a' W', KeepsFrom w.heap.size W W' → KeepsM n₀ (fun b => M b ∨ Rd b) W W' → I M pre W' → Ax x a' W' → K a' W') →
      assign.wpIn (F.inRound l) (n - 1 - 1) P (Exit.then K (fun _ _ _ => False)) { tmps := (ps.zip (encs x)).foldl (fun t (p, v) => t.setIfInBounds p v) a.tmps, defers := [] } W)
    (hbody : ∀ (l : Nat) (M : Nat → Prop) (pre : List α) (x : α) (a' : Act) (W : World), (∀ b, M b → w.heap.size < b) → (∀ b, M b ∨ Rd b → b < W.heap.size) → w.heap.size + 1 < W.heap.size → I M pre W → Ax x a' W → Ok pre x → body.wpIn (F.inRound l) (n - 1 - 1) P (ownPostM w.heap.size n₀ Rd I Ix M (pre ++ [x]) W) a' W)
    (hdone : ∀ (D : Nat) (M : Nat → Prop) (xs : List α) (W : World), w.heap.size ≤ D → S xs → I M xs W → W.heap[D]? = some (.deferred (some [])) → Q .normal { a with defers := { target := .collected D, args := #[] } :: a.defers } W)
    (hstop : ∀ (D : Nat) (c : Code) (pre : List α) (W : World), w.heap.size ≤ D → Ix c pre W → W.heap[D]? = some (.deferred (some [])) → c.wpIn F n P Q { a with defers := { target := .collected D, args := #[] } :: a.defers } W) :
    (Code.rangeFunc g ps assign body).wpIn F n P Q a w := by
  refine wpIn_rangeFunc ?_
  intro fn hfn
  rw [hro]
  obtain ⟨rec, hrec⟩ : ∃ rec : LoopState → Option Code → Loop, rec = fun st pe => { state := st, pending := pe, fn, tmps := a.tmps, params := ps, assign, body, defers := w.heap.size } := ⟨_, rfl⟩
  obtain ⟨W1, hW1⟩ : ∃ W1, (w.alloc (.deferred (some []))).alloc (.loop (rec .ready none)) = W1 := ⟨_, rfl⟩
  have hsz : W1.heap.size = w.heap.size + 2 := by rw [← hW1]; simp
  have hL1 : W1.heap[w.heap.size + 1]? = some (.loop (rec .ready none)) := by
    rw [← hW1]; have := World.alloc_heap_new (w.alloc (.deferred (some []))) (.loop (rec .ready none)); rwa [World.size_alloc] at this
  have hK1 : W1.heap[w.heap.size]? = some (.deferred (some [])) := by
    rw [← hW1]; exact (Below.heap_alloc _ _ _ (by simp)).trans (World.alloc_heap_new w _)
  have hI1 : I (fun _ => False) [] W1 := by
    have h := h0 (fun _ => False) (fun _ h => h.elim)
    rw [← hW1]; exact (hI.from _).alloc _ ((hI.from _).alloc _ h)
  have hb1 : Below w0.heap.size w0 W1 := by
    rw [← hW1]; exact hb0.trans ((((Below.refl _ w).alloc (Nat.le_refl _) _).alloc (by simp) _).mono hb0.size)
  refine ⟨w.heap.size + 1, [{ target := .collected w.heap.size, args := #[] }], W1, { target := .fn (.func gf) lb, args := #[.func (.yield (w.heap.size + 1)) #[] #[]] }, W1, gf,
    #[.func (.yield (w.heap.size + 1)) #[] #[]] ++ lb, W1, ?_, ?_, ?_, ?_, fun _ => h1, ?_⟩
  · rw [← hW1, hrec]; exact run_enterLoop_outer _ _ _ _ _
  · simp only [resolve, hg]
    simp [go_sem]
  · intro f' hf'; simp [Target.leads] at hf'; subst hf'; exact hFg
  · simp [invoke, go_sem, eg]
  · refine (hseq (w.heap.size + 1)
      (fun M pre W => (∀ b, M b → w.heap.size + 2 ≤ b ∧ b < W.heap.size) ∧ I M pre W ∧ W.heap[w.heap.size + 1]? = some (.loop (rec .ready none)) ∧ W.heap[w.heap.size]? = some (.deferred (some [])))
      (fun pre W => ∃ c, Ix c pre W ∧ W.heap[w.heap.size + 1]? = some (.loop (rec .done (some c))) ∧ W.heap[w.heap.size]? = some (.deferred (some [])))
      W1 hb1 ?_ ?_ ⟨fun _ h => h.elim, hI1, hL1, hK1⟩).mono ?_
    · rintro M s A B row ⟨hM, hi, hl, hk⟩ hg' hr
      have hlt : w.heap.size + 1 < A.heap.size := (Array.getElem?_eq_some_iff.1 hl).1
      have hsz' := hg'.size
      refine ⟨fun b hb => ?_, hI M _ s A B row hi hg' (fun r e => ⟨by have := (hM r (hr r e)).1; omega, .inl (hr r e)⟩) (fun b hb => hb.imp_right (fun h => h.1)), ?_, ?_⟩
      · rcases hb with hb | hb
        · have := hM b hb; omega
        · omega
      · exact (hg'.block _ hlt (fun e => by have := (hM _ (hr _ e.symm)).1; omega)).trans hl
      · exact (hg'.block _ (by omega) (fun e => by have := (hM _ (hr _ e.symm)).1; omega)).trans hk
    · rintro M pre x W ⟨hM, hi, hl, hk⟩ hok
      have hlt : w.heap.size + 1 < W.heap.size := (Array.getElem?_eq_some_iff.1 hl).1
      have hy := run_yield (P := P) (args := encs x) hl (by rw [hrec]; exact hps x)
      rw [hrec] at hy
      refine ⟨fn, _, assign, body, hy, roundIn_of_wpIn hfn (hassign _ M pre x W _ (fun b hb => by have := hM b hb; omega) (fun b hb => hb.elim (fun h => (hM b h).2) (fun h => by have := hRd b h; omega)) hlt hi hok ?_)⟩
      clear hy
      intro a' Wa hkfa hkpa hia hax
      replace hl := hkfa.same _ _ (by omega) hl rfl
      replace hk := hkfa.same _ _ (Nat.le_refl _) hk rfl
      replace hlt : w.heap.size + 1 < Wa.heap.size := (Array.getElem?_eq_some_iff.1 hl).1
      replace hM : ∀ b, M b → w.heap.size + 2 ≤ b ∧ b < Wa.heap.size := fun b hb => ⟨(hM b hb).1, by have := (hM b hb).2; have := hkfa.size; omega⟩
      replace hi := hia
      clear hia
      revert hkpa hkfa
      generalize W = Wb
      intro hkfa hkpa
      obtain ⟨W, rfl⟩ : ∃ W, W = Wa := ⟨_, rfl⟩
      refine ⟨_, run_beginRound hl (by rw [hrec]), ?_⟩
      have hl2 : (W.putObj (w.heap.size + 1) (.loop { rec .ready none with state := .busy })).heap[w.heap.size + 1]? = some (.loop { rec .ready none with state := .busy }) := World.putObj_heap_same hlt
      have hk2 : (W.putObj (w.heap.size + 1) (.loop { rec .ready none with state := .busy })).heap[w.heap.size]? = some (.deferred (some [])) := (World.putObj_heap_other (by omega)).trans hk
      have hw2 : KeepsM n₀ (fun b => M b ∨ Rd b) W (W.putObj (w.heap.size + 1) (.loop { rec .ready none with state := .busy })) := KeepsM.putObj (by omega) hlt (fun h => h.elim (fun h => by have := (hM _ h).1; omega) (fun h => by have := hRd _ h; omega))
      refine wpIn_mono (hbody _ M pre x a' _ (fun b hb => by have := hM b hb; omega) (fun b hb => by simp; exact hb.elim (fun h => (hM b h).2) (fun h => by have := hRd b h; omega)) (by simp; omega) ((hI.from M).putObj _ hi (by omega) hl rfl) ((hAx x a').putObj (s := ()) _ hax (by omega) hl rfl) hok) ?_
      have fin : ∀ (jump : Option Code) (W3 : World), KeepsFrom w.heap.size (W.putObj (w.heap.size + 1) (.loop { rec .ready none with state := .busy })) W3 →
          (Instr.endRound (w.heap.size + 1) jump).run P W3 = .ok (.bool jump.isNone) (W3.putObj (w.heap.size + 1) (.loop (rec (if jump.isNone then .ready else .done) jump))) ∧
          W3.heap[w.heap.size + 1]? = some (.loop { rec .ready none with state := .busy }) ∧
          (W3.putObj (w.heap.size + 1) (.loop (rec (if jump.isNone then .ready else .done) jump))).heap[w.heap.size + 1]? = some (.loop (rec (if jump.isNone then .ready else .done) jump)) ∧
          (W3.putObj (w.heap.size + 1) (.loop (rec (if jump.isNone then .ready else .done) jump))).heap[w.heap.size]? = some (.deferred (some [])) := fun jump W3 hk3 => by
        have hl3 := hk3.same _ _ (by omega) hl2 rfl
        have := run_endRound (P := P) jump hl3
        rw [hrec] at this ⊢
        exact ⟨this, by rw [hrec] at hl3; exact hl3, World.putObj_heap_same (Array.getElem?_eq_some_iff.1 hl3).1, (World.putObj_heap_other (by omega)).trans (hk3.same _ _ (Nat.le_refl _) hk2 rfl)⟩
      rintro e a3 W3 hp
      cases e with
      | normal =>
        obtain ⟨hk3, hkp3, hi3⟩ := hp
        obtain ⟨hr, hl3, hl4, hk4⟩ := fin none W3 hk3
        have hlt3 := (Array.getElem?_eq_some_iff.1 hl3).1
        have hsz3 := hk3.size
        simp at hsz3
        exact ⟨_, _, hr, .inl ⟨rfl, ⟨fun b hb => by have := hM b hb; simp; omega, (hI.from M).putObj _ hi3 (by omega) hl3 rfl, hl4, hk4⟩, hkpa.trans ((hw2.trans hkp3).trans (KeepsM.putObj (by omega) hlt3 (fun h => h.elim (fun h => by have := (hM _ h).1; omega) (fun h => by have := hRd _ h; omega))))⟩⟩
      | ret =>
        obtain ⟨hk3, hi3⟩ := hp
        obtain ⟨hr, hl3, hl4, hk4⟩ := fin (some .ret) W3 hk3
        exact ⟨_, _, hr, .inr ⟨rfl, .ret, (hIx _).putObj _ hi3 (by omega) hl3 rfl, hl4, hk4⟩⟩
      | exit id =>
        obtain ⟨hk3, hi3⟩ := hp
        obtain ⟨hr, hl3, hl4, hk4⟩ := fin (some (.exit id)) W3 hk3
        exact ⟨_, _, hr, .inr ⟨rfl, .exit id, (hIx _).putObj _ hi3 (by omega) hl3 rfl, hl4, hk4⟩⟩
      | goto t =>
        obtain ⟨hk3, hi3⟩ := hp
        obtain ⟨hr, hl3, hl4, hk4⟩ := fin (some (.goto t)) W3 hk3
        exact ⟨_, _, hr, .inr ⟨rfl, .goto t, (hIx _).putObj _ hi3 (by omega) hl3 rfl, hl4, hk4⟩⟩
      | panic ch => exact hp.elim
      | outgrown => exact hp.elim
    · rintro e W2 ⟨⟨v, rfl⟩, (⟨M, xs, hS, hM, hi, hl, hk⟩ | ⟨pre, c, hi, hl, hk⟩)⟩
      · exact ⟨none, _, by have := run_endLoop (P := P) hl (by rw [hrec]; simp); rw [hrec] at this; exact this, hdone _ M xs _ (Nat.le_refl _) hS ((hI.from M).putObj _ hi (by omega) hl rfl) ((World.putObj_heap_other (by omega)).trans hk)⟩
      · exact ⟨some c, _, by have := run_endLoop (P := P) hl (by rw [hrec]; simp); rw [hrec] at this; exact this, hstop _ c pre _ (Nat.le_refl _) ((hIx c).putObj _ hi (by omega) hl rfl) ((World.putObj_heap_other (by omega)).trans hk)⟩
end Go.Proofs.Ytkiofeiinecpiaa
namespace Go.Proofs.Ytkiofeiinecpiaa
open Go.RowKit

mutual
def TypeX.walk (d : Nat) : TypeX → List (Nat × TypeX)
  | .mk a b c => (d, .mk a b c) :: TypeX.walkL (d + 1) c
def TypeX.walkL (d : Nat) : List TypeX → List (Nat × TypeX)
  | [] => []
  | x :: r => x.walk d ++ TypeX.walkL d r
end
theorem TypeX.walk_eq (d : Nat) (x : TypeX) : x.walk d = (d, x) :: TypeX.walkL (d + 1) x.args_ := by cases x with | mk a b c => rw [TypeX.walk]; rfl
/-- What the lists of a stack (the top one first) have still to give. -/
def todoType : List (List TypeX) → List (Nat × TypeX)
  | [] => []
  | l :: r => TypeX.walkL r.length l ++ todoType r
theorem todoType_pop (r : List (List TypeX)) : todoType ([] :: r) = todoType r := by rw [todoType, TypeX.walkL]; rfl
theorem todoType_step (x : TypeX) (l : List TypeX) (r : List (List TypeX)) : todoType ((x :: l) :: r) = (r.length, x) :: todoType (x.args_ :: l :: r) := by
  rw [todoType, todoType, todoType, TypeX.walkL, TypeX.walk_eq, List.length_cons]
  simp
theorem todoType_start (x : TypeX) : todoType [[x]] = x.walk 0 := by simp [todoType, TypeX.walkL]
end Go.Proofs.Ytkiofeiinecpiaa
namespace Go.Proofs.Ytkiofeiinecpiaa
open Go.RowKit
theorem boxed_below {W W' : World} {B : Nat} {t : TypeId} {v : Value} (h : Boxed W B t v) (hb : Below W.heap.size W W') : Boxed W' B t v := (hb.block _ h.lt).trans h
theorem boxed_far {W : World} {B b o : Nat} {t : TypeId} {v u : Value} (h : Boxed W B t v) (hne : B ≠ b) : Boxed (W.setCell ⟨b, o, none⟩ u) B t v := (Below.heap_setCell W _ u B hne).trans h
theorem boxed_bool {W : World} {B : Nat} {t : TypeId} {v : Value} {z z' : Bool} (h : Boxed W B t v) (e : z = z') : Boxed (W.setCell ⟨B, 0, none⟩ (.bool z)) B t (.bool z') := e ▸ h.set _
theorem boxed_putObj {W : World} {B l : Nat} {t : TypeId} {v : Value} {o : Obj} (h : Boxed W B t v) (hne : B ≠ l) : Boxed (W.putObj l o) B t v := (World.putObj_heap_other hne).trans h
theorem below_putObj {n₀ D : Nat} {w W : World} (h : Below n₀ w W) (o : Obj) (hn : n₀ ≤ w.heap.size) (hD : n₀ ≤ D) : Below n₀ w (W.putObj D o) :=
  h.grown (grownBy_putObj' W D o) (by have := h.size; omega) (fun k e => by cases e; exact hD)
theorem keepsFrom_set {W W' : World} {B b o : Nat} {u : Value} (h : KeepsFrom B W W') : KeepsFrom B W (W'.setCell ⟨b, o, none⟩ u) := h.trans ((KeepsOthers.setCell _ _ _).from _)
theorem keepsFrom_alloc {W W' : World} {B : Nat} {o : Obj} (h : KeepsFrom B W W') : KeepsFrom B W (W'.alloc o) := h.trans ((KeepsOthers.alloc _ _).from _)
end Go.Proofs.Ytkiofeiinecpiaa
namespace Go.Proofs.Ytkiofeiinecpiaa
open Go.ChangeShapes Go.WideShapes Go.ChangeAt Go.RowKit Go.WideMaps Go.WideElems

theorem strs_of {w : World} {a : Addr} {ss : List ByteArray} {len : Nat} (hb : a.block < w.heap.size ∨ ss = []) (h : ∀ i, i < ss.length → w.cell? (a.add i) = some (.string (ss.getD i ByteArray.empty))) : Strs w (some a) (ss.take len) := by
  by_cases h0 : (ss.take len) = []
  · exact .inl h0
  · have hp : 0 < ss.length := by
      cases ss with
      | nil => simp at h0
      | cons x r => simp
    obtain ⟨b, off, spot⟩ := a
    have hspot : spot = none := by simpa [Addr.add] using World.cell?_spot (h 0 hp)
    subst hspot
    refine .inr ⟨b, off, rfl, ?_, fun j s hj => ?_⟩
    · rcases hb with hb | hb
      · exact hb
      · subst hb; simp at hp
    · have hjl : j < ss.length ∧ ss[j]? = some s := by
        rw [List.getElem?_take] at hj
        split at hj
        · exact ⟨(List.getElem?_eq_some_iff.1 hj).1, hj⟩
        · cases hj
      have := h j hjl.1
      rw [Go.WideShapes.add_plain] at this
      rw [this]
      simp [List.getD, hjl.2]
end Go.Proofs.Ytkiofeiinecpiaa
namespace Go.Proofs.Ytkiofeiinecpiaa
open Go.RowKit Go.Lib

mutual
/-- What the bindings become when the pattern is matched; nothing where it doesn't. -/
def TypeX.mat : TypeX → TypeX → List BindingX → Option (List BindingX)
  | .mk k n a, t, acc =>
    if k = 1 then
      match lookX n acc with
      | some y => if y.same t = true then some acc else none
      | none => some (acc ++ [.mk n t])
    else if k = t.kind_ ∧ n = t.name_ ∧ a.length = t.args_.length then TypeX.matL a t.args_ acc else none
def TypeX.matL : List TypeX → List TypeX → List BindingX → Option (List BindingX)
  | [], _, acc => some acc
  | _ :: _, [], _ => none
  | x :: r, y :: s, acc =>
    match x.mat y acc with
    | some acc2 => TypeX.matL r s acc2
    | none => none
end
/-- Matching at all positions. -/
def matAll (ps ts : List TypeX) : Option (List BindingX) := if ps.length = ts.length then TypeX.matL ps ts [] else none
theorem TypeX.mat_met {p t y : TypeX} {acc : List BindingX} (hk : p.kind_ = 1) (hl : lookX p.name_ acc = some y) : p.mat t acc = if y.same t = true then some acc else none := by
  cases p with | mk k n a =>
  simp only [TypeX.kind_, TypeX.name_] at hk hl
  rw [TypeX.mat, if_pos hk, hl]
theorem TypeX.mat_new {p t : TypeX} {acc : List BindingX} (hk : p.kind_ = 1) (hl : lookX p.name_ acc = none) : p.mat t acc = some (acc ++ [.mk p.name_ t]) := by
  cases p with | mk k n a =>
  simp only [TypeX.kind_, TypeX.name_] at hk hl
  rw [TypeX.mat, if_pos hk, hl]
  rfl
theorem TypeX.mat_no {p t : TypeX} {acc : List BindingX} (hk : p.kind_ ≠ 1) (h : ¬ (p.kind_ = t.kind_ ∧ p.name_ = t.name_ ∧ p.args_.length = t.args_.length)) : p.mat t acc = none := by
  cases p with | mk k n a =>
  have hk : k ≠ 1 := hk
  have h : ¬ (k = t.kind_ ∧ n = t.name_ ∧ a.length = t.args_.length) := h
  rw [TypeX.mat, if_neg hk, if_neg h]
theorem TypeX.mat_args {p t : TypeX} {acc : List BindingX} (hk : p.kind_ ≠ 1) (h : p.kind_ = t.kind_ ∧ p.name_ = t.name_ ∧ p.args_.length = t.args_.length) : p.mat t acc = TypeX.matL p.args_ t.args_ acc := by
  cases p with | mk k n a =>
  have hk : k ≠ 1 := hk
  have h : k = t.kind_ ∧ n = t.name_ ∧ a.length = t.args_.length := h
  rw [TypeX.mat, if_neg hk, if_pos h]
  rfl
/-- One position more. -/
theorem TypeX.matL_step : ∀ (ps ts : List TypeX) (acc : List BindingX) (k : Nat) (hp : k < ps.length) (ht : k < ts.length), TypeX.matL (ps.take (k + 1)) (ts.take (k + 1)) acc = (TypeX.matL (ps.take k) (ts.take k) acc).bind fun a2 => ps[k].mat ts[k] a2
  | x :: r, y :: s, acc, 0, _, _ => by
    simp only [Nat.zero_add, List.take_succ_cons, List.take_zero, TypeX.matL, Option.bind_some, List.getElem_cons_zero]
    cases x.mat y acc <;> rfl
  | x :: r, y :: s, acc, k + 1, hp, ht => by
    rw [List.take_succ_cons, List.take_succ_cons, List.take_succ_cons, List.take_succ_cons, TypeX.matL, TypeX.matL]
    cases x.mat y acc with
    | none => rfl
    | some a2 =>
      simp only [List.getElem_cons_succ]
      exact TypeX.matL_step r s a2 k (by simpa using hp) (by simpa using ht)
/-- Once it fails it fails. -/
theorem TypeX.matL_none : ∀ (ps ts : List TypeX) (acc : List BindingX) (k : Nat), ps.length = ts.length → TypeX.matL (ps.take k) (ts.take k) acc = none → TypeX.matL ps ts acc = none
  | [], _, acc, k, _, h => by rw [List.take_nil, TypeX.matL] at h; cases h
  | x :: r, [], acc, k, hl, h => by simp at hl
  | x :: r, y :: s, acc, 0, hl, h => by rw [List.take_zero, List.take_zero, TypeX.matL] at h; cases h
  | x :: r, y :: s, acc, k + 1, hl, h => by
    rw [List.take_succ_cons, List.take_succ_cons, TypeX.matL] at h
    rw [TypeX.matL]
    cases hm : x.mat y acc with
    | none => rfl
    | some a2 =>
      rw [hm] at h
      exact TypeX.matL_none r s a2 k (by simpa using hl) h
mutual
/-- What is bound is small, and there is no more of it than the pattern is large. -/
theorem TypeX.mat_small {M : Nat} : ∀ (p t : TypeX) (acc a2 : List BindingX), (∀ b ∈ acc, b.type_.size ≤ M) → t.size ≤ M → p.mat t acc = some a2 → (∀ b ∈ a2, b.type_.size ≤ M) ∧ a2.length ≤ acc.length + p.size
  | .mk k n a, t, acc, a2, ha, ht, h => by
    rw [TypeX.mat] at h
    rw [TypeX.size]
    by_cases hk : k = 1
    · rw [if_pos hk] at h
      cases hl : lookX n acc with
      | some y =>
        rw [hl] at h
        by_cases hs : y.same t = true
        · simp only [hs, if_true, Option.some.injEq] at h
          subst h; exact ⟨ha, by omega⟩
        · simp [hs] at h
      | none =>
        rw [hl] at h
        simp only [Option.some.injEq] at h
        subst h
        refine ⟨fun b hb => ?_, by rw [List.length_append, List.length_singleton]; omega⟩
        rcases List.mem_append.1 hb with hb | hb
        · exact ha b hb
        · rw [List.mem_singleton.1 hb]; exact ht
    · rw [if_neg hk] at h
      by_cases hc : k = t.kind_ ∧ n = t.name_ ∧ a.length = t.args_.length
      · rw [if_pos hc] at h
        have := TypeX.matL_small a t.args_ acc a2 ha (by rw [TypeX.size_eq] at ht; omega) h
        exact ⟨this.1, by omega⟩
      · rw [if_neg hc] at h; cases h
theorem TypeX.matL_small {M : Nat} : ∀ (ps ts : List TypeX) (acc a2 : List BindingX), (∀ b ∈ acc, b.type_.size ≤ M) → TypeX.sizeL ts ≤ M → TypeX.matL ps ts acc = some a2 → (∀ b ∈ a2, b.type_.size ≤ M) ∧ a2.length ≤ acc.length + TypeX.sizeL ps
  | [], ts, acc, a2, ha, ht, h => by
    rw [TypeX.matL] at h
    injection h with h
    subst h; exact ⟨ha, by omega⟩
  | x :: r, [], acc, a2, ha, ht, h => by rw [TypeX.matL] at h; cases h
  | x :: r, y :: s, acc, a2, ha, ht, h => by
    rw [TypeX.matL] at h
    rw [TypeX.sizeL] at ht
    rw [TypeX.sizeL]
    cases hm : x.mat y acc with
    | none => rw [hm] at h; cases h
    | some a1 =>
      rw [hm] at h
      have h1 := TypeX.mat_small x y acc a1 ha (by omega) hm
      have h2 := TypeX.matL_small r s a1 a2 h1.1 (by omega) h
      exact ⟨h2.1, by omega⟩
end
end Go.Proofs.Ytkiofeiinecpiaa
namespace Go.Proofs.Ytkiofeiinecpiaa
open Go.RowKit

abbrev PairX := TypeX × TypeX
/-- What stands below a pair. -/
def pairsX (p t : TypeX) : List PairX := if p.kind_ = 1 then [] else p.args_.zip t.args_
/-- What the walk may go on below. -/
def GoodP (p t : TypeX) : Prop := p.kind_ = 1 ∨ p.args_.length = t.args_.length
mutual
def TypeX.walkP (d : Nat) : TypeX → TypeX → List (Nat × PairX)
  | .mk k n a, t => (d, .mk k n a, t) :: (if k = 1 then [] else TypeX.walkPL (d + 1) a t.args_)
def TypeX.walkPL (d : Nat) : List TypeX → List TypeX → List (Nat × PairX)
  | [], _ => []
  | _ :: _, [] => []
  | x :: r, y :: s => x.walkP d y ++ TypeX.walkPL d r s
end
def walkPs (d : Nat) : List PairX → List (Nat × PairX)
  | [] => []
  | q :: r => q.1.walkP d q.2 ++ walkPs d r
theorem walkPL_zip (d : Nat) : ∀ a b : List TypeX, TypeX.walkPL d a b = walkPs d (a.zip b)
  | [], _ => by rw [TypeX.walkPL, List.zip_nil_left, walkPs]
  | _ :: _, [] => by rw [TypeX.walkPL, List.zip_nil_right, walkPs]
  | x :: r, y :: s => by rw [TypeX.walkPL, List.zip_cons_cons, walkPs, walkPL_zip d r s]
theorem walkP_eq (d : Nat) (p t : TypeX) : p.walkP d t = (d, p, t) :: walkPs (d + 1) (pairsX p t) := by
  cases p with | mk k n a =>
  rw [TypeX.walkP, pairsX]
  by_cases h : k = 1
  · rw [if_pos h, if_pos (show (TypeX.mk k n a).kind_ = 1 from h), walkPs]
  · rw [if_neg h, if_neg (show ¬ (TypeX.mk k n a).kind_ = 1 from h), walkPL_zip]; rfl
/-- What the lists of a stack (the top one first) have still to give. -/
def todoP : List (List PairX) → List (Nat × PairX)
  | [] => []
  | l :: r => walkPs r.length l ++ todoP r
theorem todoP_pop (r : List (List PairX)) : todoP ([] :: r) = todoP r := by rw [todoP, walkPs]; rfl
theorem todoP_step (p t : TypeX) (l : List PairX) (r : List (List PairX)) : todoP (((p, t) :: l) :: r) = (r.length, p, t) :: todoP (pairsX p t :: l :: r) := by
  rw [todoP, todoP, todoP, walkPs, walkP_eq, List.length_cons]
  simp
theorem todoP_start (p t : TypeX) : todoP [[(p, t)]] = p.walkP 0 t := by simp [todoP, walkPs]
theorem pairsX_length {p t : TypeX} (h : GoodP p t) : (pairsX p t).length = if p.kind_ = 1 then 0 else p.args_.length := by
  rw [pairsX]
  by_cases hk : p.kind_ = 1
  · rw [if_pos hk, if_pos hk]; rfl
  · rw [if_neg hk, if_neg hk, List.length_zip]
    rcases h with h | h
    · exact absurd h hk
    · omega
theorem pairsX_at {p t : TypeX} (hk : p.kind_ ≠ 1) {j : Nat} (h : j < (pairsX p t).length) (h1 : j < p.args_.length) (h2 : j < t.args_.length) : (pairsX p t)[j] = (p.args_[j], t.args_[j]) := by
  simp only [pairsX, if_neg hk, List.getElem_zip]
mutual
theorem walkP_length (d : Nat) : ∀ p t : TypeX, (p.walkP d t).length ≤ p.size
  | .mk k n a, t => by
    rw [TypeX.walkP, TypeX.size, List.length_cons]
    have := walkPL_length (d + 1) a t.args_
    split
    · simp
    · omega
theorem walkPL_length (d : Nat) : ∀ a b : List TypeX, (TypeX.walkPL d a b).length ≤ TypeX.sizeL a
  | [], _ => by rw [TypeX.walkPL]; simp
  | _ :: _, [] => by rw [TypeX.walkPL]; simp
  | x :: r, y :: s => by
    have := walkP_length d x y
    have := walkPL_length d r s
    rw [TypeX.walkPL, TypeX.sizeL, List.length_append]; omega
end
mutual
theorem walkP_small (d : Nat) : ∀ (p t : TypeX), ∀ q ∈ p.walkP d t, q.2.2.size ≤ t.size
  | .mk k n a, t, q, h => by
    rw [TypeX.walkP] at h
    rcases List.mem_cons.1 h with rfl | h
    · exact Nat.le_refl _
    · by_cases hk : k = 1
      · rw [if_pos hk] at h; cases h
      · rw [if_neg hk] at h
        have := walkPL_small (d + 1) a t.args_ q h
        rw [TypeX.size_eq t]; omega
theorem walkPL_small (d : Nat) : ∀ (a b : List TypeX), ∀ q ∈ TypeX.walkPL d a b, q.2.2.size ≤ TypeX.sizeL b
  | [], _, q, h => by rw [TypeX.walkPL] at h; cases h
  | _ :: _, [], q, h => by rw [TypeX.walkPL] at h; cases h
  | x :: r, y :: s, q, h => by
    rw [TypeX.walkPL] at h
    rw [TypeX.sizeL]
    rcases List.mem_append.1 h with h | h
    · have := walkP_small d x y q h; omega
    · have := walkPL_small d r s q h; omega
end
mutual
theorem walkP_left (d : Nat) : ∀ (p t : TypeX), ∀ q ∈ p.walkP d t, q.2.1.size ≤ p.size
  | .mk k n a, t, q, h => by
    rw [TypeX.walkP] at h
    rcases List.mem_cons.1 h with rfl | h
    · exact Nat.le_refl _
    · by_cases hk : k = 1
      · rw [if_pos hk] at h; cases h
      · rw [if_neg hk] at h
        have := walkPL_left (d + 1) a t.args_ q h
        rw [TypeX.size]; omega
theorem walkPL_left (d : Nat) : ∀ (a b : List TypeX), ∀ q ∈ TypeX.walkPL d a b, q.2.1.size ≤ TypeX.sizeL a
  | [], _, q, h => by rw [TypeX.walkPL] at h; cases h
  | _ :: _, [], q, h => by rw [TypeX.walkPL] at h; cases h
  | x :: r, y :: s, q, h => by
    rw [TypeX.walkPL] at h
    rw [TypeX.sizeL]
    rcases List.mem_append.1 h with h | h
    · have := walkP_left d x y q h; omega
    · have := walkPL_left d r s q h; omega
end

/-- What one pair makes of the bindings. -/
def stepP (q : PairX) (acc : List BindingX) : Option (List BindingX) :=
  if q.1.kind_ = 1 then
    match lookX q.1.name_ acc with
    | some y => if y.same q.2 = true then some acc else none
    | none => some (acc ++ [.mk q.1.name_ q.2])
  else if q.1.kind_ = q.2.kind_ ∧ q.1.name_ = q.2.name_ ∧ q.1.args_.length = q.2.args_.length then some acc else none
def stepsP : List (Nat × PairX) → List BindingX → Option (List BindingX)
  | [], acc => some acc
  | q :: r, acc => (stepP q.2 acc).bind (stepsP r)
theorem stepsP_app : ∀ (a b : List (Nat × PairX)) (acc : List BindingX), stepsP (a ++ b) acc = (stepsP a acc).bind (stepsP b)
  | [], b, acc => rfl
  | q :: r, b, acc => by
    rw [List.cons_append, stepsP, stepsP]
    cases stepP q.2 acc with
    | none => rfl
    | some a2 => exact stepsP_app r b a2
theorem stepsP_one (q : Nat × PairX) (acc : List BindingX) : stepsP [q] acc = stepP q.2 acc := by
  rw [stepsP]
  cases stepP q.2 acc <;> rfl
theorem stepP_met {q : PairX} {y : TypeX} {acc : List BindingX} (hk : q.1.kind_ = 1) (hl : lookX q.1.name_ acc = some y) : stepP q acc = if y.same q.2 = true then some acc else none := by
  rw [stepP, if_pos hk, hl]
theorem stepP_new {q : PairX} {acc : List BindingX} (hk : q.1.kind_ = 1) (hl : lookX q.1.name_ acc = none) : stepP q acc = some (acc ++ [.mk q.1.name_ q.2]) := by
  rw [stepP, if_pos hk, hl]
theorem stepP_root {q : PairX} {acc : List BindingX} (hk : q.1.kind_ ≠ 1) : stepP q acc = if q.1.kind_ = q.2.kind_ ∧ q.1.name_ = q.2.name_ ∧ q.1.args_.length = q.2.args_.length then some acc else none := by
  rw [stepP, if_neg hk]
theorem stepP_yes {q : PairX} {acc : List BindingX} (hk : q.1.kind_ ≠ 1) (hc : q.1.kind_ = q.2.kind_ ∧ q.1.name_ = q.2.name_ ∧ q.1.args_.length = q.2.args_.length) : stepP q acc = some acc := by
  rw [stepP_root hk, if_pos hc]
theorem stepP_no {q : PairX} {acc : List BindingX} (hk : q.1.kind_ ≠ 1) (hc : ¬ (q.1.kind_ = q.2.kind_ ∧ q.1.name_ = q.2.name_ ∧ q.1.args_.length = q.2.args_.length)) : stepP q acc = none := by
  rw [stepP_root hk, if_neg hc]
theorem stepP_good {q : PairX} {acc a2 : List BindingX} (h : stepP q acc = some a2) : GoodP q.1 q.2 := by
  by_cases hk : q.1.kind_ = 1
  · exact .inl hk
  · rw [stepP_root hk] at h
    by_cases hc : q.1.kind_ = q.2.kind_ ∧ q.1.name_ = q.2.name_ ∧ q.1.args_.length = q.2.args_.length
    · exact .inr hc.2.2
    · rw [if_neg hc] at h; cases h
mutual
theorem stepsP_walk (d : Nat) : ∀ (p t : TypeX) (acc : List BindingX), stepsP (p.walkP d t) acc = p.mat t acc
  | .mk k n a, t, acc => by
    rw [TypeX.walkP, stepsP]
    by_cases hk : k = 1
    · rw [if_pos hk]
      cases hl : lookX n acc with
      | some y =>
        rw [stepP_met (q := (.mk k n a, t)) hk hl, TypeX.mat_met (p := .mk k n a) hk hl]
        by_cases hs : y.same t = true
        · simp only [hs, if_true, Option.bind_some, stepsP]
        · rw [if_neg hs]; rfl
      | none =>
        rw [stepP_new (q := (.mk k n a, t)) hk hl, TypeX.mat_new (p := .mk k n a) hk hl]
        rfl
    · rw [if_neg hk]
      by_cases hc : k = t.kind_ ∧ n = t.name_ ∧ a.length = t.args_.length
      · rw [stepP_yes (q := (.mk k n a, t)) hk hc, TypeX.mat_args (p := .mk k n a) hk hc, Option.bind_some]
        exact stepsP_walkL (d + 1) a t.args_ acc hc.2.2
      · rw [stepP_no (q := (.mk k n a, t)) hk hc, TypeX.mat_no (p := .mk k n a) hk hc]; rfl
theorem stepsP_walkL (d : Nat) : ∀ (a b : List TypeX) (acc : List BindingX), a.length = b.length → stepsP (TypeX.walkPL d a b) acc = TypeX.matL a b acc
  | [], _, acc, _ => by rw [TypeX.walkPL, stepsP, TypeX.matL]
  | _ :: _, [], acc, h => by simp at h
  | x :: r, y :: s, acc, h => by
    rw [TypeX.walkPL, stepsP_app, stepsP_walk d x y, TypeX.matL]
    cases x.mat y acc with
    | none => rfl
    | some a2 => exact stepsP_walkL d r s a2 (by simpa using h)
end
/-- Once it fails it fails. -/
theorem stepsP_none {a b : List (Nat × PairX)} {acc : List BindingX} (h : stepsP a acc = none) : stepsP (a ++ b) acc = none := by rw [stepsP_app, h]; rfl
theorem stepP_small {M : Nat} {q : PairX} {acc a2 : List BindingX} (ha : ∀ b ∈ acc, b.type_.size ≤ M) (hq : q.2.size ≤ M) (h : stepP q acc = some a2) : (∀ b ∈ a2, b.type_.size ≤ M) ∧ a2.length ≤ acc.length + 1 := by
  by_cases hk : q.1.kind_ = 1
  · cases hl : lookX q.1.name_ acc with
    | some y =>
      rw [stepP_met hk hl] at h
      by_cases hs : y.same q.2 = true
      · rw [if_pos hs] at h; injection h with h; subst h; exact ⟨ha, by omega⟩
      · rw [if_neg hs] at h; cases h
    | none =>
      rw [stepP_new hk hl] at h
      injection h with h
      subst h
      refine ⟨fun b hb => ?_, by rw [List.length_append]; simp⟩
      rcases List.mem_append.1 hb with hb | hb
      · exact ha b hb
      · rw [List.mem_singleton.1 hb]; exact hq
  · rw [stepP_root hk] at h
    by_cases hc : q.1.kind_ = q.2.kind_ ∧ q.1.name_ = q.2.name_ ∧ q.1.args_.length = q.2.args_.length
    · rw [if_pos hc] at h; injection h with h; subst h; exact ⟨ha, by omega⟩
    · rw [if_neg hc] at h; cases h
theorem stepsP_small {M : Nat} : ∀ {l : List (Nat × PairX)} {acc a2 : List BindingX}, (∀ b ∈ acc, b.type_.size ≤ M) → (∀ q ∈ l, q.2.2.size ≤ M) → stepsP l acc = some a2 → (∀ b ∈ a2, b.type_.size ≤ M) ∧ a2.length ≤ acc.length + l.length
  | [], acc, a2, ha, hl, h => by rw [stepsP] at h; injection h with h; subst h; exact ⟨ha, by simp⟩
  | q :: r, acc, a2, ha, hl, h => by
    rw [stepsP] at h
    cases hs : stepP q.2 acc with
    | none => rw [hs] at h; cases h
    | some a1 =>
      rw [hs] at h
      obtain ⟨h1, h2⟩ := stepP_small ha (hl q List.mem_cons_self) hs
      obtain ⟨h3, h4⟩ := stepsP_small h1 (fun q hq => hl q (List.mem_cons_of_mem _ hq)) h
      exact ⟨h3, by rw [List.length_cons]; omega⟩
end Go.Proofs.Ytkiofeiinecpiaa
namespace Go.Proofs.Ytkiofeiinecpiaa
open Go.RowKit

/-- THE ITERATOR's CONTRACT, where the body lets pass only what is Good: J and Jx are the caller's; M: the blocks that the iterator has made; Rd: those that it only reads. -/
def SeqG {α : Type} (F : Fence) (n : Nat) (P : Program) (g : Nat) (lb : Array Value) (encs : α → Array Value) (Ok : List α → α → Prop) (S : List α → Prop) (Good : α → Prop) (n₀ : Nat) (Rd : Nat → Prop) (w : World) : Prop :=
  ∀ (l : Nat) (J : (Nat → Prop) → List α → World → Prop) (Jx : List α → World → Prop) (W : World), Below w.heap.size w W →
    (∀ M s A B row, J M s A → A.grownBy B row → (∀ r, row = some r → M r) → J (fun b => M b ∨ (A.heap.size ≤ b ∧ b < B.heap.size)) s B) →
    (∀ M pre x W1, J M pre W1 → Ok pre x → YieldAt F (n - 1) P l (encs x) W1 fun e W' =>
      (e = .returned (.bool true) ∧ J M (pre ++ [x]) W' ∧ KeepsM n₀ (fun b => M b ∨ Rd b) W1 W') ∨ (e = .returned (.bool false) ∧ Jx (pre ++ [x]) W')) →
    (∀ M pre x W1, J M (pre ++ [x]) W1 → Good x) →
    J (fun _ => False) [] W →
    CallsIn F n P g (#[.func (.yield l) #[] #[]] ++ lb) W fun e W' => (∃ v, e = .returned v) ∧ ((∃ M xs, S xs ∧ J M xs W') ∨ (∃ pre, Jx pre W'))

variable {F : Fence} {n : Nat} {P : Program}

theorem wpIn_rangeFunc_ownG {α : Type} {g : Operand} {ps : Array Tmp} {assign body : Code} {Q : Exit → Act → World → Prop} {a : Act} {w : World}
    (hro : F.round = none) (h1 : 1 ≤ n) {gf : Nat} {lb : Array Value} (hg : a.eval g = .func (.func gf) #[] lb) (hFg : F.fn gf) (eg : ∀ args w, (callFunc gf args).run P w = .ok (.enter gf args) w)
    {encs : α → Array Value} {Ok : List α → α → Prop} {S : List α → Prop} {Good : α → Prop} {n₀ : Nat} {Rd : Nat → Prop} {w0 : World} (hseq : SeqG F (n - 1) P gf lb encs Ok S Good n₀ Rd w0) (hRd : ∀ b, Rd b → b < w.heap.size)
    (hb0 : Below w0.heap.size w0 w) (hn0 : n₀ ≤ w.heap.size) (hps : ∀ x, (encs x).size = ps.size)
    (I : (Nat → Prop) → List α → World → Prop) (Ix : Code → List α → World → Prop) (hI : OwnM w.heap.size I) (hG : ∀ M pre x W, I M (pre ++ [x]) W → Good x) (hIx : ∀ c, OwnFrom w.heap.size (Ix c)) (h0 : ∀ M : Nat → Prop, (∀ b, M b → w.heap.size ≤ b) → I M [] w) (Ax : α → Act → World → Prop) (hAx : ∀ x a', OwnFrom w.heap.size (fun (_ : Unit) W => Ax x a' W))
    (hassign : ∀ (l : Nat) (M : Nat → Prop) (pre : List α) (x : α) (W : World) (K : Act → World → Prop), (∀ b, M b → w.heap.size < b) → (∀ b, M b ∨ Rd b → b < W.heap.size) → w.heap.size + 1 < W.heap.size → I M pre W → Ok pre x → (∀ a' W', KeepsFrom w.heap.size W W' → KeepsM n₀ (fun b => M b ∨ Rd b) W W' → I M pre W' → Ax x a' W' → K a' W') →
      assign.wpIn (F.inRound l) (n - 1 - 1) P (Exit.then K (fun _ _ _ => False)) { tmps := (ps.zip (encs x)).foldl (fun t (p, v) => t.setIfInBounds p v) a.tmps, defers := [] } W)
    (hbody : ∀ (l : Nat) (M : Nat → Prop) (pre : List α) (x : α) (a' : Act) (W : World), (∀ b, M b → w.heap.size < b) → (∀ b, M b ∨ Rd b → b < W.heap.size) → w.heap.size + 1 < W.heap.size → I M pre W → Ax x a' W → Ok pre x → body.wpIn (F.inRound l) (n - 1 - 1) P (ownPostM w.heap.size n₀ Rd I Ix M (pre ++ [x]) W) a' W)
    (hdone : ∀ (D : Nat) (M : Nat → Prop) (xs : List α) (W : World), w.heap.size ≤ D → S xs → I M xs W → W.heap[D]? = some (.deferred (some [])) → Q .normal { a with defers := { target := .collected D, args := #[] } :: a.defers } W)
    (hstop : ∀ (D : Nat) (c : Code) (pre : List α) (W : World), w.heap.size ≤ D → Ix c pre W → W.heap[D]? = some (.deferred (some [])) → c.wpIn F n P Q { a with defers := { target := .collected D, args := #[] } :: a.defers } W) :
    (Code.rangeFunc g ps assign body).wpIn F n P Q a w := by
  refine wpIn_rangeFunc ?_
  intro fn hfn
  rw [hro]
  obtain ⟨rec, hrec⟩ : ∃ rec : LoopState → Option Code → Loop, rec = fun st pe => { state := st, pending := pe, fn, tmps := a.tmps, params := ps, assign, body, defers := w.heap.size } := ⟨_, rfl⟩
  obtain ⟨W1, hW1⟩ : ∃ W1, (w.alloc (.deferred (some []))).alloc (.loop (rec .ready none)) = W1 := ⟨_, rfl⟩
  have hsz : W1.heap.size = w.heap.size + 2 := by rw [← hW1]; simp
  have hL1 : W1.heap[w.heap.size + 1]? = some (.loop (rec .ready none)) := by
    rw [← hW1]; have := World.alloc_heap_new (w.alloc (.deferred (some []))) (.loop (rec .ready none)); rwa [World.size_alloc] at this
  have hK1 : W1.heap[w.heap.size]? = some (.deferred (some [])) := by
    rw [← hW1]; exact (Below.heap_alloc _ _ _ (by simp)).trans (World.alloc_heap_new w _)
  have hI1 : I (fun _ => False) [] W1 := by
    have h := h0 (fun _ => False) (fun _ h => h.elim)
    rw [← hW1]; exact (hI.from _).alloc _ ((hI.from _).alloc _ h)
  have hb1 : Below w0.heap.size w0 W1 := by
    rw [← hW1]; exact hb0.trans ((((Below.refl _ w).alloc (Nat.le_refl _) _).alloc (by simp) _).mono hb0.size)
  refine ⟨w.heap.size + 1, [{ target := .collected w.heap.size, args := #[] }], W1, { target := .fn (.func gf) lb, args := #[.func (.yield (w.heap.size + 1)) #[] #[]] }, W1, gf,
    #[.func (.yield (w.heap.size + 1)) #[] #[]] ++ lb, W1, ?_, ?_, ?_, ?_, fun _ => h1, ?_⟩
  · rw [← hW1, hrec]; exact run_enterLoop_outer _ _ _ _ _
  · simp only [resolve, hg]
    simp [go_sem]
  · intro f' hf'; simp [Target.leads] at hf'; subst hf'; exact hFg
  · simp [invoke, go_sem, eg]
  · refine (hseq (w.heap.size + 1)
      (fun M pre W => (∀ b, M b → w.heap.size + 2 ≤ b ∧ b < W.heap.size) ∧ I M pre W ∧ W.heap[w.heap.size + 1]? = some (.loop (rec .ready none)) ∧ W.heap[w.heap.size]? = some (.deferred (some [])))
      (fun pre W => ∃ c, Ix c pre W ∧ W.heap[w.heap.size + 1]? = some (.loop (rec .done (some c))) ∧ W.heap[w.heap.size]? = some (.deferred (some [])))
      W1 hb1 ?_ ?_ (fun M pre x W1 h => hG M pre x W1 h.2.1) ⟨fun _ h => h.elim, hI1, hL1, hK1⟩).mono ?_
    · rintro M s A B row ⟨hM, hi, hl, hk⟩ hg' hr
      have hlt : w.heap.size + 1 < A.heap.size := (Array.getElem?_eq_some_iff.1 hl).1
      have hsz' := hg'.size
      refine ⟨fun b hb => ?_, hI M _ s A B row hi hg' (fun r e => ⟨by have := (hM r (hr r e)).1; omega, .inl (hr r e)⟩) (fun b hb => hb.imp_right (fun h => h.1)), ?_, ?_⟩
      · rcases hb with hb | hb
        · have := hM b hb; omega
        · omega
      · exact (hg'.block _ hlt (fun e => by have := (hM _ (hr _ e.symm)).1; omega)).trans hl
      · exact (hg'.block _ (by omega) (fun e => by have := (hM _ (hr _ e.symm)).1; omega)).trans hk
    · rintro M pre x W ⟨hM, hi, hl, hk⟩ hok
      have hlt : w.heap.size + 1 < W.heap.size := (Array.getElem?_eq_some_iff.1 hl).1
      have hy := run_yield (P := P) (args := encs x) hl (by rw [hrec]; exact hps x)
      rw [hrec] at hy
      refine ⟨fn, _, assign, body, hy, roundIn_of_wpIn hfn (hassign _ M pre x W _ (fun b hb => by have := hM b hb; omega) (fun b hb => hb.elim (fun h => (hM b h).2) (fun h => by have := hRd b h; omega)) hlt hi hok ?_)⟩
      clear hy
      intro a' Wa hkfa hkpa hia hax
      replace hl := hkfa.same _ _ (by omega) hl rfl
      replace hk := hkfa.same _ _ (Nat.le_refl _) hk rfl
      replace hlt : w.heap.size + 1 < Wa.heap.size := (Array.getElem?_eq_some_iff.1 hl).1
      replace hM : ∀ b, M b → w.heap.size + 2 ≤ b ∧ b < Wa.heap.size := fun b hb => ⟨(hM b hb).1, by have := (hM b hb).2; have := hkfa.size; omega⟩
      replace hi := hia
      clear hia
      revert hkpa hkfa
      generalize W = Wb
      intro hkfa hkpa
      obtain ⟨W, rfl⟩ : ∃ W, W = Wa := ⟨_, rfl⟩
      refine ⟨_, run_beginRound hl (by rw [hrec]), ?_⟩
      have hl2 : (W.putObj (w.heap.size + 1) (.loop { rec .ready none with state := .busy })).heap[w.heap.size + 1]? = some (.loop { rec .ready none with state := .busy }) := World.putObj_heap_same hlt
      have hk2 : (W.putObj (w.heap.size + 1) (.loop { rec .ready none with state := .busy })).heap[w.heap.size]? = some (.deferred (some [])) := (World.putObj_heap_other (by omega)).trans hk
      have hw2 : KeepsM n₀ (fun b => M b ∨ Rd b) W (W.putObj (w.heap.size + 1) (.loop { rec .ready none with state := .busy })) := KeepsM.putObj (by omega) hlt (fun h => h.elim (fun h => by have := (hM _ h).1; omega) (fun h => by have := hRd _ h; omega))
      refine wpIn_mono (hbody _ M pre x a' _ (fun b hb => by have := hM b hb; omega) (fun b hb => by simp; exact hb.elim (fun h => (hM b h).2) (fun h => by have := hRd b h; omega)) (by simp; omega) ((hI.from M).putObj _ hi (by omega) hl rfl) ((hAx x a').putObj (s := ()) _ hax (by omega) hl rfl) hok) ?_
      have fin : ∀ (jump : Option Code) (W3 : World), KeepsFrom w.heap.size (W.putObj (w.heap.size + 1) (.loop { rec .ready none with state := .busy })) W3 →
          (Instr.endRound (w.heap.size + 1) jump).run P W3 = .ok (.bool jump.isNone) (W3.putObj (w.heap.size + 1) (.loop (rec (if jump.isNone then .ready else .done) jump))) ∧
          W3.heap[w.heap.size + 1]? = some (.loop { rec .ready none with state := .busy }) ∧
          (W3.putObj (w.heap.size + 1) (.loop (rec (if jump.isNone then .ready else .done) jump))).heap[w.heap.size + 1]? = some (.loop (rec (if jump.isNone then .ready else .done) jump)) ∧
          (W3.putObj (w.heap.size + 1) (.loop (rec (if jump.isNone then .ready else .done) jump))).heap[w.heap.size]? = some (.deferred (some [])) := fun jump W3 hk3 => by
        have hl3 := hk3.same _ _ (by omega) hl2 rfl
        have := run_endRound (P := P) jump hl3
        rw [hrec] at this ⊢
        exact ⟨this, by rw [hrec] at hl3; exact hl3, World.putObj_heap_same (Array.getElem?_eq_some_iff.1 hl3).1, (World.putObj_heap_other (by omega)).trans (hk3.same _ _ (Nat.le_refl _) hk2 rfl)⟩
      rintro e a3 W3 hp
      cases e with
      | normal =>
        obtain ⟨hk3, hkp3, hi3⟩ := hp
        obtain ⟨hr, hl3, hl4, hk4⟩ := fin none W3 hk3
        have hlt3 := (Array.getElem?_eq_some_iff.1 hl3).1
        have hsz3 := hk3.size
        simp at hsz3
        exact ⟨_, _, hr, .inl ⟨rfl, ⟨fun b hb => by have := hM b hb; simp; omega, (hI.from M).putObj _ hi3 (by omega) hl3 rfl, hl4, hk4⟩, hkpa.trans ((hw2.trans hkp3).trans (KeepsM.putObj (by omega) hlt3 (fun h => h.elim (fun h => by have := (hM _ h).1; omega) (fun h => by have := hRd _ h; omega))))⟩⟩
      | ret =>
        obtain ⟨hk3, hi3⟩ := hp
        obtain ⟨hr, hl3, hl4, hk4⟩ := fin (some .ret) W3 hk3
        exact ⟨_, _, hr, .inr ⟨rfl, .ret, (hIx _).putObj _ hi3 (by omega) hl3 rfl, hl4, hk4⟩⟩
      | exit id =>
        obtain ⟨hk3, hi3⟩ := hp
        obtain ⟨hr, hl3, hl4, hk4⟩ := fin (some (.exit id)) W3 hk3
        exact ⟨_, _, hr, .inr ⟨rfl, .exit id, (hIx _).putObj _ hi3 (by omega) hl3 rfl, hl4, hk4⟩⟩
      | goto t =>
        obtain ⟨hk3, hi3⟩ := hp
        obtain ⟨hr, hl3, hl4, hk4⟩ := fin (some (.goto t)) W3 hk3
        exact ⟨_, _, hr, .inr ⟨rfl, .goto t, (hIx _).putObj _ hi3 (by omega) hl3 rfl, hl4, hk4⟩⟩
      | panic ch => exact hp.elim
      | outgrown => exact hp.elim
    · rintro e W2 ⟨⟨v, rfl⟩, (⟨M, xs, hS, hM, hi, hl, hk⟩ | ⟨pre, c, hi, hl, hk⟩)⟩
      · exact ⟨none, _, by have := run_endLoop (P := P) hl (by rw [hrec]; simp); rw [hrec] at this; exact this, hdone _ M xs _ (Nat.le_refl _) hS ((hI.from M).putObj _ hi (by omega) hl rfl) ((World.putObj_heap_other (by omega)).trans hk)⟩
      · exact ⟨some c, _, by have := run_endLoop (P := P) hl (by rw [hrec]; simp); rw [hrec] at this; exact this, hstop _ c pre _ (Nat.le_refl _) ((hIx c).putObj _ hi (by omega) hl rfl) ((World.putObj_heap_other (by omega)).trans hk)⟩
end Go.Proofs.Ytkiofeiinecpiaa
namespace Go.Proofs.Ytkiofeiinecpiaa
open Go.RowKit Go.Lib

/-- What comes: a level, a pattern, a type, where their own lists lie. -/
structure PairIt where
  lvl : Nat
  p : TypeX
  t : TypeX
  A : Option Addr
  a : Nat
  C : Option Addr
  c : Nat
def PairIt.key (x : PairIt) : Nat × PairX := (x.lvl, x.p, x.t)
def PairIt.enc (x : PairIt) : Array Value := #[.int .i64 (x.lvl : Nat), .agg #[.int .i64 x.p.kind_, .string x.p.name_, .slice x.A x.p.args_.length x.a, .int .i64 x.t.kind_, .string x.t.name_, .slice x.C x.t.args_.length x.c]]

/-- The list at A: its pairs lie in blocks of R; what they lead to lies below n₀. -/
def TopPair (w : World) (n₀ : Nat) (R : Nat → Prop) (A : Option Addr) (l : List PairX) : Prop :=
  ∀ (j : Nat) (hj : j < l.length), ∃ (b o : Nat) (A2 : Option Addr) (a2 : Nat) (C2 : Option Addr) (c2 : Nat), A = some ⟨b, o, none⟩ ∧ R b ∧
    w.cell? ⟨b, o + j * 6, none⟩ = some (.int .i64 l[j].1.kind_) ∧ w.cell? ⟨b, o + j * 6 + 1, none⟩ = some (.string l[j].1.name_) ∧ w.cell? ⟨b, o + j * 6 + 2, none⟩ = some (.slice A2 l[j].1.args_.length a2) ∧
    w.cell? ⟨b, o + j * 6 + 3, none⟩ = some (.int .i64 l[j].2.kind_) ∧ w.cell? ⟨b, o + j * 6 + 4, none⟩ = some (.string l[j].2.name_) ∧ w.cell? ⟨b, o + j * 6 + 5, none⟩ = some (.slice C2 l[j].2.args_.length c2) ∧
    TypeRow w (Und n₀) A2 a2 l[j].1.args_ ∧ TypeRow w (Und n₀) C2 c2 l[j].2.args_
theorem TopPair.frame {w w' : World} {n₀ : Nat} {R R' : Nat → Prop} {A : Option Addr} {l : List PairX} (h : TopPair w n₀ R A l) (hR : ∀ b, R b → R' b) (hk : ∀ b, b < n₀ ∨ R b → w'.heap[b]? = w.heap[b]?) : TopPair w' n₀ R' A l := by
  intro j hj
  obtain ⟨b, o, A2, a2, C2, c2, hA, hb, h0, h1, h2, h3, h4, h5, hr, hs⟩ := h j hj
  have hc : ∀ b i, (b < n₀ ∨ R b) → w'.cell? ⟨b, i, none⟩ = w.cell? ⟨b, i, none⟩ := fun b i h => World.cell?_of_block (a := ⟨b, i, none⟩) (hk b h)
  exact ⟨b, o, A2, a2, C2, c2, hA, hR b hb, (hc _ _ (.inr hb)).trans h0, (hc _ _ (.inr hb)).trans h1, (hc _ _ (.inr hb)).trans h2, (hc _ _ (.inr hb)).trans h3, (hc _ _ (.inr hb)).trans h4, (hc _ _ (.inr hb)).trans h5,
    hr.frame (fun _ h => h) (fun b i h => hc b i (.inl h)), hs.frame (fun _ h => h) (fun b i h => hc b i (.inl h))⟩
theorem TopPair.tail {w : World} {n₀ b o : Nat} {R : Nat → Prop} {x : PairX} {l : List PairX} (h : TopPair w n₀ R (some ⟨b, o, none⟩) (x :: l)) : TopPair w n₀ R (some ⟨b, o + 6, none⟩) l := by
  intro j hj
  obtain ⟨b', o', A2, a2, C2, c2, hA, hb, h0, h1, h2, h3, h4, h5, k1, k2⟩ := h (j + 1) (by simpa using hj)
  injection hA with hA
  injection hA with e1 e2
  subst e1 e2
  have e : o + (j + 1) * 6 = o + 6 + j * 6 := by omega
  rw [e] at h0 h1 h2 h3 h4 h5
  exact ⟨b, o + 6, A2, a2, C2, c2, rfl, hb, h0, h1, h2, h3, h4, h5, k1, k2⟩
theorem TopPair.nil (w : World) (n₀ : Nat) (R : Nat → Prop) (A : Option Addr) : TopPair w n₀ R A [] := fun j hj => absurd hj (Nat.not_lt_zero j)

/-- The stack's slices, the top one last. -/
def TopsPair (w : World) (n₀ : Nat) (R : Nat → Prop) : List (List PairX) → List Value → Prop
  | [], vs => vs = []
  | l :: r, vs => ∃ (vs0 : List Value) (A : Option Addr) (c : Nat), vs = vs0 ++ [.slice A l.length c] ∧ l.length ≤ c ∧ c ≤ 9223372036854775807 ∧ TopPair w n₀ R A l ∧ TopsPair w n₀ R r vs0
theorem TopsPair.length {w : World} {n₀ : Nat} {R : Nat → Prop} : ∀ {rs : List (List PairX)} {vs : List Value}, TopsPair w n₀ R rs vs → vs.length = rs.length
  | [], vs, h => by rw [TopsPair] at h; rw [h]; rfl
  | l :: r, vs, h => by
    obtain ⟨vs0, A, c, rfl, _, _, _, h2⟩ := h
    rw [List.length_append, h2.length]; rfl
theorem TopsPair.frame {w w' : World} {n₀ : Nat} {R R' : Nat → Prop} (hR : ∀ b, R b → R' b) (hk : ∀ b, b < n₀ ∨ R b → w'.heap[b]? = w.heap[b]?) : ∀ {rs : List (List PairX)} {vs : List Value}, TopsPair w n₀ R rs vs → TopsPair w' n₀ R' rs vs
  | [], vs, h => h
  | l :: r, vs, h => by
    obtain ⟨vs0, A, c, rfl, h1, h2, h3, h4⟩ := h
    exact ⟨vs0, A, c, rfl, h1, h2, h3.frame hR hk, h4.frame hR hk⟩

/-- The iterator between two steps: its stack rv, in blocks of M; the rows that it points to lie in blocks of R, none of them the stack's own. -/
structure PrePairSt (J : (Nat → Prop) → List PairIt → World → Prop) (w : World) (n₀ b0 : Nat) (Rd : Nat → Prop) (M R : Nat → Prop) (pre : List PairIt) (rs : List (List PairX)) (vs : List Value) (rv : Value) (wr : World) : Prop where
  j : J M pre wr
  own : wr.ownsRow (b0 + 1) 140 1 rv rs.length vs
  mown : ∀ b, rv.ownBlock = some b → M b
  rm : ∀ b, R b → M b
  rown : ∀ b, rv.ownBlock = some b → ¬ R b
  tops : TopsPair wr n₀ R rs vs
  below : Below n₀ w wr
  rd : ∀ b, Rd b → b < w.heap.size → wr.heap[b]? = w.heap[b]?
  lt : ∀ b, M b → b0 ≤ b ∧ b < wr.heap.size
  size : b0 < wr.heap.size
section
variable {J : (Nat → Prop) → List PairIt → World → Prop} {w : World} {n₀ b0 : Nat} {Rd M R : Nat → Prop} {pre : List PairIt} {rs : List (List PairX)} {vs : List Value} {rv : Value} {wr : World}
theorem PrePairSt.grow (HJ : ∀ M s A B row, J M s A → A.grownBy B row → (∀ r, row = some r → M r) → J (fun b => M b ∨ (A.heap.size ≤ b ∧ b < B.heap.size)) s B) (hnb : n₀ ≤ b0) (hwb : w.heap.size ≤ b0)
    (h : PrePairSt J w n₀ b0 Rd M R pre rs vs rv wr) {w2 : World} (hb : Below wr.heap.size wr w2) : PrePairSt J w n₀ b0 Rd (fun b => M b ∨ (wr.heap.size ≤ b ∧ b < w2.heap.size)) R pre rs vs rv w2 where
  j := HJ _ _ _ _ none h.j (grown_none hb) (fun _ e => by cases e)
  own := own_same h.own fun b hv => hb.block b (h.own.lt b hv).2
  mown := fun b hb' => .inl (h.mown b hb')
  rm := fun b hb' => .inl (h.rm b hb')
  rown := h.rown
  tops := h.tops.frame (fun _ h => h) fun b hb' => hb.block b (by
    have := h.size
    rcases hb' with h' | h'
    · omega
    · exact (h.lt b (h.rm b h')).2)
  below := h.below.trans (hb.mono (by have := h.size; omega))
  rd := fun b hr hlt => (hb.block b (by have := h.size; omega)).trans (h.rd b hr hlt)
  lt := fun b hb' => by
    have := h.size
    rcases hb' with h' | h'
    · exact ⟨(h.lt b h').1, Nat.lt_of_lt_of_le (h.lt b h').2 hb.size⟩
    · exact ⟨by omega, h'.2⟩
  size := Nat.lt_of_lt_of_le h.size hb.size
theorem PrePairSt.round (h : PrePairSt J w n₀ b0 Rd M R pre rs vs rv wr) {w2 : World} {y : PairIt} (hk : KeepsM n₀ (fun b => M b ∨ Rd b) wr w2) (hj : J M (pre ++ [y]) w2) : PrePairSt J w n₀ b0 Rd M R (pre ++ [y]) rs vs rv w2 where
  j := hj
  own := own_same h.own fun b hv => hk.own b (.inl (h.mown b hv))
  mown := h.mown
  rm := h.rm
  rown := h.rown
  tops := h.tops.frame (fun _ h => h) fun b hb' => by
    rcases hb' with h' | h'
    · exact hk.below.block b h'
    · exact hk.own _ (.inl (h.rm b h'))
  below := h.below.trans hk.below
  rd := fun b hr hlt => (hk.own b (.inr hr)).trans (h.rd b hr hlt)
  lt := fun b hb => ⟨(h.lt b hb).1, Nat.lt_of_lt_of_le (h.lt b hb).2 hk.below.size⟩
  size := Nat.lt_of_lt_of_le h.size hk.below.size
theorem PrePairSt.store (HJ : ∀ M s A B row, J M s A → A.grownBy B row → (∀ r, row = some r → M r) → J (fun b => M b ∨ (A.heap.size ≤ b ∧ b < B.heap.size)) s B) (hnb : n₀ ≤ b0) (hwb : w.heap.size ≤ b0)
    {y : PairX} {l : List PairX} {vs0 : List Value} {v : Value} {g cap : Nat} (h : PrePairSt J w n₀ b0 Rd M R pre ((y :: l) :: rs) (vs0 ++ [v]) (.slice (some ⟨g, 0, none⟩) (rs.length + 1) cap) wr) (h0 : TopsPair wr n₀ R rs vs0)
    {A3 : Option Addr} {c3 : Nat} (hl : l.length ≤ c3) (hc : c3 ≤ 9223372036854775807) (hT : TopPair wr n₀ R A3 l) :
    PrePairSt J w n₀ b0 Rd (fun b => M b ∨ (wr.heap.size ≤ b ∧ b < (wr.setCell ⟨g, rs.length, none⟩ (.slice A3 l.length c3)).heap.size)) R pre (l :: rs) (vs0 ++ [.slice A3 l.length c3]) (.slice (some ⟨g, 0, none⟩) (rs.length + 1) cap) (wr.setCell ⟨g, rs.length, none⟩ (.slice A3 l.length c3)) := by
  have hg : b0 + 1 ≤ g := (h.own.lt g rfl).1
  have hgR : ¬ R g := h.rown g rfl
  have hfar : ∀ b, b ≠ g → (wr.setCell ⟨g, rs.length, none⟩ (.slice A3 l.length c3)).heap[b]? = wr.heap[b]? := fun b hb => Below.heap_setCell wr _ _ b hb
  have hfr : ∀ b, b < n₀ ∨ R b → (wr.setCell ⟨g, rs.length, none⟩ (.slice A3 l.length c3)).heap[b]? = wr.heap[b]? := fun b hb => hfar b (by
    rcases hb with h' | h'
    · omega
    · intro e; exact hgR (e ▸ h'))
  have hst := World.ownsRow.stored h.own rs.length (.slice A3 l.length c3)
  refine ⟨HJ _ _ _ _ (some g) h.j (grownBy_setCell'' wr g rs.length _) (fun r e => by cases e; exact h.mown g rfl), ?_, fun b hb => .inl (h.mown b hb), fun b hb => .inl (h.rm b hb), fun b hb => h.rown b hb, ?_, h.below.setCell (p := ⟨g, rs.length, none⟩) (by simp; omega) _, fun b hr hlt => (hfar b (by omega)).trans (h.rd b hr hlt), fun b hb => ?_, by simpa using h.size⟩
  · have e : (vs0 ++ [v]).set rs.length (.slice A3 l.length c3) = vs0 ++ [.slice A3 l.length c3] := by
      rw [List.set_append_right _ _ (by rw [h0.length]; exact Nat.le_refl _), h0.length, Nat.sub_self]; rfl
    rw [← e]; exact hst.1
  · exact ⟨vs0, A3, c3, rfl, hl, hc, hT.frame (fun _ h => h) hfr, h0.frame (fun _ h => h) hfr⟩
  · have := h.size
    rcases hb with h' | h'
    · exact ⟨(h.lt b h').1, by simpa using (h.lt b h').2⟩
    · exact ⟨by omega, h'.2⟩
theorem PrePairSt.push (HJ : ∀ M s A B row, J M s A → A.grownBy B row → (∀ r, row = some r → M r) → J (fun b => M b ∨ (A.heap.size ≤ b ∧ b < B.heap.size)) s B) (hnb : n₀ ≤ b0) (hwb : w.heap.size ≤ b0)
    (h : PrePairSt J w n₀ b0 Rd M R pre rs vs rv wr) {w2 : World} {v' : Value} {l : List PairX} {A : Option Addr} {c : Nat} {R' : Nat → Prop} (hRR : ∀ b, R b → R' b) (hRM : ∀ b, R' b → M b) (hRv : ∀ b, rv.ownBlock = some b → ¬ R' b)
    (hg : wr.grownBy w2 rv.ownBlock) (hown : w2.ownsRow (b0 + 1) 140 1 v' (rs.length + 1) (vs ++ [.slice A l.length c]))
    (hv : v'.ownBlock = rv.ownBlock ∨ v'.ownBlock = some wr.heap.size) (hl : l.length ≤ c) (hc : c ≤ 9223372036854775807) (hT : TopPair wr n₀ R' A l) :
    PrePairSt J w n₀ b0 Rd (fun b => M b ∨ (wr.heap.size ≤ b ∧ b < w2.heap.size)) R' pre (l :: rs) (vs ++ [.slice A l.length c]) v' w2 := by
  have hs := h.size
  have hfar : ∀ b, b < n₀ ∨ R' b → w2.heap[b]? = wr.heap[b]? := fun b hb => by
    rcases hb with h' | h'
    · exact hg.block b (by omega) (fun e => by have := (h.own.lt b e.symm).1; omega)
    · exact hg.block b (h.lt b (hRM b h')).2 (fun e => hRv b e.symm h')
  refine ⟨HJ _ _ _ _ _ h.j hg h.mown, hown, fun b hb => ?_, fun b hb => .inl (hRM b hb), fun b hb => ?_, ⟨vs, A, c, rfl, hl, hc, hT.frame (fun _ h => h) hfar, (h.tops.frame hRR (fun _ _ => rfl)).frame (fun _ h => h) hfar⟩,
    h.below.grown hg (by omega) (fun k e => by have := (h.own.lt k e).1; omega), fun b hr hlt => (hg.block b (by omega) (fun e => by have := (h.own.lt b e.symm).1; omega)).trans (h.rd b hr hlt), fun b hb => ?_, Nat.lt_of_lt_of_le hs hg.size⟩
  · rcases hv with hv | hv
    · exact .inl (h.mown b (hv ▸ hb))
    · rw [hv] at hb; injection hb with hb; subst hb
      exact .inr ⟨Nat.le_refl _, (hown.lt _ hv).2⟩
  · rcases hv with hv | hv
    · exact hRv b (hv ▸ hb)
    · rw [hv] at hb; injection hb with hb; subst hb
      intro hr
      have := (h.lt _ (hRM _ hr)).2
      omega
  · rcases hb with h' | h'
    · exact ⟨(h.lt b h').1, Nat.lt_of_lt_of_le (h.lt b h').2 hg.size⟩
    · exact ⟨by omega, h'.2⟩
end
end Go.Proofs.Ytkiofeiinecpiaa
namespace Go.Proofs.Ytkiofeiinecpiaa
open Go.RowKit Go.Lib

theorem infoPair : (Try.prog.info? 112).map (fun i => (i.zero, i.size, i.bytes)) = some (some (.agg #[.int .i64 0, .string ByteArray.empty, .slice none 0 0, .int .i64 0, .string ByteArray.empty, .slice none 0 0]), 6, 96) := by kernel_rfl
theorem setAt_far : ∀ (vs : List Value) (cs : Array Value) (o i : Nat), i < o ∨ o + vs.length ≤ i → (setAt cs o vs)[i]? = cs[i]?
  | [], _, _, _, _ => rfl
  | v :: r, cs, o, i, h => by
    rw [List.length_cons] at h
    rw [setAt, setAt_far r _ (o + 1) i (by omega), Array.getElem?_setIfInBounds_ne (by omega)]
theorem setAt_at : ∀ (vs : List Value) (cs : Array Value) (o i : Nat), i < vs.length → o + vs.length ≤ cs.size → (setAt cs o vs)[o + i]? = vs[i]?
  | v :: r, cs, o, 0, _, h => by
    rw [List.length_cons] at h
    rw [setAt, setAt_far r _ (o + 1) (o + 0) (by omega), Nat.add_zero, Array.getElem?_setIfInBounds_self_of_lt (by omega)]
    rfl
  | v :: r, cs, o, i + 1, hi, h => by
    rw [List.length_cons] at h hi
    rw [setAt, show o + (i + 1) = o + 1 + i by omega, setAt_at r _ (o + 1) i (by omega) (by simp; omega)]
    rfl
/-- The first k pairs lie in these cells. -/
def FilledP (w : World) (n₀ k : Nat) (L : List PairX) (cs : Array Value) : Prop := ∀ (j : Nat) (hj : j < L.length), j < k → ∃ (A2 : Option Addr) (a2 : Nat) (C2 : Option Addr) (c2 : Nat),
  cs[j * 6]? = some (.int .i64 L[j].1.kind_) ∧ cs[j * 6 + 1]? = some (.string L[j].1.name_) ∧ cs[j * 6 + 2]? = some (.slice A2 L[j].1.args_.length a2) ∧
  cs[j * 6 + 3]? = some (.int .i64 L[j].2.kind_) ∧ cs[j * 6 + 4]? = some (.string L[j].2.name_) ∧ cs[j * 6 + 5]? = some (.slice C2 L[j].2.args_.length c2) ∧
  TypeRow w (Und n₀) A2 a2 L[j].1.args_ ∧ TypeRow w (Und n₀) C2 c2 L[j].2.args_
theorem FilledP.step {w : World} {n₀ k : Nat} {L : List PairX} {cs : Array Value} (h : FilledP w n₀ k L cs) (hk : k < L.length) (hcs : cs.size = L.length * 6) {A2 C2 : Option Addr} {a2 c2 : Nat}
    (h1 : TypeRow w (Und n₀) A2 a2 L[k].1.args_) (h2 : TypeRow w (Und n₀) C2 c2 L[k].2.args_) :
    FilledP w n₀ (k + 1) L (setAt cs (k * 6) [.int .i64 L[k].1.kind_, .string L[k].1.name_, .slice A2 L[k].1.args_.length a2, .int .i64 L[k].2.kind_, .string L[k].2.name_, .slice C2 L[k].2.args_.length c2]) := by
  have hm : (k + 1) * 6 ≤ L.length * 6 := Nat.mul_le_mul_right _ hk
  intro j hj hjk
  by_cases he : j = k
  · subst he
    have hat : ∀ i, i < 6 → (setAt cs (j * 6) [.int .i64 L[j].1.kind_, .string L[j].1.name_, .slice A2 L[j].1.args_.length a2, .int .i64 L[j].2.kind_, .string L[j].2.name_, .slice C2 L[j].2.args_.length c2])[j * 6 + i]? = _ := fun i hi => setAt_at _ cs (j * 6) i hi (by simp; omega)
    exact ⟨A2, a2, C2, c2, hat 0 (by omega), hat 1 (by omega), hat 2 (by omega), hat 3 (by omega), hat 4 (by omega), hat 5 (by omega), h1, h2⟩
  · have hlt : j < k := by omega
    have hm2 : (j + 1) * 6 ≤ k * 6 := Nat.mul_le_mul_right _ hlt
    obtain ⟨A3, a3, C3, c3, e0, e1, e2, e3, e4, e5, r1, r2⟩ := h j hj hlt
    have hf : ∀ i, i < 6 → (setAt cs (k * 6) [.int .i64 L[k].1.kind_, .string L[k].1.name_, .slice A2 L[k].1.args_.length a2, .int .i64 L[k].2.kind_, .string L[k].2.name_, .slice C2 L[k].2.args_.length c2])[j * 6 + i]? = cs[j * 6 + i]? := fun i hi => setAt_far _ cs (k * 6) _ (.inl (by omega))
    exact ⟨A3, a3, C3, c3, (hf 0 (by omega)).trans e0, (hf 1 (by omega)).trans e1, (hf 2 (by omega)).trans e2, (hf 3 (by omega)).trans e3, (hf 4 (by omega)).trans e4, (hf 5 (by omega)).trans e5, r1, r2⟩
theorem FilledP.top {w w' : World} {n₀ g : Nat} {L : List PairX} {cs : Array Value} {t : TypeId} {R : Nat → Prop} (h : FilledP w n₀ L.length L cs) (hw : Whole w' g t cs) (hR : R g) (hk : ∀ b, b < n₀ → w'.heap[b]? = w.heap[b]?) : TopPair w' n₀ R (some ⟨g, 0, none⟩) L := by
  intro j hj
  obtain ⟨A3, a3, C3, c3, e0, e1, e2, e3, e4, e5, r1, r2⟩ := h j hj hj
  refine ⟨g, 0, A3, a3, C3, c3, rfl, hR, ?_, ?_, ?_, ?_, ?_, ?_, r1.frame (fun _ h => h) (fun b o h => World.cell?_of_block (a := ⟨b, o, none⟩) (hk b h)), r2.frame (fun _ h => h) (fun b o h => World.cell?_of_block (a := ⟨b, o, none⟩) (hk b h))⟩ <;> rw [hw.cell, Nat.zero_add] <;> assumption
theorem cells6 {w : World} {g : Nat} {t : TypeId} {a b c d e f : Value} (h : Whole w g t #[a, b, c, d, e, f]) : w.cell? ⟨g, 0, none⟩ = some a ∧ w.cell? ⟨g, 1, none⟩ = some b ∧ w.cell? ⟨g, 2, none⟩ = some c ∧ w.cell? ⟨g, 3, none⟩ = some d ∧ w.cell? ⟨g, 4, none⟩ = some e ∧ w.cell? ⟨g, 5, none⟩ = some f := by
  refine ⟨?_, ?_, ?_, ?_, ?_, ?_⟩ <;> rw [h.cell] <;> rfl

theorem Whole.drew {W : World} {g : Nat} {t : TypeId} {cs : Array Value} (h : Whole W g t cs) : Whole W.drew g t cs := h
theorem whole_more {W : World} {g : Nat} {t : TypeId} {cs : Array Value} (h : Whole W g t cs) (o : Obj) : Whole (W.alloc o).drew g t cs := h.below ((Below.refl W.heap.size W).alloc (Nat.le_refl _) o).drew h.lt
/-- The pairs of two lists, in a new row; what they lead to: for whatever reading. -/
def ZipOut (ps ts : List TypeX) (n₀ : Nat) (w : World) (e : Ending) (w' : World) : Prop := ∃ (A2 : Option Addr) (c2 : Nat), e = .returned (.slice A2 (ps.zip ts).length c2) ∧ (ps.zip ts).length ≤ c2 ∧ c2 ≤ 9223372036854775807 ∧ TopPair w' n₀ (fun b => w.heap.size ≤ b ∧ b < w'.heap.size) A2 (ps.zip ts) ∧ Below w.heap.size w w'

set_option maxRecDepth 100000 in
set_option maxHeartbeats 4000000 in
theorem implPairsOf (ps ts : List TypeX) (A C : Option Addr) (a c n₀ : Nat) (w : World) (hn : n₀ ≤ w.heap.size) (hlen : ps.length = ts.length) (hsz : ps.length ≤ 4294967296) (hp : TypeRow w (Und n₀) A a ps) (ht : TypeRow w (Und n₀) C c ts) :
    Calls Try.prog 123 #[.slice A ps.length a, .slice C ts.length c] w (ZipOut ps ts n₀ w) := by
  obtain ⟨L, hL⟩ : ∃ L, L = ps.zip ts := ⟨_, rfl⟩
  have hLn : L.length = ps.length := by rw [hL, List.length_zip]; omega
  have hLat : ∀ (j : Nat) (h : j < L.length) (h1 : j < ps.length) (h2 : j < ts.length), L[j] = (ps[j], ts[j]) := by subst hL; exact fun j h h1 h2 => List.getElem_zip
  obtain ⟨i0, hi, hz0, hz1, hz2⟩ := info_parts infoPair
  have km := fun (w : World) => run_make (P := Try.prog) w 140 112 i0 (.agg #[.int .i64 0, .string ByteArray.empty, .slice none 0 0, .int .i64 0, .string ByteArray.empty, .slice none 0 0]) Try.underlying140 hi hz0 .i64 .i64 (ps.length : Int) (ps.length : Int) (by omega) (by omega) (by rw [hz2]; omega) (by omega)
  simp only [Int.toNat_natCast, hz1] at km
  have hms : (madeCells (Value.agg #[.int .i64 0, .string ByteArray.empty, .slice none 0 0, .int .i64 0, .string ByteArray.empty, .slice none 0 0]).cells (ps.length * 6)).size = ps.length * 6 := size_madeCells _ _
  generalize madeCells (Value.agg #[.int .i64 0, .string ByteArray.empty, .slice none 0 0, .int .i64 0, .string ByteArray.empty, .slice none 0 0]).cells (ps.length * 6) = cs0 at *
  unfold ZipOut
  rw [← hL]
  have HP := Lib.hid hp
  have HT := Lib.hid ht
  have HM := Lib.hid hms
  have HLA := Lib.hid hLat
  have HLN := Lib.hid hLn
  have HLE := Lib.hid hlen
  clear hL hLn hLat hms hi hz0 hz1 hz2 hlen hp ht
  have hbq : Below w.heap.size w (w.alloc (.cells cs0 112)) := (Below.refl _ _).alloc (Nat.le_refl _) _
  have hw0 := Whole.new w 112 cs0
  go_enter Try.func123, Try.ntmps123
  go_wp2
  clear km
  go_loopw [12] (fun iv wr => ∃ (k : Nat) (cs : Array Value), k ≤ L.length ∧ iv = .int .i64 k ∧ Whole wr w.heap.size 112 cs ∧ cs.size = L.length * 6 ∧ FilledP w n₀ k L cs ∧ Below w.heap.size w wr) (fun iv _ => L.length - (Go.RowKit.intOf iv).toNat)
  case atStart => exact ⟨0, cs0, Nat.zero_le _, rfl, hw0, by rw [HLN.out]; exact HM.out, fun j hj h => absurd h (Nat.not_lt_zero j), hbq⟩
  case round =>
    obtain ⟨k, cs, hk, rfl, hwr, hcs, hF, hb⟩ := hrel
    clear hw0 hbq
    have hln := HLN.out
    have hle := HLE.out
    by_cases hlt : k < L.length
    · have hlt1 : k < ps.length := by omega
      have hlt2 : k < ts.length := by omega
      have hat := HLA.out k hlt hlt1 hlt2
      obtain ⟨b, o, A3, c3, rfl, hPb, p0, p1, p2, h3⟩ := HP.out.at_ hlt1
      obtain ⟨b2, o2, C3, d3, rfl, hPb2, r0, r1, r2, h4⟩ := HT.out.at_ hlt2
      have hbn : b < w.heap.size := Nat.lt_of_lt_of_le hPb hn
      have hbn2 : b2 < w.heap.size := Nat.lt_of_lt_of_le hPb2 hn
      have hstep := hF.step hlt hcs (A2 := A3) (C2 := C3) (a2 := c3) (c2 := d3) (by rw [hat]; exact h3) (by rw [hat]; exact h4)
      rw [hat] at hstep
      have q0 := (hb.cell (p := ⟨b, o + k * 3, none⟩) hbn).trans p0
      have q1 := (hb.cell (p := ⟨b, o + k * 3 + 1, none⟩) hbn).trans p1
      have q2 := (hb.cell (p := ⟨b, o + k * 3 + 2, none⟩) hbn).trans p2
      have t0 := (hb.cell (p := ⟨b2, o2 + k * 3, none⟩) hbn2).trans r0
      have t1 := (hb.cell (p := ⟨b2, o2 + k * 3 + 1, none⟩) hbn2).trans r1
      have t2 := (hb.cell (p := ⟨b2, o2 + k * 3 + 2, none⟩) hbn2).trans r2
      have hm6 : (k + 1) * 6 ≤ L.length * 6 := Nat.mul_le_mul_right _ hlt
      have hold : ∀ i, i < 6 → ∃ v, wr.cell? ⟨w.heap.size, k * 6 + i, none⟩ = some v := fun i hi => by rw [hwr.cell]; exact ⟨_, Array.getElem?_eq_getElem (by omega)⟩
      obtain ⟨y0, e0⟩ := hold 0 (by omega)
      obtain ⟨y1, e1⟩ := hold 1 (by omega)
      obtain ⟨y2, e2⟩ := hold 2 (by omega)
      obtain ⟨y3, e3⟩ := hold 3 (by omega)
      obtain ⟨y4, e4⟩ := hold 4 (by omega)
      obtain ⟨y5, e5⟩ := hold 5 (by omega)
      rw [Nat.add_zero] at e0
      have f0 := hwr.frozen (k * 6)
      have f1 := hwr.frozen (k * 6 + 1)
      have f2 := hwr.frozen (k * 6 + 2)
      have f3 := hwr.frozen (k * 6 + 3)
      have f4 := hwr.frozen (k * 6 + 4)
      have f5 := hwr.frozen (k * 6 + 5)
      have hwl := hwr.lt
      have hbl : b < wr.heap.size := by omega
      have hbl2 : b2 < wr.heap.size := by omega
      have HSTEP := Lib.hid hstep
      have HWR := Lib.hid hwr
      have HBX := Lib.hid hb
      clear hstep hwr hb hF p0 p1 p2 r0 r1 r2 h3 h4 hold hat hPb hPb2
      go_upto_region 5 with (fail)
      go_region
      go_wp2
      go_roundw
      case rel => exact ⟨k + 1, setAt cs (k * 6) [.int .i64 ps[k].kind_, .string ps[k].name_, .slice A3 ps[k].args_.length c3, .int .i64 ts[k].kind_, .string ts[k].name_, .slice C3 ts[k].args_.length d3], by omega, by go_num, Whole.drew (show Whole _ _ _ (setAt cs (k * 6) [.int .i64 ps[k].kind_, .string ps[k].name_, .slice A3 ps[k].args_.length c3, .int .i64 ts[k].kind_, .string ts[k].name_, .slice C3 ts[k].args_.length d3]) from ((((((HWR.out.set_ _ _).set_ _ _).set_ _ _).set_ _ _).set_ _ _).set_ _ _)), by rw [setAt_size]; exact hcs, HSTEP.out, (((((((HBX.out.setCell (Nat.le_refl _) _).setCell (Nat.le_refl _) _).setCell (Nat.le_refl _) _).setCell (Nat.le_refl _) _).setCell (Nat.le_refl _) _).setCell (Nat.le_refl _) _).drew)⟩
      case measure => simp [Go.RowKit.intOf]; omega
    · obtain rfl : k = L.length := by omega
      have hls : L.length ≤ 4294967296 := by omega
      have htop := hF.top (w' := wr) (R := fun b => w.heap.size ≤ b ∧ b < wr.heap.size) hwr ⟨Nat.le_refl _, hwr.lt⟩ (fun b h => hb.block b (by omega))
      have HTOP := Lib.hid htop
      clear hF hwr htop
      go_wp2
      go_ret
      exact ⟨some ⟨w.heap.size, 0, none⟩, ps.length, by rw [hln]; rfl, by omega, by omega, HTOP.out, hb⟩

end Go.Proofs.Ytkiofeiinecpiaa
namespace Go.Proofs.Ytkiofeiinecpiaa
open Go.RowKit Go.Lib

/-- What argumentPairs leaves. -/
def PairsOut (p t : TypeX) (n₀ : Nat) (w : World) (e : Ending) (w' : World) : Prop := ∃ (A2 : Option Addr) (c2 : Nat), e = .returned (.slice A2 (pairsX p t).length c2) ∧ (pairsX p t).length ≤ c2 ∧ c2 ≤ 9223372036854775807 ∧ TopPair w' n₀ (fun b => w.heap.size ≤ b ∧ b < w'.heap.size) A2 (pairsX p t) ∧ Below w.heap.size w w'

set_option maxRecDepth 100000 in
set_option maxHeartbeats 4000000 in
theorem implArgPairs (p t : TypeX) (A C : Option Addr) (a c n₀ : Nat) (w : World) (hn : n₀ ≤ w.heap.size) (hg : GoodP p t) (hsz : p.args_.length ≤ 4294967296) (hp : TypeRow w (Und n₀) A a p.args_) (ht : TypeRow w (Und n₀) C c t.args_) :
    Calls Try.prog 96 #[.agg #[.int .i64 p.kind_, .string p.name_, .slice A p.args_.length a, .int .i64 t.kind_, .string t.name_, .slice C t.args_.length c]] w (PairsOut p t n₀ w) := by
  have hb0 : Below w.heap.size w (w.alloc (.cells #[.int .i64 p.kind_, .string p.name_, .slice A p.args_.length a, .int .i64 t.kind_, .string t.name_, .slice C t.args_.length c] 112)) := (Below.refl _ _).alloc (Nat.le_refl _) _
  have hx0 := Whole.new w 112 #[.int .i64 p.kind_, .string p.name_, .slice A p.args_.length a, .int .i64 t.kind_, .string t.name_, .slice C t.args_.length c]
  have HB0 := Lib.hid hb0
  have HX0 := Lib.hid hx0
  have HP := Lib.hid hp
  have HT := Lib.hid ht
  have hs0 : (w.alloc (.cells #[.int .i64 p.kind_, .string p.name_, .slice A p.args_.length a, .int .i64 t.kind_, .string t.name_, .slice C t.args_.length c] 112)).heap.size = w.heap.size + 1 := by simp
  have HS0 := Lib.hid hs0
  clear hb0 hx0 hp ht hs0
  by_cases hk : p.kind_ = 1
  · have hkb : (p.kind_ == 1) = true := by rw [hk]; rfl
    have hpx : pairsX p t = [] := by rw [pairsX, if_pos hk]
    unfold PairsOut
    rw [hpx]
    clear hk hpx hg
    go_enter Try.func96, Try.ntmps96
    go_wp2_with fail
    refine (implIsVar _ _ _ _ _ _).mono ?_
    rintro e w1 ⟨rfl, hb1⟩
    rw [hkb]
    have hbb := HB0.out.trans (hb1.mono HB0.out.size)
    clear hb1
    go_wp2
    go_ret
    exact ⟨none, 0, rfl, Nat.le_refl _, by decide, TopPair.nil _ _ _ _, hbb⟩
  · have hkb : (p.kind_ == 1) = false := by simpa using hk
    have hlen : p.args_.length = t.args_.length := hg.elim (fun h => absurd h hk) id
    have hpx : pairsX p t = p.args_.zip t.args_ := by rw [pairsX, if_neg hk]
    obtain ⟨L, hL⟩ : ∃ L, L = p.args_.zip t.args_ := ⟨_, rfl⟩
    rw [← hL] at hpx
    have HL := Lib.hid hL
    clear hL
    unfold PairsOut
    rw [hpx]
    have HLE := Lib.hid hlen
    clear hk hpx hg hlen
    go_enter Try.func96, Try.ntmps96
    go_wp2_with fail
    refine (implIsVar _ _ _ _ _ _).mono ?_
    rintro e w1 ⟨rfl, hb1⟩
    rw [hkb]
    have hx1 := HX0.out.below hb1 (by have := HS0.out; omega)
    have hbb := HB0.out.trans (hb1.mono HB0.out.size)
    have hw1 := hbb.size
    obtain ⟨x0, x1, x2, x3, x4, x5⟩ := cells6 hx1
    have hcl : ∀ b o, Und n₀ b → w1.cell? ⟨b, o, none⟩ = w.cell? ⟨b, o, none⟩ := fun b o h => hbb.cell (p := ⟨b, o, none⟩) (Nat.lt_of_lt_of_le (show b < n₀ from h) hn)
    have hcall := implPairsOf p.args_ t.args_ A C a c n₀ w1 (Nat.le_trans hn hw1) HLE.out hsz (HP.out.frame (fun _ h => h) hcl) (HT.out.frame (fun _ h => h) hcl)
    have hwl := hx1.lt
    have HW1 := Lib.hid hw1
    unfold ZipOut at hcall
    rw [← HL.out] at hcall
    have HC := Lib.hid hcall
    have HB1 := Lib.hid hbb
    clear hb1 hx1 hbb HB0 HX0 HS0 hcall hcl
    go_wp2_with fail
    refine HC.out.mono ?_
    rintro e w2 ⟨A2, c2, rfl, h1, h2, h3, h4⟩
    have h3' : TopPair w2 n₀ (fun b => w.heap.size ≤ b ∧ b < w2.heap.size) A2 L := h3.frame (fun b h => ⟨Nat.le_trans HW1.out h.1, h.2⟩) fun _ _ => rfl
    have HT3 := Lib.hid h3'
    have HB2 := Lib.hid (HB1.out.trans (h4.mono HW1.out))
    clear h3 h3' h4
    go_wp2
    go_ret
    exact ⟨A2, c2, rfl, h1, h2, HT3.out, HB2.out⟩
end Go.Proofs.Ytkiofeiinecpiaa
namespace Go.Proofs.Ytkiofeiinecpiaa
open Go.RowKit Go.Shelf Go.Lib
attribute [local go_sem] Oper.semAt_some

theorem infoPRow : (Try.prog.info? 140).map (fun i => (i.zero, i.size, i.bytes)) = some (some (.slice none 0 0), 1, 24) := by kernel_rfl
/-- What a round may rely on. -/
def PairOk (p t : TypeX) (n₀ : Nat) (w : World) (pre : List PairIt) (y : PairIt) : Prop := (∃ rest, p.walkP 0 t = (pre ++ [y]).map PairIt.key ++ rest) ∧ TypeRow w (Und n₀) y.A y.a y.p.args_ ∧ TypeRow w (Und n₀) y.C y.c y.t.args_

set_option maxRecDepth 100000 in
set_option maxHeartbeats 4000000 in
theorem prePair_seq (p t : TypeX) (A C : Option Addr) (a c Br Bp n₀ : Nat) (Rd : Nat → Prop) (w : World) (hRp : Rd Bp) (hBr : Br < w.heap.size) (hBp : Bp < w.heap.size)
    (hwr : Whole w Br 112 #[.int .i64 p.kind_, .string p.name_, .slice A p.args_.length a, .int .i64 t.kind_, .string t.name_, .slice C t.args_.length c]) (hwp : w.cell? ⟨Bp, 0, none⟩ = some (.func (.func 96) #[] #[]))
    (hn : n₀ ≤ w.heap.size) (hx : TypeRow w (Und n₀) A a p.args_) (hy : TypeRow w (Und n₀) C c t.args_) (hsz : p.size ≤ 4294967296) :
    SeqG Fence.wide 3 Try.prog 122 #[.pointer (some ⟨Br, 0, none⟩), .pointer (some ⟨Bp, 0, none⟩)] PairIt.enc
      (PairOk p t n₀ w) (fun xs => xs.map PairIt.key = p.walkP 0 t) (fun y => GoodP y.p y.t) n₀ Rd w := by
  intro l J Jx W hW hJ hY hG h0
  obtain ⟨i0, hi, hz0, hz1, hz2⟩ := info_parts infoPRow
  have hwl0 := walkP_length 0 p t
  have hleft := walkP_left 0 p t
  have hwr' := hwr.below hW hBr
  obtain ⟨c0, c1, c2, c3, c4, c5⟩ := cells6 hwr'
  have HY := Lib.hid hY
  have HJ := Lib.hid hJ
  have HG := Lib.hid hG
  have HLEFT := Lib.hid hleft
  clear hY hJ hG hleft hwr'
  refine callsIn_of_wp Try.func122 rfl trivial ?_ rfl
  simp only [Try.ntmps122, List.size_toArray, List.length_cons, List.length_nil, Nat.reduceAdd, Nat.reduceSub, Array.replicate_succ, Array.replicate_zero, List.push_toArray, List.append_toArray, List.nil_append, List.cons_append]
  gi_wp2
  have hb0 : Below W.heap.size W ((W.alloc (.cells #[.int .i64 p.kind_, .string p.name_, .slice A p.args_.length a, .int .i64 t.kind_, .string t.name_, .slice C t.args_.length c] 112)).alloc (.cells #[.slice (some ⟨W.heap.size, 0, none⟩) 1 1] 140)) := ((Below.refl _ _).alloc (Nat.le_refl _) _).alloc (by simp) _
  obtain ⟨W0, hW0⟩ : ∃ W0, (W.alloc (.cells #[.int .i64 p.kind_, .string p.name_, .slice A p.args_.length a, .int .i64 t.kind_, .string t.name_, .slice C t.args_.length c] 112)).alloc (.cells #[.slice (some ⟨W.heap.size, 0, none⟩) 1 1] 140) = W0 := ⟨_, rfl⟩
  have hs0 : W0.heap.size = W.heap.size + 2 := by rw [← hW0]; simp
  have hown0 := World.ownsRow_lit (base := W.heap.size + 1) (size := 1) (e := 140) (W.alloc (.cells #[.int .i64 p.kind_, .string p.name_, .slice A p.args_.length a, .int .i64 t.kind_, .string t.name_, .slice C t.args_.length c] 112)) #[.slice (some ⟨W.heap.size, 0, none⟩) 1 1] 1 (by simp) (by decide) rfl
  rw [World.size_alloc] at hown0
  have hwh0 : Whole W0 W.heap.size 112 #[.int .i64 p.kind_, .string p.name_, .slice A p.args_.length a, .int .i64 t.kind_, .string t.name_, .slice C t.args_.length c] := by
    rw [← hW0]; exact (Whole.new W _ _).below ((Below.refl (W.heap.size + 1) _).alloc (by simp) _) (by omega)
  rw [hW0] at hown0 hb0 ⊢
  have hJ0 := HJ.out _ _ _ _ none h0 (grown_none hb0) (fun _ e => by cases e)
  have hfx : ∀ b o, Und n₀ b → W0.cell? ⟨b, o, none⟩ = w.cell? ⟨b, o, none⟩ := fun b o hP => by
    have hlt : b < w.heap.size := Nat.lt_of_lt_of_le hP hn
    rw [hb0.cell (p := ⟨b, o, none⟩) (Nat.lt_of_lt_of_le hlt hW.size)]; exact hW.cell (p := ⟨b, o, none⟩) hlt
  have hT0 : TopPair W0 n₀ (fun b => b = W.heap.size) (some ⟨W.heap.size, 0, none⟩) [(p, t)] := by
    intro j hj
    obtain rfl : j = 0 := by simpa using hj
    obtain ⟨d0, d1, d2, d3, d4, d5⟩ := cells6 hwh0
    exact ⟨W.heap.size, 0, A, a, C, c, rfl, rfl, d0, d1, d2, d3, d4, d5, hx.frame (fun _ h => h) hfx, hy.frame (fun _ h => h) hfx⟩
  have hTs0 : TopsPair W0 n₀ (fun b => b = W.heap.size) [[(p, t)]] [.slice (some ⟨W.heap.size, 0, none⟩) 1 1] := ⟨[], _, 1, rfl, by simp, by omega, hT0, rfl⟩
  have hRb : ∀ b, Rd b → b < w.heap.size → W0.heap[b]? = w.heap[b]? := fun b _ h => (hb0.block b (Nat.lt_of_lt_of_le h hW.size)).trans (hW.block b h)
  have hbl0 : Below n₀ w W0 := (hW.mono hn).trans (hb0.mono (by have := hW.size; omega))
  have HB := Lib.hid hRb
  have HO := Lib.hid hown0
  have HT := Lib.hid hTs0
  have HS := Lib.hid hs0
  have HW := Lib.hid hwr
  have HP := Lib.hid hwp
  clear hW0 hRb hown0 hTs0 hs0 c0 c1 c2 c3 c4 c5 hfx hT0 hwh0 hx hy hwr hwp
  have hnb : n₀ ≤ W.heap.size := Nat.le_trans hn hW.size
  have hwb := hW.size
  gi_loopg [4] (2 * (p.walkP 0 t).length + 1) (fun gk rv wr => ∃ (M R : Nat → Prop) (pre : List PairIt) (rs : List (List PairX)) (vs : List Value), PrePairSt J w n₀ W.heap.size Rd M R pre rs vs rv wr ∧
    pre.map PairIt.key ++ todoP rs = p.walkP 0 t ∧ gk = 2 * (todoP rs).length + rs.length ∧ rs.length ≤ pre.length + 1)
  case atStart =>
    have hs0 := HS.out
    refine ⟨_, fun b => b = W.heap.size, [], [[(p, t)]], _, ⟨hJ0, HO.out, fun b hb => .inr ?_, fun b hb => .inr ?_, fun b hb => ?_, HT.out, hbl0, HB.out, fun b hb => ?_, by omega⟩, by rw [todoP_start]; rfl, by rw [todoP_start]; rfl, by simp⟩
    · simp [Value.ownBlock] at hb; omega
    · omega
    · simp [Value.ownBlock] at hb; omega
    · rcases hb with hb | hb
      · exact hb.elim
      · omega
  case round =>
    clear HB HO HT HS hJ0 hbl0 hb0 h0
    obtain ⟨M, R, pre, rs, vs, hst, hpre, rfl, hlen⟩ := hrel
    cases rs with
    | nil =>
      obtain ⟨A1, c1, rfl⟩ := own_nil hst.own
      have hfin : pre.map PairIt.key = p.walkP 0 t := by rw [← hpre, todoP, List.append_nil]
      have HF := Lib.hid hfin
      have HST := Lib.hid hst
      clear hpre hfin hst hlen
      gi_wp2
      go_end0
      exact ⟨⟨_, rfl⟩, .inl ⟨M, pre, HF.out, HST.out.j⟩⟩
    | cons l' rs =>
      obtain ⟨vs0, A1, c1, rfl, hlc, hcm, hT, hts0⟩ := hst.tops
      have hvl := hts0.length
      have hown := hst.own
      rw [List.length_cons] at hown hlen
      obtain ⟨g, cap, rfl⟩ := own_some hown
      obtain ⟨hown0, hcell, hcap, hcm2, hBg, hgw⟩ := own_pop hown (by rw [hvl, Nat.mul_one]) rfl
      have hc0 : wr.cell? ⟨g, rs.length, none⟩ = some (.slice A1 l'.length c1) := by have := hcell 0 (by decide); rw [Nat.mul_one, Nat.add_zero] at this; exact this
      have hfr := hown.frozenAt rs.length
      have hwl : pre.length + (todoP (l' :: rs)).length ≤ 4294967296 := by
        have := congrArg List.length hpre; rw [List.length_append, List.length_map] at this; omega
      have hrl : rs.length ≤ 4294967296 := by omega
      unfold maxLen at hcm2
      cases l' with
      | nil =>
        rw [todoP_pop] at hpre
        have hme : 2 * (todoP rs).length + rs.length < 2 * (todoP ([] :: rs)).length + ([] :: rs).length := by rw [todoP_pop, List.length_cons]; omega
        have hst1 : PrePairSt J w n₀ W.heap.size Rd M R pre rs vs0 (.slice (some ⟨g, 0, none⟩) rs.length cap) wr := ⟨hst.j, hown0, fun b hb => hst.mown b (by simpa [Value.ownBlock] using hb), hst.rm, fun b hb => hst.rown b (by simpa [Value.ownBlock] using hb), hts0, hst.below, hst.rd, hst.lt, hst.size⟩
        have HME := Lib.hid hme
        have HPR := Lib.hid hpre
        have HST := Lib.hid hst1
        have hc0' : wr.cell? ⟨g, rs.length, none⟩ = some (.slice A1 0 c1) := hc0
        clear hme hpre hown0 hown hcell hT hts0 hvl hwl hc0 hst hst1
        gi_wp2
        gi_roundg (2 * (todoP rs).length + rs.length)
        case measure => exact HME.out
        case rel => exact ⟨M, R, pre, rs, vs0, HST.out, HPR.out, rfl, by omega⟩
      | cons y ys =>
        obtain ⟨yp, yt⟩ := y
        obtain ⟨b, o, A2, a2, C2, c2, rfl, hb, q0, q1, q2, q3, q4, q5, hr, hr2⟩ := hT 0 (by simp)
        simp only [Nat.zero_mul, Nat.add_zero, List.getElem_cons_zero] at q0 q1 q2 q3 q4 q5 hr hr2
        have hlc' : ys.length + 1 ≤ c1 := hlc
        have hc0' : wr.cell? ⟨g, rs.length, none⟩ = some (.slice (some ⟨b, o, none⟩) (ys.length + 1) c1) := hc0
        have hme : 2 * (todoP (pairsX yp yt :: ys :: rs)).length + (pairsX yp yt :: ys :: rs).length < 2 * (todoP (((yp, yt) :: ys) :: rs)).length + (((yp, yt) :: ys) :: rs).length := by
          rw [todoP_step, List.length_cons, List.length_cons, List.length_cons, List.length_cons]; omega
        rw [todoP_step] at hpre
        have hpre2 : (pre ++ [PairIt.mk rs.length yp yt A2 a2 C2 c2]).map PairIt.key ++ todoP (pairsX yp yt :: ys :: rs) = p.walkP 0 t := by rw [← hpre, List.map_append, List.append_assoc]; rfl
        have hyl : yp.args_.length ≤ 4294967296 := by
          have h1 := HLEFT.out (rs.length, yp, yt) (by rw [← hpre]; simp)
          have h2 := TypeX.size_eq yp
          have h3 := sizeL_length yp.args_
          simp only at h1
          omega
        have hfw : ∀ b i, Und n₀ b → w.cell? ⟨b, i, none⟩ = wr.cell? ⟨b, i, none⟩ := fun b i hP => (World.cell?_of_block (w := w) (w' := wr) (a := ⟨b, i, none⟩) (hst.below.block b hP)).symm
        have hrw : TypeRow w (Und n₀) A2 a2 yp.args_ := hr.frame (fun _ h => h) hfw
        have hrw2 : TypeRow w (Und n₀) C2 c2 yt.args_ := hr2.frame (fun _ h => h) hfw
        -- WHAT STANDS BEHIND THE STORE AND THE NEW VARIABLE, whatever the rest's address
        have key : ∀ (A3 : Option Addr) (c3 : Nat), ys.length ≤ c3 → c3 ≤ 9223372036854775807 → TopPair wr n₀ R A3 ys →
            ∃ (M3 : Nat → Prop), PrePairSt J w n₀ W.heap.size Rd M3 R pre (ys :: rs) (vs0 ++ [.slice A3 ys.length c3]) (.slice (some ⟨g, 0, none⟩) (rs.length + 1) cap)
              ((wr.setCell ⟨g, rs.length, none⟩ (.slice A3 ys.length c3)).alloc (.cells #[.int .i64 yp.kind_, .string yp.name_, .slice A2 yp.args_.length a2, .int .i64 yt.kind_, .string yt.name_, .slice C2 yt.args_.length c2] 112)) ∧ M3 wr.heap.size ∧ Whole ((wr.setCell ⟨g, rs.length, none⟩ (.slice A3 ys.length c3)).alloc (.cells #[.int .i64 yp.kind_, .string yp.name_, .slice A2 yp.args_.length a2, .int .i64 yt.kind_, .string yt.name_, .slice C2 yt.args_.length c2] 112)) wr.heap.size 112 #[.int .i64 yp.kind_, .string yp.name_, .slice A2 yp.args_.length a2, .int .i64 yt.kind_, .string yt.name_, .slice C2 yt.args_.length c2] := fun A3 c3 h1 h2 h3 => by
          have hs := PrePairSt.store HJ.out hnb hwb hst hts0 h1 h2 h3
          refine ⟨_, PrePairSt.grow HJ.out hnb hwb hs ((Below.refl _ _).alloc (Nat.le_refl _) _), .inr ⟨by simp, by simp⟩, ?_⟩
          have h := Whole.new (wr.setCell ⟨g, rs.length, none⟩ (.slice A3 ys.length c3)) 112 #[.int .i64 yp.kind_, .string yp.name_, .slice A2 yp.args_.length a2, .int .i64 yt.kind_, .string yt.name_, .slice C2 yt.args_.length c2]
          simpa using h
        have HKEY := Lib.hid key
        have HPR := Lib.hid hpre2
        have HRW := Lib.hid hrw
        have HRW2 := Lib.hid hrw2
        have HT := Lib.hid hT
        have HME := Lib.hid hme
        have hpl : pre.length ≤ 4294967296 := by omega
        clear hpre hown hown0 hts0 hT hvl hcell hst hwl hr hr2 hlc hc0 hpre2 hrw hrw2 hme key hfw
        by_cases hcc : c1 = 1
        · subst hcc
          have hl0 : ys.length = 0 := by omega
          obtain rfl : ys = [] := List.eq_nil_of_length_eq_zero hl0
          obtain ⟨M3, hst3, hM3, hbx⟩ := HKEY.out (some ⟨b, o, none⟩) 0 (Nat.le_refl _) (by omega) (TopPair.nil _ _ _ _)
          clear hl0
          obtain ⟨fn, tmps, assign, body, hy, hR⟩ := HY.out M3 pre (PairIt.mk rs.length yp yt A2 a2 C2 c2) _ hst3.j ⟨⟨_, HPR.out.symm⟩, HRW.out, HRW2.out⟩
          simp only [PairIt.enc, List.length_nil] at hy
          have HST := Lib.hid hst3
          have HBX := Lib.hid hbx
          have HM3 := Lib.hid hM3
          clear hst3 hbx hM3
          gi_wp2
          refine hR.mono ?_
          rintro e W4 (⟨rfl, hJ4, hk4⟩ | ⟨rfl, hJx4⟩)
          · have hgood : GoodP yp yt := HG.out _ _ (PairIt.mk rs.length yp yt A2 a2 C2 c2) _ hJ4
            have hst4 := PrePairSt.round HST.out hk4 hJ4
            have hbx4 : Whole W4 wr.heap.size 112 #[.int .i64 yp.kind_, .string yp.name_, .slice A2 yp.args_.length a2, .int .i64 yt.kind_, .string yt.name_, .slice C2 yt.args_.length c2] := (hk4.own _ (.inl HM3.out)).trans HBX.out
            have hbl4 := hbx4.lt
            obtain ⟨d0, d1, d2, d3, d4, d5⟩ := cells6 hbx4
            have dp : W4.cell? ⟨Bp, 0, none⟩ = some (.func (.func 96) #[] #[]) := (World.cell?_of_block (w := w) (w' := W4) (a := ⟨Bp, 0, none⟩) (hst4.rd Bp hRp hBp)).trans HP.out
            have hfw4 : ∀ b i, Und n₀ b → W4.cell? ⟨b, i, none⟩ = w.cell? ⟨b, i, none⟩ := fun b i hP => World.cell?_of_block (a := ⟨b, i, none⟩) (hst4.below.block b hP)
            have hcall := implArgPairs yp yt A2 C2 a2 c2 n₀ W4 (by have := hst4.size; omega) hgood hyl (HRW.out.frame (fun _ h => h) hfw4) (HRW2.out.frame (fun _ h => h) hfw4)
            have hgl : g < W4.heap.size := (hst4.own.lt g rfl).2
            have hs4 := hst4.size
            have HST4 := Lib.hid hst4
            have HK4 := Lib.hid hk4
            have HC4 := Lib.hid hcall
            clear hst4 hbx4 hJ4 hk4 hy hR hc0' q0 q1 q2 q3 q4 q5 hcall hfw4 hgood
            gi_wp2_with fail
            refine ⟨trivial, ?_⟩
            refine (callsIn_wide.2 HC4.out).mono ?_
            rintro e W5 ⟨A5, c5, rfl, hl5, hc5, hT5, hb5⟩
            have hst5 := PrePairSt.grow HJ.out hnb hwb HST4.out hb5
            have hst6 := PrePairSt.grow HJ.out hnb hwb hst5 ((Below.refl _ _).alloc (Nat.le_refl _) (.cells #[.slice A5 (pairsX yp yt).length c5] 140))
            have hown6 := hst6.own
            have hs5 := hb5.size
            have hs6 := hst6.size
            have ht6 : TopPair (W5.alloc (.cells #[.slice A5 (pairsX yp yt).length c5] 140)) n₀ (fun b => R b ∨ (W4.heap.size ≤ b ∧ b < W5.heap.size)) A5 (pairsX yp yt) := hT5.frame (fun b h => .inr h) (fun b h => Below.heap_alloc _ _ _ (by
              rcases h with h | h
              · omega
              · exact h.2))
            have HST6 := Lib.hid hst6
            have HO6 := Lib.hid hown6
            have HT6 := Lib.hid ht6
            clear hst5 hst6 hb5 hown6 ht6 hT5 d0 d1 d2 d3 d4 d5 dp HC4
            gi_wp2_with (gi_at_builtin; refine wpListIn_append_at _ rfl _ _ 141 rfl (W.heap.size + 1) 140 i0 (.slice none 0 0) 1 24 Try.underlying141 hi hz0 hz1 hz2 rfl (by decide) _ _ _ rfl HO6.out ⟨W5.heap.size, 0, none⟩ 1 1 [.slice A5 (pairsX yp yt).length c5] rfl rfl (cell_one_new _ _ _) (one_slice _ _ _) (by unfold maxLen; simp only [List.length_cons]; omega) (by simp only [List.length_cons]; omega) (by omega) ?_)
            intro v' W7 hown7 hgrow7 hv7
            have hst7 := PrePairSt.push HJ.out hnb hwb HST6.out (R' := fun b => R b ∨ (W4.heap.size ≤ b ∧ b < W5.heap.size)) (fun b h => .inl h) (fun b h => h.elim (fun h => HST6.out.rm b h) (fun h => .inl (.inr h))) (fun b hb h => by
              have hgb : g = b := by simpa [Value.ownBlock] using hb
              subst hgb
              rcases h with h | h
              · exact HST6.out.rown g rfl h
              · omega) hgrow7 (by rw [List.append_assoc]; exact hown7) (hv7.imp_right (fun h => h.trans (by simp))) hl5 hc5 HT6.out
            have HST7 := Lib.hid hst7
            clear hst7 hown7 hgrow7 hv7 hs6
            gi_wp2
            gi_roundg (2 * (todoP (pairsX yp yt :: [] :: rs)).length + (pairsX yp yt :: [] :: rs).length)
            case measure => exact HME.out
            case rel => exact ⟨_, _, _, _, _, HST7.out, HPR.out, rfl, by simp only [List.length_append, List.length_cons, List.length_nil]; omega⟩
          · gi_wp2
            refine bodyPost_ret (results_none rfl _ _ _) rfl ?_
            exact ⟨⟨_, rfl⟩, .inr ⟨_, hJx4⟩⟩
        · have hcc' : 1 < c1 := by omega
          clear hcc
          obtain ⟨M3, hst3, hM3, hbx⟩ := HKEY.out (some ⟨b, o + 6, none⟩) (c1 - 1) (by omega) (by omega) HT.out.tail
          obtain ⟨fn, tmps, assign, body, hy, hR⟩ := HY.out M3 pre (PairIt.mk rs.length yp yt A2 a2 C2 c2) _ hst3.j ⟨⟨_, HPR.out.symm⟩, HRW.out, HRW2.out⟩
          simp only [PairIt.enc] at hy
          have HST := Lib.hid hst3
          have HBX := Lib.hid hbx
          have HM3 := Lib.hid hM3
          clear hst3 hbx hM3
          gi_wp2
          refine hR.mono ?_
          rintro e W4 (⟨rfl, hJ4, hk4⟩ | ⟨rfl, hJx4⟩)
          · have hgood : GoodP yp yt := HG.out _ _ (PairIt.mk rs.length yp yt A2 a2 C2 c2) _ hJ4
            have hst4 := PrePairSt.round HST.out hk4 hJ4
            have hbx4 : Whole W4 wr.heap.size 112 #[.int .i64 yp.kind_, .string yp.name_, .slice A2 yp.args_.length a2, .int .i64 yt.kind_, .string yt.name_, .slice C2 yt.args_.length c2] := (hk4.own _ (.inl HM3.out)).trans HBX.out
            have hbl4 := hbx4.lt
            obtain ⟨d0, d1, d2, d3, d4, d5⟩ := cells6 hbx4
            have dp : W4.cell? ⟨Bp, 0, none⟩ = some (.func (.func 96) #[] #[]) := (World.cell?_of_block (w := w) (w' := W4) (a := ⟨Bp, 0, none⟩) (hst4.rd Bp hRp hBp)).trans HP.out
            have hfw4 : ∀ b i, Und n₀ b → W4.cell? ⟨b, i, none⟩ = w.cell? ⟨b, i, none⟩ := fun b i hP => World.cell?_of_block (a := ⟨b, i, none⟩) (hst4.below.block b hP)
            have hcall := implArgPairs yp yt A2 C2 a2 c2 n₀ W4 (by have := hst4.size; omega) hgood hyl (HRW.out.frame (fun _ h => h) hfw4) (HRW2.out.frame (fun _ h => h) hfw4)
            have hgl : g < W4.heap.size := (hst4.own.lt g rfl).2
            have hs4 := hst4.size
            have HST4 := Lib.hid hst4
            have HK4 := Lib.hid hk4
            have HC4 := Lib.hid hcall
            clear hst4 hbx4 hJ4 hk4 hy hR hc0' q0 q1 q2 q3 q4 q5 hcall hfw4 hgood
            gi_wp2_with fail
            refine ⟨trivial, ?_⟩
            refine (callsIn_wide.2 HC4.out).mono ?_
            rintro e W5 ⟨A5, c5, rfl, hl5, hc5, hT5, hb5⟩
            have hst5 := PrePairSt.grow HJ.out hnb hwb HST4.out hb5
            have hst6 := PrePairSt.grow HJ.out hnb hwb hst5 ((Below.refl _ _).alloc (Nat.le_refl _) (.cells #[.slice A5 (pairsX yp yt).length c5] 140))
            have hown6 := hst6.own
            have hs5 := hb5.size
            have hs6 := hst6.size
            have ht6 : TopPair (W5.alloc (.cells #[.slice A5 (pairsX yp yt).length c5] 140)) n₀ (fun b => R b ∨ (W4.heap.size ≤ b ∧ b < W5.heap.size)) A5 (pairsX yp yt) := hT5.frame (fun b h => .inr h) (fun b h => Below.heap_alloc _ _ _ (by
              rcases h with h | h
              · omega
              · exact h.2))
            have HST6 := Lib.hid hst6
            have HO6 := Lib.hid hown6
            have HT6 := Lib.hid ht6
            clear hst5 hst6 hb5 hown6 ht6 hT5 d0 d1 d2 d3 d4 d5 dp HC4
            gi_wp2_with (gi_at_builtin; refine wpListIn_append_at _ rfl _ _ 141 rfl (W.heap.size + 1) 140 i0 (.slice none 0 0) 1 24 Try.underlying141 hi hz0 hz1 hz2 rfl (by decide) _ _ _ rfl HO6.out ⟨W5.heap.size, 0, none⟩ 1 1 [.slice A5 (pairsX yp yt).length c5] rfl rfl (cell_one_new _ _ _) (one_slice _ _ _) (by unfold maxLen; simp only [List.length_cons]; omega) (by simp only [List.length_cons]; omega) (by omega) ?_)
            intro v' W7 hown7 hgrow7 hv7
            have hst7 := PrePairSt.push HJ.out hnb hwb HST6.out (R' := fun b => R b ∨ (W4.heap.size ≤ b ∧ b < W5.heap.size)) (fun b h => .inl h) (fun b h => h.elim (fun h => HST6.out.rm b h) (fun h => .inl (.inr h))) (fun b hb h => by
              have hgb : g = b := by simpa [Value.ownBlock] using hb
              subst hgb
              rcases h with h | h
              · exact HST6.out.rown g rfl h
              · omega) hgrow7 (by rw [List.append_assoc]; exact hown7) (hv7.imp_right (fun h => h.trans (by simp))) hl5 hc5 HT6.out
            have HST7 := Lib.hid hst7
            clear hst7 hown7 hgrow7 hv7 hs6
            gi_wp2
            gi_roundg (2 * (todoP (pairsX yp yt :: ys :: rs)).length + (pairsX yp yt :: ys :: rs).length)
            case measure => exact HME.out
            case rel => exact ⟨_, _, _, _, _, HST7.out, HPR.out, rfl, by simp only [List.length_append, List.length_cons, List.length_nil]; omega⟩
          · gi_wp2
            refine bodyPost_ret (results_none rfl _ _ _) rfl ?_
            exact ⟨⟨_, rfl⟩, .inr ⟨_, hJx4⟩⟩
end Go.Proofs.Ytkiofeiinecpiaa
namespace Go.Proofs.Ytkiofeiinecpiaa
open Go.RowKit

def addNew (acc : List ByteArray) (x : ByteArray) : List ByteArray := if has acc x then acc else acc ++ [x]
/-- The elements of the second list that are new, each once, behind the first. -/
def uniF (acc l : List ByteArray) : List ByteArray := l.foldl addNew acc
theorem uniF_take {acc l : List ByteArray} {k : Nat} (h : k < l.length) : uniF acc (l.take (k + 1)) = addNew (uniF acc (l.take k)) l[k] := by
  rw [List.take_succ_eq_append_getElem h, uniF, List.foldl_append]
  rfl
theorem uniF_append (acc a b : List ByteArray) : uniF acc (a ++ b) = uniF (uniF acc a) b := by simp [uniF]
theorem addNew_old {acc : List ByteArray} {x : ByteArray} (h : has acc x = true) : addNew acc x = acc := by rw [addNew, h]; rfl
theorem addNew_new {acc : List ByteArray} {x : ByteArray} (h : has acc x = false) : addNew acc x = acc ++ [x] := by rw [addNew, h]; rfl
theorem uniF_len : ∀ (l acc : List ByteArray), (uniF acc l).length ≤ acc.length + l.length
  | [], acc => by simp [uniF]
  | x :: r, acc => by
    have h := uniF_len r (addNew acc x)
    have e : uniF acc (x :: r) = uniF (addNew acc x) r := rfl
    rw [e]
    have : (addNew acc x).length ≤ acc.length + 1 := by
      unfold addNew
      split <;> simp
    simp only [List.length_cons]
    omega
theorem uniF_eq : ∀ (l acc : List ByteArray), (uniF acc l).length = acc.length + l.length → uniF acc l = acc ++ l
  | [], acc, _ => by simp [uniF]
  | x :: r, acc, h => by
    have e : uniF acc (x :: r) = uniF (addNew acc x) r := rfl
    rw [e] at h ⊢
    cases hx : has acc x with
    | true =>
      rw [addNew_old hx] at h
      have := uniF_len r acc
      simp only [List.length_cons] at h
      omega
    | false =>
      rw [addNew_new hx] at h ⊢
      rw [uniF_eq r (acc ++ [x]) (by rw [h]; simp; omega), List.append_assoc]
      rfl
theorem has_addNew (acc : List ByteArray) (x s : ByteArray) : has (addNew acc x) s = (has acc s || x.data.toList == s.data.toList) := by
  cases h : has acc x with
  | true =>
    rw [addNew_old h]
    cases he : x.data.toList == s.data.toList with
    | true => rw [← data_inj (eq_of_beq he), h]; rfl
    | false => rw [Bool.or_false]
  | false => rw [addNew_new h, has_snoc]
theorem has_uniF (s : ByteArray) : ∀ (l acc : List ByteArray), has (uniF acc l) s = (has acc s || has l s)
  | [], acc => by simp [uniF, has]
  | x :: r, acc => by
    have e : uniF acc (x :: r) = uniF (addNew acc x) r := rfl
    rw [e, has_uniF s r, has_addNew, Bool.or_assoc]
    rfl
theorem uniF_mem {x : ByteArray} {l : List ByteArray} (h : x ∈ uniF [] l) : x ∈ l := by
  rw [← has_iff] at h ⊢
  rw [has_uniF] at h
  exact h
/-- No two elements are equal. -/
def distinct (ss : List ByteArray) : Bool := decide ((uniF [] ss).length = ss.length)
theorem distinct_yes {ss : List ByteArray} (h : uniF [] ss = ss) : distinct ss = true := by rw [distinct, h]; simp
theorem distinct_no {ss : List ByteArray} {k : Nat} (hk : k < ss.length) (he : uniF [] (ss.take k) = ss.take k) (hh : has (ss.take k) ss[k] = true) : distinct ss = false := by
  have e : uniF [] ss = uniF (ss.take k) (ss.drop (k + 1)) := by
    have h1 : uniF [] ss = uniF (uniF [] (ss.take (k + 1))) (ss.drop (k + 1)) := by rw [← uniF_append, List.take_append_drop]
    rw [h1, uniF_take hk, he, addNew_old hh]
  have h2 := uniF_len (ss.drop (k + 1)) (ss.take k)
  rw [← e] at h2
  simp only [List.length_take, List.length_drop] at h2
  rw [distinct, decide_eq_false_iff_not]
  omega
theorem distinct_step {ss : List ByteArray} {k : Nat} (hk : k < ss.length) (he : uniF [] (ss.take k) = ss.take k) (hh : has (ss.take k) ss[k] = false) : uniF [] (ss.take (k + 1)) = ss.take (k + 1) := by
  rw [uniF_take hk, he, addNew_new hh, ← List.take_succ_eq_append_getElem hk]

theorem uniF_uniF : ∀ (l acc : List ByteArray), uniF [] acc = acc → uniF [] (uniF acc l) = uniF acc l
  | [], acc, h => h
  | x :: r, acc, h => by
    have e : uniF acc (x :: r) = uniF (addNew acc x) r := rfl
    rw [e]
    refine uniF_uniF r _ ?_
    cases hx : has acc x with
    | true => rw [addNew_old hx]; exact h
    | false =>
      rw [addNew_new hx, uniF_append, h]
      exact addNew_new hx
theorem distinct_uni (l : List ByteArray) : distinct (uniF [] l) = true := distinct_yes (uniF_uniF l [] rfl)

theorem Strs.take {w : World} {A : Option Addr} {ss : List ByteArray} (h : Strs w A ss) (k : Nat) : Strs w A (ss.take k) := by
  rcases h with h | ⟨g, o, hA, hg, hc⟩
  · exact .inl (by rw [h]; simp)
  · refine .inr ⟨g, o, hA, hg, fun j s hj => hc j s ?_⟩
    rw [List.getElem?_take] at hj
    split at hj
    · exact hj
    · cases hj
/-- A NEW ROW of these strings, owned. -/
def RowOf (d : List ByteArray) (w : World) (e : Ending) (w' : World) : Prop :=
  ∃ V, e = .returned V ∧ w'.ownsRow w.heap.size 9 1 V d.length (d.map Value.string) ∧ Below w.heap.size w w'
end Go.Proofs.Ytkiofeiinecpiaa
namespace Go.Proofs.Ytkiofeiinecpiaa
open Go.RowKit Go.Lib

/-- What the strings of one row add to a row of the call's own. -/
theorem run_append_strs {w : World} (base : Nat) (V : Value) (d : List ByteArray) (hown : w.ownsRow base 9 1 V d.length (d.map Value.string)) (A : Option Addr) (c : Nat) (ss : List ByteArray) (hA : Strs w A ss)
    (hd : d.length ≤ 17179869184) (hs : ss.length ≤ 17179869184) (hbase : base ≤ w.heap.size) (ty : TypeId) :
    ∃ v' w', (Builtin.append_ #[35, 35] ty #[V, .slice A ss.length c]).run Try.prog w = .ok v' w' ∧ w'.ownsRow base 9 1 v' (d ++ ss).length ((d ++ ss).map Value.string) ∧ w.grownBy w' V.ownBlock := by
  obtain ⟨i0, hi, hz0, hz1, hz2⟩ := info_parts infoString
  by_cases h0 : ss = []
  · subst h0
    simp only [List.append_nil, List.length_nil]
    cases A with
    | none => exact ⟨V, w, run_append_nil base _ ty _ i0 1 Try.underlying35 hi V d.length c _ hown, hown, ⟨rfl, rfl, rfl, Nat.le_refl _, fun _ _ _ => rfl⟩⟩
    | some ad =>
      obtain ⟨v', w', hr, h2, h3, _, _⟩ := _root_.Go.run_append_own_at (P := Try.prog) (w := w) base _ ty _ i0 _ 1 16 Try.underlying35 hi hz0 hz1 hz2 rfl (by decide) V d.length _ hown ad 0 c [] (by simp) (by simp) (by simp) (by unfold maxLen; omega) (by omega) hbase
      exact ⟨v', w', hr, by simpa using h2, h3⟩
  · rcases hA with hA | ⟨g, o, rfl, hg, hc⟩
    · exact absurd hA h0
    · obtain ⟨v', w', hr, h2, h3, _, _⟩ := _root_.Go.run_append_own_at (P := Try.prog) (w := w) base _ ty _ i0 _ 1 16 Try.underlying35 hi hz0 hz1 hz2 rfl (by decide) V d.length _ hown ⟨g, o, none⟩ ss.length c (ss.map Value.string) (by simp)
        (fun j u hj => by
          rw [List.getElem?_map] at hj
          cases hs : ss[j]? with
          | none => rw [hs] at hj; cases hj
          | some s =>
            rw [hs] at hj
            simp at hj
            subst hj
            have := hc j s hs
            rw [Go.WideShapes.add_plain]
            exact this)
        (fun u hu => by
          rw [List.mem_map] at hu
          obtain ⟨s, _, rfl⟩ := hu
          rfl) (by unfold maxLen; omega) (by omega) hbase
      exact ⟨v', w', hr, by rw [List.length_append, List.map_append]; exact h2, h3⟩

set_option maxRecDepth 100000 in
set_option maxHeartbeats 1000000 in
/-- Room for n strings: an empty row of the call's own. -/
theorem slicesGrow (n : Nat) (w : World) (hn : n ≤ 17179869184) :
    Calls Try.prog 126 #[.slice none 0 0, .int .i64 n] w (RowOf [] w) := by
  by_cases h0 : n = 0
  · subst h0
    go_enter Try.func126, Try.ntmps126
    go_wp2
    go_ret
    exact ⟨_, rfl, World.ownsRow_nil _ _ _ _, Below.refl _ _⟩
  · obtain ⟨G, cs, hrun, hsz, hnG, hG⟩ : ∃ (G : Nat) (cs : Array Value), (∀ ty, (Builtin.append_ #[35, 3] ty #[.slice none 0 0, .int .i64 n]).run Try.prog w = .ok (.slice (some ⟨w.heap.size, 0, none⟩) n G) (w.drew.alloc (.cells cs 9))) ∧ cs.size = G ∧ n ≤ G ∧ G ≤ maxLen := by
      obtain ⟨i0, hi, hz0, hz1, hz2⟩ := info_parts infoString
      have hge := grownCap_ge w n 0 9
      refine ⟨grownCap w n 0 9, #[] ++ Builtin.zeroCells (Value.string ByteArray.empty).cells n ++ Builtin.zeroCells (Value.string ByteArray.empty).cells (grownCap w n 0 9 - n), fun ty => ?_, ?_, hge, grownCap_le_maxLen w n 0 _ (by unfold maxLen; omega)⟩
      · have h := run_append_grow_zeros (P := Try.prog) w 35 3 ty 9 i0 (.string ByteArray.empty) .i64 .i64 Try.underlying35 Try.underlying3 hi hz0 none 0 0 [] (run_firstCells_none w.drew i0.size 0 0 0) n (by omega) (by omega) (by omega) (by omega)
          (by rw [hz2]; omega) (by rw [Nat.zero_add]; exact growslice_fits (by omega) (by rw [hz2]; omega))
        simp only [Nat.zero_add] at h
        exact h
      · rw [Array.size_append, Array.size_append, size_zeroCells, size_zeroCells]
        simp [Value.cells]
        omega
    have hG63 : G ≤ 9223372036854775807 := by unfold maxLen at hG; omega
    have hown : (w.drew.alloc (.cells cs 9)).ownsRow w.heap.size 9 1 (.slice (some ⟨w.heap.size, 0, none⟩) 0 G) 0 [] := World.ownsRow_made w.drew cs G (Nat.le_refl _) hG (by omega)
    have hb : Below w.heap.size w (w.drew.alloc (.cells cs 9)) := ((Below.refl w.heap.size w).drew).alloc (Nat.le_refl _) _
    have HO := Lib.hid hown
    have HB := Lib.hid hb
    clear hown hb hsz
    go_enter Try.func126, Try.ntmps126
    go_wp2_with (at_builtin; refine Lib.wpList_append_run _ rfl _ _ _ _ rfl _ _ rfl rfl _ _ (hrun _) ?_)
    all_goals (
      go_ret
      exact ⟨_, rfl, HO.out, HB.out⟩)

set_option maxRecDepth 100000 in
set_option maxHeartbeats 2000000 in
/-- Two lists, one behind the other: a row of the call's own. -/
theorem slicesConcat (A B : Option Addr) (ca cb g : Nat) (a b : List ByteArray) (w : World) (hA : Strs w A a) (hB : Strs w B b) (hg : Whole w g 35 #[.slice A a.length ca, .slice B b.length cb]) (ha : a.length ≤ 4294967296) (hb : b.length ≤ 4294967296) :
    Calls Try.prog 104 #[.slice (some ⟨g, 0, none⟩) 2 2] w (RowOf (a ++ b) w) := by
  have c0 : w.cell? ⟨g, 0, none⟩ = some (.slice A a.length ca) := hg.cell 0
  have c1 : w.cell? ⟨g, 1, none⟩ = some (.slice B b.length cb) := hg.cell 1
  have HA := Lib.hid hA
  have HB := Lib.hid hB
  have HG := Lib.hid hg
  clear hA hB hg
  go_enter Try.func104, Try.ntmps104
  go_wp2
  refine wp_loop_rounds 3 ?_
  rw [rounds_succ]
  go_wp2
  rw [rounds_succ]
  go_wp2
  rw [rounds_succ]
  go_wp2_with fail
  have hgr := slicesGrow (a.length + b.length) w (by omega)
  rw [Int.natCast_add] at hgr
  refine hgr.mono ?_
  clear hgr
  rintro e w1 ⟨V, rfl, hown1, hb1⟩
  have hglt := HG.out.lt
  have c0' := (hb1.cell (p := ⟨g, 0, none⟩) hglt).trans c0
  clear c0
  obtain ⟨V1, w2, hr1, hown2, hg2⟩ := run_append_strs w.heap.size V [] hown1 A ca a (HA.out.below hb1) (by simp) (by omega) hb1.size 35
  have hb2 : Below w.heap.size w w2 := hb1.grown hg2 hb1.size (fun k hk => (hown1.lt k hk).1)
  rw [List.nil_append] at hown2
  have c1' := (hb2.cell (p := ⟨g, 1, none⟩) hglt).trans c1
  clear c1
  obtain ⟨V2, w3, hr2, hown3, hg3⟩ := run_append_strs w.heap.size V1 a hown2 B cb b (HB.out.below hb2) (by omega) (by omega) hb2.size 35
  have hb3 : Below w.heap.size w w3 := hb2.grown hg3 hb2.size (fun k hk => (hown2.lt k hk).1)
  have HO := Lib.hid hown3
  have HW := Lib.hid hb3
  clear hown1 hown2 hown3 hg2 hg3 hb1 hb2 hb3 HA HB HG
  go_wp2
  refine wp_loop_rounds 3 ?_
  rw [rounds_succ]
  go_wp2_with (at_builtin; refine Lib.wpList_append_run _ rfl _ _ _ _ rfl _ _ rfl rfl _ _ hr1 ?_)
  rw [rounds_succ]
  go_wp2_with (at_builtin; refine Lib.wpList_append_run _ rfl _ _ _ _ rfl _ _ rfl rfl _ _ hr2 ?_)
  rw [rounds_succ]
  go_wp2
  go_ret
  exact ⟨_, rfl, HO.out, HW.out⟩
end Go.Proofs.Ytkiofeiinecpiaa
namespace Go.Proofs.Ytkiofeiinecpiaa
open Go.RowKit Go.Lib

theorem Seen.below {P : Program} {k e : TypeId} {w w' : World} {b n : Nat} {l : List ByteArray} (h : Seen P k e w b n l) (hb : Below w.heap.size w w') : Seen P k e w' b n l :=
  h.kept (row := none) ⟨hb.os, hb.tape, hb.output, hb.size, fun j hj _ => hb.block j hj⟩ (by simp)
theorem own_wide {w : World} {B B' size n : Nat} {e : TypeId} {v : Value} {xs : List Value} (h : w.ownsRow B e size v n xs) (hB : B' ≤ B) : w.ownsRow B' e size v n xs := by
  refine ⟨h.1, ?_⟩
  rcases h.2 with hn | ⟨g, cap, cur, rfl, hbg, rest⟩
  · exact .inl hn
  · exact .inr ⟨g, cap, cur, rfl, by omega, rest⟩

set_option maxRecDepth 100000 in
set_option maxHeartbeats 2000000 in
theorem implUnion (A B : Option Addr) (c c' : Nat) (a b : List ByteArray) (w : World) (hA : Strs w A a) (hB : Strs w B b) (ha : a.length ≤ 4294967296) (hb : b.length ≤ 4294967296) (hz : ∀ x ∈ a ++ b, x.size ≤ 9223372036854775807) :
    Calls Try.prog 72 #[.slice A a.length c, .slice B b.length c'] w (RowOf (uniF [] (a ++ b)) w) := by
  obtain ⟨i0, hi, hz0, hz1, hz2⟩ := info_parts infoString
  have hmm := @run_makeMap Try.prog
  have hal : Below w.heap.size w ((w.alloc (.map #[] 0)).alloc (.cells #[.slice A a.length c, .slice B b.length c'] 35)) := ((Below.refl _ _).alloc (Nat.le_refl _) _).alloc (by simp) _
  have hs0 : Seen Try.prog 9 4 ((w.alloc (.map #[] 0)).alloc (.cells #[.slice A a.length c, .slice B b.length c'] 35)) w.heap.size 0 [] := (Seen.made w).below ((Below.refl _ _).alloc (Nat.le_refl _) _)
  have hg0 := Whole.new (w.alloc (.map #[] 0)) 35 #[.slice A a.length c, .slice B b.length c']
  rw [World.size_alloc] at hg0
  have hcc := slicesConcat A B c c' (w.heap.size + 1) a b _ (hA.below hal) (hB.below hal) hg0 ha hb
  have HC := Lib.hid hcc
  have HAL := Lib.hid hal
  have HS0 := Lib.hid hs0
  have HZ := Lib.hid hz
  clear hcc hal hs0 hg0 hA hB hz
  go_enter Try.func72, Try.ntmps72
  go_wp2_with fail
  refine HC.out.mono ?_
  rintro e w1 ⟨V, rfl, hownL, hb1⟩
  have hll : (a ++ b).length ≤ 8589934592 := by rw [List.length_append]; omega
  have hs1 := HS0.out.below hb1
  have hbw := HAL.out.trans (hb1.mono HAL.out.size)
  have hsz1 := hb1.size
  simp only [World.size_alloc] at hownL hsz1
  clear HC HAL HS0 hb1
  obtain ⟨L, hL⟩ : ∃ L, L = a ++ b := ⟨_, rfl⟩
  rw [← hL] at hownL hll HZ ⊢
  have HLQ := Lib.hid hL
  clear hL ha hb
  obtain ⟨AL, cL, rfl, hSL⟩ := strs_own hownL
  clear hSL
  go_wp2
  go_loopw [5, 15] (fun v i wr => ∃ (k : Nat) (d : List ByteArray), k ≤ L.length ∧ i = .int .i64 k ∧ d = uniF [] (L.take k) ∧ wr.ownsRow w1.heap.size 9 1 v d.length (d.map Value.string) ∧ Seen Try.prog 9 4 wr w.heap.size d.length d ∧
    wr.ownsRow (w.heap.size + 1 + 1) 9 1 (.slice AL L.length cL) L.length (L.map Value.string) ∧ w1.heap.size ≤ wr.heap.size ∧ Below w.heap.size w wr) (fun _ i _ => L.length - (Go.RowKit.intOf i).toNat)
  case atStart => exact ⟨0, [], Nat.zero_le _, rfl, rfl, World.ownsRow_nil _ _ _ _, hs1, hownL, Nat.le_refl _, hbw⟩
  case round =>
    have hlt1 : ∀ q, (Value.slice AL L.length cL).ownBlock = some q → q < w1.heap.size := fun q hq => (hownL.lt q hq).2
    have HLT1 := Lib.hid hlt1
    clear hownL hs1 hbw hlt1
    obtain ⟨k, d, hk, rfl, hd, hown, hseen, hownL, hsz, hbl⟩ := hrel
    have hdl : d.length ≤ 8589934592 := by
      have := uniF_len (L.take k) []
      rw [← hd] at this
      rw [List.length_take] at this
      simp at this
      omega
    by_cases hlt : k < L.length
    · obtain ⟨AL', cL', e, hSL⟩ := strs_own hownL
      injection e with e1 _ e3
      subst e1 e3
      obtain ⟨g, o, rfl, hc⟩ := hSL.at_ hlt
      obtain ⟨x, hx⟩ : ∃ x, x = L[k] := ⟨_, rfl⟩
      have hxs : x.size ≤ 9223372036854775807 := HZ.out x (by rw [hx]; exact List.getElem_mem hlt)
      have hst := uniF_take (acc := []) hlt
      rw [← hd, ← hx] at hst
      rw [← hx] at hc
      have hold := @addNew_old d x
      have hnew := @addNew_new d x
      rw [← hst] at hold hnew
      have HO := Lib.hid hold
      have HN := Lib.hid hnew
      clear hd hst hold hnew hx hSL
      have hlk := hseen.look Try.underlying97 Try.underlying9 Try.underlying4 (zeroBool _) x hxs
      cases hh : has d x with
      | true =>
        have h1 := HO.out hh
        have H1 := Lib.hid h1
        rw [hh] at hlk
        clear h1 hh
        go_wp2
        go_roundw
        case rel => exact ⟨k + 1, d, by omega, by go_num, H1.out.symm, hown, hseen, hownL, hsz, hbl⟩
        case measure => simp [Go.RowKit.intOf]; omega
      | false =>
        have h1 := HN.out hh
        have H1 := Lib.hid h1
        rw [hh] at hlk
        clear h1 hh
        obtain ⟨w2, e2, hs2, hg2⟩ := hseen.store Try.underlying97 Try.underlying9 Try.underlying4 (by omega) x hxs
        have hml : w.heap.size < w1.heap.size := by omega
        have hown2 := hown.kept hg2 (.inr fun e => by have := (hown.lt _ e).1; omega)
        have hownL2 := hownL.kept hg2 (.inr fun e => by have := (hownL.lt _ e).1; omega)
        have hbl2 : Below w.heap.size w w2 := hbl.grown hg2 hbl.size (fun j hj => by cases hj; exact Nat.le_refl _)
        have hsz2 : w1.heap.size ≤ w2.heap.size := Nat.le_trans hsz hg2.size

        go_wp2_with (at_builtin; refine wpList_append_own _ rfl _ _ 35 rfl w1.heap.size 9 i0 (.string ByteArray.empty) 1 16 Try.underlying35 hi hz0 hz1 hz2 rfl (by decide) _ _ _ rfl (hown2.alloc _) ⟨w2.heap.size, 0, none⟩ 1 1 [.string x] rfl rfl (news_one w2 _ _) (one_string _) (by unfold maxLen; omega) (by omega) (by simp; omega) ?_)
        intro v' w3 hown3 hgrow _
        have hall := (World.grownBy_alloc w2 _ _).trans hgrow
        have hb3 : Below w.heap.size w w3 := hbl2.grown hall hbl2.size (fun k hk => by have := (hown2.lt k hk).1; omega)
        have hs3 := hs2.kept hall (fun e => by have := (hown2.lt _ e.symm).1; omega)
        have hownL3 := hownL2.kept hall (.inr fun e => by have h1 := HLT1.out g rfl; have h2 := (hown2.lt g e.symm).1; omega)
        have hsz3 : w1.heap.size ≤ w3.heap.size := Nat.le_trans hsz2 hall.size
        rw [strs_map] at hown3
        go_wp2
        go_roundw
        case rel => exact ⟨k + 1, d ++ [x], by omega, by go_num, H1.out.symm, by simpa using hown3, by simpa using hs3, hownL3, hsz3, hb3⟩
        case measure => simp [Go.RowKit.intOf]; omega
    · have hkl : k = L.length := by omega
      subst hkl
      rw [List.take_length] at hd
      have HD := Lib.hid hd
      clear hd
      go_wp2
      go_ret
      rw [← HLQ.out, ← HD.out]
      exact ⟨_, rfl, own_wide hown (by omega), hbl⟩

end Go.Proofs.Ytkiofeiinecpiaa
namespace Go.Proofs.Ytkiofeiinecpiaa
open Go.RowKit Go.Lib

abbrev zeroT : Array Value := #[.int .i64 0, .string ⟨#[]⟩, .slice none 0 0]
/-- A base type: the result's cell laid, l4Con called, the result stored. -/
theorem baseEnd {G : Nat → Prop} {s : ByteArray} {w w2 : World} {e : Ending} (hb0 : Below w.heap.size w (w.alloc (.cells zeroT 26))) (h : MadeT (fun b => G b ∨ b = w.heap.size) (.mk 2 s []) (w.alloc (.cells zeroT 26)) e w2) (hb : Below (w.alloc (.cells zeroT 26)).heap.size (w.alloc (.cells zeroT 26)) w2) :
    ∃ A c, e = .returned (.agg #[.int .i64 2, .string s, .slice A 0 c]) ∧ Whole w2 w.heap.size 26 zeroT ∧ ∀ w4, w4 = ((w2.setCell ⟨w.heap.size, 0, none⟩ (.int .i64 2)).setCell ⟨w.heap.size, 1, none⟩ (.string s)).setCell ⟨w.heap.size, 2, none⟩ (.slice A 0 c) →
      w4.cell? ⟨w.heap.size, 0, none⟩ = some (.int .i64 2) ∧ w4.cell? ⟨w.heap.size, 1, none⟩ = some (.string s) ∧ w4.cell? ⟨w.heap.size, 2, none⟩ = some (.slice A 0 c) ∧ MadeT G (.mk 2 s []) w (.returned (.agg #[.int .i64 2, .string s, .slice A 0 c])) w4 ∧ Below w.heap.size w w4 := by
  obtain ⟨V, rfl, ht⟩ := h
  obtain ⟨A, c, rfl⟩ := ht.shape
  have hx2 : Whole w2 w.heap.size 26 zeroT := (Whole.new w _ _).below hb (by simp)
  refine ⟨A, c, rfl, hx2, fun w4 h4 => ?_⟩
  obtain ⟨e0, e1, e2, hbut, hb4⟩ := tyEnd (k := 2) (s := s) (A := A) (n := 0) (cc := c) hx2 (hb0.trans (hb.mono (by simp))) w4 h4
  have hV : (Value.slice A 0 c).ownBlock ≠ some w.heap.size := fun e => by
    obtain ⟨us, ho, _⟩ := ht
    have := (ho.lt _ e).1
    simp at this
    omega
  exact ⟨e0, e1, e2, ⟨_, rfl, ((ht.butX hV (.inr rfl) hbut).less fun b h => .inl h).wide (by simp)⟩, hb4⟩

set_option maxRecDepth 100000 in
theorem intC (G : Nat → Prop) (w : World) : Calls Try.prog 93 #[] w fun e w' => MadeT G (.mk 2 ⟨#[105, 110, 116]⟩ []) w e w' ∧ Below w.heap.size w w' := by
  have hb0 : Below w.heap.size w (w.alloc (.cells zeroT 26)) := (Below.refl _ _).alloc (Nat.le_refl _) _
  go_enter Try.func93, Try.ntmps93
  go_wp2_with fail
  refine (conC (fun b => G b ∨ b = w.heap.size) ⟨#[105, 110, 116]⟩ none 0 [] _ (by decide) (TypeRow.nil _ _ _ _ (by decide))).mono ?_
  intro e w2 ⟨hm, hb⟩
  obtain ⟨A, c, rfl, hx2, hend⟩ := baseEnd hb0 hm hb
  obtain ⟨r0, r1, r2⟩ := cells3 hx2
  have rf0 := hx2.frozen 0
  have rf1 := hx2.frozen 1
  have rf2 := hx2.frozen 2
  have hlt := hx2.lt
  have HE := Lib.hid hend
  clear hend hx2 hm hb
  go_wp2
  obtain ⟨e0, e1, e2, e3⟩ := HE.out _ rfl
  exact bodyPost_ret (v := .agg #[.int .i64 2, .string ⟨#[105, 110, 116]⟩, .slice A 0 c]) (by simp [results, Try.results93, go_sem, e0, e1, e2]) rfl e3
set_option maxRecDepth 100000 in
theorem boolC (G : Nat → Prop) (w : World) : Calls Try.prog 108 #[] w fun e w' => MadeT G (.mk 2 ⟨#[98, 111, 111, 108]⟩ []) w e w' ∧ Below w.heap.size w w' := by
  have hb0 : Below w.heap.size w (w.alloc (.cells zeroT 26)) := (Below.refl _ _).alloc (Nat.le_refl _) _
  go_enter Try.func108, Try.ntmps108
  go_wp2_with fail
  refine (conC (fun b => G b ∨ b = w.heap.size) ⟨#[98, 111, 111, 108]⟩ none 0 [] _ (by decide) (TypeRow.nil _ _ _ _ (by decide))).mono ?_
  intro e w2 ⟨hm, hb⟩
  obtain ⟨A, c, rfl, hx2, hend⟩ := baseEnd hb0 hm hb
  obtain ⟨r0, r1, r2⟩ := cells3 hx2
  have rf0 := hx2.frozen 0
  have rf1 := hx2.frozen 1
  have rf2 := hx2.frozen 2
  have hlt := hx2.lt
  have HE := Lib.hid hend
  clear hend hx2 hm hb
  go_wp2
  obtain ⟨e0, e1, e2, e3⟩ := HE.out _ rfl
  exact bodyPost_ret (v := .agg #[.int .i64 2, .string ⟨#[98, 111, 111, 108]⟩, .slice A 0 c]) (by simp [results, Try.results108, go_sem, e0, e1, e2]) rfl e3

/-- A result's three cells written, whatever its block. -/
theorem tyEndX {w w3 : World} {X : Nat} {a b c : Value} {k : Int} {s : ByteArray} {A : Option Addr} {n cc : Nat} (hx : Whole w3 X 26 #[a, b, c]) (hX : w.heap.size ≤ X) (hb : Below w.heap.size w w3) :
    ∀ w4, w4 = ((w3.setCell ⟨X, 0, none⟩ (.int .i64 k)).setCell ⟨X, 1, none⟩ (.string s)).setCell ⟨X, 2, none⟩ (.slice A n cc) →
      w4.cell? ⟨X, 0, none⟩ = some (.int .i64 k) ∧ w4.cell? ⟨X, 1, none⟩ = some (.string s) ∧ w4.cell? ⟨X, 2, none⟩ = some (.slice A n cc) ∧ But X w3 w4 ∧ Below w.heap.size w w4 ∧ Whole w4 X 26 #[.int .i64 k, .string s, .slice A n cc] := by
  rintro w4 rfl
  have hx3 : Whole (((w3.setCell ⟨X, 0, none⟩ (.int .i64 k)).setCell ⟨X, 1, none⟩ (.string s)).setCell ⟨X, 2, none⟩ (.slice A n cc)) X 26 #[.int .i64 k, .string s, .slice A n cc] := by
    simpa using ((hx.set_ 0 (.int .i64 k)).set_ 1 (.string s)).set_ 2 (.slice A n cc)
  obtain ⟨e0, e1, e2⟩ := cells3 hx3
  exact ⟨e0, e1, e2, ((But.set_ _ _ 0 _).trans (But.set_ _ _ 1 _)).trans (But.set_ _ _ 2 _), ((hb.setCell (p := ⟨X, 0, none⟩) hX _).setCell (p := ⟨X, 1, none⟩) hX _).setCell (p := ⟨X, 2, none⟩) hX _, hx3⟩
/-- The row of a type under way is not a block of G. -/
theorem TopT.ne {G : Nat → Prop} {X : Nat} {w w' : World} {V : Value} {l : List TypeX} (h : TopT G w w' V l) (hX : X < w.heap.size) : V.ownBlock ≠ some X := fun e => by
  obtain ⟨us, ho, _⟩ := h
  have := (ho.lt _ e).1
  omega

/-! Copies. -/
def CopyT (N : Nat) : Prop := ∀ (G : Nat → Prop) (x : TypeX) (v : Value) (w : World), (∀ b, G b → b < w.heap.size) → x.size ≤ N → N ≤ 1000000 → TypeAt w (Nog G w) x v →
  Calls Try.prog 89 #[v] w fun e w' => MadeT G x w e w' ∧ Below w.heap.size w w'
def CopiesT (N : Nat) : Prop := ∀ (G : Nat → Prop) (l : List TypeX) (A : Option Addr) (c : Nat) (w : World), (∀ b, G b → b < w.heap.size) → TypeX.sizeL l ≤ N → N ≤ 1000000 → TypeRow w (Nog G w) A c l →
  Calls Try.prog 119 #[.slice A l.length c] w fun e w' => (∃ V, e = .returned V ∧ TopT G w w' V l) ∧ Below w.heap.size w w'

theorem TypeRow.nog {G : Nat → Prop} {w w' : World} {A : Option Addr} {c : Nat} {l : List TypeX} (h : TypeRow w (Nog G w) A c l) (hb : Below w.heap.size w w') : TypeRow w' (Nog G w') A c l :=
  h.frame (fun _ h => ⟨Nat.lt_of_lt_of_le h.1 hb.size, h.2⟩) fun b o h => hb.cell (p := ⟨b, o, none⟩) h.1
theorem TypeRow.nogX {G G' : Nat → Prop} {w w' : World} {A : Option Addr} {c : Nat} {l : List TypeX} (h : TypeRow w (Nog G w) A c l) (hb : Below w.heap.size w w') (hG : ∀ b, b < w.heap.size → G' b → G b) : TypeRow w' (Nog G' w') A c l :=
  h.frame (fun _ h => ⟨Nat.lt_of_lt_of_le h.1 hb.size, fun h' => h.2 (hG _ h.1 h')⟩) fun b o h => hb.cell (p := ⟨b, o, none⟩) h.1

set_option maxRecDepth 100000 in
set_option maxHeartbeats 2000000 in
theorem copyT_step (N : Nat) (ih : CopiesT N) : CopyT (N + 1) := by
  intro G x v w hG hn hN hv
  obtain ⟨A, c, rfl, hx⟩ := hv
  have hbb : Below w.heap.size w ((w.alloc (.cells #[.int .i64 x.kind_, .string x.name_, .slice A x.args_.length c] 26)).alloc (.cells zeroT 26)) := ((Below.refl _ _).alloc (Nat.le_refl _) _).alloc (by simp) _
  obtain ⟨W, hW⟩ : ∃ W, W = (w.alloc (.cells #[.int .i64 x.kind_, .string x.name_, .slice A x.args_.length c] 26)).alloc (.cells zeroT 26) := ⟨_, rfl⟩
  have hs : W.heap.size = w.heap.size + 2 := by rw [hW]; simp
  have hx1 : Whole W w.heap.size 26 #[.int .i64 x.kind_, .string x.name_, .slice A x.args_.length c] := by rw [hW]; exact (Whole.new w _ _).below ((Below.refl (w.heap.size + 1) _).alloc (by simp) _) (by omega)
  have hx2 : Whole W (w.heap.size + 1) 26 zeroT := by
    have h := Whole.new (w.alloc (.cells #[.int .i64 x.kind_, .string x.name_, .slice A x.args_.length c] 26)) 26 zeroT
    rw [World.size_alloc] at h; rw [hW]; exact h
  rw [← hW] at hbb
  have hr : TypeRow W (Nog (fun b => G b ∨ b = w.heap.size + 1) W) A c x.args_ := hx.nogX hbb fun b hb h => h.elim id (fun e => by omega)
  have hG' : ∀ b, (G b ∨ b = w.heap.size + 1) → b < W.heap.size := fun b h => h.elim (fun h => by have := hG b h; omega) (fun e => by omega)
  have hc := ih (fun b => G b ∨ b = w.heap.size + 1) x.args_ A c W.drew hG' (by rw [TypeX.size_eq] at hn; omega) (by omega) (hr.frame (fun _ h => h) fun _ _ _ => rfl)
  have HC := Lib.hid hc
  have HW := Lib.hid hW.symm
  have HS := Lib.hid hs
  have HX1 := Lib.hid hx1
  have HX2 := Lib.hid hx2
  have HB := Lib.hid hbb
  clear hc hW hs hx1 hx2 hbb hr hx
  go_enter Try.func89, Try.ntmps89
  go_upto_region 1 with (fail)
  rw [HW.out]
  obtain ⟨p0, p1, p2⟩ := cells3 HX1.out
  obtain ⟨r0, r1, r2⟩ := cells3 HX2.out
  have rf0 := HX2.out.frozen 0
  have rf1 := HX2.out.frozen 1
  have rf2 := HX2.out.frozen 2
  have hlt := HX2.out.lt
  have HX2e := fun (w2 : World) (h : Below W.heap.size W w2) => HX2.out.below h HX2.out.lt
  have HX1e := fun (w2 : World) (h : Below W.heap.size W w2) => HX1.out.below h HX1.out.lt
  have H2E := Lib.hid HX2e
  have H1E := Lib.hid HX1e
  clear HX2e HX1e
  go_region_held3 (fun w' => w'.cell? ⟨w.heap.size, 0, none⟩ = some (.int .i64 x.kind_) ∧ w'.cell? ⟨w.heap.size, 1, none⟩ = some (.string x.name_) ∧ w'.cell? ⟨w.heap.size, 2, none⟩ = some (.slice A x.args_.length c))
    (first
      | go_keep
      | exact cells3 (H1E.out _ hb2')
      | exact HSS _ _ _)
    (first
      | (go_at_call 119
         refine HC.out.mono ?_
         rintro e w2 ⟨⟨V, rfl, ht⟩, hb2⟩
         have hb2' : Below W.heap.size W w2 := (Below.refl _ W).drew.trans hb2
         obtain ⟨A2, c2, rfl⟩ := ht.shape
         have hx2 := H2E.out w2 hb2'
         have hbw := HB.out.trans (hb2'.mono HB.out.size)
         have r0 : w2.cell? ⟨w.heap.size + 1, 0, none⟩ = some (.int .i64 0) := by rw [hx2.cell]; rfl
         have r1 : w2.cell? ⟨w.heap.size + 1, 1, none⟩ = some (.string ⟨#[]⟩) := by rw [hx2.cell]; rfl
         have r2 : w2.cell? ⟨w.heap.size + 1, 2, none⟩ = some (.slice none 0 0) := by rw [hx2.cell]; rfl
         have rf0 := hx2.frozen 0
         have rf1 := hx2.frozen 1
         have rf2 := hx2.frozen 2
         have hlt := hx2.lt
         have HT := Lib.hid ht
         have HXX := Lib.hid hx2
         clear ht hx2 hb2))
  obtain ⟨e0, e1, e2, hbut, hb4, -⟩ := tyEndX (k := x.kind_) (s := x.name_) (A := A2) (n := x.args_.length) (cc := c2) HXX.out (by omega) hbw _ rfl
  have ht4 := ((HT.out.butX (HT.out.ne (by have := HS.out; show w.heap.size + 1 < W.heap.size; omega)) (.inr rfl) hbut).less (G := G) fun b h => .inl h).wide (w := w) (by have := HS.out; show w.heap.size ≤ W.heap.size; omega)
  have HT4 := Lib.hid ht4
  have HB4 := Lib.hid hb4
  clear hbut ht4 hb4
  go_wp2
  exact bodyPost_ret (v := .agg #[.int .i64 x.kind_, .string x.name_, .slice A2 x.args_.length c2]) (by simp [results, Try.results89, go_sem, e0, e1, e2]) rfl ⟨⟨_, rfl, HT4.out⟩, HB4.out⟩

set_option maxRecDepth 100000 in
set_option maxHeartbeats 4000000 in
theorem copiesT_step (N : Nat) (ih : CopyT N) : CopiesT N := by
  intro G l A c w hG hn hN hA
  obtain ⟨i0, hi, hz0, hz1, hz2⟩ := info_parts infoTy
  have hcap := hA.cap
  have hll := sizeL_length l
  have hb0 : Below w.heap.size w (w.alloc (.cells #[] 26)) := (Below.refl _ _).alloc (Nat.le_refl _) _
  have hown := World.ownsRow_made (base := w.heap.size) (e := 26) (size := 3) w #[] 0 (Nat.le_refl _) (by decide) rfl
  have HA := Lib.hid hA
  have HN := Lib.hid hn
  have HB := Lib.hid hb0
  have HO := Lib.hid hown
  clear hA hn hb0 hown
  go_enter Try.func119, Try.ntmps119
  go_wp2
  go_loopw [3, 4] (fun ov iv wr => ∃ (k : Nat), k ≤ l.length ∧ iv = .int .i64 k ∧ TopT G w wr ov (l.take k) ∧ Below w.heap.size w wr) (fun _ iv _ => l.length - (Go.RowKit.intOf iv).toNat)
  case atStart => exact ⟨0, Nat.zero_le _, rfl, ⟨[], HO.out, rfl⟩, HB.out⟩
  case round =>
    obtain ⟨k, hk, rfl, ht, hb⟩ := hrel
    obtain ⟨A1, c1, rfl⟩ := ht.shape
    by_cases hlt : k < l.length
    · have hG1 : ∀ b, (G b ∨ (Value.slice A1 (l.take k).length c1).ownBlock = some b) → b < wr.heap.size := fun b h => by
        have := hb.size
        rcases h with h | h
        · have := hG b h; omega
        · obtain ⟨us, ho, _⟩ := ht
          exact (ho.lt b h).2
      have hrow : TypeRow wr (Nog (fun b => G b ∨ (Value.slice A1 (l.take k).length c1).ownBlock = some b) wr) A c l := HA.out.nogX hb fun b hb' h => h.elim id fun e => by
        obtain ⟨us, ho, _⟩ := ht
        have := (ho.lt b e).1; omega
      obtain ⟨b, o, A2, c2, rfl, hP, p0, p1, p2, h2⟩ := hrow.at_ hlt
      have hsx : l[k].size ≤ N := by have := TypeX.sizeL_at l k hlt; have := HN.out; omega
      have hlen : (l.take k).length = k := by rw [List.length_take]; omega
      have hc := ih (fun b => G b ∨ (Value.slice A1 (l.take k).length c1).ownBlock = some b) l[k] (.agg #[.int .i64 l[k].kind_, .string l[k].name_, .slice A2 l[k].args_.length c2]) wr hG1 hsx hN ⟨_, _, rfl, h2⟩
      rw [hlen] at ht hc ⊢
      have HC := Lib.hid hc
      have HT := Lib.hid ht
      have HL := Lib.hid hlen
      clear hc ht hlen h2 hrow hG1
      go_wp2_with fail
      refine HC.out.mono ?_
      rintro e w2 ⟨⟨V2, rfl, ht2⟩, hb2⟩
      obtain ⟨A3, c3, rfl⟩ := ht2.shape
      obtain ⟨A3', c3', e3, hr3⟩ := ht2.row (fun b h => by
        rcases h with h | h
        · have := hG b h; have := hb.size; omega
        · obtain ⟨us, ho, _⟩ := HT.out
          exact (ho.lt b h).2)
      injection e3 with e3 _ e4
      subst e3 e4
      obtain ⟨us, ho, he⟩ := HT.out.below hb2
      rw [HL.out] at ho
      have hbw := hb.trans (hb2.mono hb.size)
      have HO2 := Lib.hid (ho.alloc (.cells #[.int .i64 l[k].kind_, .string l[k].name_, .slice A3 l[k].args_.length c3] 26))
      have HE := Lib.hid he
      have HR3 := Lib.hid hr3
      have HOW := Lib.hid ho
      have hk3 : k ≤ 1000000 := by have := HN.out; omega
      clear he hr3 ht2 hb2 p0 p1 p2 ho
      have hcell := fun (j : Nat) (u : Value) => (fun (h : [.int .i64 l[k].kind_, .string l[k].name_, .slice A3 l[k].args_.length c3][j]? = some u) => (by
        match j, h with
        | 0, h => simp at h; subst h; simp [Addr.add]
        | 1, h => simp at h; subst h; simp [Addr.add]
        | 2, h => simp at h; subst h; simp [Addr.add] : (w2.alloc (.cells #[.int .i64 l[k].kind_, .string l[k].name_, .slice A3 l[k].args_.length c3] 26)).cell? ((⟨w2.heap.size, 0, none⟩ : Addr).add j) = some u))
      have HCE := Lib.hid hcell
      clear hcell
      go_wp2_with (at_builtin; refine wpList_append_any rfl (.tmp 12) (.tmp 18) 24 rfl w.heap.size 26 i0 (.agg #[.int .i64 0, .string ByteArray.empty, .slice none 0 0]) 3 48 Try.underlying24 hi hz0 hz1 hz2 rfl (by decide) (.slice A1 k c1) k us rfl HO2.out (some ⟨w2.heap.size, 0, none⟩) 1 1 [.int .i64 l[k].kind_, .string l[k].name_, .slice A3 l[k].args_.length c3] rfl rfl (.inr ⟨_, rfl, HCE.out⟩) (by simp [Value.oneCell']) (by unfold maxLen; omega) (by omega) (by have := hbw.size; simp; omega) (w2.heap.size + 1) (by simp) ?_)
      intro V w3 hown3 hgrow3 hat3
      have hz3 := hgrow3.size
      simp only [World.size_alloc] at hz3
      have hbelow : Below w.heap.size w w3 := (hbw.alloc hbw.size (.cells #[.int .i64 l[k].kind_, .string l[k].name_, .slice A3 l[k].args_.length c3] 26)).grown hgrow3 (by have := hbw.size; simp; omega) (fun j hj => by have := (HOW.out.lt j hj).1; omega)
      have hsame : ∀ b, b < w2.heap.size → (Value.slice A1 k c1).ownBlock ≠ some b → w3.heap[b]? = w2.heap[b]? := fun b hb' hne => (hgrow3.block b (by simp; omega) (fun e => hne e.symm)).trans (Below.heap_alloc _ _ _ hb')
      have hnew : ∀ b, b < w2.heap.size → (Value.slice A1 k c1).ownBlock ≠ some b → V.ownBlock ≠ some b := fun b hb' hne e => by
        rcases hat3 with h | h
        · exact hne (h ▸ e)
        · rw [h] at e; injection e with e; omega
      have hend : TopT G w w3 V (l.take (k + 1)) := by
        refine ⟨us ++ [.int .i64 l[k].kind_, .string l[k].name_, .slice A3 l[k].args_.length c3], ?_, ?_⟩
        · rw [show (l.take (k + 1)).length = k + 1 by rw [List.length_take]; omega]; exact hown3
        · rw [List.take_succ_eq_append_getElem hlt]
          refine ElemsT.append (HE.out.frame (fun b h => ⟨⟨by have := h.1.1; omega, h.1.2⟩, hnew b h.1.1 h.2⟩) fun b o h => World.cell?_of_block (a := ⟨b, o, none⟩) (hsame b h.1.1 h.2)) ⟨A3, c3, [], rfl, ?_, rfl⟩
          exact HR3.out.frame (fun b h => ⟨⟨by have := h.1; omega, fun hg => h.2 (.inl hg)⟩, hnew b h.1 (fun e => h.2 (.inr e))⟩) fun b o h => World.cell?_of_block (a := ⟨b, o, none⟩) (hsame b h.1 (fun e => h.2 (.inr e)))
      have HEND := Lib.hid hend
      clear hend hown3 hgrow3 hat3 hsame hnew hz3
      go_wp2
      go_roundw
      case rel => exact ⟨k + 1, by omega, by go_num, HEND.out, hbelow⟩
      case measure => simp [Go.RowKit.intOf]; omega
    · have hkl : k = l.length := by omega
      subst hkl
      rw [List.take_length] at ht ⊢
      have HT := Lib.hid ht
      clear ht
      go_wp2
      go_ret
      exact ⟨⟨_, rfl, HT.out⟩, hb⟩
theorem copyTAll : ∀ N, CopyT N
  | 0 => fun G x v w _ hn => by rw [TypeX.size_eq] at hn; omega
  | N + 1 => copyT_step N (copiesT_step N (copyTAll N))
theorem copyT (G : Nat → Prop) (x : TypeX) (v : Value) (w : World) (hG : ∀ b, G b → b < w.heap.size) (hn : x.size ≤ 1000000) (hv : TypeAt w (Nog G w) x v) :
    Calls Try.prog 89 #[v] w fun e w' => MadeT G x w e w' ∧ Below w.heap.size w w' := copyTAll 1000000 G x v w hG hn (Nat.le_refl _) hv
end Go.Proofs.Ytkiofeiinecpiaa
namespace Go.Proofs.Ytkiofeiinecpiaa
open Go.RowKit

/-- The n bytes at A, below block B. -/
def BytesAt (w : World) (B : Nat) (A : Option Addr) (n : Nat) : Prop :=
  ∀ j, j < n → ∃ b o z, A = some ⟨b, o, none⟩ ∧ b < B ∧ 0 ≤ z ∧ z ≤ 255 ∧ w.cell? ⟨b, o + j, none⟩ = some (.int .u8 z)
theorem BytesAt.below {w w' : World} {B : Nat} {A : Option Addr} {n : Nat} (h : BytesAt w B A n) (hb : Below B w w') : BytesAt w' B A n := fun j hj => by
  obtain ⟨b, o, z, hA, hlt, h0, h1, hc⟩ := h j hj
  exact ⟨b, o, z, hA, hlt, h0, h1, (hb.cell (p := ⟨b, o + j, none⟩) hlt).trans hc⟩
theorem BytesAt.mono_ {w : World} {B B' : Nat} {A : Option Addr} {n : Nat} (h : BytesAt w B A n) (hB : B ≤ B') : BytesAt w B' A n := fun j hj => by
  obtain ⟨b, o, z, hA, hlt, h0, h1, hc⟩ := h j hj
  exact ⟨b, o, z, hA, by omega, h0, h1, hc⟩
/-- The cursor's three cells, in a block of the call's own. -/
structure CurAt (w : World) (B g : Nat) (A : Option Addr) (n c : Nat) (i h : Int) : Prop where
  cells : Whole w g 128 #[.slice A n c, .int .i64 i, .int .i64 h]
  own : B ≤ g
  bytes : BytesAt w B A n
  size : n ≤ 9223372036854775807
  lo : 0 ≤ i
  hi : i ≤ n
/-- A cursor. -/
def Cur (w : World) (B g : Nat) : Prop := ∃ A n c i h, CurAt w B g A n c i h
theorem Cur.lt {w : World} {B g : Nat} (h : Cur w B g) : g < w.heap.size := by
  obtain ⟨A, n, c, i, h, hc⟩ := h
  exact hc.cells.lt
theorem Cur.own {w : World} {B g : Nat} (h : Cur w B g) : B ≤ g := by
  obtain ⟨A, n, c, i, h, hc⟩ := h
  exact hc.own
theorem Cur.kept {w w' : World} {B g : Nat} (h : Cur w B g) (hb : Below w.heap.size w w') : Cur w' B g := by
  have hlt := h.lt
  obtain ⟨A, n, c, i, h, hc⟩ := h
  exact ⟨A, n, c, i, h, hc.cells.below hb hlt, hc.own, hc.bytes.below (hb.mono (by have := hc.own; omega)), hc.size, hc.lo, hc.hi⟩

/-- WHAT A DRAW LEAVES: the cursor moved, whatever else lay there unturned. -/
def Drawn (P : Value → Prop) (B g : Nat) (w : World) (e : Ending) (w' : World) : Prop := ∃ v, e = .returned v ∧ P v ∧ Cur w' B g ∧ But g w w'

def IsByte (v : Value) : Prop := ∃ x : Int, v = .int .i64 x ∧ 0 ≤ x ∧ x ≤ 255

theorem and255 (n : Int) : bits .and .i64 n 255 = n % 256 := by
  have h : (BitVec.ofInt 64 255).toNat = 2 ^ 8 - 1 := by decide
  have key : (BitVec.ofInt 64 n &&& BitVec.ofInt 64 255).toNat = (n % ((2 ^ 64 : Nat) : Int)).toNat % 2 ^ 8 := by
    rw [BitVec.toNat_and, BitVec.toNat_ofInt, h, Nat.and_two_pow_sub_one_eq_mod]
  show IntKind.i64.wrap ((BitVec.ofInt 64 n &&& BitVec.ofInt 64 255).toNat : Nat) = n % 256
  rw [key, IntKind.wrap_i64]
  omega
theorem and30 (n : Int) : bits .and .i64 n 1073741823 = n % 1073741824 := by
  have h : (BitVec.ofInt 64 1073741823).toNat = 2 ^ 30 - 1 := by decide
  have key : (BitVec.ofInt 64 n &&& BitVec.ofInt 64 1073741823).toNat = (n % ((2 ^ 64 : Nat) : Int)).toNat % 2 ^ 30 := by
    rw [BitVec.toNat_and, BitVec.toNat_ofInt, h, Nat.and_two_pow_sub_one_eq_mod]
  show IntKind.i64.wrap ((BitVec.ofInt 64 n &&& BitVec.ofInt 64 1073741823).toNat : Nat) = n % 1073741824
  rw [key, IntKind.wrap_i64]
  omega

theorem CurAt.set2 {w : World} {B g : Nat} {A : Option Addr} {n c : Nat} {i h : Int} (hc : CurAt w B g A n c i h) (h' : Int) : CurAt (w.setCell ⟨g, 2, none⟩ (.int .i64 h')) B g A n c i h' :=
  ⟨by have := hc.cells.set_ 2 (.int .i64 h'); simpa using this, hc.own, hc.bytes.below ((Below.refl B w).setCell hc.own _), hc.size, hc.lo, hc.hi⟩
theorem CurAt.set1 {w : World} {B g : Nat} {A : Option Addr} {n c : Nat} {i h : Int} (hc : CurAt w B g A n c i h) (i' : Int) (h0 : 0 ≤ i') (h1 : i' ≤ n) : CurAt (w.setCell ⟨g, 1, none⟩ (.int .i64 i')) B g A n c i' h :=
  ⟨by have := hc.cells.set_ 1 (.int .i64 i'); simpa using this, hc.own, hc.bytes.below ((Below.refl B w).setCell hc.own _), hc.size, h0, h1⟩
theorem CurAt.drewN {w : World} {B g : Nat} {A : Option Addr} {n c : Nat} {i h : Int} (hc : CurAt w B g A n c i h) (k : Nat) : CurAt (w.drewN k) B g A n c i h :=
  ⟨hc.cells, hc.own, hc.bytes, hc.size, hc.lo, hc.hi⟩
theorem But.drewN_ {g : Nat} {a w : World} (h : But g a w) (k : Nat) : But g a (w.drewN k) := h.trans ⟨rfl, rfl, rfl, Nat.le_refl _, fun _ _ _ => rfl⟩

set_option maxRecDepth 100000 in
set_option maxHeartbeats 1000000 in
theorem drawByte (B g : Nat) (w : World) (hw : Cur w B g) :
    Calls Try.prog 127 #[.pointer (some ⟨g, 0, none⟩)] w (Drawn IsByte B g w) := by
  obtain ⟨A, n, c, i, h, hc⟩ := hw
  obtain ⟨k, rfl⟩ := Int.eq_ofNat_of_zero_le hc.lo
  have hkn : k ≤ n := by have := hc.hi; omega
  have hn := hc.size
  have c2 : w.cell? ⟨g, 2, none⟩ = some (.int .i64 h) := by rw [hc.cells.cell]; rfl
  have f2 : w.frozen? ⟨g, 2, none⟩ = false := hc.cells.frozen 2
  have k255 := and255
  go_enter Try.func127, Try.ntmps127
  go_wp2
  generalize RowKit.wrap64 (RowKit.wrap64 (h * 6364136223846793005) + 1442695040888963407) = h'
  have hc' := hc.set2 h'
  have hb' : But g w (w.setCell ⟨g, 2, none⟩ (.int .i64 h')) := But.set_ g w 2 (.int .i64 h')
  clear c2 f2
  generalize w.setCell ⟨g, 2, none⟩ (.int .i64 h') = w1 at *
  have c0 : w1.cell? ⟨g, 0, none⟩ = some (.slice A n c) := by rw [hc'.cells.cell]; rfl
  have c1 : w1.cell? ⟨g, 1, none⟩ = some (.int .i64 k) := by rw [hc'.cells.cell]; rfl
  have c2 : w1.cell? ⟨g, 2, none⟩ = some (.int .i64 h') := by rw [hc'.cells.cell]; rfl
  have f1 : w1.frozen? ⟨g, 1, none⟩ = false := hc'.cells.frozen 1
  by_cases hlt : k < n
  · obtain ⟨b, o, z, rfl, hb, hz0, hz1, cz⟩ := hc'.bytes k hlt
    have hk0 : (0 : Int) ≤ k := by omega
    go_quiet (fail)
    go_wp2
    go_quiet (fail)
    go_wp2
    go_quiet (fail)
    go_wp2
    go_ret
    exact ⟨_, rfl, ⟨_, rfl, by omega, by omega⟩, ⟨_, _, _, _, _, (hc'.drewN _).set1 (k + 1) (by omega) (by omega)⟩, (hb'.drewN_ _).trans (But.set_ g _ 1 _)⟩
  · go_quiet (fail)
    go_wp2
    go_quiet (fail)
    go_wp2
    go_ret
    exact ⟨_, rfl, ⟨_, rfl, by omega, by omega⟩, ⟨_, _, _, _, _, (hc'.drewN _).drewN _⟩, (hb'.drewN_ _).drewN_ _⟩

/-- A number from 0 on, below n. -/
def IsBelow (n : Int) (v : Value) : Prop := ∃ x : Int, v = .int .i64 x ∧ 0 ≤ x ∧ x < n

set_option maxRecDepth 100000 in
set_option maxHeartbeats 1000000 in
theorem drawBelow (B g : Nat) (n : Int) (w : World) (hw : Cur w B g) (h0 : 0 < n) (h1 : n ≤ 9223372036854775807) :
    Calls Try.prog 105 #[.pointer (some ⟨g, 0, none⟩), .int .i64 n] w (Drawn (IsBelow n) B g w) := by
  by_cases hs : n ≤ 256
  · go_enter Try.func105, Try.ntmps105
    go_wp2_with fail
    refine (drawByte B g _ hw).mono ?_
    rintro e w1 ⟨v, rfl, ⟨x, rfl, x0, x1⟩, hc1, hb1⟩
    have hm0 := Int.emod_nonneg x (show n ≠ 0 by omega)
    have hm1 := Int.emod_lt_of_pos x h0
    go_wp2
    go_ret
    exact ⟨_, rfl, ⟨_, rfl, hm0, hm1⟩, hc1, hb1⟩
  · go_enter Try.func105, Try.ntmps105
    go_wp2_with fail
    refine (drawByte B g _ hw).mono ?_
    rintro e w1 ⟨v, rfl, ⟨x, rfl, x0, x1⟩, hc1, hb1⟩
    go_wp2_with fail
    refine (drawByte B g _ hc1).mono ?_
    rintro e w2 ⟨v, rfl, ⟨y, rfl, y0, y1⟩, hc2, hb2⟩
    go_wp2_with fail
    refine (drawByte B g _ hc2).mono ?_
    rintro e w3 ⟨v, rfl, ⟨z, rfl, z0, z1⟩, hc3, hb3⟩
    go_wp2_with fail
    refine (drawByte B g _ hc3).mono ?_
    rintro e w4 ⟨v, rfl, ⟨t, rfl, t0, t1⟩, hc4, hb4⟩
    have hm0 := Int.emod_nonneg (x * 16777216 + y * 65536 + z * 256 + t) (show n ≠ 0 by omega)
    have hm1 := Int.emod_lt_of_pos (x * 16777216 + y * 65536 + z * 256 + t) h0
    go_wp2
    go_ret
    exact ⟨_, rfl, ⟨_, rfl, hm0, hm1⟩, hc4, ((hb1.trans hb2).trans hb3).trans hb4⟩

/-- One of the strings of a list. -/
def IsOneOf (ss : List ByteArray) (v : Value) : Prop := ∃ x ∈ ss, v = .string x
set_option maxRecDepth 100000 in
theorem drawPick (B g r c : Nat) (ss : List ByteArray) (w : World) (hw : Cur w B g) (hr : Whole w r 9 (ss.map Value.string).toArray) (hne : 0 < ss.length) (hlen : ss.length ≤ 1000000) (hrg : r ≠ g) :
    Calls Try.prog 107 #[.pointer (some ⟨g, 0, none⟩), .slice (some ⟨r, 0, none⟩) ss.length c] w (Drawn (IsOneOf ss) B g w) := by
  have hrl := hr.lt
  go_enter Try.func107, Try.ntmps107
  go_wp2_with fail
  refine (drawBelow B g _ _ hw (by omega) (by omega)).mono ?_
  rintro e w1 ⟨v, rfl, ⟨x, rfl, x0, x1⟩, hc1, hb1⟩
  obtain ⟨k, rfl⟩ := Int.eq_ofNat_of_zero_le x0
  have hk : k < ss.length := by omega
  have hcell : w1.cell? ⟨r, k, none⟩ = some (.string ss[k]) := by
    have h2 : Whole w1 r 9 (ss.map Value.string).toArray := (hb1.block r hrl hrg).trans hr
    rw [h2.cell]; simp [hk]
  go_wp2
  go_ret
  exact ⟨_, rfl, ⟨_, List.getElem_mem hk, rfl⟩, hc1, hb1⟩

/-- A NEW CURSOR. -/
def NewCur (w : World) (e : Ending) (w' : World) : Prop := ∃ g, e = .returned (.pointer (some ⟨g, 0, none⟩)) ∧ Cur w' w.heap.size g ∧ Below w.heap.size w w'
set_option maxRecDepth 100000 in
set_option maxHeartbeats 1000000 in
theorem drawNew (A : Option Addr) (n c : Nat) (w : World) (hA : BytesAt w w.heap.size A n) (hn : n ≤ 140737488355328) :
    Calls Try.prog 73 #[.slice A n c] w (NewCur w) := by
  have k30 := and30
  have HA := Lib.hid hA
  clear hA
  go_enter Try.func73, Try.ntmps73
  go_wp2
  go_loop [3, 4] (fun hv iv => ∃ (k : Nat) (h : Int), k ≤ n ∧ iv = .int .i64 k ∧ hv = .int .i64 h ∧ 0 ≤ h ∧ h ≤ 281474976710656) (fun _ iv => n - (Go.RowKit.intOf iv).toNat)
  case atStart => exact ⟨0, _, Nat.zero_le _, rfl, rfl, by omega, by omega⟩
  case round =>
    obtain ⟨k, h, hk, rfl, rfl, h0, h1⟩ := hrel
    by_cases hlt : k < n
    · obtain ⟨b, o, z, rfl, hb, hz0, hz1, cz⟩ := HA.out k hlt
      by_cases hs : k < 4000
      · go_wp2
        go_round
        case rel => exact ⟨k + 1, _, by omega, by go_num, rfl, by omega, by omega⟩
        case measure => simp [Go.RowKit.intOf]; omega
      · go_wp2
        go_ret
        refine ⟨_, rfl, ⟨_, _, _, _, _, ⟨Whole.new _ _ _, Nat.le_refl _, ?_, by omega, by omega, by omega⟩⟩, (Below.refl _ _).alloc (Nat.le_refl _) _⟩
        exact HA.out.below ((Below.refl _ _).alloc (Nat.le_refl _) _)
    · go_wp2
      go_ret
      refine ⟨_, rfl, ⟨_, _, _, _, _, ⟨Whole.new _ _ _, Nat.le_refl _, ?_, by omega, by omega, by omega⟩⟩, (Below.refl _ _).alloc (Nat.le_refl _) _⟩
      exact HA.out.below ((Below.refl _ _).alloc (Nat.le_refl _) _)
end Go.Proofs.Ytkiofeiinecpiaa
namespace Go.Proofs.Ytkiofeiinecpiaa
open Go.RowKit Go.Lib

mutual
/-- The names of a type's variables, as they stand. -/
def TypeX.names : TypeX → List ByteArray
  | .mk k s l => (if k = 1 then [s] else []) ++ TypeX.namesL l
def TypeX.namesL : List TypeX → List ByteArray
  | [] => []
  | x :: r => x.names ++ TypeX.namesL r
end
mutual
/-- A small type, as the draws make them: what stands below a variable of a short name names no variable. -/
def TypeX.tame : TypeX → Prop
  | .mk k s l => (-9 ≤ k ∧ k ≤ 9) ∧ s.size ≤ 100 ∧ TypeX.tameL l ∧ (k = 1 → s.size = 1 → TypeX.namesL l = [])
def TypeX.tameL : List TypeX → Prop
  | [] => True
  | x :: r => x.tame ∧ TypeX.tameL r
end
theorem TypeX.tame_eq (x : TypeX) : x.tame = ((-9 ≤ x.kind_ ∧ x.kind_ ≤ 9) ∧ x.name_.size ≤ 100 ∧ TypeX.tameL x.args_ ∧ (x.kind_ = 1 → x.name_.size = 1 → TypeX.namesL x.args_ = [])) := by cases x with | mk a b c => rw [TypeX.tame]; rfl
mutual
theorem TypeX.tame_ok : ∀ x : TypeX, x.tame → x.size ≤ 4294967296 → DV.okL x.cells
  | .mk k s l, h, hn => by
    rw [TypeX.tame] at h
    rw [TypeX.size] at hn
    have hl := sizeL_length l
    rw [TypeX.cells]
    simp only [DV.okL, DV.ok, uok, TypeX.rows_length]
    exact ⟨by omega, by omega, ⟨by omega, TypeX.tameL_ok l h.2.2.1 (by omega)⟩, trivial⟩
theorem TypeX.tameL_ok : ∀ l : List TypeX, TypeX.tameL l → TypeX.sizeL l ≤ 4294967296 → DV.okE (TypeX.rows l)
  | [], _, _ => by rw [TypeX.rows, DV.okE]; trivial
  | x :: r, h, hn => by
    rw [TypeX.tameL] at h
    rw [TypeX.sizeL] at hn
    rw [TypeX.rows, DV.okE]
    exact ⟨TypeX.tame_ok x h.1 (by omega), TypeX.tameL_ok r h.2 (by omega)⟩
end

theorem whole_but {w w' : World} {g k : Nat} {t : TypeId} {cs : Array Value} (h : Whole w g t cs) (hb : But k w w') (hne : g ≠ k) : Whole w' g t cs := (hb.block g h.lt hne).trans h
theorem cur_far {w w' : World} {B g k : Nat} (h : Cur w B g) (hb : But k w w') (hk : g < k) : Cur w' B g := by
  have ho := h.own
  obtain ⟨A, n, c, i, x, hc⟩ := h
  refine ⟨A, n, c, i, x, ⟨whole_but hc.cells hb (by omega), ho, fun j hj => ?_, hc.size, hc.lo, hc.hi⟩⟩
  have hlt := hc.cells.lt
  obtain ⟨b, o, z, hA, hl, h0, h1, hz⟩ := hc.bytes j hj
  exact ⟨b, o, z, hA, hl, h0, h1, (World.cell?_of_block (a := ⟨b, o + j, none⟩) (hb.block b (by omega) (by omega))).trans hz⟩
/-- Whatever changes beyond what was there. -/
theorem but_new {g X : Nat} {w w3 w4 : World} (hb : But g w w3) (h : But X w3 w4) (hX : w.heap.size ≤ X) : But g w w4 :=
  ⟨h.os.trans hb.os, h.tape.trans hb.tape, h.output.trans hb.output, Nat.le_trans hb.size h.size, fun k hk hg => (h.block k (Nat.lt_of_lt_of_le hk hb.size) (by omega)).trans (hb.block k hk hg)⟩

/-- What stands below the top names a and b alone. -/
def TypeX.under (x : TypeX) : Prop := ∀ u ∈ TypeX.namesL x.args_, u ∈ [(⟨#[97]⟩ : ByteArray), ⟨#[98]⟩]
theorem under_of {x : TypeX} (h : ∀ u ∈ x.names, u ∈ [(⟨#[97]⟩ : ByteArray), ⟨#[98]⟩]) : x.under := by
  cases x with | mk k n a => exact fun u hu => h u (by rw [TypeX.names]; exact List.mem_append_right _ hu)
theorem names_eta (x : TypeX) : (TypeX.mk x.kind_ x.name_ x.args_).names = x.names := by cases x; rfl
/-- WHAT A DRAW OF A TYPE LEAVES. -/
def DrawnT (G : Nat → Prop) (N B g : Nat) (w : World) (e : Ending) (w' : World) : Prop := ∃ x : TypeX, MadeT G x w e w' ∧ x.size ≤ N ∧ x.tame ∧ x.under ∧ Cur w' B g ∧ But g w w'

mutual
/-- No variable has arguments. -/
def TypeX.leafy : TypeX → Prop
  | .mk k _ l => (k = 1 → l = []) ∧ TypeX.leafyL l
def TypeX.leafyL : List TypeX → Prop
  | [] => True
  | x :: r => x.leafy ∧ TypeX.leafyL r
end
/-- Neither a variable with arguments nor one of a short name. -/
def TypeX.flat (x : TypeX) : Prop := x.leafy ∧ (x.args_ = [] ∨ 1 < x.name_.size)
theorem TypeX.flat.root {x : TypeX} (h : x.flat) : x.kind_ = 1 → x.args_ = [] := by
  have h := h.1
  cases x with | mk k s l =>
  rw [TypeX.leafy] at h
  exact h.1
theorem flat0 {k : Int} {s : ByteArray} : (TypeX.mk k s []).flat := ⟨by rw [TypeX.leafy, TypeX.leafyL]; exact ⟨fun _ => rfl, trivial⟩, .inl rfl⟩
theorem flatN {k : Int} {s : ByteArray} {l : List TypeX} (hk : k ≠ 1) (hs : 1 < s.size) (hl : TypeX.leafyL l) : (TypeX.mk k s l).flat := ⟨by rw [TypeX.leafy]; exact ⟨fun h => absurd h hk, hl⟩, .inr hs⟩
theorem leafy1 {x : TypeX} (h : x.flat) : TypeX.leafyL [x] := by rw [TypeX.leafyL, TypeX.leafyL]; exact ⟨h.1, trivial⟩
theorem leafy2 {x y : TypeX} (h : x.flat) (h' : y.flat) : TypeX.leafyL [x, y] := by rw [TypeX.leafyL]; exact ⟨h.1, leafy1 h'⟩
/-- Flat, and its variables are of P. -/
def TypeX.flatIn (P : List ByteArray) (x : TypeX) : Prop := x.flat ∧ ∀ u ∈ x.names, u ∈ P
theorem flatV {P : List ByteArray} {s : ByteArray} (h : s ∈ P) : (TypeX.mk 1 s []).flatIn P := ⟨flat0, fun u hu => by
  rw [TypeX.names, TypeX.namesL, if_pos rfl] at hu
  rw [show u = s by simpa using hu]; exact h⟩
theorem flatC {P : List ByteArray} {k : Int} {s : ByteArray} (hk : k ≠ 1) : (TypeX.mk k s []).flatIn P := ⟨flat0, fun u hu => by
  rw [TypeX.names, TypeX.namesL, if_neg hk] at hu
  cases hu⟩
theorem flatI1 {P : List ByteArray} {k : Int} {s : ByteArray} {x : TypeX} (hk : k ≠ 1) (hs : 1 < s.size) (h : x.flatIn P) : (TypeX.mk k s [x]).flatIn P := ⟨flatN hk hs (leafy1 h.1), fun u hu => by
  rw [TypeX.names, if_neg hk, TypeX.namesL, TypeX.namesL] at hu
  exact h.2 u (by simpa using hu)⟩
theorem flatI2 {P : List ByteArray} {k : Int} {s : ByteArray} {x y : TypeX} (hk : k ≠ 1) (hs : 1 < s.size) (h : x.flatIn P) (h' : y.flatIn P) : (TypeX.mk k s [x, y]).flatIn P := ⟨flatN hk hs (leafy2 h.1 h'.1), fun u hu => by
  rw [TypeX.names, if_neg hk, TypeX.namesL, TypeX.namesL, TypeX.namesL] at hu
  rcases (by simpa using hu : u ∈ x.names ∨ u ∈ y.names) with hu | hu
  · exact h.2 u hu
  · exact h'.2 u hu⟩
/-- What a draw of a type leaves that bends nothing. -/
def DrawnF (G : Nat → Prop) (P : List ByteArray) (N B g : Nat) (w : World) (e : Ending) (w' : World) : Prop := ∃ x : TypeX, MadeT G x w e w' ∧ x.size ≤ N ∧ x.tame ∧ x.flatIn P ∧ Cur w' B g ∧ But g w w'

/-- The ending of a draw: the result's cells written. -/
theorem drawEnd {G G' : Nat → Prop} {P : List ByteArray} {N B g : Nat} {w wa w3 : World} {x : TypeX} {A : Option Addr} {cc : Nat} {a b c : Value} (hg : g < w.heap.size) (hx : Whole w3 w.heap.size 26 #[a, b, c])
    (ht : TopT G' wa w3 (.slice A x.args_.length cc) x.args_) (hX : G' w.heap.size) (hlt : w.heap.size < wa.heap.size) (hsub : ∀ b, G b → G' b) (hc : Cur w3 B g) (hb : But g w w3) (hN : x.size ≤ N) (htm : x.tame) (hfl : x.flatIn P) :
    ∀ w4, w4 = ((w3.setCell ⟨w.heap.size, 0, none⟩ (.int .i64 x.kind_)).setCell ⟨w.heap.size, 1, none⟩ (.string x.name_)).setCell ⟨w.heap.size, 2, none⟩ (.slice A x.args_.length cc) →
      w4.cell? ⟨w.heap.size, 0, none⟩ = some (.int .i64 x.kind_) ∧ w4.cell? ⟨w.heap.size, 1, none⟩ = some (.string x.name_) ∧ w4.cell? ⟨w.heap.size, 2, none⟩ = some (.slice A x.args_.length cc) ∧ DrawnF G P N B g w (.returned (.agg #[.int .i64 x.kind_, .string x.name_, .slice A x.args_.length cc])) w4 := by
  intro w4 h4
  have hx3 : Whole w4 w.heap.size 26 #[.int .i64 x.kind_, .string x.name_, .slice A x.args_.length cc] := by
    rw [h4]; simpa using ((hx.set_ 0 (.int .i64 x.kind_)).set_ 1 (.string x.name_)).set_ 2 (.slice A x.args_.length cc)
  have hbut : But w.heap.size w3 w4 := by rw [h4]; exact ((But.set_ _ _ 0 _).trans (But.set_ _ _ 1 _)).trans (But.set_ _ _ 2 _)
  obtain ⟨e0, e1, e2⟩ := cells3 hx3
  exact ⟨e0, e1, e2, x, ⟨_, rfl, ((ht.butX (ht.ne hlt) hX hbut).less hsub).wide (Nat.le_of_lt hlt)⟩, hN, htm, hfl, cur_far hc hbut hg, but_new hb hbut (Nat.le_refl _)⟩

/-- The ending of a draw: the result's cells written, whatever it is. -/
theorem drawEndT {G G' : Nat → Prop} {N B g : Nat} {w wa w3 : World} {x : TypeX} {A : Option Addr} {cc : Nat} {a b c : Value} (hg : g < w.heap.size) (hx : Whole w3 w.heap.size 26 #[a, b, c])
    (ht : TopT G' wa w3 (.slice A x.args_.length cc) x.args_) (hX : G' w.heap.size) (hlt : w.heap.size < wa.heap.size) (hsub : ∀ b, G b → G' b) (hc : Cur w3 B g) (hb : But g w w3) (hN : x.size ≤ N) (htm : x.tame) (hun : x.under) :
    ∀ w4, w4 = ((w3.setCell ⟨w.heap.size, 0, none⟩ (.int .i64 x.kind_)).setCell ⟨w.heap.size, 1, none⟩ (.string x.name_)).setCell ⟨w.heap.size, 2, none⟩ (.slice A x.args_.length cc) →
      w4.cell? ⟨w.heap.size, 0, none⟩ = some (.int .i64 x.kind_) ∧ w4.cell? ⟨w.heap.size, 1, none⟩ = some (.string x.name_) ∧ w4.cell? ⟨w.heap.size, 2, none⟩ = some (.slice A x.args_.length cc) ∧ DrawnT G N B g w (.returned (.agg #[.int .i64 x.kind_, .string x.name_, .slice A x.args_.length cc])) w4 := by
  intro w4 h4
  have hx3 : Whole w4 w.heap.size 26 #[.int .i64 x.kind_, .string x.name_, .slice A x.args_.length cc] := by
    rw [h4]; simpa using ((hx.set_ 0 (.int .i64 x.kind_)).set_ 1 (.string x.name_)).set_ 2 (.slice A x.args_.length cc)
  have hbut : But w.heap.size w3 w4 := by rw [h4]; exact ((But.set_ _ _ 0 _).trans (But.set_ _ _ 1 _)).trans (But.set_ _ _ 2 _)
  obtain ⟨e0, e1, e2⟩ := cells3 hx3
  exact ⟨e0, e1, e2, x, ⟨_, rfl, ((ht.butX (ht.ne hlt) hX hbut).less hsub).wide (Nat.le_of_lt hlt)⟩, hN, htm, hun, cur_far hc hbut hg, but_new hb hbut (Nat.le_refl _)⟩

set_option maxRecDepth 100000 in
set_option maxHeartbeats 2000000 in
theorem projC (G : Nat → Prop) (s : ByteArray) (x : TypeX) (v : Value) (w : World) (hG : ∀ b, G b → b < w.heap.size) (hn : x.size ≤ 1000000) (hv : TypeAt w (Nog G w) x v) :
    Calls Try.prog 121 #[.string s, v] w fun e w' => MadeT G (.mk 3 s [x]) w e w' ∧ Below w.heap.size w w' := by
  obtain ⟨A, c, rfl, hx⟩ := hv
  have hbb : Below w.heap.size w ((w.alloc (.cells #[.int .i64 x.kind_, .string x.name_, .slice A x.args_.length c] 26)).alloc (.cells zeroT 26)) := ((Below.refl _ _).alloc (Nat.le_refl _) _).alloc (by simp) _
  obtain ⟨W, hW⟩ : ∃ W, W = (w.alloc (.cells #[.int .i64 x.kind_, .string x.name_, .slice A x.args_.length c] 26)).alloc (.cells zeroT 26) := ⟨_, rfl⟩
  have hs : W.heap.size = w.heap.size + 2 := by rw [hW]; simp
  have hx1 : Whole W w.heap.size 26 #[.int .i64 x.kind_, .string x.name_, .slice A x.args_.length c] := by rw [hW]; exact (Whole.new w _ _).below ((Below.refl (w.heap.size + 1) _).alloc (by simp) _) (by omega)
  have hx2 : Whole W (w.heap.size + 1) 26 zeroT := by
    have h := Whole.new (w.alloc (.cells #[.int .i64 x.kind_, .string x.name_, .slice A x.args_.length c] 26)) 26 zeroT
    rw [World.size_alloc] at h; rw [hW]; exact h
  rw [← hW] at hbb
  have hr : TypeRow W (Nog (fun b => G b ∨ b = w.heap.size + 1) W) A c x.args_ := hx.nogX hbb fun b hb h => h.elim id (fun e => by omega)
  have hG' : ∀ b, (G b ∨ b = w.heap.size + 1) → b < W.heap.size := fun b h => h.elim (fun h => by have := hG b h; omega) (fun e => by omega)
  have hc := copyT (fun b => G b ∨ b = w.heap.size + 1) x _ W hG' hn ⟨_, _, rfl, hr⟩
  have HC := Lib.hid hc
  have HW := Lib.hid hW.symm
  have HS := Lib.hid hs
  have HX2 := Lib.hid hx2
  have HB := Lib.hid hbb
  have HG := Lib.hid hG'
  clear hc hW hs hx1 hx2 hbb hr hx hG'
  go_enter Try.func121, Try.ntmps121
  go_wp2_with fail
  rw [HW.out]
  refine HC.out.mono ?_
  rintro e w2 ⟨⟨V, rfl, ht⟩, hb2⟩
  obtain ⟨A2, c2, rfl⟩ := ht.shape
  obtain ⟨A2', c2', e2, hr2⟩ := ht.row HG.out
  injection e2 with e2 _ e3
  subst e2 e3
  have hbw := HB.out.trans (hb2.mono HB.out.size)
  have hx3 : Whole (w2.alloc (.cells #[.int .i64 x.kind_, .string x.name_, .slice A2 x.args_.length c2] 26)) (w.heap.size + 1) 26 zeroT := whole_keep (HX2.out.below hb2 HX2.out.lt) ((Below.refl _ _).alloc (Nat.le_refl _) _)
  have hz2 : w.heap.size + 2 ≤ w2.heap.size := by have := hb2.size; have := HS.out; omega
  have ht3 : TopT (fun b => G b ∨ b = w.heap.size + 1) w (w2.alloc (.cells #[.int .i64 x.kind_, .string x.name_, .slice A2 x.args_.length c2] 26)) (.slice (some ⟨w2.heap.size, 0, none⟩) 1 1) [x] :=
    ⟨_, World.ownsRow_lit (base := w.heap.size) (size := 3) (e := 26) w2 #[.int .i64 x.kind_, .string x.name_, .slice A2 x.args_.length c2] 1 (by omega) (by decide) rfl, A2, c2, [], rfl,
      hr2.frame (fun b h => ⟨⟨by simp; have := h.1; omega, h.2⟩, fun e => by simp [Value.ownBlock] at e; have := h.1; omega⟩) (fun b o h => ((Below.refl w2.heap.size w2).alloc (Nat.le_refl _) _).cell (p := ⟨b, o, none⟩) h.1), rfl⟩
  have hend := tyEndX (w := w) (k := 3) (s := s) (A := some ⟨w2.heap.size, 0, none⟩) (n := 1) (cc := 1) hx3 (by omega) (hbw.alloc hbw.size _)
  obtain ⟨r0, r1, r2⟩ := cells3 hx3
  have rf0 := hx3.frozen 0
  have rf1 := hx3.frozen 1
  have rf2 := hx3.frozen 2
  have hlt := hx3.lt
  have HE := Lib.hid hend
  have HT := Lib.hid ht3
  clear hend ht3 hx3 hr2 ht hb2 hbw
  go_wp2
  obtain ⟨e0, e1, e2, hbut, hb4, -⟩ := HE.out _ rfl
  exact bodyPost_ret (v := .agg #[.int .i64 3, .string s, .slice (some ⟨w2.heap.size, 0, none⟩) 1 1]) (by simp [results, Try.results121, go_sem, e0, e1, e2]) rfl
    ⟨⟨_, rfl, (HT.out.butX (by simp [Value.ownBlock]; omega) (.inr rfl) hbut).less fun b h => .inl h⟩, hb4⟩
end Go.Proofs.Ytkiofeiinecpiaa
namespace Go.Proofs.Ytkiofeiinecpiaa
open Go.RowKit

def IsBool (v : Value) : Prop := ∃ x : Bool, v = .bool x
theorem drawOnce (B g : Nat) (n : Int) (w : World) (hw : Cur w B g) (h0 : 0 < n) (h1 : n ≤ 9223372036854775807) :
    Calls Try.prog 74 #[.pointer (some ⟨g, 0, none⟩), .int .i64 n] w (Drawn IsBool B g w) := by
  go_enter Try.func74, Try.ntmps74
  go_wp2_with fail
  refine (drawBelow B g n _ hw h0 h1).mono ?_
  rintro e w1 ⟨v, rfl, ⟨x, rfl, x0, x1⟩, hc1, hb1⟩
  go_wp2
  go_ret
  exact ⟨_, rfl, ⟨_, rfl⟩, hc1, hb1⟩
end Go.Proofs.Ytkiofeiinecpiaa
namespace Go.Proofs.Ytkiofeiinecpiaa
open Go.RowKit Go.Lib

/-- Is it the variable itself? -/
def TypeX.isV (u : ByteArray) (k : Int) (s : ByteArray) : Nat := if k = 1 ∧ s = u then 1 else 0
mutual
def TypeX.cntV (u : ByteArray) : TypeX → Nat
  | .mk k s l => TypeX.isV u k s + TypeX.cntVL u l
def TypeX.cntVL (u : ByteArray) : List TypeX → Nat
  | [] => 0
  | x :: r => x.cntV u + TypeX.cntVL u r
end
theorem TypeX.cntV_eq (u : ByteArray) (x : TypeX) : x.cntV u = TypeX.isV u x.kind_ x.name_ + TypeX.cntVL u x.args_ := by cases x with | mk a b c => rw [TypeX.cntV]; rfl
theorem TypeX.cntVL_take (u : ByteArray) : ∀ (l : List TypeX) (j : Nat) (h : j < l.length), TypeX.cntVL u (l.take (j + 1)) = TypeX.cntVL u (l.take j) + l[j].cntV u
  | x :: r, 0, _ => by simp [TypeX.cntVL]
  | x :: r, j + 1, h => by
    have := TypeX.cntVL_take u r j (by simpa using h)
    rw [List.take_succ_cons, List.take_succ_cons, TypeX.cntVL, TypeX.cntVL, this]
    simp; omega
theorem TypeX.cntVL_le (u : ByteArray) : ∀ (l : List TypeX) (j : Nat), TypeX.cntVL u (l.take j) ≤ TypeX.cntVL u l
  | [], j => by simp
  | x :: r, 0 => by simp [TypeX.cntVL]
  | x :: r, j + 1 => by
    have := TypeX.cntVL_le u r j
    rw [List.take_succ_cons, TypeX.cntVL, TypeX.cntVL]; omega

end Go.Proofs.Ytkiofeiinecpiaa
namespace Go.Proofs.Ytkiofeiinecpiaa
open Go.RowKit

/-- The index of the first element that is the string; -1 where there is none. -/
def indexOf (ss : List ByteArray) (s : ByteArray) : Int := if has ss s then ((ss.takeWhile fun x => !(x.data.toList == s.data.toList)).length : Int) else -1
theorem indexOf_miss {ss : List ByteArray} {s : ByteArray} (h : has ss s = false) : indexOf ss s = -1 := by rw [indexOf, h]; rfl
theorem indexOf_hit {ss : List ByteArray} {s : ByteArray} {k : Nat} (hk : k < ss.length) (hno : has (ss.take k) s = false) (he : (ss[k].data.toList == s.data.toList) = true) : indexOf ss s = k := by
  have hy : has ss s = true := has_of_take (k := k + 1) (by rw [has_take hk, he, Bool.or_true])
  have e : ss = ss.take k ++ ss[k] :: ss.drop (k + 1) := by rw [← List.drop_eq_getElem_cons hk, List.take_append_drop]
  have hl : (ss.takeWhile fun x => !(x.data.toList == s.data.toList)) = ss.take k := by
    conv => lhs; rw [e]
    rw [List.takeWhile_append_of_pos, List.takeWhile_cons_of_neg, List.append_nil]
    · rw [he]; decide
    · intro x hx
      rw [has, List.any_eq_false] at hno
      simpa using hno x hx
  rw [indexOf, hy, hl, List.length_take]
  simp
  omega
theorem indexOf_has (ss : List ByteArray) (s : ByteArray) : decide (0 ≤ indexOf ss s) = has ss s := by
  cases h : has ss s with
  | true => rw [indexOf, h]; simp
  | false => rw [indexOf_miss h]; decide
theorem indexOf_lt (ss : List ByteArray) (s : ByteArray) : -1 ≤ indexOf ss s ∧ indexOf ss s < ss.length + 1 := by
  unfold indexOf
  have := (List.takeWhile_sublist (fun x : ByteArray => !(x.data.toList == s.data.toList)) (l := ss)).length_le
  split <;> omega

set_option maxRecDepth 100000 in
set_option maxHeartbeats 400000 in
theorem specIndex (A : Option Addr) (c : Nat) (ss : List ByteArray) (s : ByteArray) (w : World) (hA : Strs w A ss) (hn : ss.length ≤ 9223372036854775807) :
    Calls Try.prog 86 #[.slice A ss.length c, .string s] w fun e w' => e = .returned (.int .i64 (indexOf ss s)) ∧ w = w' := by
  have HA := Lib.hid hA
  clear hA
  go_enter Try.func86, Try.ntmps86
  go_wp2
  go_loop [5] (fun i => ∃ k : Nat, k ≤ ss.length ∧ i = .int .i64 k ∧ has (ss.take k) s = false) (fun i => ss.length - (Go.RowKit.intOf i).toNat)
  case atStart => exact ⟨0, Nat.zero_le _, rfl, rfl⟩
  case round =>
    obtain ⟨k, hk, rfl, hno⟩ := hrel
    by_cases hlt : k < ss.length
    · obtain ⟨g, o, rfl, hc⟩ := HA.out.at_ hlt
      have hst := has_take hlt s
      rw [hno, Bool.false_or] at hst
      have hup := @indexOf_hit ss s k hlt hno
      have HS := Lib.hid hst
      have HU := Lib.hid hup
      clear hst hup hno
      cases he : ss[k].data.toList == s.data.toList with
      | true =>
        have hy := HU.out he
        have HY := Lib.hid hy
        have he1 : ss[k] = s := data_inj (by simpa using he)
        clear hy
        go_wp2
        go_ret
        exact ⟨congrArg (fun b => Ending.returned (.int .i64 b)) HY.out.symm, rfl⟩
      | false =>
        have hf := HS.out.trans he
        have HF := Lib.hid hf
        have he1 : (ss[k].toList == s.toList) = false := text_ne (by intro e; rw [e] at he; simp at he)
        clear hf
        go_wp2
        go_round
        case rel => exact ⟨k + 1, by omega, by go_num, HF.out⟩
        case measure => simp [Go.RowKit.intOf]; omega
    · have hkl : k = ss.length := by omega
      subst hkl
      rw [List.take_length] at hno
      have hm := indexOf_miss hno
      have HN := Lib.hid hm
      clear hno hm
      go_wp2
      go_ret
      exact ⟨congrArg (fun b => Ending.returned (.int .i64 b)) HN.out.symm, rfl⟩

end Go.Proofs.Ytkiofeiinecpiaa
/-!  The laws' guard on the code's length. -/
namespace Go.Proofs.Ytkiofeiinecpiaa
open Go.RowKit

theorem bigNo (A : Option Addr) (n c : Nat) (w : World) (hn : n ≤ 1048576) : Calls Try.prog 15 #[.slice A n c] w fun e w' => e = .returned (.bool false) ∧ w = w' := by
  have g : decide ((1048576 : Int) < n) = false := by simp; omega
  go_enter Try.func15, Try.ntmps15
  go_wp2
  go_ret
  exact ⟨rfl, rfl⟩
theorem bigYes (A : Option Addr) (n c : Nat) (w : World) (hn : 1048576 < n) : Calls Try.prog 15 #[.slice A n c] w fun e w' => e = .returned (.bool true) ∧ w = w' := by
  have g : decide ((1048576 : Int) < n) = true := by simp; omega
  go_enter Try.func15, Try.ntmps15
  go_wp2
  go_ret
  exact ⟨rfl, rfl⟩
end Go.Proofs.Ytkiofeiinecpiaa

/-!  The laws' own helper that compares two rows of strings. -/
namespace Go.Proofs.Ytkiofeiinecpiaa
open Go.RowKit

end Go.Proofs.Ytkiofeiinecpiaa
namespace Go.Proofs.Ytkiofeiinecpiaa
open Go.ChangeShapes Go.WideShapes Go.ChangeAt Go.RowKit

theorem bytes_of {w : World} {a : Addr} {len cap : Nat} {zs : List Int} (hl : len ≤ cap) (hz : zs.length = cap) (hc : ∀ i, i < zs.length → w.cell? (a.add i) = some (.int .u8 (zs.getD i 0))) (hw : ∀ z ∈ zs, (Lit.int .u8 z).wf = true) : BytesAt w w.heap.size (some a) len := by
  intro j hj
  have hjz : j < zs.length := by omega
  obtain ⟨b, off, spot⟩ := a
  have hspot : spot = none := by simpa [Addr.add] using World.cell?_spot (hc 0 (by omega))
  subst hspot
  have h := hc j hjz
  rw [Go.WideShapes.add_plain] at h
  have hmem : zs.getD j 0 ∈ zs := by
    rw [List.getD_eq_getElem?_getD, List.getElem?_eq_getElem hjz]
    exact List.getElem_mem hjz
  have hwf := hw _ hmem
  have hx : 0 ≤ zs.getD j 0 ∧ zs.getD j 0 ≤ 255 := by simpa [Lit.wf, IntKind.min, IntKind.max, IntKind.signed, IntKind.bits] using hwf
  exact ⟨b, off, _, rfl, World.block_lt_of_cell? w _ h, hx.1, hx.2, h⟩
end Go.Proofs.Ytkiofeiinecpiaa
namespace Go.Proofs.Ytkiofeiinecpiaa
open Go.RowKit Go.Lib

set_option maxRecDepth 100000 in
set_option maxHeartbeats 2000000 in
theorem equalTys (l : List TypeX) (A C : Option Addr) (a c : Nat) (w : World) (hn : TypeX.sizeL l ≤ 4294967296) (hA : TypeRow w (Und w.heap.size) A a l) (hC : TypeRow w (Und w.heap.size) C c l) :
    Calls Try.prog 27 #[.slice A l.length a, .slice C l.length c] w fun e w' => e = .returned (.bool true) ∧ Below w.heap.size w w' := by
  have hll := sizeL_length l
  have HA := Lib.hid hA
  have HC := Lib.hid hC
  clear hA hC
  go_enter Try.func27, Try.ntmps27
  go_wp2
  go_loopw [5] (fun iv wr => ∃ k : Nat, k ≤ l.length ∧ iv = .int .i64 k ∧ Below w.heap.size w wr) (fun iv _ => l.length - (Go.RowKit.intOf iv).toNat)
  case atStart => exact ⟨0, Nat.zero_le _, rfl, Below.refl _ _⟩
  case round =>
    obtain ⟨k, hk, rfl, hb⟩ := hrel
    by_cases hlt : k < l.length
    · obtain ⟨b, o, A3, c3, rfl, hP, p0, p1, p2, h3⟩ := (HA.out.grow hb).at_ hlt
      obtain ⟨b2, o2, C3, d3, rfl, hP2, q0, q1, q2, h4⟩ := (HC.out.grow hb).at_ hlt
      have hbl : b < wr.heap.size := hP
      have hbl2 : b2 < wr.heap.size := hP2
      have hk0 : (0 : Int) ≤ (k : Int) := Int.natCast_nonneg _
      have hk1 : (k : Int) < (l.length : Int) := by omega
      have hcall := specSameTy l[k] l[k] (.agg #[.int .i64 l[k].kind_, .string l[k].name_, .slice A3 l[k].args_.length c3]) (.agg #[.int .i64 l[k].kind_, .string l[k].name_, .slice C3 l[k].args_.length d3]) wr.drew ⟨_, _, rfl, h3.frame (fun _ h => h) fun _ _ _ => rfl⟩ ⟨_, _, rfl, h4.frame (fun _ h => h) fun _ _ _ => rfl⟩
      rw [(TypeX.same_iff _ _).2 rfl] at hcall
      have HCALL := Lib.hid hcall
      have hcur : Below wr.heap.size wr wr.drew := (Below.refl _ wr).drew
      have HSC : Hid (∀ w2 : World, Below wr.heap.size wr w2 → w2.cell? ⟨b, o + k * 3, none⟩ = some (.int .i64 l[k].kind_) ∧ w2.cell? ⟨b, o + k * 3 + 1, none⟩ = some (.string l[k].name_) ∧ w2.cell? ⟨b, o + k * 3 + 2, none⟩ = some (.slice A3 l[k].args_.length c3) ∧ w2.cell? ⟨b2, o2 + k * 3, none⟩ = some (.int .i64 l[k].kind_) ∧ w2.cell? ⟨b2, o2 + k * 3 + 1, none⟩ = some (.string l[k].name_) ∧ w2.cell? ⟨b2, o2 + k * 3 + 2, none⟩ = some (.slice C3 l[k].args_.length d3)) := Lib.hid fun w2 h =>
        ⟨(h.cell (p := ⟨b, _, none⟩) hbl).trans p0, (h.cell (p := ⟨b, _, none⟩) hbl).trans p1, (h.cell (p := ⟨b, _, none⟩) hbl).trans p2, (h.cell (p := ⟨b2, _, none⟩) hbl2).trans q0, (h.cell (p := ⟨b2, _, none⟩) hbl2).trans q1, (h.cell (p := ⟨b2, _, none⟩) hbl2).trans q2⟩
      clear h3 h4 hcall hP hP2
      go_upto_region 6 with (fail)
      go_region_held3 (fun w2 => w2.cell? ⟨b, o + k * 3, none⟩ = some (.int .i64 l[k].kind_) ∧ w2.cell? ⟨b, o + k * 3 + 1, none⟩ = some (.string l[k].name_) ∧ w2.cell? ⟨b, o + k * 3 + 2, none⟩ = some (.slice A3 l[k].args_.length c3) ∧ w2.cell? ⟨b2, o2 + k * 3, none⟩ = some (.int .i64 l[k].kind_) ∧ w2.cell? ⟨b2, o2 + k * 3 + 1, none⟩ = some (.string l[k].name_) ∧ w2.cell? ⟨b2, o2 + k * 3 + 2, none⟩ = some (.slice C3 l[k].args_.length d3))
        (first
         | go_keep
         | exact HSC.out _ hcur)
        (first
         | (go_at_call 42
            refine HCALL.out.mono ?_
            rintro e w7 ⟨rfl, hb7⟩
            have hcur := hcur.trans hb7))
      have HB7 := Lib.hid (hb.trans (hcur.mono hb.size))
      go_wp2
      go_roundw
      case rel => exact ⟨k + 1, by omega, by go_num, HB7.out⟩
      case measure => simp [Go.RowKit.intOf]; omega
    · go_wp2
      go_ret
      exact ⟨rfl, hb⟩
end Go.Proofs.Ytkiofeiinecpiaa

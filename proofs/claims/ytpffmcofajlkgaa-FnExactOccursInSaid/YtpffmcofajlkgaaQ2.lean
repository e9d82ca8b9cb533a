/- Texts that the claims share, joined. -/
import Derived.Test.YtpffmcofajlkgaaQ1
import Derived.RegionTactic
import Derived.Deep.QuietTactic
import Derived.BigQuiet
import Derived.Deep.CutRange
import Derived.Lib.ItoaNum
import Derived.Lib.ItoaLen
import Derived.Test.YtpffmcofajlkgaaProg
import Derived.Lib.Hide
import Derived.Outline
import Derived.Laws.OwnMore
import Derived.RangeFuncCalls
import Derived.Lib.QuietBelow
import Derived.Laws.RangeAny
import Derived.Deep.Slices
import Derived.Lib.SmallJoins
import Derived.ProofKit
namespace Go.Proofs.Ytpffmcofajlkgaa
open Go.RowKit

/-- THE ITERATOR's CONTRACT, where the body lets pass only what is Good: J and Jx are the caller's; M: the blocks that the iterator has made; Rd: those that it only reads. -/
def SeqG {α : Type} (F : Fence) (n : Nat) (P : Program) (g : Nat) (lb : Array Value) (encs : α → Array Value) (Ok : List α → α → Prop) (S : List α → Prop) (Good : α → Prop) (n₀ : Nat) (Rd : Nat → Prop) (w : World) : Prop :=
  ∀ (l : Nat) (J : (Nat → Prop) → List α → World → Prop) (Jx : List α → World → Prop) (W : World), Below w.heap.size w W →
    (∀ M s A B row, J M s A → A.grownBy B row → (∀ r, row = some r → M r) → J (fun b => M b ∨ (A.heap.size ≤ b ∧ b < B.heap.size)) s B) →
    (∀ M pre x W1, J M pre W1 → Ok pre x → YieldAt F (n - 1) P l (encs x) W1 fun e W' =>
      (e = .returned (.bool true) ∧ J M (pre ++ [x]) W' ∧ KeepsM n₀ (fun b => M b ∨ Rd b) W1 W') ∨ (e = .returned (.bool false) ∧ Jx (pre ++ [x]) W')) →
    (∀ M pre x W1, J M (pre ++ [x]) W1 → Good x) →
    J (fun _ => False) [] W →
    CallsIn F n P g (#[.func (.yield l) #[] #[]] ++ lb) W fun e W' => (∃ v, e = .returned v) ∧ ((∃ M xs, S xs ∧ J M xs W') ∨ (∃ pre, Jx pre W'))

variable {F : Fence} {n : Nat} {P : Program}

theorem wpIn_rangeFunc_ownG {α : Type} {g : Operand} {ps : Array Tmp} {assign body : Code} {Q : Exit → Act → World → Prop} {a : Act} {w : World}
    (hro : F.round = none) (h1 : 1 ≤ n) {gf : Nat} {lb : Array Value} (hg : a.eval g = .func (.func gf) #[] lb) (hFg : F.fn gf) (eg : ∀ args w, (callFunc gf args).run P w = .ok (.enter gf args) w)
    {encs : α → Array Value} {Ok : List α → α → Prop} {S : List α → Prop} {Good : α → Prop} {n₀ : Nat} {Rd : Nat → Prop} {w0 : World} (hseq : SeqG F (n - 1) P gf lb encs Ok S Good n₀ Rd w0) (hRd : ∀ b, Rd b → b < w.heap.size)
    (hb0 : Below w0.heap.size w0 w) (hn0 : n₀ ≤ w.heap.size) (hps : ∀ x, (encs x).size = ps.size)
    (I : (Nat → Prop) → List α → World → Prop) (Ix : Code → List α → World → Prop) (hI : OwnM w.heap.size I) (hG : ∀ M pre x W, I M (pre ++ [x]) W → Good x) (hIx : ∀ c, OwnFrom w.heap.size (Ix c)) (h0 : ∀ M : Nat → Prop, (∀ b, M b → w.heap.size ≤ b) → I M [] w) (Ax : α → Act → World → Prop) (hAx : ∀ x a', OwnFrom w.heap.size (fun (_ : Unit) W => Ax x a' W))
    (hassign : ∀ (l : Nat) (M : Nat → Prop) (pre : List α) (x : α) (W : World) (K : Act → World → Prop), (∀ b, M b → w.heap.size < b) → (∀ b, M b ∨ Rd b → b < W.heap.size) → w.heap.size + 1 < W.heap.size → I M pre W → Ok pre x → (∀ a' W', KeepsFrom w.heap.size W W' → KeepsM n₀ (fun b => M b ∨ Rd b) W W' → I M pre W' → Ax x a' W' → K a' W') →
      assign.wpIn (F.inRound l) (n - 1 - 1) P (Exit.then K (fun _ _ _ => False)) { tmps := (ps.zip (encs x)).foldl (fun t (p, v) => t.setIfInBounds p v) a.tmps, defers := [] } W)
    (hbody : ∀ (l : Nat) (M : Nat → Prop) (pre : List α) (x : α) (a' : Act) (W : World), (∀ b, M b → w.heap.size < b) → (∀ b, M b ∨ Rd b → b < W.heap.size) → w.heap.size + 1 < W.heap.size → I M pre W → Ax x a' W → Ok pre x → body.wpIn (F.inRound l) (n - 1 - 1) P (ownPostM w.heap.size n₀ Rd I Ix M (pre ++ [x]) W) a' W)
    (hdone : ∀ (D : Nat) (M : Nat → Prop) (xs : List α) (W : World), w.heap.size ≤ D → S xs → I M xs W → W.heap[D]? = some (.deferred (some [])) → Q .normal { a with defers := { target := .collected D, args := #[] } :: a.defers } W)
    (hstop : ∀ (D : Nat) (c : Code) (pre : List α) (W : World), w.heap.size ≤ D → Ix c pre W → W.heap[D]? = some (.deferred (some [])) → c.wpIn F n P Q { a with defers := { target := .collected D, args := #[] } :: a.defers } W) :
    (Code.rangeFunc g ps assign body).wpIn F n P Q a w := by
  refine wpIn_rangeFunc ?_
  intro fn hfn
  rw [hro]
  obtain ⟨rec, hrec⟩ : ∃ rec : LoopState → Option Code → Loop, rec = fun st pe => { state := st, pending := pe, fn, tmps := a.tmps, params := ps, assign, body, defers := w.heap.size } := ⟨_, rfl⟩
  obtain ⟨W1, hW1⟩ : ∃ W1, (w.alloc (.deferred (some []))).alloc (.loop (rec .ready none)) = W1 := ⟨_, rfl⟩
  have hsz : W1.heap.size = w.heap.size + 2 := by rw [← hW1]; simp
  have hL1 : W1.heap[w.heap.size + 1]? = some (.loop (rec .ready none)) := by
    rw [← hW1]; have := World.alloc_heap_new (w.alloc (.deferred (some []))) (.loop (rec .ready none)); rwa [World.size_alloc] at this
  have hK1 : W1.heap[w.heap.size]? = some (.deferred (some [])) := by
    rw [← hW1]; exact (Below.heap_alloc _ _ _ (by simp)).trans (World.alloc_heap_new w _)
  have hI1 : I (fun _ => False) [] W1 := by
    have h := h0 (fun _ => False) (fun _ h => h.elim)
    rw [← hW1]; exact (hI.from _).alloc _ ((hI.from _).alloc _ h)
  have hb1 : Below w0.heap.size w0 W1 := by
    rw [← hW1]; exact hb0.trans ((((Below.refl _ w).alloc (Nat.le_refl _) _).alloc (by simp) _).mono hb0.size)
  refine ⟨w.heap.size + 1, [{ target := .collected w.heap.size, args := #[] }], W1, { target := .fn (.func gf) lb, args := #[.func (.yield (w.heap.size + 1)) #[] #[]] }, W1, gf,
    #[.func (.yield (w.heap.size + 1)) #[] #[]] ++ lb, W1, ?_, ?_, ?_, ?_, fun _ => h1, ?_⟩
  · rw [← hW1, hrec]; exact run_enterLoop_outer _ _ _ _ _
  · simp only [resolve, hg]
    simp [go_sem]
  · intro f' hf'; simp [Target.leads] at hf'; subst hf'; exact hFg
  · simp [invoke, go_sem, eg]
  · refine (hseq (w.heap.size + 1)
      (fun M pre W => (∀ b, M b → w.heap.size + 2 ≤ b ∧ b < W.heap.size) ∧ I M pre W ∧ W.heap[w.heap.size + 1]? = some (.loop (rec .ready none)) ∧ W.heap[w.heap.size]? = some (.deferred (some [])))
      (fun pre W => ∃ c, Ix c pre W ∧ W.heap[w.heap.size + 1]? = some (.loop (rec .done (some c))) ∧ W.heap[w.heap.size]? = some (.deferred (some [])))
      W1 hb1 ?_ ?_ (fun M pre x W1 h => hG M pre x W1 h.2.1) ⟨fun _ h => h.elim, hI1, hL1, hK1⟩).mono ?_
    · rintro M s A B row ⟨hM, hi, hl, hk⟩ hg' hr
      have hlt : w.heap.size + 1 < A.heap.size := (Array.getElem?_eq_some_iff.1 hl).1
      have hsz' := hg'.size
      refine ⟨fun b hb => ?_, hI M _ s A B row hi hg' (fun r e => ⟨by have := (hM r (hr r e)).1; omega, .inl (hr r e)⟩) (fun b hb => hb.imp_right (fun h => h.1)), ?_, ?_⟩
      · rcases hb with hb | hb
        · have := hM b hb; omega
        · omega
      · exact (hg'.block _ hlt (fun e => by have := (hM _ (hr _ e.symm)).1; omega)).trans hl
      · exact (hg'.block _ (by omega) (fun e => by have := (hM _ (hr _ e.symm)).1; omega)).trans hk
    · rintro M pre x W ⟨hM, hi, hl, hk⟩ hok
      have hlt : w.heap.size + 1 < W.heap.size := (Array.getElem?_eq_some_iff.1 hl).1
      have hy := run_yield (P := P) (args := encs x) hl (by rw [hrec]; exact hps x)
      rw [hrec] at hy
      refine ⟨fn, _, assign, body, hy, roundIn_of_wpIn hfn (hassign _ M pre x W _ (fun b hb => by have := hM b hb; omega) (fun b hb => hb.elim (fun h => (hM b h).2) (fun h => by have := hRd b h; omega)) hlt hi hok ?_)⟩
      clear hy
      intro a' Wa hkfa hkpa hia hax
      replace hl := hkfa.same _ _ (by omega) hl rfl
      replace hk := hkfa.same _ _ (Nat.le_refl _) hk rfl
      replace hlt : w.heap.size + 1 < Wa.heap.size := (Array.getElem?_eq_some_iff.1 hl).1
      replace hM : ∀ b, M b → w.heap.size + 2 ≤ b ∧ b < Wa.heap.size := fun b hb => ⟨(hM b hb).1, by have := (hM b hb).2; have := hkfa.size; omega⟩
      replace hi := hia
      clear hia
      revert hkpa hkfa
      generalize W = Wb
      intro hkfa hkpa
      obtain ⟨W, rfl⟩ : ∃ W, W = Wa := ⟨_, rfl⟩
      refine ⟨_, run_beginRound hl (by rw [hrec]), ?_⟩
      have hl2 : (W.putObj (w.heap.size + 1) (.loop { rec .ready none with state := .busy })).heap[w.heap.size + 1]? = some (.loop { rec .ready none with state := .busy }) := World.putObj_heap_same hlt
      have hk2 : (W.putObj (w.heap.size + 1) (.loop { rec .ready none with state := .busy })).heap[w.heap.size]? = some (.deferred (some [])) := (World.putObj_heap_other (by omega)).trans hk
      have hw2 : KeepsM n₀ (fun b => M b ∨ Rd b) W (W.putObj (w.heap.size + 1) (.loop { rec .ready none with state := .busy })) := KeepsM.putObj (by omega) hlt (fun h => h.elim (fun h => by have := (hM _ h).1; omega) (fun h => by have := hRd _ h; omega))
      refine wpIn_mono (hbody _ M pre x a' _ (fun b hb => by have := hM b hb; omega) (fun b hb => by simp; exact hb.elim (fun h => (hM b h).2) (fun h => by have := hRd b h; omega)) (by simp; omega) ((hI.from M).putObj _ hi (by omega) hl rfl) ((hAx x a').putObj (s := ()) _ hax (by omega) hl rfl) hok) ?_
      have fin : ∀ (jump : Option Code) (W3 : World), KeepsFrom w.heap.size (W.putObj (w.heap.size + 1) (.loop { rec .ready none with state := .busy })) W3 →
          (Instr.endRound (w.heap.size + 1) jump).run P W3 = .ok (.bool jump.isNone) (W3.putObj (w.heap.size + 1) (.loop (rec (if jump.isNone then .ready else .done) jump))) ∧
          W3.heap[w.heap.size + 1]? = some (.loop { rec .ready none with state := .busy }) ∧
          (W3.putObj (w.heap.size + 1) (.loop (rec (if jump.isNone then .ready else .done) jump))).heap[w.heap.size + 1]? = some (.loop (rec (if jump.isNone then .ready else .done) jump)) ∧
          (W3.putObj (w.heap.size + 1) (.loop (rec (if jump.isNone then .ready else .done) jump))).heap[w.heap.size]? = some (.deferred (some [])) := fun jump W3 hk3 => by
        have hl3 := hk3.same _ _ (by omega) hl2 rfl
        have := run_endRound (P := P) jump hl3
        rw [hrec] at this ⊢
        exact ⟨this, by rw [hrec] at hl3; exact hl3, World.putObj_heap_same (Array.getElem?_eq_some_iff.1 hl3).1, (World.putObj_heap_other (by omega)).trans (hk3.same _ _ (Nat.le_refl _) hk2 rfl)⟩
      rintro e a3 W3 hp
      cases e with
      | normal =>
        obtain ⟨hk3, hkp3, hi3⟩ := hp
        obtain ⟨hr, hl3, hl4, hk4⟩ := fin none W3 hk3
        have hlt3 := (Array.getElem?_eq_some_iff.1 hl3).1
        have hsz3 := hk3.size
        simp at hsz3
        exact ⟨_, _, hr, .inl ⟨rfl, ⟨fun b hb => by have := hM b hb; simp; omega, (hI.from M).putObj _ hi3 (by omega) hl3 rfl, hl4, hk4⟩, hkpa.trans ((hw2.trans hkp3).trans (KeepsM.putObj (by omega) hlt3 (fun h => h.elim (fun h => by have := (hM _ h).1; omega) (fun h => by have := hRd _ h; omega))))⟩⟩
      | ret =>
        obtain ⟨hk3, hi3⟩ := hp
        obtain ⟨hr, hl3, hl4, hk4⟩ := fin (some .ret) W3 hk3
        exact ⟨_, _, hr, .inr ⟨rfl, .ret, (hIx _).putObj _ hi3 (by omega) hl3 rfl, hl4, hk4⟩⟩
      | exit id =>
        obtain ⟨hk3, hi3⟩ := hp
        obtain ⟨hr, hl3, hl4, hk4⟩ := fin (some (.exit id)) W3 hk3
        exact ⟨_, _, hr, .inr ⟨rfl, .exit id, (hIx _).putObj _ hi3 (by omega) hl3 rfl, hl4, hk4⟩⟩
      | goto t =>
        obtain ⟨hk3, hi3⟩ := hp
        obtain ⟨hr, hl3, hl4, hk4⟩ := fin (some (.goto t)) W3 hk3
        exact ⟨_, _, hr, .inr ⟨rfl, .goto t, (hIx _).putObj _ hi3 (by omega) hl3 rfl, hl4, hk4⟩⟩
      | panic ch => exact hp.elim
      | outgrown => exact hp.elim
    · rintro e W2 ⟨⟨v, rfl⟩, (⟨M, xs, hS, hM, hi, hl, hk⟩ | ⟨pre, c, hi, hl, hk⟩)⟩
      · exact ⟨none, _, by have := run_endLoop (P := P) hl (by rw [hrec]; simp); rw [hrec] at this; exact this, hdone _ M xs _ (Nat.le_refl _) hS ((hI.from M).putObj _ hi (by omega) hl rfl) ((World.putObj_heap_other (by omega)).trans hk)⟩
      · exact ⟨some c, _, by have := run_endLoop (P := P) hl (by rw [hrec]; simp); rw [hrec] at this; exact this, hstop _ c pre _ (Nat.le_refl _) ((hIx c).putObj _ hi (by omega) hl rfl) ((World.putObj_heap_other (by omega)).trans hk)⟩
end Go.Proofs.Ytpffmcofajlkgaa
namespace Go.Proofs.Ytpffmcofajlkgaa
open Go.RowKit Go.Lib

/-- What comes: a level, a pattern, a type, where their own lists lie. -/
structure PairIt where
  lvl : Nat
  p : TypeX
  t : TypeX
  A : Option Addr
  a : Nat
  C : Option Addr
  c : Nat
def PairIt.key (x : PairIt) : Nat × PairX := (x.lvl, x.p, x.t)
def PairIt.enc (x : PairIt) : Array Value := #[.int .i64 (x.lvl : Nat), .agg #[.int .i64 x.p.kind_, .string x.p.name_, .slice x.A x.p.args_.length x.a, .int .i64 x.t.kind_, .string x.t.name_, .slice x.C x.t.args_.length x.c]]

/-- The list at A: its pairs lie in blocks of R; what they lead to lies below n₀. -/
def TopPair (w : World) (n₀ : Nat) (R : Nat → Prop) (A : Option Addr) (l : List PairX) : Prop :=
  ∀ (j : Nat) (hj : j < l.length), ∃ (b o : Nat) (A2 : Option Addr) (a2 : Nat) (C2 : Option Addr) (c2 : Nat), A = some ⟨b, o, none⟩ ∧ R b ∧
    w.cell? ⟨b, o + j * 6, none⟩ = some (.int .i64 l[j].1.kind_) ∧ w.cell? ⟨b, o + j * 6 + 1, none⟩ = some (.string l[j].1.name_) ∧ w.cell? ⟨b, o + j * 6 + 2, none⟩ = some (.slice A2 l[j].1.args_.length a2) ∧
    w.cell? ⟨b, o + j * 6 + 3, none⟩ = some (.int .i64 l[j].2.kind_) ∧ w.cell? ⟨b, o + j * 6 + 4, none⟩ = some (.string l[j].2.name_) ∧ w.cell? ⟨b, o + j * 6 + 5, none⟩ = some (.slice C2 l[j].2.args_.length c2) ∧
    TypeRow w (Und n₀) A2 a2 l[j].1.args_ ∧ TypeRow w (Und n₀) C2 c2 l[j].2.args_
theorem TopPair.frame {w w' : World} {n₀ : Nat} {R R' : Nat → Prop} {A : Option Addr} {l : List PairX} (h : TopPair w n₀ R A l) (hR : ∀ b, R b → R' b) (hk : ∀ b, b < n₀ ∨ R b → w'.heap[b]? = w.heap[b]?) : TopPair w' n₀ R' A l := by
  intro j hj
  obtain ⟨b, o, A2, a2, C2, c2, hA, hb, h0, h1, h2, h3, h4, h5, hr, hs⟩ := h j hj
  have hc : ∀ b i, (b < n₀ ∨ R b) → w'.cell? ⟨b, i, none⟩ = w.cell? ⟨b, i, none⟩ := fun b i h => World.cell?_of_block (a := ⟨b, i, none⟩) (hk b h)
  exact ⟨b, o, A2, a2, C2, c2, hA, hR b hb, (hc _ _ (.inr hb)).trans h0, (hc _ _ (.inr hb)).trans h1, (hc _ _ (.inr hb)).trans h2, (hc _ _ (.inr hb)).trans h3, (hc _ _ (.inr hb)).trans h4, (hc _ _ (.inr hb)).trans h5,
    hr.frame (fun _ h => h) (fun b i h => hc b i (.inl h)), hs.frame (fun _ h => h) (fun b i h => hc b i (.inl h))⟩
theorem TopPair.tail {w : World} {n₀ b o : Nat} {R : Nat → Prop} {x : PairX} {l : List PairX} (h : TopPair w n₀ R (some ⟨b, o, none⟩) (x :: l)) : TopPair w n₀ R (some ⟨b, o + 6, none⟩) l := by
  intro j hj
  obtain ⟨b', o', A2, a2, C2, c2, hA, hb, h0, h1, h2, h3, h4, h5, k1, k2⟩ := h (j + 1) (by simpa using hj)
  injection hA with hA
  injection hA with e1 e2
  subst e1 e2
  have e : o + (j + 1) * 6 = o + 6 + j * 6 := by omega
  rw [e] at h0 h1 h2 h3 h4 h5
  exact ⟨b, o + 6, A2, a2, C2, c2, rfl, hb, h0, h1, h2, h3, h4, h5, k1, k2⟩
theorem TopPair.nil (w : World) (n₀ : Nat) (R : Nat → Prop) (A : Option Addr) : TopPair w n₀ R A [] := fun j hj => absurd hj (Nat.not_lt_zero j)

/-- The stack's slices, the top one last. -/
def TopsPair (w : World) (n₀ : Nat) (R : Nat → Prop) : List (List PairX) → List Value → Prop
  | [], vs => vs = []
  | l :: r, vs => ∃ (vs0 : List Value) (A : Option Addr) (c : Nat), vs = vs0 ++ [.slice A l.length c] ∧ l.length ≤ c ∧ c ≤ 9223372036854775807 ∧ TopPair w n₀ R A l ∧ TopsPair w n₀ R r vs0
theorem TopsPair.length {w : World} {n₀ : Nat} {R : Nat → Prop} : ∀ {rs : List (List PairX)} {vs : List Value}, TopsPair w n₀ R rs vs → vs.length = rs.length
  | [], vs, h => by rw [TopsPair] at h; rw [h]; rfl
  | l :: r, vs, h => by
    obtain ⟨vs0, A, c, rfl, _, _, _, h2⟩ := h
    rw [List.length_append, h2.length]; rfl
theorem TopsPair.frame {w w' : World} {n₀ : Nat} {R R' : Nat → Prop} (hR : ∀ b, R b → R' b) (hk : ∀ b, b < n₀ ∨ R b → w'.heap[b]? = w.heap[b]?) : ∀ {rs : List (List PairX)} {vs : List Value}, TopsPair w n₀ R rs vs → TopsPair w' n₀ R' rs vs
  | [], vs, h => h
  | l :: r, vs, h => by
    obtain ⟨vs0, A, c, rfl, h1, h2, h3, h4⟩ := h
    exact ⟨vs0, A, c, rfl, h1, h2, h3.frame hR hk, h4.frame hR hk⟩

/-- The iterator between two steps: its stack rv, in blocks of M; the rows that it points to lie in blocks of R, none of them the stack's own. -/
structure PrePairSt (J : (Nat → Prop) → List PairIt → World → Prop) (w : World) (n₀ b0 : Nat) (Rd : Nat → Prop) (M R : Nat → Prop) (pre : List PairIt) (rs : List (List PairX)) (vs : List Value) (rv : Value) (wr : World) : Prop where
  j : J M pre wr
  own : wr.ownsRow (b0 + 1) 84 1 rv rs.length vs
  mown : ∀ b, rv.ownBlock = some b → M b
  rm : ∀ b, R b → M b
  rown : ∀ b, rv.ownBlock = some b → ¬ R b
  tops : TopsPair wr n₀ R rs vs
  below : Below n₀ w wr
  rd : ∀ b, Rd b → b < w.heap.size → wr.heap[b]? = w.heap[b]?
  lt : ∀ b, M b → b0 ≤ b ∧ b < wr.heap.size
  size : b0 < wr.heap.size
section
variable {J : (Nat → Prop) → List PairIt → World → Prop} {w : World} {n₀ b0 : Nat} {Rd M R : Nat → Prop} {pre : List PairIt} {rs : List (List PairX)} {vs : List Value} {rv : Value} {wr : World}
theorem PrePairSt.grow (HJ : ∀ M s A B row, J M s A → A.grownBy B row → (∀ r, row = some r → M r) → J (fun b => M b ∨ (A.heap.size ≤ b ∧ b < B.heap.size)) s B) (hnb : n₀ ≤ b0) (hwb : w.heap.size ≤ b0)
    (h : PrePairSt J w n₀ b0 Rd M R pre rs vs rv wr) {w2 : World} (hb : Below wr.heap.size wr w2) : PrePairSt J w n₀ b0 Rd (fun b => M b ∨ (wr.heap.size ≤ b ∧ b < w2.heap.size)) R pre rs vs rv w2 where
  j := HJ _ _ _ _ none h.j (grown_none hb) (fun _ e => by cases e)
  own := own_same h.own fun b hv => hb.block b (h.own.lt b hv).2
  mown := fun b hb' => .inl (h.mown b hb')
  rm := fun b hb' => .inl (h.rm b hb')
  rown := h.rown
  tops := h.tops.frame (fun _ h => h) fun b hb' => hb.block b (by
    have := h.size
    rcases hb' with h' | h'
    · omega
    · exact (h.lt b (h.rm b h')).2)
  below := h.below.trans (hb.mono (by have := h.size; omega))
  rd := fun b hr hlt => (hb.block b (by have := h.size; omega)).trans (h.rd b hr hlt)
  lt := fun b hb' => by
    have := h.size
    rcases hb' with h' | h'
    · exact ⟨(h.lt b h').1, Nat.lt_of_lt_of_le (h.lt b h').2 hb.size⟩
    · exact ⟨by omega, h'.2⟩
  size := Nat.lt_of_lt_of_le h.size hb.size
theorem PrePairSt.round (h : PrePairSt J w n₀ b0 Rd M R pre rs vs rv wr) {w2 : World} {y : PairIt} (hk : KeepsM n₀ (fun b => M b ∨ Rd b) wr w2) (hj : J M (pre ++ [y]) w2) : PrePairSt J w n₀ b0 Rd M R (pre ++ [y]) rs vs rv w2 where
  j := hj
  own := own_same h.own fun b hv => hk.own b (.inl (h.mown b hv))
  mown := h.mown
  rm := h.rm
  rown := h.rown
  tops := h.tops.frame (fun _ h => h) fun b hb' => by
    rcases hb' with h' | h'
    · exact hk.below.block b h'
    · exact hk.own _ (.inl (h.rm b h'))
  below := h.below.trans hk.below
  rd := fun b hr hlt => (hk.own b (.inr hr)).trans (h.rd b hr hlt)
  lt := fun b hb => ⟨(h.lt b hb).1, Nat.lt_of_lt_of_le (h.lt b hb).2 hk.below.size⟩
  size := Nat.lt_of_lt_of_le h.size hk.below.size
theorem PrePairSt.store (HJ : ∀ M s A B row, J M s A → A.grownBy B row → (∀ r, row = some r → M r) → J (fun b => M b ∨ (A.heap.size ≤ b ∧ b < B.heap.size)) s B) (hnb : n₀ ≤ b0) (hwb : w.heap.size ≤ b0)
    {y : PairX} {l : List PairX} {vs0 : List Value} {v : Value} {g cap : Nat} (h : PrePairSt J w n₀ b0 Rd M R pre ((y :: l) :: rs) (vs0 ++ [v]) (.slice (some ⟨g, 0, none⟩) (rs.length + 1) cap) wr) (h0 : TopsPair wr n₀ R rs vs0)
    {A3 : Option Addr} {c3 : Nat} (hl : l.length ≤ c3) (hc : c3 ≤ 9223372036854775807) (hT : TopPair wr n₀ R A3 l) :
    PrePairSt J w n₀ b0 Rd (fun b => M b ∨ (wr.heap.size ≤ b ∧ b < (wr.setCell ⟨g, rs.length, none⟩ (.slice A3 l.length c3)).heap.size)) R pre (l :: rs) (vs0 ++ [.slice A3 l.length c3]) (.slice (some ⟨g, 0, none⟩) (rs.length + 1) cap) (wr.setCell ⟨g, rs.length, none⟩ (.slice A3 l.length c3)) := by
  have hg : b0 + 1 ≤ g := (h.own.lt g rfl).1
  have hgR : ¬ R g := h.rown g rfl
  have hfar : ∀ b, b ≠ g → (wr.setCell ⟨g, rs.length, none⟩ (.slice A3 l.length c3)).heap[b]? = wr.heap[b]? := fun b hb => Below.heap_setCell wr _ _ b hb
  have hfr : ∀ b, b < n₀ ∨ R b → (wr.setCell ⟨g, rs.length, none⟩ (.slice A3 l.length c3)).heap[b]? = wr.heap[b]? := fun b hb => hfar b (by
    rcases hb with h' | h'
    · omega
    · intro e; exact hgR (e ▸ h'))
  have hst := World.ownsRow.stored h.own rs.length (.slice A3 l.length c3)
  refine ⟨HJ _ _ _ _ (some g) h.j (grownBy_setCell'' wr g rs.length _) (fun r e => by cases e; exact h.mown g rfl), ?_, fun b hb => .inl (h.mown b hb), fun b hb => .inl (h.rm b hb), fun b hb => h.rown b hb, ?_, h.below.setCell (p := ⟨g, rs.length, none⟩) (by simp; omega) _, fun b hr hlt => (hfar b (by omega)).trans (h.rd b hr hlt), fun b hb => ?_, by simpa using h.size⟩
  · have e : (vs0 ++ [v]).set rs.length (.slice A3 l.length c3) = vs0 ++ [.slice A3 l.length c3] := by
      rw [List.set_append_right _ _ (by rw [h0.length]; exact Nat.le_refl _), h0.length, Nat.sub_self]; rfl
    rw [← e]; exact hst.1
  · exact ⟨vs0, A3, c3, rfl, hl, hc, hT.frame (fun _ h => h) hfr, h0.frame (fun _ h => h) hfr⟩
  · have := h.size
    rcases hb with h' | h'
    · exact ⟨(h.lt b h').1, by simpa using (h.lt b h').2⟩
    · exact ⟨by omega, h'.2⟩
theorem PrePairSt.push (HJ : ∀ M s A B row, J M s A → A.grownBy B row → (∀ r, row = some r → M r) → J (fun b => M b ∨ (A.heap.size ≤ b ∧ b < B.heap.size)) s B) (hnb : n₀ ≤ b0) (hwb : w.heap.size ≤ b0)
    (h : PrePairSt J w n₀ b0 Rd M R pre rs vs rv wr) {w2 : World} {v' : Value} {l : List PairX} {A : Option Addr} {c : Nat} {R' : Nat → Prop} (hRR : ∀ b, R b → R' b) (hRM : ∀ b, R' b → M b) (hRv : ∀ b, rv.ownBlock = some b → ¬ R' b)
    (hg : wr.grownBy w2 rv.ownBlock) (hown : w2.ownsRow (b0 + 1) 84 1 v' (rs.length + 1) (vs ++ [.slice A l.length c]))
    (hv : v'.ownBlock = rv.ownBlock ∨ v'.ownBlock = some wr.heap.size) (hl : l.length ≤ c) (hc : c ≤ 9223372036854775807) (hT : TopPair wr n₀ R' A l) :
    PrePairSt J w n₀ b0 Rd (fun b => M b ∨ (wr.heap.size ≤ b ∧ b < w2.heap.size)) R' pre (l :: rs) (vs ++ [.slice A l.length c]) v' w2 := by
  have hs := h.size
  have hfar : ∀ b, b < n₀ ∨ R' b → w2.heap[b]? = wr.heap[b]? := fun b hb => by
    rcases hb with h' | h'
    · exact hg.block b (by omega) (fun e => by have := (h.own.lt b e.symm).1; omega)
    · exact hg.block b (h.lt b (hRM b h')).2 (fun e => hRv b e.symm h')
  refine ⟨HJ _ _ _ _ _ h.j hg h.mown, hown, fun b hb => ?_, fun b hb => .inl (hRM b hb), fun b hb => ?_, ⟨vs, A, c, rfl, hl, hc, hT.frame (fun _ h => h) hfar, (h.tops.frame hRR (fun _ _ => rfl)).frame (fun _ h => h) hfar⟩,
    h.below.grown hg (by omega) (fun k e => by have := (h.own.lt k e).1; omega), fun b hr hlt => (hg.block b (by omega) (fun e => by have := (h.own.lt b e.symm).1; omega)).trans (h.rd b hr hlt), fun b hb => ?_, Nat.lt_of_lt_of_le hs hg.size⟩
  · rcases hv with hv | hv
    · exact .inl (h.mown b (hv ▸ hb))
    · rw [hv] at hb; injection hb with hb; subst hb
      exact .inr ⟨Nat.le_refl _, (hown.lt _ hv).2⟩
  · rcases hv with hv | hv
    · exact hRv b (hv ▸ hb)
    · rw [hv] at hb; injection hb with hb; subst hb
      intro hr
      have := (h.lt _ (hRM _ hr)).2
      omega
  · rcases hb with h' | h'
    · exact ⟨(h.lt b h').1, Nat.lt_of_lt_of_le (h.lt b h').2 hg.size⟩
    · exact ⟨by omega, h'.2⟩
end
end Go.Proofs.Ytpffmcofajlkgaa
namespace Go.Proofs.Ytpffmcofajlkgaa
open Go.RowKit Go.Lib

theorem infoPair : (Try.prog.info? 89).map (fun i => (i.zero, i.size, i.bytes)) = some (some (.agg #[.int .i64 0, .string ByteArray.empty, .slice none 0 0, .int .i64 0, .string ByteArray.empty, .slice none 0 0]), 6, 96) := by kernel_rfl
theorem setAt_far : ∀ (vs : List Value) (cs : Array Value) (o i : Nat), i < o ∨ o + vs.length ≤ i → (setAt cs o vs)[i]? = cs[i]?
  | [], _, _, _, _ => rfl
  | v :: r, cs, o, i, h => by
    rw [List.length_cons] at h
    rw [setAt, setAt_far r _ (o + 1) i (by omega), Array.getElem?_setIfInBounds_ne (by omega)]
theorem setAt_at : ∀ (vs : List Value) (cs : Array Value) (o i : Nat), i < vs.length → o + vs.length ≤ cs.size → (setAt cs o vs)[o + i]? = vs[i]?
  | v :: r, cs, o, 0, _, h => by
    rw [List.length_cons] at h
    rw [setAt, setAt_far r _ (o + 1) (o + 0) (by omega), Nat.add_zero, Array.getElem?_setIfInBounds_self_of_lt (by omega)]
    rfl
  | v :: r, cs, o, i + 1, hi, h => by
    rw [List.length_cons] at h hi
    rw [setAt, show o + (i + 1) = o + 1 + i by omega, setAt_at r _ (o + 1) i (by omega) (by simp; omega)]
    rfl
/-- The first k pairs lie in these cells. -/
def FilledP (w : World) (n₀ k : Nat) (L : List PairX) (cs : Array Value) : Prop := ∀ (j : Nat) (hj : j < L.length), j < k → ∃ (A2 : Option Addr) (a2 : Nat) (C2 : Option Addr) (c2 : Nat),
  cs[j * 6]? = some (.int .i64 L[j].1.kind_) ∧ cs[j * 6 + 1]? = some (.string L[j].1.name_) ∧ cs[j * 6 + 2]? = some (.slice A2 L[j].1.args_.length a2) ∧
  cs[j * 6 + 3]? = some (.int .i64 L[j].2.kind_) ∧ cs[j * 6 + 4]? = some (.string L[j].2.name_) ∧ cs[j * 6 + 5]? = some (.slice C2 L[j].2.args_.length c2) ∧
  TypeRow w (Und n₀) A2 a2 L[j].1.args_ ∧ TypeRow w (Und n₀) C2 c2 L[j].2.args_
theorem FilledP.step {w : World} {n₀ k : Nat} {L : List PairX} {cs : Array Value} (h : FilledP w n₀ k L cs) (hk : k < L.length) (hcs : cs.size = L.length * 6) {A2 C2 : Option Addr} {a2 c2 : Nat}
    (h1 : TypeRow w (Und n₀) A2 a2 L[k].1.args_) (h2 : TypeRow w (Und n₀) C2 c2 L[k].2.args_) :
    FilledP w n₀ (k + 1) L (setAt cs (k * 6) [.int .i64 L[k].1.kind_, .string L[k].1.name_, .slice A2 L[k].1.args_.length a2, .int .i64 L[k].2.kind_, .string L[k].2.name_, .slice C2 L[k].2.args_.length c2]) := by
  have hm : (k + 1) * 6 ≤ L.length * 6 := Nat.mul_le_mul_right _ hk
  intro j hj hjk
  by_cases he : j = k
  · subst he
    have hat : ∀ i, i < 6 → (setAt cs (j * 6) [.int .i64 L[j].1.kind_, .string L[j].1.name_, .slice A2 L[j].1.args_.length a2, .int .i64 L[j].2.kind_, .string L[j].2.name_, .slice C2 L[j].2.args_.length c2])[j * 6 + i]? = _ := fun i hi => setAt_at _ cs (j * 6) i hi (by simp; omega)
    exact ⟨A2, a2, C2, c2, hat 0 (by omega), hat 1 (by omega), hat 2 (by omega), hat 3 (by omega), hat 4 (by omega), hat 5 (by omega), h1, h2⟩
  · have hlt : j < k := by omega
    have hm2 : (j + 1) * 6 ≤ k * 6 := Nat.mul_le_mul_right _ hlt
    obtain ⟨A3, a3, C3, c3, e0, e1, e2, e3, e4, e5, r1, r2⟩ := h j hj hlt
    have hf : ∀ i, i < 6 → (setAt cs (k * 6) [.int .i64 L[k].1.kind_, .string L[k].1.name_, .slice A2 L[k].1.args_.length a2, .int .i64 L[k].2.kind_, .string L[k].2.name_, .slice C2 L[k].2.args_.length c2])[j * 6 + i]? = cs[j * 6 + i]? := fun i hi => setAt_far _ cs (k * 6) _ (.inl (by omega))
    exact ⟨A3, a3, C3, c3, (hf 0 (by omega)).trans e0, (hf 1 (by omega)).trans e1, (hf 2 (by omega)).trans e2, (hf 3 (by omega)).trans e3, (hf 4 (by omega)).trans e4, (hf 5 (by omega)).trans e5, r1, r2⟩
theorem FilledP.top {w w' : World} {n₀ g : Nat} {L : List PairX} {cs : Array Value} {t : TypeId} {R : Nat → Prop} (h : FilledP w n₀ L.length L cs) (hw : Whole w' g t cs) (hR : R g) (hk : ∀ b, b < n₀ → w'.heap[b]? = w.heap[b]?) : TopPair w' n₀ R (some ⟨g, 0, none⟩) L := by
  intro j hj
  obtain ⟨A3, a3, C3, c3, e0, e1, e2, e3, e4, e5, r1, r2⟩ := h j hj hj
  refine ⟨g, 0, A3, a3, C3, c3, rfl, hR, ?_, ?_, ?_, ?_, ?_, ?_, r1.frame (fun _ h => h) (fun b o h => World.cell?_of_block (a := ⟨b, o, none⟩) (hk b h)), r2.frame (fun _ h => h) (fun b o h => World.cell?_of_block (a := ⟨b, o, none⟩) (hk b h))⟩ <;> rw [hw.cell, Nat.zero_add] <;> assumption
theorem cells6 {w : World} {g : Nat} {t : TypeId} {a b c d e f : Value} (h : Whole w g t #[a, b, c, d, e, f]) : w.cell? ⟨g, 0, none⟩ = some a ∧ w.cell? ⟨g, 1, none⟩ = some b ∧ w.cell? ⟨g, 2, none⟩ = some c ∧ w.cell? ⟨g, 3, none⟩ = some d ∧ w.cell? ⟨g, 4, none⟩ = some e ∧ w.cell? ⟨g, 5, none⟩ = some f := by
  refine ⟨?_, ?_, ?_, ?_, ?_, ?_⟩ <;> rw [h.cell] <;> rfl

theorem Whole.drew {W : World} {g : Nat} {t : TypeId} {cs : Array Value} (h : Whole W g t cs) : Whole W.drew g t cs := h
theorem whole_more {W : World} {g : Nat} {t : TypeId} {cs : Array Value} (h : Whole W g t cs) (o : Obj) : Whole (W.alloc o).drew g t cs := h.below ((Below.refl W.heap.size W).alloc (Nat.le_refl _) o).drew h.lt
/-- The pairs of two lists, in a new row; what they lead to: for whatever reading. -/
def ZipOut (ps ts : List TypeX) (n₀ : Nat) (w : World) (e : Ending) (w' : World) : Prop := ∃ (A2 : Option Addr) (c2 : Nat), e = .returned (.slice A2 (ps.zip ts).length c2) ∧ (ps.zip ts).length ≤ c2 ∧ c2 ≤ 9223372036854775807 ∧ TopPair w' n₀ (fun b => w.heap.size ≤ b ∧ b < w'.heap.size) A2 (ps.zip ts) ∧ Below w.heap.size w w'

set_option maxRecDepth 100000 in
set_option maxHeartbeats 4000000 in
theorem implPairsOf (ps ts : List TypeX) (A C : Option Addr) (a c n₀ : Nat) (w : World) (hn : n₀ ≤ w.heap.size) (hlen : ps.length = ts.length) (hsz : ps.length ≤ 4294967296) (hp : TypeRow w (Und n₀) A a ps) (ht : TypeRow w (Und n₀) C c ts) :
    Calls Try.prog 91 #[.slice A ps.length a, .slice C ts.length c] w (ZipOut ps ts n₀ w) := by
  obtain ⟨L, hL⟩ : ∃ L, L = ps.zip ts := ⟨_, rfl⟩
  have hLn : L.length = ps.length := by rw [hL, List.length_zip]; omega
  have hLat : ∀ (j : Nat) (h : j < L.length) (h1 : j < ps.length) (h2 : j < ts.length), L[j] = (ps[j], ts[j]) := by subst hL; exact fun j h h1 h2 => List.getElem_zip
  obtain ⟨i0, hi, hz0, hz1, hz2⟩ := info_parts infoPair
  have km := fun (w : World) => run_make (P := Try.prog) w 84 89 i0 (.agg #[.int .i64 0, .string ByteArray.empty, .slice none 0 0, .int .i64 0, .string ByteArray.empty, .slice none 0 0]) Try.underlying84 hi hz0 .i64 .i64 (ps.length : Int) (ps.length : Int) (by omega) (by omega) (by rw [hz2]; omega) (by omega)
  simp only [Int.toNat_natCast, hz1] at km
  have hms : (madeCells (Value.agg #[.int .i64 0, .string ByteArray.empty, .slice none 0 0, .int .i64 0, .string ByteArray.empty, .slice none 0 0]).cells (ps.length * 6)).size = ps.length * 6 := size_madeCells _ _
  generalize madeCells (Value.agg #[.int .i64 0, .string ByteArray.empty, .slice none 0 0, .int .i64 0, .string ByteArray.empty, .slice none 0 0]).cells (ps.length * 6) = cs0 at *
  unfold ZipOut
  rw [← hL]
  have HP := Lib.hid hp
  have HT := Lib.hid ht
  have HM := Lib.hid hms
  have HLA := Lib.hid hLat
  have HLN := Lib.hid hLn
  have HLE := Lib.hid hlen
  clear hL hLn hLat hms hi hz0 hz1 hz2 hlen hp ht
  have hbq : Below w.heap.size w (w.alloc (.cells cs0 89)) := (Below.refl _ _).alloc (Nat.le_refl _) _
  have hw0 := Whole.new w 89 cs0
  go_enter Try.func91, Try.ntmps91
  go_wp2
  clear km
  go_loopw [12] (fun iv wr => ∃ (k : Nat) (cs : Array Value), k ≤ L.length ∧ iv = .int .i64 k ∧ Whole wr w.heap.size 89 cs ∧ cs.size = L.length * 6 ∧ FilledP w n₀ k L cs ∧ Below w.heap.size w wr) (fun iv _ => L.length - (Go.RowKit.intOf iv).toNat)
  case atStart => exact ⟨0, cs0, Nat.zero_le _, rfl, hw0, by rw [HLN.out]; exact HM.out, fun j hj h => absurd h (Nat.not_lt_zero j), hbq⟩
  case round =>
    obtain ⟨k, cs, hk, rfl, hwr, hcs, hF, hb⟩ := hrel
    clear hw0 hbq
    have hln := HLN.out
    have hle := HLE.out
    by_cases hlt : k < L.length
    · have hlt1 : k < ps.length := by omega
      have hlt2 : k < ts.length := by omega
      have hat := HLA.out k hlt hlt1 hlt2
      obtain ⟨b, o, A3, c3, rfl, hPb, p0, p1, p2, h3⟩ := HP.out.at_ hlt1
      obtain ⟨b2, o2, C3, d3, rfl, hPb2, r0, r1, r2, h4⟩ := HT.out.at_ hlt2
      have hbn : b < w.heap.size := Nat.lt_of_lt_of_le hPb hn
      have hbn2 : b2 < w.heap.size := Nat.lt_of_lt_of_le hPb2 hn
      have hstep := hF.step hlt hcs (A2 := A3) (C2 := C3) (a2 := c3) (c2 := d3) (by rw [hat]; exact h3) (by rw [hat]; exact h4)
      rw [hat] at hstep
      have q0 := (hb.cell (p := ⟨b, o + k * 3, none⟩) hbn).trans p0
      have q1 := (hb.cell (p := ⟨b, o + k * 3 + 1, none⟩) hbn).trans p1
      have q2 := (hb.cell (p := ⟨b, o + k * 3 + 2, none⟩) hbn).trans p2
      have t0 := (hb.cell (p := ⟨b2, o2 + k * 3, none⟩) hbn2).trans r0
      have t1 := (hb.cell (p := ⟨b2, o2 + k * 3 + 1, none⟩) hbn2).trans r1
      have t2 := (hb.cell (p := ⟨b2, o2 + k * 3 + 2, none⟩) hbn2).trans r2
      have hm6 : (k + 1) * 6 ≤ L.length * 6 := Nat.mul_le_mul_right _ hlt
      have hold : ∀ i, i < 6 → ∃ v, wr.cell? ⟨w.heap.size, k * 6 + i, none⟩ = some v := fun i hi => by rw [hwr.cell]; exact ⟨_, Array.getElem?_eq_getElem (by omega)⟩
      obtain ⟨y0, e0⟩ := hold 0 (by omega)
      obtain ⟨y1, e1⟩ := hold 1 (by omega)
      obtain ⟨y2, e2⟩ := hold 2 (by omega)
      obtain ⟨y3, e3⟩ := hold 3 (by omega)
      obtain ⟨y4, e4⟩ := hold 4 (by omega)
      obtain ⟨y5, e5⟩ := hold 5 (by omega)
      rw [Nat.add_zero] at e0
      have f0 := hwr.frozen (k * 6)
      have f1 := hwr.frozen (k * 6 + 1)
      have f2 := hwr.frozen (k * 6 + 2)
      have f3 := hwr.frozen (k * 6 + 3)
      have f4 := hwr.frozen (k * 6 + 4)
      have f5 := hwr.frozen (k * 6 + 5)
      have hwl := hwr.lt
      have hbl : b < wr.heap.size := by omega
      have hbl2 : b2 < wr.heap.size := by omega
      have HSTEP := Lib.hid hstep
      have HWR := Lib.hid hwr
      have HBX := Lib.hid hb
      clear hstep hwr hb hF p0 p1 p2 r0 r1 r2 h3 h4 hold hat hPb hPb2
      go_upto_region 5 with (fail)
      go_region
      go_wp2
      go_roundw
      case rel => exact ⟨k + 1, setAt cs (k * 6) [.int .i64 ps[k].kind_, .string ps[k].name_, .slice A3 ps[k].args_.length c3, .int .i64 ts[k].kind_, .string ts[k].name_, .slice C3 ts[k].args_.length d3], by omega, by go_num, Whole.drew (show Whole _ _ _ (setAt cs (k * 6) [.int .i64 ps[k].kind_, .string ps[k].name_, .slice A3 ps[k].args_.length c3, .int .i64 ts[k].kind_, .string ts[k].name_, .slice C3 ts[k].args_.length d3]) from ((((((HWR.out.set_ _ _).set_ _ _).set_ _ _).set_ _ _).set_ _ _).set_ _ _)), by rw [setAt_size]; exact hcs, HSTEP.out, (((((((HBX.out.setCell (Nat.le_refl _) _).setCell (Nat.le_refl _) _).setCell (Nat.le_refl _) _).setCell (Nat.le_refl _) _).setCell (Nat.le_refl _) _).setCell (Nat.le_refl _) _).drew)⟩
      case measure => simp [Go.RowKit.intOf]; omega
    · obtain rfl : k = L.length := by omega
      have hls : L.length ≤ 4294967296 := by omega
      have htop := hF.top (w' := wr) (R := fun b => w.heap.size ≤ b ∧ b < wr.heap.size) hwr ⟨Nat.le_refl _, hwr.lt⟩ (fun b h => hb.block b (by omega))
      have HTOP := Lib.hid htop
      clear hF hwr htop
      go_wp2
      go_ret
      exact ⟨some ⟨w.heap.size, 0, none⟩, ps.length, by rw [hln]; rfl, by omega, by omega, HTOP.out, hb⟩

end Go.Proofs.Ytpffmcofajlkgaa
namespace Go.Proofs.Ytpffmcofajlkgaa
open Go.RowKit Go.Lib

/-- What argumentPairs leaves. -/
def PairsOut (p t : TypeX) (n₀ : Nat) (w : World) (e : Ending) (w' : World) : Prop := ∃ (A2 : Option Addr) (c2 : Nat), e = .returned (.slice A2 (pairsX p t).length c2) ∧ (pairsX p t).length ≤ c2 ∧ c2 ≤ 9223372036854775807 ∧ TopPair w' n₀ (fun b => w.heap.size ≤ b ∧ b < w'.heap.size) A2 (pairsX p t) ∧ Below w.heap.size w w'

set_option maxRecDepth 100000 in
set_option maxHeartbeats 4000000 in
theorem implArgPairs (p t : TypeX) (A C : Option Addr) (a c n₀ : Nat) (w : World) (hn : n₀ ≤ w.heap.size) (hg : GoodP p t) (hsz : p.args_.length ≤ 4294967296) (hp : TypeRow w (Und n₀) A a p.args_) (ht : TypeRow w (Und n₀) C c t.args_) :
    Calls Try.prog 70 #[.agg #[.int .i64 p.kind_, .string p.name_, .slice A p.args_.length a, .int .i64 t.kind_, .string t.name_, .slice C t.args_.length c]] w (PairsOut p t n₀ w) := by
  have hb0 : Below w.heap.size w (w.alloc (.cells #[.int .i64 p.kind_, .string p.name_, .slice A p.args_.length a, .int .i64 t.kind_, .string t.name_, .slice C t.args_.length c] 89)) := (Below.refl _ _).alloc (Nat.le_refl _) _
  have hx0 := Whole.new w 89 #[.int .i64 p.kind_, .string p.name_, .slice A p.args_.length a, .int .i64 t.kind_, .string t.name_, .slice C t.args_.length c]
  have HB0 := Lib.hid hb0
  have HX0 := Lib.hid hx0
  have HP := Lib.hid hp
  have HT := Lib.hid ht
  have hs0 : (w.alloc (.cells #[.int .i64 p.kind_, .string p.name_, .slice A p.args_.length a, .int .i64 t.kind_, .string t.name_, .slice C t.args_.length c] 89)).heap.size = w.heap.size + 1 := by simp
  have HS0 := Lib.hid hs0
  clear hb0 hx0 hp ht hs0
  by_cases hk : p.kind_ = 1
  · have hkb : (p.kind_ == 1) = true := by rw [hk]; rfl
    have hpx : pairsX p t = [] := by rw [pairsX, if_pos hk]
    unfold PairsOut
    rw [hpx]
    clear hk hpx hg
    go_enter Try.func70, Try.ntmps70
    go_wp2_with fail
    refine (implIsVar _ _ _ _ _ _).mono ?_
    rintro e w1 ⟨rfl, hb1⟩
    rw [hkb]
    have hbb := HB0.out.trans (hb1.mono HB0.out.size)
    clear hb1
    go_wp2
    go_ret
    exact ⟨none, 0, rfl, Nat.le_refl _, by decide, TopPair.nil _ _ _ _, hbb⟩
  · have hkb : (p.kind_ == 1) = false := by simpa using hk
    have hlen : p.args_.length = t.args_.length := hg.elim (fun h => absurd h hk) id
    have hpx : pairsX p t = p.args_.zip t.args_ := by rw [pairsX, if_neg hk]
    obtain ⟨L, hL⟩ : ∃ L, L = p.args_.zip t.args_ := ⟨_, rfl⟩
    rw [← hL] at hpx
    have HL := Lib.hid hL
    clear hL
    unfold PairsOut
    rw [hpx]
    have HLE := Lib.hid hlen
    clear hk hpx hg hlen
    go_enter Try.func70, Try.ntmps70
    go_wp2_with fail
    refine (implIsVar _ _ _ _ _ _).mono ?_
    rintro e w1 ⟨rfl, hb1⟩
    rw [hkb]
    have hx1 := HX0.out.below hb1 (by have := HS0.out; omega)
    have hbb := HB0.out.trans (hb1.mono HB0.out.size)
    have hw1 := hbb.size
    obtain ⟨x0, x1, x2, x3, x4, x5⟩ := cells6 hx1
    have hcl : ∀ b o, Und n₀ b → w1.cell? ⟨b, o, none⟩ = w.cell? ⟨b, o, none⟩ := fun b o h => hbb.cell (p := ⟨b, o, none⟩) (Nat.lt_of_lt_of_le (show b < n₀ from h) hn)
    have hcall := implPairsOf p.args_ t.args_ A C a c n₀ w1 (Nat.le_trans hn hw1) HLE.out hsz (HP.out.frame (fun _ h => h) hcl) (HT.out.frame (fun _ h => h) hcl)
    have hwl := hx1.lt
    have HW1 := Lib.hid hw1
    unfold ZipOut at hcall
    rw [← HL.out] at hcall
    have HC := Lib.hid hcall
    have HB1 := Lib.hid hbb
    clear hb1 hx1 hbb HB0 HX0 HS0 hcall hcl
    go_wp2_with fail
    refine HC.out.mono ?_
    rintro e w2 ⟨A2, c2, rfl, h1, h2, h3, h4⟩
    have h3' : TopPair w2 n₀ (fun b => w.heap.size ≤ b ∧ b < w2.heap.size) A2 L := h3.frame (fun b h => ⟨Nat.le_trans HW1.out h.1, h.2⟩) fun _ _ => rfl
    have HT3 := Lib.hid h3'
    have HB2 := Lib.hid (HB1.out.trans (h4.mono HW1.out))
    clear h3 h3' h4
    go_wp2
    go_ret
    exact ⟨A2, c2, rfl, h1, h2, HT3.out, HB2.out⟩
end Go.Proofs.Ytpffmcofajlkgaa
namespace Go.Proofs.Ytpffmcofajlkgaa
open Go.RowKit

mutual
def TypeX.walk (d : Nat) : TypeX → List (Nat × TypeX)
  | .mk a b c => (d, .mk a b c) :: TypeX.walkL (d + 1) c
def TypeX.walkL (d : Nat) : List TypeX → List (Nat × TypeX)
  | [] => []
  | x :: r => x.walk d ++ TypeX.walkL d r
end
theorem TypeX.walk_eq (d : Nat) (x : TypeX) : x.walk d = (d, x) :: TypeX.walkL (d + 1) x.args_ := by cases x with | mk a b c => rw [TypeX.walk]; rfl
/-- What the lists of a stack (the top one first) have still to give. -/
def todoType : List (List TypeX) → List (Nat × TypeX)
  | [] => []
  | l :: r => TypeX.walkL r.length l ++ todoType r
theorem todoType_pop (r : List (List TypeX)) : todoType ([] :: r) = todoType r := by rw [todoType, TypeX.walkL]; rfl
theorem todoType_step (x : TypeX) (l : List TypeX) (r : List (List TypeX)) : todoType ((x :: l) :: r) = (r.length, x) :: todoType (x.args_ :: l :: r) := by
  rw [todoType, todoType, todoType, TypeX.walkL, TypeX.walk_eq, List.length_cons]
  simp
theorem todoType_start (x : TypeX) : todoType [[x]] = x.walk 0 := by simp [todoType, TypeX.walkL]
end Go.Proofs.Ytpffmcofajlkgaa
namespace Go.Proofs.Ytpffmcofajlkgaa
open Go.Lib

/-- The digits of a number that the loop has still to write: none for 0. -/
def digs (u : Nat) : List UInt8 := if u = 0 then [] else decDigits u

theorem digs_zero : digs 0 = [] := rfl
theorem digs_pos {u : Nat} (h : u ≠ 0) : digs u = decDigits u := by unfold digs; rw [if_neg h]
theorem digs_step {u : Nat} (h : u ≠ 0) : digs u = digs (u / 10) ++ [UInt8.ofNat (48 + u % 10)] := by
  rw [digs_pos h, decDigits]
  by_cases h10 : u < 10
  · rw [dif_pos h10, show u / 10 = 0 by omega, digs_zero, Nat.mod_eq_of_lt h10]; rfl
  · rw [dif_neg h10, digs_pos (by omega)]
theorem digs_length_le : ∀ (k u : Nat), u < 10 ^ k → (digs u).length ≤ k
  | 0, u, h => by
    have : u = 0 := by simp at h; omega
    subst this; simp [digs_zero]
  | k + 1, u, h => by
    by_cases h0 : u = 0
    · subst h0; simp [digs_zero]
    · rw [digs_step h0, List.length_append]
      have := digs_length_le k (u / 10) (by rw [Nat.pow_succ] at h; omega)
      simp; omega
theorem itoa_of_neg {n : Int} (h : n < 0) : itoa n = 45 :: digs n.natAbs := by
  rw [itoa, if_pos h, digs_pos (by omega)]
theorem itoa_of_pos {n : Int} (h : 0 < n) : itoa n = digs n.natAbs := by
  rw [itoa, if_neg (by omega), digs_pos (by omega), show n.toNat = n.natAbs by omega]
theorem itoa_zero : itoa 0 = [48] := by rw [itoa, if_neg (by omega)]; rw [decDigits]; simp
end Go.Proofs.Ytpffmcofajlkgaa
namespace Go.Proofs.Ytpffmcofajlkgaa
open Go.RowKit Go.Lib

/-- The text of a mark. -/
def mark (k : Nat) : ByteArray := ⟨(109 :: digs k).toArray⟩
theorem mark_step (m : Nat) (l : List UInt8) (h : 0 < m) (b : UInt8) (hb : b = UInt8.ofNat (48 + m % 10)) : digs (m / 10) ++ b :: l = digs m ++ l := by
  rw [digs_step (show m ≠ 0 by omega), hb]
  simp

end Go.Proofs.Ytpffmcofajlkgaa
namespace Go.Proofs.Ytpffmcofajlkgaa
open Go.RowKit Go.Lib

mutual
/-- How many marks. -/
def DV.cnt : DV → Nat
  | .pl _ => 1
  | .row _ _ xs => DV.cntE xs
def DV.cntL : List DV → Nat
  | [] => 0
  | d :: r => d.cnt + DV.cntL r
def DV.cntE : List (List DV) → Nat
  | [] => 0
  | x :: r => DV.cntL x + DV.cntE r
end
/-- A plain value's mark. -/
def vmkU (k : Nat) : Value → Value
  | .string _ => .string (mark k)
  | .int q _ => .int q k
  | .bool _ => .bool ((k : Int) % 3 == 0)
  | u => u
mutual
/-- Marked from k on. -/
def DV.vmk (k : Nat) : DV → DV
  | .pl u => .pl (vmkU k u)
  | .row e s xs => .row e s (vmkE k xs)
def vmkL (k : Nat) : List DV → List DV
  | [] => []
  | d :: r => d.vmk k :: vmkL (k + d.cnt) r
def vmkE (k : Nat) : List (List DV) → List (List DV)
  | [] => []
  | x :: r => vmkL k x :: vmkE (k + DV.cntL x) r
end
theorem vmkL_length : ∀ (ds : List DV) (k : Nat), (vmkL k ds).length = ds.length
  | [], _ => by rw [vmkL]
  | d :: r, k => by rw [vmkL, List.length_cons, List.length_cons, vmkL_length r]
theorem vmkE_length : ∀ (l : List (List DV)) (k : Nat), (vmkE k l).length = l.length
  | [], _ => by rw [vmkE]
  | x :: r, k => by rw [vmkE, List.length_cons, List.length_cons, vmkE_length r]
theorem vmkE_take : ∀ (l : List (List DV)) (k i : Nat) (h : i < l.length), vmkE k (l.take (i + 1)) = vmkE k (l.take i) ++ [vmkL (k + DV.cntE (l.take i)) l[i]]
  | x :: r, k, 0, _ => by simp [vmkE, DV.cntE]
  | x :: r, k, i + 1, h => by
    rw [List.take_succ_cons, List.take_succ_cons, vmkE, vmkE, vmkE_take r _ i (by simpa using h), DV.cntE]
    simp [Nat.add_assoc]
theorem vmkE_at : ∀ (l : List (List DV)) (k i : Nat) (h : i < l.length), (vmkE k l)[i]? = some (vmkL (k + DV.cntE (l.take i)) l[i])
  | x :: r, k, 0, _ => by simp [vmkE, DV.cntE]
  | x :: r, k, i + 1, h => by
    rw [vmkE, List.getElem?_cons_succ, vmkE_at r _ i (by simpa using h), List.take_succ_cons, DV.cntE]
    simp [Nat.add_assoc]
theorem cntE_step : ∀ (l : List (List DV)) (j : Nat) (h : j < l.length), DV.cntE (l.take (j + 1)) = DV.cntE (l.take j) + DV.cntL l[j]
  | x :: r, 0, _ => by simp [DV.cntE]
  | x :: r, j + 1, h => by
    have := cntE_step r j (by simpa using h)
    rw [List.take_succ_cons, List.take_succ_cons, DV.cntE, DV.cntE, this]
    simp; omega
theorem cntE_part : ∀ (l : List (List DV)) (j : Nat), DV.cntE (l.take j) ≤ DV.cntE l
  | [], j => by simp
  | x :: r, 0 => by simp [DV.cntE]
  | x :: r, j + 1 => by
    have := cntE_part r j
    rw [List.take_succ_cons, DV.cntE, DV.cntE]; omega

/-- All blocks but these are as they were. -/
structure ButV (bs : List Nat) (w w' : World) : Prop where
  os : w'.os = w.os
  tape : w'.tape = w.tape
  output : w'.output = w.output
  size : w.heap.size ≤ w'.heap.size
  block : ∀ b, b < w.heap.size → b ∉ bs → w'.heap[b]? = w.heap[b]?
theorem ButV.refl (bs : List Nat) (w : World) : ButV bs w w := ⟨rfl, rfl, rfl, Nat.le_refl _, fun _ _ _ => rfl⟩
theorem ButV.trans {bs : List Nat} {a b c : World} (h : ButV bs a b) (k : ButV bs b c) : ButV bs a c :=
  ⟨k.os.trans h.os, k.tape.trans h.tape, k.output.trans h.output, Nat.le_trans h.size k.size, fun i hi hn => (k.block i (Nat.lt_of_lt_of_le hi h.size) hn).trans (h.block i hi hn)⟩
theorem ButV.of_below {bs : List Nat} {w w' : World} (h : Below w.heap.size w w') : ButV bs w w' := ⟨h.os, h.tape, h.output, h.size, fun b hb _ => h.block b hb⟩
theorem ButV.more {bs cs : List Nat} {w w' : World} (h : ButV bs w w') (hs : ∀ b ∈ bs, b ∈ cs) : ButV cs w w' := ⟨h.os, h.tape, h.output, h.size, fun b hb hn => h.block b hb fun hm => hn (hs b hm)⟩
theorem ButV.set_ {bs : List Nat} {a w : World} (h : ButV bs a w) {g : Nat} (hg : g ∈ bs) (i : Nat) (v : Value) : ButV bs a (w.setCell ⟨g, i, none⟩ v) :=
  h.trans ⟨rfl, rfl, rfl, by simp [World.setCell], fun b _ hn => Below.heap_setCell _ _ _ _ (by exact (fun e => hn (by rw [e]; exact hg)))⟩
theorem ButV.below {bs : List Nat} {B : Nat} {w w' : World} (h : ButV bs w w') (hB : B ≤ w.heap.size) (hbs : ∀ b ∈ bs, B ≤ b) : Below B w w' :=
  ⟨h.os, h.tape, h.output, h.size, fun k hk => h.block k (by omega) (fun hm => by have := hbs k hm; omega)⟩

theorem OwVE_split {w : World} {B K : Nat} : ∀ (p : List (List DV)) {x : List DV} {q : List (List DV)} {vs : List Value} {bs : List Nat}, OwVE w B K (p ++ x :: q) vs bs →
    ∃ vp vx vq bp bx bq, vs = vp ++ (vx ++ vq) ∧ bs = bp ++ (bx ++ bq) ∧ OwVE w B K p vp bp ∧ x.length = K ∧ OwVs w B x vx bx ∧ OwVE w B K q vq bq
  | [], x, q, vs, bs, h => by
    rw [List.nil_append, OwVE] at h
    obtain ⟨v1, v2, b1, b2, rfl, rfl, hk, h1, h2⟩ := h
    exact ⟨[], v1, v2, [], b1, b2, rfl, rfl, by rw [OwVE]; exact ⟨rfl, rfl⟩, hk, h1, h2⟩
  | y :: p, x, q, vs, bs, h => by
    rw [List.cons_append, OwVE] at h
    obtain ⟨v1, v2, b1, b2, rfl, rfl, hk, h1, h2⟩ := h
    obtain ⟨vp, vx, vq, bp, bx, bq, rfl, rfl, h3, h4, h5, h6⟩ := OwVE_split p h2
    refine ⟨v1 ++ vp, vx, vq, b1 ++ bp, bx, bq, by rw [List.append_assoc], by rw [List.append_assoc], ?_, h4, h5, h6⟩
    rw [OwVE]
    exact ⟨v1, vp, b1, bp, rfl, rfl, hk, h1, h3⟩
theorem OwVE_join {w : World} {B K : Nat} : ∀ (p : List (List DV)) {x : List DV} {q : List (List DV)} {vp vx vq : List Value} {bp bx bq : List Nat}, OwVE w B K p vp bp → x.length = K → OwVs w B x vx bx → OwVE w B K q vq bq →
    OwVE w B K (p ++ x :: q) (vp ++ (vx ++ vq)) (bp ++ (bx ++ bq))
  | [], x, q, vp, vx, vq, bp, bx, bq, h, hk, hx, hq => by
    rw [OwVE] at h
    obtain ⟨rfl, rfl⟩ := h
    rw [List.nil_append, List.nil_append, List.nil_append, OwVE]
    exact ⟨vx, vq, bx, bq, rfl, rfl, hk, hx, hq⟩
  | y :: p, x, q, vp, vx, vq, bp, bx, bq, h, hk, hx, hq => by
    rw [OwVE] at h
    obtain ⟨v1, v2, b1, b2, rfl, rfl, hk1, h1, h2⟩ := h
    rw [List.cons_append, OwVE]
    exact ⟨v1, _, b1, _, by rw [List.append_assoc], by rw [List.append_assoc], hk1, h1, OwVE_join p h2 hk hx hq⟩
theorem OwVs_split {w : World} {B : Nat} : ∀ (p : List DV) {d : DV} {q : List DV} {vs : List Value} {bs : List Nat}, OwVs w B (p ++ d :: q) vs bs →
    ∃ vp v vq bp bd bq, vs = vp ++ v :: vq ∧ bs = bp ++ (bd ++ bq) ∧ OwVs w B p vp bp ∧ OwV w B d v bd ∧ OwVs w B q vq bq
  | [], d, q, vs, bs, h => by
    rw [List.nil_append, OwVs] at h
    obtain ⟨v, v2, b1, b2, rfl, rfl, h1, h2⟩ := h
    exact ⟨[], v, v2, [], b1, b2, rfl, rfl, by rw [OwVs]; exact ⟨rfl, rfl⟩, h1, h2⟩
  | y :: p, d, q, vs, bs, h => by
    rw [List.cons_append, OwVs] at h
    obtain ⟨v1, v2, b1, b2, rfl, rfl, h1, h2⟩ := h
    obtain ⟨vp, v, vq, bp, bd, bq, rfl, rfl, h3, h4, h5⟩ := OwVs_split p h2
    refine ⟨v1 :: vp, v, vq, b1 ++ bp, bd, bq, rfl, by rw [List.append_assoc], ?_, h4, h5⟩
    rw [OwVs]
    exact ⟨v1, vp, b1, bp, rfl, rfl, h1, h3⟩
theorem OwVs_join {w : World} {B : Nat} : ∀ (p : List DV) {d : DV} {q : List DV} {vp vq : List Value} {v : Value} {bp bd bq : List Nat}, OwVs w B p vp bp → OwV w B d v bd → OwVs w B q vq bq →
    OwVs w B (p ++ d :: q) (vp ++ v :: vq) (bp ++ (bd ++ bq))
  | [], d, q, vp, vq, v, bp, bd, bq, h, hx, hq => by
    rw [OwVs] at h
    obtain ⟨rfl, rfl⟩ := h
    rw [List.nil_append, List.nil_append, List.nil_append, OwVs]
    exact ⟨v, vq, bd, bq, rfl, rfl, hx, hq⟩
  | y :: p, d, q, vp, vq, v, bp, bd, bq, h, hx, hq => by
    rw [OwVs] at h
    obtain ⟨v1, v2, b1, b2, rfl, rfl, h1, h2⟩ := h
    rw [List.cons_append, OwVs]
    exact ⟨v1, _, b1, _, rfl, by rw [List.append_assoc], h1, OwVs_join p h2 hx hq⟩

/-- A row that has elements lies somewhere. -/
theorem OwV_some {w : World} {B K n c : Nat} {e : TypeId} {xs : List (List DV)} {A : Option Addr} {bs : List Nat} (h : OwV w B (.row e K xs) (.slice A n c) bs) (hx : 0 < xs.length) : ∃ g, A = some ⟨g, 0, none⟩ ∧ g ∈ bs := by
  rw [OwV] at h
  obtain ⟨vs, bs', h1, _, rfl⟩ := h
  rcases h1.2 with ⟨_, h0⟩ | ⟨g, cap, cur, hv, _⟩
  · omega
  · injection hv with hA
    subst hA
    exact ⟨g, rfl, by simp [Value.ownBlock]⟩
/-- The cell at c of the element behind p: what it is; another in its place. -/
theorem OwV_focus {w : World} {B K n cap g i : Nat} {e : TypeId} {p q : List (List DV)} {x : List DV} {bs : List Nat} (h : OwV w B (.row e K (p ++ x :: q)) (.slice (some ⟨g, 0, none⟩) n cap) bs) (hn : bs.Nodup) (hi : p.length = i) {c : Nat} {d : DV} (hc : x[c]? = some d) :
    ∃ vd bd, w.cell? ⟨g, i * K + c, none⟩ = some vd ∧ w.frozen? ⟨g, i * K + c, none⟩ = false ∧ OwV w B d vd bd ∧ bd.Nodup ∧ g ∉ bd ∧ (∀ b ∈ bd, b ∈ bs) ∧
      (∀ w' d', OwV w' B d' vd bd → (∀ b ∈ bs, b ∉ bd → w'.heap[b]? = w.heap[b]?) → OwV w' B (.row e K (p ++ x.set c d' :: q)) (.slice (some ⟨g, 0, none⟩) n cap) bs) ∧
      (bd = [] → ∀ u', OwV (w.setCell ⟨g, i * K + c, none⟩ u') B (.row e K (p ++ x.set c (.pl u') :: q)) (.slice (some ⟨g, 0, none⟩) n cap) bs) := by
  rw [OwV] at h
  obtain ⟨vs, bs', hown, hE, rfl⟩ := h
  have hnl : n = (p ++ x :: q).length := by
    rcases hown.2 with ⟨h, _⟩ | ⟨g', c', cur, h, _⟩
    · cases h
    · injection h
  rw [← hnl] at hown
  obtain ⟨vp, vx, vq, bp, bx, bq, rfl, rfl, h1, hk, h2, h3⟩ := OwVE_split p hE
  have hcl : c < x.length := (List.getElem?_eq_some_iff.1 hc).1
  have hxe : x = x.take c ++ d :: x.drop (c + 1) := by
    have e1 : x[c] = d := (List.getElem?_eq_some_iff.1 hc).2
    rw [← e1, ← List.drop_eq_getElem_cons hcl, List.take_append_drop]
  have hset : ∀ d', x.set c d' = x.take c ++ d' :: x.drop (c + 1) := fun d' => by rw [List.set_eq_take_append_cons_drop, if_pos hcl]
  have h2' := h2
  rw [hxe] at h2'
  obtain ⟨v1, v, v2, b1, bd, b2, rfl, rfl, h4, h5, h6⟩ := OwVs_split _ h2'
  have hvp : vp.length = i * K := by rw [OwVE_length h1, hi]
  have hv1 : v1.length = c := by rw [OwVs_length h4, List.length_take]; omega
  have hlen : (p ++ x :: q).length = i + 1 + q.length := by rw [List.length_append, List.length_cons, hi]; omega
  have hix : i * K + c < n * K := by
    rw [hnl, hlen, show i + 1 + q.length = i + (1 + q.length) by omega, Nat.add_mul]
    have : 1 * K ≤ (1 + q.length) * K := Nat.mul_le_mul_right _ (by omega)
    omega
  have hcell : w.cell? ⟨g, i * K + c, none⟩ = some v := by
    rw [World.ownsRow.cellAt hown _ hix, List.getElem?_append_right (by omega), hvp, show i * K + c - i * K = c by omega, List.getElem?_append_left (by simp; omega), List.getElem?_append_right (by omega), hv1, Nat.sub_self]
    rfl
  simp only [Value.ownBlock, Option.toList_some, List.singleton_append, List.nodup_cons] at hn
  obtain ⟨hng, hn⟩ := hn
  rw [List.nodup_append, List.nodup_append, List.nodup_append, List.nodup_append] at hn
  obtain ⟨np, ⟨⟨nb1, ⟨nbd, nb2, dis1⟩, dis2⟩, nbq, dis3⟩, dis4⟩ := hn
  have join : ∀ (w' : World) (d' : DV) (v' : Value) (vs' : List Value), vs' = vp ++ ((v1 ++ v' :: v2) ++ vq) → w'.ownsRow B e K (.slice (some ⟨g, 0, none⟩) n cap) n vs' → OwV w' B d' v' bd → (∀ b ∈ bp ++ (b1 ++ (bd ++ b2) ++ bq), b ∉ bd → w'.heap[b]? = w.heap[b]?) → OwV w' B (.row e K (p ++ x.set c d' :: q)) (.slice (some ⟨g, 0, none⟩) n cap) ((Value.slice (some ⟨g, 0, none⟩) n cap).ownBlock.toList ++ (bp ++ (b1 ++ (bd ++ b2) ++ bq))) := by
    intro w' d' v' vs' hvs ho hd hb
    rw [OwV]
    refine ⟨vs', _, by rw [show (p ++ x.set c d' :: q).length = n by rw [hnl]; simp]; exact ho, ?_, rfl⟩
    rw [hvs]
    refine OwVE_join p (OwVE_frame p (fun b hm => hb b (by simp [hm]) (fun hm2 => dis4 b hm b (by simp [hm2]) rfl)) h1) (by rw [List.length_set]; exact hk) ?_ (OwVE_frame q (fun b hm => hb b (by simp [hm]) (fun hm2 => dis3 b (by simp [hm2]) b hm rfl)) h3)
    rw [hset]
    exact OwVs_join _ (OwVs_frame _ (fun b hm => hb b (by simp [hm]) (fun hm2 => dis2 b hm b (by simp [hm2]) rfl)) h4) hd (OwVs_frame _ (fun b hm => hb b (by simp [hm]) (fun hm2 => dis1 b hm2 b hm rfl)) h6)
  refine ⟨v, bd, hcell, hown.frozenAt _, h5, nbd, fun hm => hng (by simp [hm]), fun b hm => by simp [hm], fun w' d' hd hb => ?_, fun hbd u' => ?_⟩
  · refine join w' d' v _ rfl (own_same hown fun b hbv => ?_) hd fun b hm hnm => hb b (by simp at hm ⊢; right; exact hm) hnm
    have hbg : b = g := by simpa [Value.ownBlock] using hbv.symm
    subst hbg
    exact hb b (by simp [Value.ownBlock]) (fun hm => hng (by simp [hm]))
  · subst hbd
    refine join _ (.pl u') u' ((vp ++ ((v1 ++ v :: v2) ++ vq)).set (i * K + c) u') ?_ (hown.stored (i * K + c) u').1 (by rw [OwV]; exact ⟨rfl, rfl⟩) fun b hm _ => by refine Below.heap_setCell _ _ _ _ ?_; intro e; exact hng (by rw [← (show b = g from e)]; exact hm)
    rw [List.set_append_right _ _ (by omega), hvp, show i * K + c - i * K = c by omega, List.set_append_left _ _ (by simp; omega), List.set_append_right _ _ (by omega), hv1, Nat.sub_self]
    rfl
theorem OwV_plain_at {w : World} {B K n cap g i : Nat} {e : TypeId} {p q : List (List DV)} {x : List DV} {bs : List Nat} (h : OwV w B (.row e K (p ++ x :: q)) (.slice (some ⟨g, 0, none⟩) n cap) bs) (hn : bs.Nodup) (hi : p.length = i) {c : Nat} {u : Value} (hc : x[c]? = some (.pl u)) :
    w.cell? ⟨g, i * K + c, none⟩ = some u ∧ w.frozen? ⟨g, i * K + c, none⟩ = false ∧ ∀ u', OwV (w.setCell ⟨g, i * K + c, none⟩ u') B (.row e K (p ++ x.set c (.pl u') :: q)) (.slice (some ⟨g, 0, none⟩) n cap) bs := by
  obtain ⟨vd, bd, h1, h2, h3, _, _, _, _, h4⟩ := OwV_focus h hn hi hc
  rw [OwV] at h3
  obtain ⟨rfl, rfl⟩ := h3
  exact ⟨h1, h2, h4 rfl⟩
/-- The value at c of a struct: what it is; another in its place. -/
theorem OwVs_focus {w : World} {B : Nat} {ds : List DV} {vs : List Value} {bs : List Nat} (h : OwVs w B ds vs bs) (hn : bs.Nodup) {c : Nat} {d : DV} (hc : ds[c]? = some d) :
    ∃ v bd, vs[c]? = some v ∧ OwV w B d v bd ∧ bd.Nodup ∧ (∀ b ∈ bd, b ∈ bs) ∧
      (∀ w' d', OwV w' B d' v bd → (∀ b ∈ bs, b ∉ bd → w'.heap[b]? = w.heap[b]?) → OwVs w' B (ds.set c d') vs bs) := by
  have hcl : c < ds.length := (List.getElem?_eq_some_iff.1 hc).1
  have hxe : ds = ds.take c ++ d :: ds.drop (c + 1) := by
    have e1 : ds[c] = d := (List.getElem?_eq_some_iff.1 hc).2
    rw [← e1, ← List.drop_eq_getElem_cons hcl, List.take_append_drop]
  have hset : ∀ d', ds.set c d' = ds.take c ++ d' :: ds.drop (c + 1) := fun d' => by rw [List.set_eq_take_append_cons_drop, if_pos hcl]
  rw [hxe] at h
  obtain ⟨v1, v, v2, b1, bd, b2, rfl, rfl, h4, h5, h6⟩ := OwVs_split _ h
  have hv1 : v1.length = c := by rw [OwVs_length h4, List.length_take]; omega
  rw [List.nodup_append, List.nodup_append] at hn
  obtain ⟨nb1, ⟨nbd, nb2, dis1⟩, dis2⟩ := hn
  refine ⟨v, bd, by rw [List.getElem?_append_right (by omega), hv1, Nat.sub_self]; rfl, h5, nbd, fun b hm => by simp [hm], fun w' d' hd hb => ?_⟩
  rw [hset]
  exact OwVs_join _ (OwVs_frame _ (fun b hm => hb b (by simp [hm]) (fun hm2 => dis2 b hm b (by simp [hm2]) rfl)) h4) hd (OwVs_frame _ (fun b hm => hb b (by simp [hm]) (fun hm2 => dis1 b hm2 b hm rfl)) h6)
/-- A struct by value, its rows marked. -/
def DV.tcnt : DV → Nat
  | .pl _ => 0
  | .row _ _ xs => DV.cntE xs
def tcntL : List DV → Nat
  | [] => 0
  | d :: r => d.tcnt + tcntL r
def DV.tmk (k : Nat) : DV → DV
  | .pl u => .pl u
  | .row e s xs => .row e s (vmkE k xs)
def tmkL (k : Nat) : List DV → List DV
  | [] => []
  | d :: r => d.tmk k :: tmkL (k + d.tcnt) r
end Go.Proofs.Ytpffmcofajlkgaa
namespace Go.Proofs.Ytpffmcofajlkgaa
open Go.RowKit
theorem boxed_below {W W' : World} {B : Nat} {t : TypeId} {v : Value} (h : Boxed W B t v) (hb : Below W.heap.size W W') : Boxed W' B t v := (hb.block _ h.lt).trans h
theorem boxed_far {W : World} {B b o : Nat} {t : TypeId} {v u : Value} (h : Boxed W B t v) (hne : B ≠ b) : Boxed (W.setCell ⟨b, o, none⟩ u) B t v := (Below.heap_setCell W _ u B hne).trans h
theorem boxed_bool {W : World} {B : Nat} {t : TypeId} {v : Value} {z z' : Bool} (h : Boxed W B t v) (e : z = z') : Boxed (W.setCell ⟨B, 0, none⟩ (.bool z)) B t (.bool z') := e ▸ h.set _
theorem boxed_putObj {W : World} {B l : Nat} {t : TypeId} {v : Value} {o : Obj} (h : Boxed W B t v) (hne : B ≠ l) : Boxed (W.putObj l o) B t v := (World.putObj_heap_other hne).trans h
theorem below_putObj {n₀ D : Nat} {w W : World} (h : Below n₀ w W) (o : Obj) (hn : n₀ ≤ w.heap.size) (hD : n₀ ≤ D) : Below n₀ w (W.putObj D o) :=
  h.grown (grownBy_putObj' W D o) (by have := h.size; omega) (fun k e => by cases e; exact hD)
theorem keepsFrom_set {W W' : World} {B b o : Nat} {u : Value} (h : KeepsFrom B W W') : KeepsFrom B W (W'.setCell ⟨b, o, none⟩ u) := h.trans ((KeepsOthers.setCell _ _ _).from _)
theorem keepsFrom_alloc {W W' : World} {B : Nat} {o : Obj} (h : KeepsFrom B W W') : KeepsFrom B W (W'.alloc o) := h.trans ((KeepsOthers.alloc _ _).from _)
end Go.Proofs.Ytpffmcofajlkgaa
namespace Go.Proofs.Ytpffmcofajlkgaa
open Go.RowKit Go.Lib

end Go.Proofs.Ytpffmcofajlkgaa
namespace Go.Proofs.Ytpffmcofajlkgaa
open Go.RowKit Go.Lib

end Go.Proofs.Ytpffmcofajlkgaa
namespace Go.Proofs.Ytpffmcofajlkgaa
open Go.RowKit Go.Lib

end Go.Proofs.Ytpffmcofajlkgaa
namespace Go.Proofs.Ytpffmcofajlkgaa
open Go.RowKit Go.Lib

end Go.Proofs.Ytpffmcofajlkgaa
namespace Go.Proofs.Ytpffmcofajlkgaa
open Go.RowKit Go.Lib

theorem BindingX.wt_eq (x : BindingX) : DV.wtL x.cells = x.var_.size + DV.wtL x.type_.cells := by
  rw [BindingX.cells_eq, TypeX.cells_eq]
  simp only [DV.wtL, DV.wt, uwt]
end Go.Proofs.Ytpffmcofajlkgaa
namespace Go.Proofs.Ytpffmcofajlkgaa
open Go.RowKit Go.Lib

theorem infoBinding : (Try.prog.info? 37).map (fun i => (i.zero, i.size, i.bytes)) = some (some (.agg #[.string ByteArray.empty, .int .i64 0, .string ByteArray.empty, .slice none 0 0]), 4, 64) := by kernel_rfl
end Go.Proofs.Ytpffmcofajlkgaa
namespace Go.Proofs.Ytpffmcofajlkgaa
open Go.RowKit Go.Lib

end Go.Proofs.Ytpffmcofajlkgaa
namespace Go.Proofs.Ytpffmcofajlkgaa
open Go.RowKit Go.Lib

theorem TypeX.tcnt_eq (x : TypeX) : tcntL x.cells = DV.cntE (TypeX.rows x.args_) := by
  rw [TypeX.cells_eq]
  simp only [tcntL, DV.tcnt]
  omega
theorem TypeX.tmk_eq (x : TypeX) (k : Nat) : tmkL k x.cells = [.pl (.int .i64 x.kind_), .pl (.string x.name_), .row 26 3 (vmkE (k) (TypeX.rows x.args_))] := by
  rw [TypeX.cells_eq]
  simp only [tmkL, DV.tmk, DV.tcnt, Nat.add_zero]
end Go.Proofs.Ytpffmcofajlkgaa
namespace Go.Proofs.Ytpffmcofajlkgaa
open Go.RowKit Go.Lib

/-- The row of what has been marked. -/
theorem marked_row {x : TypeX} {w : World} {B k : Nat} {P : Nat → Prop} {A : Option Addr} {c : Nat} {bs : List Nat} (hP : ∀ b ∈ bs, P b) (h : OwVs w B (tmkL k x.cells) [.int .i64 x.kind_, .string x.name_, .slice A x.args_.length c] bs) :
    RdV w P (.row 26 3 (vmkE k (TypeX.rows x.args_))) (.slice A x.args_.length c) := by
  have h2 := OwVs_read _ hP h
  rw [TypeX.tmk_eq] at h2
  simp only [RdVs] at h2
  obtain ⟨v0, _, e0, h0, v1, _, e1, h1, v2, _, e2, h3, e3⟩ := h2
  subst e3
  simp only [List.cons.injEq] at e0
  obtain ⟨rfl, rfl⟩ := e0
  simp only [List.cons.injEq] at e1
  obtain ⟨rfl, rfl⟩ := e1
  simp only [List.cons.injEq, and_true] at e2
  rw [← e2] at h3
  exact h3
end Go.Proofs.Ytpffmcofajlkgaa
namespace Go.Proofs.Ytpffmcofajlkgaa
open Go.RowKit

def letterR (r : Int) : Bool := decide (97 ≤ r) && decide (r ≤ 122)
def digitR (r : Int) : Bool := decide (48 ≤ r) && decide (r ≤ 57)

end Go.Proofs.Ytpffmcofajlkgaa
namespace Go.Proofs.Ytpffmcofajlkgaa
open Go.RowKit

/-- A byte that may stand at place i of a name. -/
def goodAt (i : Nat) (c : UInt8) : Bool := letterR c.toNat || (i != 0 && digitR c.toNat)
def goods (s : ByteArray) (k : Nat) : Bool := (List.range k).all fun i => goodAt i (s.data.toList.getD i 0)
/-- A name. -/
def okName (s : ByteArray) : Bool := decide (1 ≤ s.size ∧ s.size ≤ 8) && (!isKey s && goods s s.size)
theorem goods_succ {s : ByteArray} {k : Nat} (h : k < s.size) : goods s (k + 1) = (goods s k && goodAt k s[k]) := by
  unfold goods
  rw [List.range_succ, List.all_append]
  simp
  congr 2
  have : s.data[k]? = some s[k] := by simp [h]; rfl
  rw [this]
  rfl
theorem goods_bad {s : ByteArray} {k : Nat} (h : k < s.size) (hb : goodAt k s[k] = false) : okName s = false := by
  have h1 := goods_succ h
  rw [hb, Bool.and_false] at h1
  have : goods s s.size = false := by
    unfold goods at h1 ⊢
    rw [List.all_eq_false] at h1 ⊢
    obtain ⟨x, hx, hf⟩ := h1
    exact ⟨x, by simp at hx ⊢; omega, hf⟩
  rw [okName, this, Bool.and_false, Bool.and_false]
theorem name_size {s : ByteArray} (h : ¬ (1 ≤ s.size ∧ s.size ≤ 8)) : okName s = false := by rw [okName, decide_eq_false h, Bool.false_and]
theorem name_key {s : ByteArray} (h : isKey s = true) : okName s = false := by rw [okName, h]; simp
theorem name_ok {s : ByteArray} (h : 1 ≤ s.size ∧ s.size ≤ 8) (hg : goods s s.size = true) : okName s = !isKey s := by rw [okName, decide_eq_true h, hg]; simp

end Go.Proofs.Ytpffmcofajlkgaa
namespace Go.Proofs.Ytpffmcofajlkgaa
open Go.RowKit Go.Lib

/-- int or bool. -/
def isBase (s : ByteArray) : Bool := decide (s = ⟨#[105, 110, 116]⟩ ∨ s = ⟨#[98, 111, 111, 108]⟩)
/-- The rule of a kind. -/
def headOk (k : Int) (s : ByteArray) (n : Nat) : Bool :=
  if k = 1 ∨ k = 4 then okName s && n == 0 else if k = 3 then okName s && n == 1 else if k = 2 then (okName s && decide (n ≤ 3)) || (isBase s && n == 0) else false
mutual
def TypeX.form : TypeX → Bool
  | .mk k s l => headOk k s l.length && TypeX.formL l
def TypeX.formL : List TypeX → Bool
  | [] => true
  | x :: r => x.form && TypeX.formL r
end
theorem TypeX.form_eq (x : TypeX) : x.form = (headOk x.kind_ x.name_ x.args_.length && TypeX.formL x.args_) := by cases x with | mk a b c => rw [TypeX.form]; rfl
theorem TypeX.formL_take : ∀ (l : List TypeX) (j : Nat) (h : j < l.length), TypeX.formL (l.take (j + 1)) = (TypeX.formL (l.take j) && l[j].form)
  | x :: r, 0, _ => by simp [TypeX.formL]
  | x :: r, j + 1, h => by
    have := TypeX.formL_take r j (by simpa using h)
    rw [List.take_succ_cons, List.take_succ_cons, TypeX.formL, TypeX.formL, this]
    simp [Bool.and_assoc]

end Go.Proofs.Ytpffmcofajlkgaa
namespace Go.Proofs.Ytpffmcofajlkgaa
open Go.RowKit Go.Lib

end Go.Proofs.Ytpffmcofajlkgaa
namespace Go.Proofs.Ytpffmcofajlkgaa
open Go.RowKit

end Go.Proofs.Ytpffmcofajlkgaa
namespace Go.Proofs.Ytpffmcofajlkgaa
open Go.RowKit Go.Lib

mutual
def TypeX.depth : TypeX → Nat
  | .mk _ _ l => TypeX.depthL l
def TypeX.depthL : List TypeX → Nat
  | [] => 0
  | x :: r => max (1 + x.depth) (TypeX.depthL r)
end
theorem TypeX.depth_eq (x : TypeX) : x.depth = TypeX.depthL x.args_ := by cases x with | mk a b c => rw [TypeX.depth]; rfl
theorem TypeX.depthL_take : ∀ (l : List TypeX) (j : Nat) (h : j < l.length), TypeX.depthL (l.take (j + 1)) = max (TypeX.depthL (l.take j)) (1 + l[j].depth)
  | x :: r, 0, _ => by simp [TypeX.depthL]
  | x :: r, j + 1, h => by
    have := TypeX.depthL_take r j (by simpa using h)
    rw [List.take_succ_cons, List.take_succ_cons, TypeX.depthL, TypeX.depthL, this]
    simp [Nat.max_assoc]
theorem TypeX.depthL_le : ∀ (l : List TypeX) (j : Nat), TypeX.depthL (l.take j) ≤ TypeX.depthL l
  | [], j => by simp
  | x :: r, 0 => by simp [TypeX.depthL]
  | x :: r, j + 1 => by
    have := TypeX.depthL_le r j
    rw [List.take_succ_cons, TypeX.depthL, TypeX.depthL]; omega

end Go.Proofs.Ytpffmcofajlkgaa
namespace Go.Proofs.Ytpffmcofajlkgaa
open Go.RowKit Go.Lib

mutual
theorem TypeX.depth_size : ∀ x : TypeX, x.depth + 1 ≤ x.size
  | .mk k s l => by
    rw [TypeX.depth, TypeX.size]
    have := TypeX.depthL_size l
    omega
theorem TypeX.depthL_size : ∀ l : List TypeX, TypeX.depthL l ≤ TypeX.sizeL l
  | [] => by rw [TypeX.depthL, TypeX.sizeL]; omega
  | x :: r => by
    rw [TypeX.depthL, TypeX.sizeL]
    have h1 := TypeX.depth_size x
    have h2 := TypeX.depthL_size r
    omega
end
/-- A valid type. -/
def TypeX.valid (x : TypeX) : Bool := decide (x.size ≤ 60) && (decide (x.depth ≤ 6) && x.form)

end Go.Proofs.Ytpffmcofajlkgaa
namespace Go.Proofs.Ytpffmcofajlkgaa
open Go.RowKit Go.Lib

/-- A binding is valid by itself. -/
def BindingX.good (b : BindingX) : Bool := okName b.var_ && b.type_.valid
/-- A valid substitution. -/
def okBs (l : List BindingX) : Bool := l.all BindingX.good && decide ((firstX l).length = l.length)
theorem lookX_take_fold (s : ByteArray) (m : List BindingX) : lookX s (m.foldl putX []) = lookX s m := lookX_first s m
theorem first_step {l : List BindingX} {k : Nat} (h : k < l.length) : (firstX (l.take (k + 1))).length = (firstX (l.take k)).length + if (lookX l[k].var_ (l.take k)).isSome then 0 else 1 := by
  rw [firstX, List.take_succ_eq_append_getElem h, List.foldl_append]
  show (putX (firstX (l.take k)) l[k]).length = _
  rw [putX, firstX, lookX_take_fold]
  split <;> simp
theorem first_all {l : List BindingX} (k : Nat) (hk : k ≤ l.length) : (∀ j (h : j < l.length), j < k → lookX l[j].var_ (l.take j) = none) → (firstX (l.take k)).length = k := by
  intro ha
  induction k with
  | zero => rfl
  | succ k ih =>
    rw [first_step (by omega), ih (by omega) (fun j h hj => ha j h (by omega)), ha k (by omega) (by omega)]
    rfl
theorem first_le {l : List BindingX} (k : Nat) (hk : k ≤ l.length) : (firstX (l.take k)).length ≤ k := by
  have := foldX_length (l.take k) []
  rw [List.length_take, List.length_nil] at this
  show (List.foldl putX [] (l.take k)).length ≤ k
  omega
theorem first_some {l : List BindingX} {j : Nat} (h : j < l.length) (hs : (lookX l[j].var_ (l.take j)).isSome = true) : ∀ k, j < k → k ≤ l.length → (firstX (l.take k)).length < k := by
  intro k hjk hk
  induction k with
  | zero => omega
  | succ k ih =>
    rw [first_step (by omega)]
    by_cases e : j = k
    · subst e
      rw [if_pos hs]
      have := first_le j (by omega : j ≤ l.length)
      omega
    · have := ih (by omega) (by omega)
      split <;> omega
theorem okBs_yes {l : List BindingX} (hg : ∀ j (h : j < l.length), l[j].good = true) (hd : ∀ j (h : j < l.length), lookX l[j].var_ (l.take j) = none) : okBs l = true := by
  have h1 : l.all BindingX.good = true := List.all_eq_true.2 fun b hb => by
    obtain ⟨j, h, rfl⟩ := List.getElem_of_mem hb
    exact hg j h
  have h2 := first_all l.length (Nat.le_refl _) (fun j h _ => hd j h)
  rw [List.take_length] at h2
  rw [okBs, h1, h2]
  simp
theorem okBs_bad {l : List BindingX} {j : Nat} (h : j < l.length) (hg : l[j].good = false) : okBs l = false := by
  have : l.all BindingX.good = false := by
    rw [List.all_eq_false]
    exact ⟨l[j], List.getElem_mem h, by rw [hg]; simp⟩
  rw [okBs, this, Bool.false_and]
theorem okBs_twice {l : List BindingX} {j : Nat} (h : j < l.length) (hs : (lookX l[j].var_ (l.take j)).isSome = true) : okBs l = false := by
  have h2 := first_some h hs l.length h (Nat.le_refl _)
  rw [List.take_length] at h2
  rw [okBs, decide_eq_false (by omega), Bool.and_false]
theorem okBs_all {l : List BindingX} (hg : ∀ j (h : j < l.length), l[j].good = true) : okBs l = decide ((firstX l).length = l.length) := by
  have h1 : l.all BindingX.good = true := List.all_eq_true.2 fun b hb => by
    obtain ⟨j, h, rfl⟩ := List.getElem_of_mem hb
    exact hg j h
  rw [okBs, h1, Bool.true_and]
/-- Is the name among the first i. -/
theorem look_mem {v : ByteArray} : ∀ (l : List BindingX), (lookX v l).isSome = true ↔ ∃ b ∈ l, b.var_ = v
  | [] => by simp [lookX]
  | b :: r => by
    rw [lookX]
    split
    · rename_i h
      simp only [Option.isSome_some, List.mem_cons, true_iff]
      exact ⟨b, .inl rfl, data_inj (beq_iff_eq.1 h)⟩
    · rename_i h
      rw [look_mem r]
      constructor
      · rintro ⟨c, hc, e⟩; exact ⟨c, List.mem_cons_of_mem _ hc, e⟩
      · rintro ⟨c, hc, e⟩
        rcases List.mem_cons.1 hc with rfl | hc
        · exact absurd (by rw [e]; simp) h
        · exact ⟨c, hc, e⟩

section
variable {P : Program} {w : World} {ops : Array Oper} {rest : List Oper} {o : Oper} {a : Act} {Q : Exit → Act → World → Prop}
theorem run_len_map {t k e : TypeId} {b : Nat} {l : List (ByteArray × Value)} (h : MapAt w b l) (ht : P.underlying t = some (.map k e)) (ty : TypeId) : (Builtin.len_ #[t] ty #[.map (some b)]).run P w = .ok (.int .i64 (l.length : Nat)) w := by
  obtain ⟨es, clk, hb, hs⟩ := h.length
  simp [Builtin.len_, run_underlying ht, MapKept.run_getObj_map hb, Result.andThen, goInt, hs]
/-- 'len(m)', for the walk. -/
theorem wpList_len_map (hg : o.guard = none) (m : Operand) (t : TypeId) (hop : o.op = Op.call { callee := Callee.builtin Builtin.len, args := #[m], argTypes := #[t] })
    (k e : TypeId) (ht : P.underlying t = some (.map k e)) (b : Nat) (l : List (ByteArray × Value)) (hm : a.eval m = .map (some b)) (h : MapAt w b l) (hK : wpList P ops Q rest (a.put o.dst (.int .i64 (l.length : Nat))) w) :
    wpList P ops Q (o :: rest) a w := by
  refine wpList_plain hg fun K' hK' => ?_
  unfold Oper.wp
  simp [execOp, hop, resolve, invoke, builtin, hm, run_len_map h ht o.type, Result.andThen]
  exact hK' _ _ hK
end
end Go.Proofs.Ytpffmcofajlkgaa
namespace Go.Proofs.Ytpffmcofajlkgaa
open Go.ChangeShapes Go.WideShapes Go.ChangeAt Go.RowKit Go.Deep

/-- The fields lie one behind another. -/
def contig (P : Program) : Nat → Nat → List Field → Prop
  | off, n, [] => off = n
  | off, n, f :: r => f.offset = off ∧ contig P (off + P.cellsOf f.type) n r
/-- A type that is made of types of G alone. -/
def KindOk (P : Program) (G : TypeId → Prop) (t : TypeId) : Prop :=
  P.underlying t = some (.int .i64) ∨ P.underlying t = some .string ∨ P.underlying t = some .bool ∨ (∃ e, P.underlying t = some (.slice e) ∧ G e ∧ 0 < P.cellsOf e) ∨
  (∃ fs : Array Field, P.underlying t = some (.struct fs) ∧ (∀ f ∈ fs.toList, G f.type) ∧ contig P 0 (P.cellsOf t) fs.toList)
/-- The shape of a type's data. -/
def Fits (P : Program) (φ : TypeId → TypeId) : Nat → TypeId → List DV → Prop
  | 0, _, _ => False
  | n + 1, t, ds =>
    (P.underlying t = some (.int .i64) ∧ ∃ z, ds = [.pl (.int .i64 z)]) ∨ (P.underlying t = some .string ∧ ∃ s, ds = [.pl (.string s)]) ∨ (P.underlying t = some .bool ∧ ∃ b, ds = [.pl (.bool b)]) ∨
    (∃ e, P.underlying t = some (.slice e) ∧ ∃ xs, ds = [.row (φ e) (P.cellsOf e) xs] ∧ ∀ x ∈ xs, Fits P φ n e x) ∨
    (∃ fs : Array Field, P.underlying t = some (.struct fs) ∧ ∃ parts : List (List DV), ds = parts.flatten ∧ parts.length = fs.size ∧ ∀ (i : Nat) (f : Field) (p : List DV), fs[i]? = some f → parts[i]? = some p → Fits P φ n f.type p)

theorem RdVs_app {w : World} {Q : Nat → Prop} : ∀ {ds : List DV} {vs : List Value}, RdVs w Q ds vs → ∀ {es : List DV} {us : List Value}, RdVs w Q es us → RdVs w Q (ds ++ es) (vs ++ us)
  | [], vs, h, es, us, h' => by rw [RdVs] at h; subst h; exact h'
  | d :: r, vs, h, es, us, h' => by
    rw [RdVs] at h
    obtain ⟨v, vs', rfl, h1, h2⟩ := h
    rw [List.cons_append, RdVs]
    exact ⟨v, _, rfl, h1, RdVs_app h2 h'⟩
theorem okL_app : ∀ {ds es : List DV}, DV.okL ds → DV.okL es → DV.okL (ds ++ es)
  | [], es, _, h => h
  | d :: r, es, h, h' => by
    rw [DV.okL] at h
    rw [List.cons_append, DV.okL]
    exact ⟨h.1, okL_app h.2 h'⟩
theorem okE_of : ∀ {xs : List (List DV)}, (∀ x ∈ xs, DV.okL x) → DV.okE xs
  | [], _ => by rw [DV.okE]; trivial
  | x :: r, h => by
    rw [DV.okE]
    exact ⟨h x (by simp), okE_of fun y hy => h y (List.mem_cons_of_mem _ hy)⟩
theorem RdVE_of {w : World} {Q : Nat → Prop} {k b : Nat} : ∀ (xs : List (List DV)) (o : Nat), (∀ (j : Nat) (h : j < xs.length), xs[j].length = k ∧ ∃ vs : List Value, RdVs w Q xs[j] vs ∧ ∀ (i : Nat) (v : Value), vs[i]? = some v → w.cell? ⟨b, o + j * k + i, none⟩ = some v) →
    ∃ vs : List Value, RdVE w Q k xs vs ∧ ∀ (i : Nat) (v : Value), vs[i]? = some v → w.cell? ⟨b, o + i, none⟩ = some v
  | [], o, _ => ⟨[], by rw [RdVE], by simp⟩
  | x :: r, o, h => by
    obtain ⟨hk, vs, h1, h2⟩ := h 0 (by simp)
    have hk' : x.length = k := hk
    have h1' : RdVs w Q x vs := h1
    obtain ⟨us, h3, h4⟩ := RdVE_of r (o + k) fun j hj => by
      obtain ⟨hk2, us, g1, g2⟩ := h (j + 1) (by simpa using hj)
      refine ⟨by simpa using hk2, us, by simpa using g1, fun i v hi => ?_⟩
      have := g2 i v hi
      rw [show o + (j + 1) * k + i = o + k + j * k + i by rw [Nat.add_mul]; omega] at this
      exact this
    have hvl : vs.length = k := by rw [RdVs_length h1', hk']
    refine ⟨vs ++ us, by rw [RdVE]; exact ⟨vs, us, rfl, hk', h1', h3⟩, fun i v hi => ?_⟩
    by_cases hlt : i < vs.length
    · rw [List.getElem?_append_left hlt] at hi
      have := h2 i v hi
      rw [Nat.zero_mul, Nat.add_zero] at this
      exact this
    · rw [List.getElem?_append_right (by omega)] at hi
      have := h4 _ v hi
      rw [show o + k + (i - vs.length) = o + i by omega] at this
      exact this

section
variable {H : Type} {enc : TypeId × Value → H} {P : Program} {w : World} {base : Nat} {spare : Nat → Bool} {held : Bool} {φ : TypeId → TypeId} {G : TypeId → Prop}

theorem fits_fields {m n : Nat} {cs : List Value} (ih : ∀ (t : TypeId) (cs : List Value) (y : DataW H × List MemPlace), G t → DataW.trod enc P w base spare held m t cs = some y → ∃ ds, Fits P φ n t ds ∧ RdVs w (Und w.heap.size) ds cs ∧ DV.okL ds) :
    ∀ (fl : List Field) (off : Nat), contig P off cs.length fl → (∀ f ∈ fl, G f.type ∧ ∃ y, DataW.trod enc P w base spare held m f.type ((cs.drop f.offset).take (P.cellsOf f.type)) = some y) →
      ∃ parts : List (List DV), parts.length = fl.length ∧ (∀ (i : Nat) (f : Field) (p : List DV), fl[i]? = some f → parts[i]? = some p → Fits P φ n f.type p) ∧ RdVs w (Und w.heap.size) parts.flatten (cs.drop off) ∧ DV.okL parts.flatten
  | [], off, hc, _ => by
    rw [contig] at hc
    subst hc
    exact ⟨[], rfl, by simp, by rw [List.drop_length]; rfl, by rw [List.flatten_nil, DV.okL]; trivial⟩
  | f :: r, off, hc, hf => by
    rw [contig] at hc
    obtain ⟨rfl, hc⟩ := hc
    obtain ⟨hg, y, hy⟩ := hf f (by simp)
    obtain ⟨ds, d1, d2, d3⟩ := ih _ _ _ hg hy
    obtain ⟨parts, p1, p2, p3, p4⟩ := fits_fields ih r _ hc fun g hg => hf g (List.mem_cons_of_mem _ hg)
    refine ⟨ds :: parts, by simp [p1], fun i g p hi hp => ?_, ?_, ?_⟩
    · match i, hi, hp with
      | 0, hi, hp =>
        simp at hi hp
        subst hi hp
        exact d1
      | i + 1, hi, hp => exact p2 i g p (by simpa using hi) (by simpa using hp)
    · rw [List.flatten_cons]
      have h := RdVs_app d2 p3
      rw [← List.drop_drop, List.take_append_drop] at h
      exact h
    · rw [List.flatten_cons]; exact okL_app d3 p4

theorem trod_fits (hG : ∀ t, G t → KindOk P G t) : ∀ (F fuel : Nat) (t : TypeId) (cs : List Value) (y : DataW H × List MemPlace), fuel ≤ F → G t → DataW.trod enc P w base spare held fuel t cs = some y →
    ∃ ds, Fits P φ F t ds ∧ RdVs w (Und w.heap.size) ds cs ∧ DV.okL ds := by
  intro F
  induction F with
  | zero =>
    intro fuel t cs y hf _ h
    obtain rfl : fuel = 0 := by omega
    simp [DataW.trod] at h
  | succ F ih =>
    intro fuel t cs y hf hg h
    rcases hG t hg with hk | hk | hk | ⟨e, hk, he, hpos⟩ | ⟨fs, hk, hfs, hct⟩
    · obtain ⟨z, rfl, _, hz⟩ := DataW.trod_int hk h
      refine ⟨[.pl (.int .i64 z)], by rw [Fits]; exact .inl ⟨hk, z, rfl⟩, by rw [RdVs]; exact ⟨_, [], rfl, by rw [RdV], by rw [RdVs]⟩, ?_⟩
      simp only [DV.okL, DV.ok, uok, and_true]
      have := hz
      simp [Lit.wf] at this
      exact ⟨this.1, this.2⟩
    · obtain ⟨s, rfl, _, hs⟩ := DataW.trod_string hk h
      refine ⟨[.pl (.string s)], by rw [Fits]; exact .inr (.inl ⟨hk, s, rfl⟩), by rw [RdVs]; exact ⟨_, [], rfl, by rw [RdV], by rw [RdVs]⟩, ?_⟩
      simp only [DV.okL, DV.ok, uok, and_true]
      unfold maxLen at hs; omega
    · obtain ⟨b, rfl, _⟩ := DataW.trod_bool hk h
      refine ⟨[.pl (.bool b)], by rw [Fits]; exact .inr (.inr (.inl ⟨hk, b, rfl⟩)), by rw [RdVs]; exact ⟨_, [], rfl, by rw [RdV], by rw [RdVs]⟩, ?_⟩
      simp only [DV.okL, DV.ok, uok, and_true]
    · rcases DataW.trod_slice hk h with ⟨rfl, _⟩ | ⟨a, len, cap, elems, rest, m, rfl, rfl, _, _, hlc, hcm, hel, hes, _, _⟩
      · refine ⟨[.row (φ e) (P.cellsOf e) []], by rw [Fits]; exact .inr (.inr (.inr (.inl ⟨e, hk, [], rfl, by simp⟩))), by rw [RdVs]; exact ⟨_, [], rfl, RdV_row.2 ⟨none, 0, rfl, Nat.le_refl _, by omega, .inl rfl⟩, by rw [RdVs]⟩, ?_⟩
        simp [DV.okL, DV.ok, DV.okE]
      · have each : ∀ i, i < len → ∃ ds, Fits P φ F e ds ∧ DV.okL ds ∧ ds.length = P.cellsOf e ∧ ∃ vs : List Value, RdVs w (Und w.heap.size) ds vs ∧ ∀ j, j < P.cellsOf e → w.cell? ((a.add (i * P.cellsOf e)).add j) = vs[j]? := by
          intro i hi
          have h2 := hes i hi
          rw [List.getElem?_eq_getElem (by omega)] at h2
          obtain ⟨cs', hc, ht⟩ := Option.bind_eq_some_iff.1 h2
          obtain ⟨ds, d1, d2, d3⟩ := ih m e cs' _ (by omega) he ht
          obtain ⟨_, hl, hat⟩ := World.cells?_some hc
          exact ⟨ds, d1, d3, by rw [← RdVs_length d2, hl], cs', d2, hat⟩
        obtain ⟨f, hf2⟩ := choose_lt each
        have hxl : ((List.range len).map f).length = len := by simp
        refine ⟨[.row (φ e) (P.cellsOf e) ((List.range len).map f)], by
          rw [Fits]
          refine .inr (.inr (.inr (.inl ⟨e, hk, _, rfl, fun x hx => ?_⟩)))
          obtain ⟨i, hi, rfl⟩ := List.mem_map.1 hx
          exact (hf2 i (by simpa using hi)).1, ?_, ?_⟩
        · rw [RdVs]
          refine ⟨_, [], rfl, RdV_row.2 ⟨some a, cap, by rw [hxl], by rw [hxl]; exact hlc, by unfold maxLen at hcm; omega, ?_⟩, by rw [RdVs]⟩
          by_cases hz : len = 0
          · exact .inl (by rw [hz]; rfl)
          · obtain ⟨b, o, spot⟩ := a
            obtain ⟨_, _, hl0, vs0, hr0, hc0⟩ := hf2 0 (by omega)
            have hv0 : 0 < vs0.length := by rw [RdVs_length hr0, hl0]; exact hpos
            have c00 := hc0 0 hpos
            rw [List.getElem?_eq_getElem hv0] at c00
            have hspot : spot = none := by simpa [Addr.add] using World.cell?_spot c00
            subst hspot
            have hb : b < w.heap.size := by
              have := World.block_lt_of_cell? w _ c00
              simpa [Addr.add] using this
            obtain ⟨vs, h1, h2⟩ := RdVE_of (w := w) (Q := Und w.heap.size) (k := P.cellsOf e) (b := b) ((List.range len).map f) o fun j hj => by
              have hjl : j < len := by simpa using hj
              obtain ⟨_, _, hlj, vsj, hrj, hcj⟩ := hf2 j hjl
              simp only [List.getElem_map, List.getElem_range]
              refine ⟨hlj, vsj, hrj, fun i v hi => ?_⟩
              have hil : i < P.cellsOf e := by
                rw [← hlj, ← RdVs_length hrj]
                exact (List.getElem?_eq_some_iff.1 hi).1
              have := hcj i hil
              rw [Go.WideShapes.add_plain, Go.WideShapes.add_plain, hi] at this
              exact this
            exact .inr ⟨b, o, rfl, hb, vs, h1, h2⟩
        · simp only [DV.okL, DV.ok, and_true]
          refine ⟨by rw [hxl]; unfold maxLen at hcm; omega, okE_of fun x hx => ?_⟩
          obtain ⟨i, hi, rfl⟩ := List.mem_map.1 hx
          exact (hf2 i (by simpa using hi)).2.1
    · obtain ⟨xs, m, rfl, _, hcl, hxl, hat⟩ := DataW.trod_struct hk h
      rw [← hcl] at hct
      obtain ⟨parts, p1, p2, p3, p4⟩ := fits_fields (φ := φ) (G := G) (m := m) (n := F) (cs := cs) (fun t cs y hg' h' => ih m t cs y (by omega) hg' h') fs.toList 0 hct fun f hf => by
        refine ⟨hfs f hf, ?_⟩
        obtain ⟨i, hi, rfl⟩ := List.mem_iff_getElem.1 hf
        have hi' : i < fs.size := by simpa using hi
        refine ⟨xs[i]'(by omega), ?_⟩
        rw [hat i _ (by simp [hi']), List.getElem?_eq_getElem (by omega)]
      refine ⟨parts.flatten, ?_, by simpa using p3, p4⟩
      rw [Fits]
      exact .inr (.inr (.inr (.inr ⟨fs, hk, parts, rfl, by simpa using p1, fun i f p hi hp => p2 i f p (by simpa using hi) hp⟩)))
end
end Go.Proofs.Ytpffmcofajlkgaa
namespace Go.Proofs.Ytpffmcofajlkgaa
open Go.ChangeShapes Go.WideShapes Go.ChangeAt Go.RowKit Go.Deep

/-- The laws' types by the program's. -/
def toImplT (t : TypeId) : TypeId := if t = 40 then 26 else t
def typeG (t : TypeId) : Prop := t = 40 ∨ t = 38 ∨ t = 3 ∨ t = 9
theorem typeG_ok : ∀ t, typeG t → KindOk Try.prog typeG t := by
  rintro t (rfl | rfl | rfl | rfl)
  · refine .inr (.inr (.inr (.inr ⟨_, Try.underlying40, ?_, ?_⟩)))
    · intro f hf
      simp only [List.mem_cons, List.not_mem_nil, or_false] at hf
      rcases hf with rfl | rfl | rfl
      · exact .inr (.inr (.inl rfl))
      · exact .inr (.inr (.inr rfl))
      · exact .inr (.inl rfl)
    · simp only [contig]
      exact ⟨trivial, by kernel_rfl, by kernel_rfl, by kernel_rfl⟩
  · exact .inr (.inr (.inr (.inl ⟨_, Try.underlying38, .inl rfl, by rw [show Try.prog.cellsOf 40 = 3 by kernel_rfl]; decide⟩)))
  · exact .inl Try.underlying3
  · exact .inr (.inl Try.underlying9)

/-- Only one of a type's five shapes is its own. -/
theorem fits_int {φ : TypeId → TypeId} {P : Program} {n : Nat} {t : TypeId} {ds : List DV} (hu : P.underlying t = some (.int .i64)) (h : Fits P φ n t ds) : ∃ z, ds = [.pl (.int .i64 z)] := by
  cases n with
  | zero => rw [Fits] at h; exact h.elim
  | succ n =>
    rw [Fits, hu] at h
    rcases h with ⟨_, h⟩ | ⟨h, _⟩ | ⟨h, _⟩ | ⟨_, h, _⟩ | ⟨_, h, _⟩
    · exact h
    all_goals cases h
theorem fits_string {φ : TypeId → TypeId} {P : Program} {n : Nat} {t : TypeId} {ds : List DV} (hu : P.underlying t = some .string) (h : Fits P φ n t ds) : ∃ s, ds = [.pl (.string s)] := by
  cases n with
  | zero => rw [Fits] at h; exact h.elim
  | succ n =>
    rw [Fits, hu] at h
    rcases h with ⟨h, _⟩ | ⟨_, h⟩ | ⟨h, _⟩ | ⟨_, h, _⟩ | ⟨_, h, _⟩
    · cases h
    · exact h
    all_goals cases h
theorem fits_bool {φ : TypeId → TypeId} {P : Program} {n : Nat} {t : TypeId} {ds : List DV} (hu : P.underlying t = some .bool) (h : Fits P φ n t ds) : ∃ b, ds = [.pl (.bool b)] := by
  cases n with
  | zero => rw [Fits] at h; exact h.elim
  | succ n =>
    rw [Fits, hu] at h
    rcases h with ⟨h, _⟩ | ⟨h, _⟩ | ⟨_, h⟩ | ⟨_, h, _⟩ | ⟨_, h, _⟩
    · cases h
    · cases h
    · exact h
    all_goals cases h
theorem fits_slice {φ : TypeId → TypeId} {P : Program} {n : Nat} {t e : TypeId} {ds : List DV} (hu : P.underlying t = some (.slice e)) (h : Fits P φ n t ds) : ∃ (m : Nat) (xs : List (List DV)), n = m + 1 ∧ ds = [.row (φ e) (P.cellsOf e) xs] ∧ ∀ x ∈ xs, Fits P φ m e x := by
  cases n with
  | zero => rw [Fits] at h; exact h.elim
  | succ n =>
    rw [Fits, hu] at h
    rcases h with ⟨h, _⟩ | ⟨h, _⟩ | ⟨h, _⟩ | ⟨e', h, xs, h1, h2⟩ | ⟨_, h, _⟩
    · cases h
    · cases h
    · cases h
    · injection h with h; injection h with h; subst h; exact ⟨n, xs, rfl, h1, h2⟩
    · cases h
theorem fits_struct {φ : TypeId → TypeId} {P : Program} {n : Nat} {t : TypeId} {fs : Array Field} {ds : List DV} (hu : P.underlying t = some (.struct fs)) (h : Fits P φ n t ds) : ∃ (m : Nat) (parts : List (List DV)), n = m + 1 ∧ ds = parts.flatten ∧ parts.length = fs.size ∧ ∀ (i : Nat) (f : Field) (p : List DV), fs[i]? = some f → parts[i]? = some p → Fits P φ m f.type p := by
  cases n with
  | zero => rw [Fits] at h; exact h.elim
  | succ n =>
    rw [Fits, hu] at h
    rcases h with ⟨h, _⟩ | ⟨h, _⟩ | ⟨h, _⟩ | ⟨_, h, _⟩ | ⟨fs', h, parts, h1, h2, h3⟩
    · cases h
    · cases h
    · cases h
    · cases h
    · injection h with h; injection h with h; subst h; exact ⟨n, parts, rfl, h1, h2, h3⟩
/-- Each of these is one of those: all of them are. -/
theorem list_of {α β : Type} (f : α → β) : ∀ (l : List β), (∀ x ∈ l, ∃ a, x = f a) → ∃ l' : List α, l = l'.map f
  | [], _ => ⟨[], rfl⟩
  | x :: r, h => by
    obtain ⟨a, rfl⟩ := h x (by simp)
    obtain ⟨l', rfl⟩ := list_of f r fun y hy => h y (List.mem_cons_of_mem _ hy)
    exact ⟨a :: l', rfl⟩

theorem cellsOf_Type : Try.prog.cellsOf 40 = 3 := by kernel_rfl
theorem fits_Type : ∀ (N n : Nat) (ds : List DV), n ≤ N → Fits Try.prog toImplT n 40 ds → ∃ x : TypeX, ds = x.cells
  | 0, n, ds, hn, h => by
    obtain rfl : n = 0 := by omega
    rw [Fits] at h; exact h.elim
  | N + 1, n, ds, hn, h => by
    obtain ⟨m, parts, rfl, rfl, hl, hp⟩ := fits_struct Try.underlying40 h
    match parts, hl with
    | [p0, p1, p2], _ =>
      obtain ⟨z, rfl⟩ := fits_int Try.underlying3 (hp 0 _ p0 rfl rfl)
      obtain ⟨s, rfl⟩ := fits_string Try.underlying9 (hp 1 _ p1 rfl rfl)
      obtain ⟨m', xs, rfl, rfl, hx⟩ := fits_slice Try.underlying38 (hp 2 _ p2 rfl rfl)
      obtain ⟨l, rfl⟩ := list_of TypeX.cells xs fun y hy => fits_Type N m' y (by omega) (hx y hy)
      exact ⟨.mk z s l, by rw [TypeX.cells, TypeX.rows_map, cellsOf_Type]; rfl⟩

theorem type_arg {H : Type} {enc : TypeId × Value → H} {w : World} {base : Nat} {spare : Nat → Bool} {held : Bool} {fuel : Nat} {cs : List Value} {y : DataW H × List MemPlace} (h : DataW.trod enc Try.prog w base spare held fuel 40 cs = some y) :
    ∃ x : TypeX, TypeAt w (Und w.heap.size) x (.agg cs.toArray) ∧ DV.okL x.cells := by
  obtain ⟨ds, h1, h2, h3⟩ := trod_fits (φ := toImplT) typeG_ok fuel fuel _ _ _ (Nat.le_refl _) (.inl rfl) h
  obtain ⟨x, rfl⟩ := fits_Type fuel fuel ds (Nat.le_refl _) h1
  exact ⟨x, TypeAt.of_reads h2, h3⟩
end Go.Proofs.Ytpffmcofajlkgaa

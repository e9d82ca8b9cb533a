/- Texts that the claims share, joined. -/
import Derived.Test.YtoongnmkhjkbkaaQ1
import Derived.RangeFuncNested
import Derived.RangeFuncBound
import Derived.Lib.Hide
import Derived.RangeFuncCalls
import Derived.Lib.QuietBelow
import Derived.BigQuiet
import Derived.Deep.Slices
import Derived.Lib.SmallJoins
import Derived.ProofKit
import Derived.Test.YtoongnmkhjkbkaaProg
import Derived.Deep.QuietTactic
import Derived.Lib.Join
import Derived.Laws.IdiomStrings
import Derived.Laws.MakeOwn
import Derived.Outline
import Derived.Laws.OwnMore
import Derived.OpenShut
import Derived.SliceStrings
namespace Go.Proofs.Ytoongnmkhjkbkaa
open Go.RowKit

/-- What a round keeps: what lay below n₀, and the iterator's own blocks. -/
structure KeepsM (n₀ : Nat) (M : Nat → Prop) (W W' : World) : Prop where
  below : Below n₀ W W'
  own : ∀ b, M b → W'.heap[b]? = W.heap[b]?
theorem KeepsM.refl (n₀ : Nat) (M : Nat → Prop) (W : World) : KeepsM n₀ M W W := ⟨Below.refl _ _, fun _ _ => rfl⟩
theorem KeepsM.trans {n₀ : Nat} {M : Nat → Prop} {A B C : World} (h : KeepsM n₀ M A B) (k : KeepsM n₀ M B C) : KeepsM n₀ M A C := ⟨h.below.trans k.below, fun b hb => (k.own b hb).trans (h.own b hb)⟩
theorem KeepsM.putObj {n₀ : Nat} {M : Nat → Prop} {W : World} {l : Nat} {o' : Obj} (hn : n₀ ≤ l) (hl : l < W.heap.size) (hM : ¬ M l) : KeepsM n₀ M W (W.putObj l o') :=
  ⟨(Below.refl n₀ W).grown (grownBy_putObj' W l o') (by omega) (fun k e => by cases e; exact hn), fun b hb => World.putObj_heap_other (fun e => hM (e ▸ hb))⟩
theorem KeepsM.alloc {n₀ : Nat} {M : Nat → Prop} {W : World} (hn : n₀ ≤ W.heap.size) (hM : ∀ b, M b → b < W.heap.size) (o : Obj) : KeepsM n₀ M W (W.alloc o) :=
  ⟨(Below.refl n₀ W).alloc hn o, fun b hb => Below.heap_alloc W o b (hM b hb)⟩
theorem KeepsM.setCell {n₀ : Nat} {M : Nat → Prop} {W : World} {b : Nat} {o : Nat} (hn : n₀ ≤ b) (hM : ¬ M b) (v : Value) : KeepsM n₀ M W (W.setCell ⟨b, o, none⟩ v) :=
  ⟨(Below.refl n₀ W).setCell (p := ⟨b, o, none⟩) hn v, fun k hk => Below.heap_setCell W _ v k (fun e => hM (by rw [← show k = b from e]; exact hk))⟩
theorem KeepsM.grown {n₀ : Nat} {M : Nat → Prop} {W W' : World} {row : Option Nat} (hg : W.grownBy W' row) (hn : n₀ ≤ W.heap.size) (hM : ∀ b, M b → b < W.heap.size) (hr : ∀ k, row = some k → n₀ ≤ k ∧ ¬ M k) : KeepsM n₀ M W W' :=
  ⟨(Below.refl n₀ W).grown hg hn (fun k e => (hr k e).1), fun b hb => hg.block b (hM b hb) (fun e => (hr b e.symm).2 hb)⟩
theorem KeepsM.of_below {n₀ : Nat} {M : Nat → Prop} {W W' : World} (hb : Below W.heap.size W W') (hn : n₀ ≤ W.heap.size) (hM : ∀ b, M b → b < W.heap.size) : KeepsM n₀ M W W' :=
  ⟨hb.mono hn, fun b hb' => hb.block b (hM b hb')⟩
theorem grown_none {A B : World} (h : Below A.heap.size A B) : A.grownBy B none := ⟨h.os, h.tape, h.output, h.size, fun k hk _ => h.block k hk⟩
theorem grownBy_setCell'' (W : World) (b o : Nat) (v : Value) : W.grownBy (W.setCell ⟨b, o, none⟩ v) (some b) :=
  ⟨rfl, rfl, rfl, by simp, fun k _ hk => Below.heap_setCell _ _ _ k (fun e => hk (by rw [e]))⟩
theorem KeepsFrom.of_below {B : Nat} {W W' : World} (hb : Below W.heap.size W W') : KeepsFrom B W W' :=
  ⟨hb.size, fun k _ _ hk _ => (hb.block k (Array.getElem?_eq_some_iff.1 hk).1).trans hk⟩

/-- THE ITERATOR's CONTRACT: J and Jx are the caller's; M: the blocks that the iterator has made; Rd: those that it only reads. -/
def SeqM {α : Type} (F : Fence) (n : Nat) (P : Program) (g : Nat) (lb : Array Value) (encs : α → Array Value) (Ok : List α → α → Prop) (S : List α → Prop) (n₀ : Nat) (Rd : Nat → Prop) (w : World) : Prop :=
  ∀ (l : Nat) (J : (Nat → Prop) → List α → World → Prop) (Jx : List α → World → Prop) (W : World), Below w.heap.size w W →
    (∀ M s A B row, J M s A → A.grownBy B row → (∀ r, row = some r → M r) → J (fun b => M b ∨ (A.heap.size ≤ b ∧ b < B.heap.size)) s B) →
    (∀ M pre x W1, J M pre W1 → Ok pre x → YieldAt F (n - 1) P l (encs x) W1 fun e W' =>
      (e = .returned (.bool true) ∧ J M (pre ++ [x]) W' ∧ KeepsM n₀ (fun b => M b ∨ Rd b) W1 W') ∨ (e = .returned (.bool false) ∧ Jx (pre ++ [x]) W')) →
    J (fun _ => False) [] W →
    CallsIn F n P g (#[.func (.yield l) #[] #[]] ++ lb) W fun e W' => (∃ v, e = .returned v) ∧ ((∃ M xs, S xs ∧ J M xs W') ∨ (∃ pre, Jx pre W'))

/-- THE CALLER's INVARIANT abides the iterator's steps, and the turns of what is no cells, from B on. -/
def OwnM {β : Type} (B : Nat) (I : (Nat → Prop) → β → World → Prop) : Prop :=
  ∀ M M' s A A' row, I M s A → A.grownBy A' row → (∀ r, row = some r → B ≤ r ∧ (M r ∨ ∃ o : Obj, A.heap[r]? = some o ∧ o.isCells = false)) → (∀ b, M' b → M b ∨ A.heap.size ≤ b) → I M' s A'
theorem OwnM.and {β : Type} {B : Nat} {I I' : (Nat → Prop) → β → World → Prop} (h : OwnM B I) (h' : OwnM B I') : OwnM B (fun M s W => I M s W ∧ I' M s W) :=
  fun M M' s A A' row hs hg hr hM => ⟨h M M' s A A' row hs.1 hg hr hM, h' M M' s A A' row hs.2 hg hr hM⟩
theorem OwnM.from {β : Type} {B : Nat} {I : (Nat → Prop) → β → World → Prop} (h : OwnM B I) (M : Nat → Prop) : OwnFrom B (I M) :=
  fun s A A' row hs hg hr => h M M s A A' row hs hg (fun r e => ⟨(hr r e).1, .inr (hr r e).2⟩) (fun _ hb => .inl hb)
theorem ownM_pure {β : Type} (B : Nat) (p : β → Prop) : OwnM B (fun _ s (_ : World) => p s) := fun _ _ _ _ _ _ hs _ _ _ => hs
theorem ownM_below {β : Type} {B n₀ : Nat} {w : World} (hn : n₀ ≤ B) (hs : n₀ ≤ w.heap.size) : OwnM B (fun _ (_ : β) W => Below n₀ w W) :=
  fun _ _ _ A A' row h hg hr _ => h.grown hg (by have := h.size; omega) (fun k e => by have := (hr k e).1; omega)
theorem ownM_boxed {β : Type} {B Bx : Nat} (t : TypeId) (f : β → Value) (hx : Bx < B) : OwnM B (fun _ s W => Boxed W Bx t (f s)) :=
  fun _ _ _ _ _ _ hs hg hr _ => hs.kept hg (fun e => by have := (hr _ e.symm).1; omega)
/-- A box that holds a slice with memory of its own, none of it the iterator's. -/
theorem ownM_row {β : Type} (n₀ : Nat) {B Bx : Nat} (t e : TypeId) (size : Nat) (k : β → Nat) (f : β → List Value) (G : β → Value → Prop) (hx : Bx < B) :
    OwnM B (fun M s W => ∃ v, Boxed W Bx t v ∧ W.ownsRow n₀ e size v (k s) (f s) ∧ (∀ b, v.ownBlock = some b → ¬ M b) ∧ G s v) := by
  rintro M M' s A A' row ⟨v, hv, hr, hn, hG⟩ hg hrow hM
  refine ⟨v, hv.kept hg (fun e' => by have := (hrow _ e'.symm).1; omega), hr.kept hg ?_, fun b hb h' => ?_, hG⟩
  · rcases hr.2 with ⟨rfl, _⟩ | ⟨g, cap, cur, rfl, _, hgb, _⟩
    · exact .inl rfl
    · refine .inr fun e' => ?_
      have e2 : row = some g := by simpa [Value.ownBlock] using e'.symm
      rcases (hrow g e2).2 with h | ⟨o, ho, hc⟩
      · exact hn g rfl h
      · rw [hgb] at ho; cases ho; cases hc
  · rcases hM b h' with h | h
    · exact hn b hb h
    · have := (hr.lt b hb).2; omega

theorem boxed_set_int {W : World} {B : Nat} {t : TypeId} {v : Value} {z z' : Int} (h : Boxed W B t v) (e : z = z') : Boxed (W.setCell ⟨B, 0, none⟩ (.int .i64 z)) B t (.int .i64 z') := e ▸ h.set _
theorem whole_kept {W W' : World} {row : Option Nat} {B : Nat} {t : TypeId} {cs : Array Value} (h : Whole W B t cs) (hg : W.grownBy W' row) (hr : ∀ r, row = some r → ∃ o : Obj, W.heap[r]? = some o ∧ o.isCells = false) : Whole W' B t cs :=
  (hg.block B h.lt (fun e => by obtain ⟨o, ho, hc⟩ := hr B e.symm; rw [show W.heap[B]? = _ from h] at ho; cases ho; cases hc)).trans h
/-- A new block of the round's. -/
theorem OwnM.alloc_ {β : Type} {B : Nat} {I : (Nat → Prop) → β → World → Prop} (h : OwnM B I) {M : Nat → Prop} {s : β} {W : World} {o : Obj} (hs : I M s W) (_hM : ∀ b, M b → B < b) : I M s (W.alloc o) :=
  h M M s W _ none hs (World.grownBy_alloc W o none) (fun r e => by cases e) (fun _ hb => .inl hb)

/-- HOW THE BODY OF A ROUND MAY BE LEFT. -/
def ownPostM {α : Type} (B n₀ : Nat) (Rd : Nat → Prop) (I : (Nat → Prop) → List α → World → Prop) (Ix : Code → List α → World → Prop) (M : Nat → Prop) (xs : List α) (W : World) : Exit → Act → World → Prop
  | .normal, _, W' => KeepsFrom B W W' ∧ KeepsM n₀ (fun b => M b ∨ Rd b) W W' ∧ I M xs W'
  | .ret, _, W' => KeepsFrom B W W' ∧ Ix .ret xs W'
  | .exit id, _, W' => KeepsFrom B W W' ∧ Ix (.exit id) xs W'
  | .goto t, _, W' => KeepsFrom B W W' ∧ Ix (.goto t) xs W'
  | .panic _, _, _ => False
  | .outgrown, _, _ => False

variable {F : Fence} {n : Nat} {P : Program}

theorem wpIn_rangeFunc_ownM {α : Type} {g : Operand} {ps : Array Tmp} {assign body : Code} {Q : Exit → Act → World → Prop} {a : Act} {w : World}
    (hro : F.round = none) (h1 : 1 ≤ n) {gf : Nat} {lb : Array Value} (hg : a.eval g = .func (.func gf) #[] lb) (hFg : F.fn gf) (eg : ∀ args w, (callFunc gf args).run P w = .ok (.enter gf args) w)
    {encs : α → Array Value} {Ok : List α → α → Prop} {S : List α → Prop} {n₀ : Nat} {Rd : Nat → Prop} {w0 : World} (hseq : SeqM F (n - 1) P gf lb encs Ok S n₀ Rd w0) (hRd : ∀ b, Rd b → b < w.heap.size)
    (hb0 : Below w0.heap.size w0 w) (hn0 : n₀ ≤ w.heap.size) (hps : ∀ x, (encs x).size = ps.size)
    (I : (Nat → Prop) → List α → World → Prop) (Ix : Code → List α → World → Prop) (hI : OwnM w.heap.size I) (hIx : ∀ c, OwnFrom w.heap.size (Ix c)) (h0 : ∀ M : Nat → Prop, (∀ b, M b → w.heap.size ≤ b) → I M [] w) (Ax : α → Act → World → Prop) (hAx : ∀ x a', OwnFrom w.heap.size (fun (_ : Unit) W => Ax x a' W))
    (hassign : ∀ (l : Nat) (M : Nat → Prop) (pre : List α) (x : α) (W : World) (K : Act → World → Prop), (∀ b, M b → w.heap.size < b) → (∀ b, M b ∨ Rd b → b < W.heap.size) → w.heap.size + 1 < W.heap.size → I M pre W → Ok pre x → (∀ a' W', KeepsFrom w.heap.size W W' → KeepsM n₀ (fun b => M b ∨ Rd b) W W' → I M pre W' → Ax x a' W' → K a' W') →
      assign.wpIn (F.inRound l) (n - 1 - 1) P (Exit.then K (fun _ _ _ => False)) { tmps := (ps.zip (encs x)).foldl (fun t (p, v) => t.setIfInBounds p v) a.tmps, defers := [] } W)
    (hbody : ∀ (l : Nat) (M : Nat → Prop) (pre : List α) (x : α) (a' : Act) (W : World), (∀ b, M b → w.heap.size < b) → (∀ b, M b ∨ Rd b → b < W.heap.size) → w.heap.size + 1 < W.heap.size → I M pre W → Ax x a' W → Ok pre x → body.wpIn (F.inRound l) (n - 1 - 1) P (ownPostM w.heap.size n₀ Rd I Ix M (pre ++ [x]) W) a' W)
    (hdone : ∀ (D : Nat) (M : Nat → Prop) (xs : List α) (W : World), w.heap.size ≤ D → S xs → I M xs W → W.heap[D]? = some (.deferred (some [])) → Q .normal { a with defers := { target := .collected D, args := #[] } :: a.defers } W)
    (hstop : ∀ (D : Nat) (c : Code) (pre : List α) (W : World), w.heap.size ≤ D → Ix c pre W → W.heap[D]? = some (.deferred (some [])) → c.wpIn F n P Q { a with defers := { target := .collected D, args := #[] } :: a.defers } W) :
    (Code.rangeFunc g ps assign body).wpIn F n P Q a w := by
  refine wpIn_rangeFunc ?_
  intro fn hfn
  rw [hro]
  obtain ⟨rec, hrec⟩ : ∃ rec : LoopState → Option Code → Loop, rec = fun st pe => { state := st, pending := pe, fn, tmps := a.tmps, params := ps, assign, body, defers := w.heap.size } := ⟨_, rfl⟩
  obtain ⟨W1, hW1⟩ : ∃ W1, (w.alloc (.deferred (some []))).alloc (.loop (rec .ready none)) = W1 := ⟨_, rfl⟩
  have hsz : W1.heap.size = w.heap.size + 2 := by rw [← hW1]; simp
  have hL1 : W1.heap[w.heap.size + 1]? = some (.loop (rec .ready none)) := by
    rw [← hW1]; have := World.alloc_heap_new (w.alloc (.deferred (some []))) (.loop (rec .ready none)); rwa [World.size_alloc] at this
  have hK1 : W1.heap[w.heap.size]? = some (.deferred (some [])) := by
    rw [← hW1]; exact (Below.heap_alloc _ _ _ (by simp)).trans (World.alloc_heap_new w _)
  have hI1 : I (fun _ => False) [] W1 := by
    have h := h0 (fun _ => False) (fun _ h => h.elim)
    rw [← hW1]; exact (hI.from _).alloc _ ((hI.from _).alloc _ h)
  have hb1 : Below w0.heap.size w0 W1 := by
    rw [← hW1]; exact hb0.trans ((((Below.refl _ w).alloc (Nat.le_refl _) _).alloc (by simp) _).mono hb0.size)
  refine ⟨w.heap.size + 1, [{ target := .collected w.heap.size, args := #[] }], W1, { target := .fn (.func gf) lb, args := #[.func (.yield (w.heap.size + 1)) #[] #[]] }, W1, gf,
    #[.func (.yield (w.heap.size + 1)) #[] #[]] ++ lb, W1, ?_, ?_, ?_, ?_, fun _ => h1, ?_⟩
  · rw [← hW1, hrec]; exact run_enterLoop_outer _ _ _ _ _
  · simp only [resolve, hg]
    simp [go_sem]
  · intro f' hf'; simp [Target.leads] at hf'; subst hf'; exact hFg
  · simp [invoke, go_sem, eg]
  · refine (hseq (w.heap.size + 1)
      (fun M pre W => (∀ b, M b → w.heap.size + 2 ≤ b ∧ b < W.heap.size) ∧ I M pre W ∧ W.heap[w.heap.size + 1]? = some (.loop (rec .ready none)) ∧ W.heap[w.heap.size]? = some (.deferred (some [])))
      (fun pre W => ∃ c, Ix c pre W ∧ W.heap[w.heap.size + 1]? = some (.loop (rec .done (some c))) ∧ W.heap[w.heap.size]? = some (.deferred (some [])))
      W1 hb1 ?_ ?_ ⟨fun _ h => h.elim, hI1, hL1, hK1⟩).mono ?_
    · rintro M s A B row ⟨hM, hi, hl, hk⟩ hg' hr
      have hlt : w.heap.size + 1 < A.heap.size := (Array.getElem?_eq_some_iff.1 hl).1
      have hsz' := hg'.size
      refine ⟨fun b hb => ?_, hI M _ s A B row hi hg' (fun r e => ⟨by have := (hM r (hr r e)).1; omega, .inl (hr r e)⟩) (fun b hb => hb.imp_right (fun h => h.1)), ?_, ?_⟩
      · rcases hb with hb | hb
        · have := hM b hb; omega
        · omega
      · exact (hg'.block _ hlt (fun e => by have := (hM _ (hr _ e.symm)).1; omega)).trans hl
      · exact (hg'.block _ (by omega) (fun e => by have := (hM _ (hr _ e.symm)).1; omega)).trans hk
    · rintro M pre x W ⟨hM, hi, hl, hk⟩ hok
      have hlt : w.heap.size + 1 < W.heap.size := (Array.getElem?_eq_some_iff.1 hl).1
      have hy := run_yield (P := P) (args := encs x) hl (by rw [hrec]; exact hps x)
      rw [hrec] at hy
      refine ⟨fn, _, assign, body, hy, roundIn_of_wpIn hfn (hassign _ M pre x W _ (fun b hb => by have := hM b hb; omega) (fun b hb => hb.elim (fun h => (hM b h).2) (fun h => by have := hRd b h; omega)) hlt hi hok ?_)⟩
      clear hy
      intro a' Wa hkfa hkpa hia hax
      replace hl := hkfa.same _ _ (by omega) hl rfl
      replace hk := hkfa.same _ _ (Nat.le_refl _) hk rfl
      replace hlt : w.heap.size + 1 < Wa.heap.size := (Array.getElem?_eq_some_iff.1 hl).1
      replace hM : ∀ b, M b → w.heap.size + 2 ≤ b ∧ b < Wa.heap.size := fun b hb => ⟨(hM b hb).1, by have := (hM b hb).2; have := hkfa.size; omega⟩
      replace hi := hia
      clear hia
      revert hkpa hkfa
      generalize W = Wb
      intro hkfa hkpa
      obtain ⟨W, rfl⟩ : ∃ W, W = Wa := ⟨_, rfl⟩
      refine ⟨_, run_beginRound hl (by rw [hrec]), ?_⟩
      have hl2 : (W.putObj (w.heap.size + 1) (.loop { rec .ready none with state := .busy })).heap[w.heap.size + 1]? = some (.loop { rec .ready none with state := .busy }) := World.putObj_heap_same hlt
      have hk2 : (W.putObj (w.heap.size + 1) (.loop { rec .ready none with state := .busy })).heap[w.heap.size]? = some (.deferred (some [])) := (World.putObj_heap_other (by omega)).trans hk
      have hw2 : KeepsM n₀ (fun b => M b ∨ Rd b) W (W.putObj (w.heap.size + 1) (.loop { rec .ready none with state := .busy })) := KeepsM.putObj (by omega) hlt (fun h => h.elim (fun h => by have := (hM _ h).1; omega) (fun h => by have := hRd _ h; omega))
      refine wpIn_mono (hbody _ M pre x a' _ (fun b hb => by have := hM b hb; omega) (fun b hb => by simp; exact hb.elim (fun h => (hM b h).2) (fun h => by have := hRd b h; omega)) (by simp; omega) ((hI.from M).putObj _ hi (by omega) hl rfl) ((hAx x a').putObj (s := ()) _ hax (by omega) hl rfl) hok) ?_
      have fin : ∀ (jump : Option Code) (W3 : World), KeepsFrom w.heap.size (W.putObj (w.heap.size + 1) (.loop { rec .ready none with state := .busy })) W3 →
          (Instr.endRound (w.heap.size + 1) jump).run P W3 = .ok (.bool jump.isNone) (W3.putObj (w.heap.size + 1) (.loop (rec (if jump.isNone then .ready else .done) jump))) ∧
          W3.heap[w.heap.size + 1]? = some (.loop { rec .ready none with state := .busy }) ∧
          (W3.putObj (w.heap.size + 1) (.loop (rec (if jump.isNone then .ready else .done) jump))).heap[w.heap.size + 1]? = some (.loop (rec (if jump.isNone then .ready else .done) jump)) ∧
          (W3.putObj (w.heap.size + 1) (.loop (rec (if jump.isNone then .ready else .done) jump))).heap[w.heap.size]? = some (.deferred (some [])) := fun jump W3 hk3 => by
        have hl3 := hk3.same _ _ (by omega) hl2 rfl
        have := run_endRound (P := P) jump hl3
        rw [hrec] at this ⊢
        exact ⟨this, by rw [hrec] at hl3; exact hl3, World.putObj_heap_same (Array.getElem?_eq_some_iff.1 hl3).1, (World.putObj_heap_other (by omega)).trans (hk3.same _ _ (Nat.le_refl _) hk2 rfl)⟩
      rintro e a3 W3 hp
      cases e with
      | normal =>
        obtain ⟨hk3, hkp3, hi3⟩ := hp
        obtain ⟨hr, hl3, hl4, hk4⟩ := fin none W3 hk3
        have hlt3 := (Array.getElem?_eq_some_iff.1 hl3).1
        have hsz3 := hk3.size
        simp at hsz3
        exact ⟨_, _, hr, .inl ⟨rfl, ⟨fun b hb => by have := hM b hb; simp; omega, (hI.from M).putObj _ hi3 (by omega) hl3 rfl, hl4, hk4⟩, hkpa.trans ((hw2.trans hkp3).trans (KeepsM.putObj (by omega) hlt3 (fun h => h.elim (fun h => by have := (hM _ h).1; omega) (fun h => by have := hRd _ h; omega))))⟩⟩
      | ret =>
        obtain ⟨hk3, hi3⟩ := hp
        obtain ⟨hr, hl3, hl4, hk4⟩ := fin (some .ret) W3 hk3
        exact ⟨_, _, hr, .inr ⟨rfl, .ret, (hIx _).putObj _ hi3 (by omega) hl3 rfl, hl4, hk4⟩⟩
      | exit id =>
        obtain ⟨hk3, hi3⟩ := hp
        obtain ⟨hr, hl3, hl4, hk4⟩ := fin (some (.exit id)) W3 hk3
        exact ⟨_, _, hr, .inr ⟨rfl, .exit id, (hIx _).putObj _ hi3 (by omega) hl3 rfl, hl4, hk4⟩⟩
      | goto t =>
        obtain ⟨hk3, hi3⟩ := hp
        obtain ⟨hr, hl3, hl4, hk4⟩ := fin (some (.goto t)) W3 hk3
        exact ⟨_, _, hr, .inr ⟨rfl, .goto t, (hIx _).putObj _ hi3 (by omega) hl3 rfl, hl4, hk4⟩⟩
      | panic ch => exact hp.elim
      | outgrown => exact hp.elim
    · rintro e W2 ⟨⟨v, rfl⟩, (⟨M, xs, hS, hM, hi, hl, hk⟩ | ⟨pre, c, hi, hl, hk⟩)⟩
      · exact ⟨none, _, by have := run_endLoop (P := P) hl (by rw [hrec]; simp); rw [hrec] at this; exact this, hdone _ M xs _ (Nat.le_refl _) hS ((hI.from M).putObj _ hi (by omega) hl rfl) ((World.putObj_heap_other (by omega)).trans hk)⟩
      · exact ⟨some c, _, by have := run_endLoop (P := P) hl (by rw [hrec]; simp); rw [hrec] at this; exact this, hstop _ c pre _ (Nat.le_refl _) ((hIx c).putObj _ hi (by omega) hl rfl) ((World.putObj_heap_other (by omega)).trans hk)⟩
end Go.Proofs.Ytoongnmkhjkbkaa
namespace Go.Proofs.Ytoongnmkhjkbkaa
open Go.RowKit

mutual
def TypeX.walk (d : Nat) : TypeX → List (Nat × TypeX)
  | .mk a b c => (d, .mk a b c) :: TypeX.walkL (d + 1) c
def TypeX.walkL (d : Nat) : List TypeX → List (Nat × TypeX)
  | [] => []
  | x :: r => x.walk d ++ TypeX.walkL d r
end
theorem TypeX.walk_eq (d : Nat) (x : TypeX) : x.walk d = (d, x) :: TypeX.walkL (d + 1) x.args_ := by cases x with | mk a b c => rw [TypeX.walk]; rfl
/-- What the lists of a stack (the top one first) have still to give. -/
def todoType : List (List TypeX) → List (Nat × TypeX)
  | [] => []
  | l :: r => TypeX.walkL r.length l ++ todoType r
theorem todoType_pop (r : List (List TypeX)) : todoType ([] :: r) = todoType r := by rw [todoType, TypeX.walkL]; rfl
theorem todoType_step (x : TypeX) (l : List TypeX) (r : List (List TypeX)) : todoType ((x :: l) :: r) = (r.length, x) :: todoType (x.args_ :: l :: r) := by
  rw [todoType, todoType, todoType, TypeX.walkL, TypeX.walk_eq, List.length_cons]
  simp
theorem todoType_start (x : TypeX) : todoType [[x]] = x.walk 0 := by simp [todoType, TypeX.walkL]
end Go.Proofs.Ytoongnmkhjkbkaa
namespace Go.Proofs.Ytoongnmkhjkbkaa
open Go.RowKit
theorem boxed_below {W W' : World} {B : Nat} {t : TypeId} {v : Value} (h : Boxed W B t v) (hb : Below W.heap.size W W') : Boxed W' B t v := (hb.block _ h.lt).trans h
theorem boxed_far {W : World} {B b o : Nat} {t : TypeId} {v u : Value} (h : Boxed W B t v) (hne : B ≠ b) : Boxed (W.setCell ⟨b, o, none⟩ u) B t v := (Below.heap_setCell W _ u B hne).trans h
theorem boxed_bool {W : World} {B : Nat} {t : TypeId} {v : Value} {z z' : Bool} (h : Boxed W B t v) (e : z = z') : Boxed (W.setCell ⟨B, 0, none⟩ (.bool z)) B t (.bool z') := e ▸ h.set _
theorem boxed_putObj {W : World} {B l : Nat} {t : TypeId} {v : Value} {o : Obj} (h : Boxed W B t v) (hne : B ≠ l) : Boxed (W.putObj l o) B t v := (World.putObj_heap_other hne).trans h
theorem below_putObj {n₀ D : Nat} {w W : World} (h : Below n₀ w W) (o : Obj) (hn : n₀ ≤ w.heap.size) (hD : n₀ ≤ D) : Below n₀ w (W.putObj D o) :=
  h.grown (grownBy_putObj' W D o) (by have := h.size; omega) (fun k e => by cases e; exact hD)
theorem keepsFrom_set {W W' : World} {B b o : Nat} {u : Value} (h : KeepsFrom B W W') : KeepsFrom B W (W'.setCell ⟨b, o, none⟩ u) := h.trans ((KeepsOthers.setCell _ _ _).from _)
theorem keepsFrom_alloc {W W' : World} {B : Nat} {o : Obj} (h : KeepsFrom B W W') : KeepsFrom B W (W'.alloc o) := h.trans ((KeepsOthers.alloc _ _).from _)
end Go.Proofs.Ytoongnmkhjkbkaa
namespace Go.Proofs.Ytoongnmkhjkbkaa
open Go.RowKit Go.Lib

mutual
def TypeX.same : TypeX → TypeX → Bool
  | .mk k s l, .mk k' s' m => (k == k') && (decide (s = s') && (decide (l.length = m.length) && TypeX.sameL l m))
def TypeX.sameL : List TypeX → List TypeX → Bool
  | [], _ => true
  | _ :: _, [] => true
  | x :: r, y :: s => x.same y && TypeX.sameL r s
end
theorem TypeX.same_eq (x y : TypeX) : x.same y = ((x.kind_ == y.kind_) && (decide (x.name_ = y.name_) && (decide (x.args_.length = y.args_.length) && TypeX.sameL x.args_ y.args_))) := by cases x; cases y; rw [TypeX.same]; rfl
theorem TypeX.sameL_take : ∀ (l m : List TypeX) (j : Nat) (h : j < l.length) (h' : j < m.length), TypeX.sameL (l.take (j + 1)) (m.take (j + 1)) = (TypeX.sameL (l.take j) (m.take j) && l[j].same m[j])
  | x :: r, y :: s, 0, _, _ => by simp [TypeX.sameL]
  | x :: r, y :: s, j + 1, h, h' => by
    have := TypeX.sameL_take r s j (by simpa using h) (by simpa using h')
    rw [List.take_succ_cons, List.take_succ_cons, List.take_succ_cons, List.take_succ_cons, TypeX.sameL, TypeX.sameL, this]
    simp [Bool.and_assoc]
theorem TypeX.sameL_false : ∀ (l m : List TypeX) (j : Nat) (h : j < l.length) (h' : j < m.length), l[j].same m[j] = false → TypeX.sameL l m = false
  | x :: r, y :: s, 0, _, _, hf => by rw [TypeX.sameL]; simp at hf; rw [hf]; rfl
  | x :: r, y :: s, j + 1, h, h', hf => by rw [TypeX.sameL, TypeX.sameL_false r s j (by simpa using h) (by simpa using h') (by simpa using hf), Bool.and_false]
mutual
theorem TypeX.same_iff : ∀ (x y : TypeX), x.same y = true ↔ x = y
  | .mk a s l, .mk b t m => by
    rw [TypeX.same, Bool.and_eq_true, Bool.and_eq_true, Bool.and_eq_true, decide_eq_true_eq, decide_eq_true_eq, beq_iff_eq, TypeX.mk.injEq]
    constructor
    · rintro ⟨h1, h2, h3, h4⟩; exact ⟨h1, h2, (TypeX.sameL_iff l m h3).1 h4⟩
    · rintro ⟨h1, h2, h3⟩; subst h3; exact ⟨h1, h2, rfl, (TypeX.sameL_iff l l rfl).2 rfl⟩
theorem TypeX.sameL_iff : ∀ (l m : List TypeX), l.length = m.length → (TypeX.sameL l m = true ↔ l = m)
  | [], m, h => by rw [TypeX.sameL]; simp; exact List.eq_nil_of_length_eq_zero h.symm
  | x :: r, [], h => by simp at h
  | x :: r, y :: s, h => by rw [TypeX.sameL, Bool.and_eq_true, TypeX.same_iff x y, TypeX.sameL_iff r s (by simpa using h), List.cons.injEq]
end
theorem TypeX.sizeL_at : ∀ (l : List TypeX) (j : Nat) (h : j < l.length), l[j].size ≤ TypeX.sizeL l
  | x :: r, 0, _ => by rw [TypeX.sizeL]; simp
  | x :: r, j + 1, h => by
    have := TypeX.sizeL_at r j (by simpa using h)
    rw [TypeX.sizeL]; simp; omega

def SameT (N : Nat) : Prop := ∀ (x y : TypeX) (v v' : Value) (w : World), x.size ≤ N → TypeAt w (Und w.heap.size) x v → TypeAt w (Und w.heap.size) y v' →
  Calls Try.prog 18 #[v, v'] w fun e w' => e = .returned (.bool (x.same y)) ∧ Below w.heap.size w w'
def SameTL (N : Nat) : Prop := ∀ (l m : List TypeX) (A B : Option Addr) (c d : Nat) (w : World), TypeX.sizeL l ≤ N → TypeRow w (Und w.heap.size) A c l → TypeRow w (Und w.heap.size) B d m →
  Calls Try.prog 72 #[.slice A l.length c, .slice B m.length d] w fun e w' => e = .returned (.bool (decide (l.length = m.length) && TypeX.sameL l m)) ∧ Below w.heap.size w w'

set_option maxRecDepth 100000 in
set_option maxHeartbeats 2000000 in
theorem sameTL_step (N : Nat) (ih : SameT N) : SameTL N := by
  intro l m A B c d w hn hA hB
  have hcl := hA.cap
  have hcm := hB.cap
  have HA := Lib.hid hA
  have HB := Lib.hid hB
  have HN := Lib.hid hn
  clear hA hB hn
  by_cases hlen : l.length = m.length
  · rw [decide_eq_true hlen, Bool.true_and, ← hlen]
    have HL := Lib.hid hlen
    clear hlen hcm
    go_enter Try.func72, Try.ntmps72
    go_wp2
    go_loopw [5] (fun iv wr => ∃ k : Nat, k ≤ l.length ∧ iv = .int .i64 k ∧ TypeX.sameL (l.take k) (m.take k) = true ∧ Below w.heap.size w wr) (fun iv _ => l.length - (Go.RowKit.intOf iv).toNat)
    case atStart => exact ⟨0, Nat.zero_le _, rfl, by simp [TypeX.sameL], Below.refl _ _⟩
    case round =>
      obtain ⟨k, hk, rfl, hs, hb⟩ := hrel
      have HT := Lib.hid hs
      clear hs
      by_cases hlt : k < l.length
      · have hlt2 : k < m.length := by have := HL.out; omega
        obtain ⟨b, o, A2, c2, hAe, hP, p0, p1, p2, h2⟩ := (HA.out.grow hb).at_ hlt
        subst hAe
        obtain ⟨b2, o2, B2, d2, hBe, hP2, r0, r1, r2, g2⟩ := (HB.out.grow hb).at_ hlt2
        subst hBe
        have hst := TypeX.sameL_take l m k hlt hlt2
        have hno := TypeX.sameL_false l m k hlt hlt2
        rw [HT.out, Bool.true_and] at hst
        have hnx : l[k].size ≤ N := by have := TypeX.sizeL_at l k hlt; have := HN.out; omega
        have cE : ∀ dr os, Calls Try.prog 18 #[.agg #[.int .i64 l[k].kind_, .string l[k].name_, .slice A2 l[k].args_.length c2], .agg #[.int .i64 m[k].kind_, .string m[k].name_, .slice B2 m[k].args_.length d2]] (Go.Sort.grow (redrawn wr dr) os) fun e w'' => e = .returned (.bool (l[k].same m[k])) ∧ ∃ p : Regrown, w'' = Go.Sort.grow (redrawn wr p.d) p.os :=
          fun dr os => Calls.regrown_of (ih l[k] m[k] _ _ _ hnx ⟨_, _, rfl, h2.grow (below_regrown wr dr os)⟩ ⟨_, _, rfl, g2.grow (below_regrown wr dr os)⟩)
        have kp0 := cell_regrown p0
        have kr0 := cell_regrown r0
        have kp1 := cell_regrown p1
        have kr1 := cell_regrown r1
        have kp2 := cell_regrown p2
        have kr2 := cell_regrown r2
        have hk0 : (0 : Int) ≤ k := by omega
        have HSt := Lib.hid hst
        have HNo := Lib.hid hno
        clear h2 g2 hnx hst hno
        go_wp2
        refine wp_region_quiet_below (by kernel_rfl) (by kernel_rfl) ?_
        repeat (quiet_step (exact cE _ _))
        refine wpQuiet_nil ?_
        intro _ hw'
        obtain ⟨⟨dq, osq⟩, hw''⟩ := hw'
        subst hw''
        have hb3 := hb.trans ((below_regrown wr dq osq).mono hb.size)
        clear cE kp0 kr0 kp1 kr1 kp2 kr2
        cases hc : l[k].same m[k] with
        | true =>
          have HC := Lib.hid hc
          clear hc
          go_wp2
          go_roundw
          case rel => exact ⟨k + 1, by omega, by go_num, by rw [HSt.out, HC.out], hb3⟩
          case measure => simp [Go.RowKit.intOf]; omega
        | false =>
          have HC := Lib.hid hc
          clear hc
          go_wp2
          go_ret
          exact ⟨congrArg (fun b => Ending.returned (.bool b)) (HNo.out HC.out).symm, hb3⟩
      · have hkl : k = l.length := by omega
        subst hkl
        have ht := HT.out
        rw [List.take_length, HL.out, List.take_length] at ht
        have HT' := Lib.hid ht
        clear ht
        go_wp2
        go_ret
        exact ⟨congrArg (fun b => Ending.returned (.bool b)) HT'.out.symm, hb⟩
  · rw [decide_eq_false hlen, Bool.false_and]
    have hlz : ((l.length : Int) == m.length) = false := by rw [beq_eq_false_iff_ne]; omega
    clear hlen
    go_enter Try.func72, Try.ntmps72
    go_wp2
    go_ret
    exact ⟨rfl, Below.refl _ _⟩

set_option maxRecDepth 100000 in
set_option maxHeartbeats 2000000 in
theorem sameT_step (N : Nat) (ih : SameTL N) : SameT (N + 1) := by
  intro x y v v' w hn hv hv'
  obtain ⟨A, c, rfl, hx⟩ := hv
  obtain ⟨B, d, rfl, hy⟩ := hv'
  have hsq := TypeX.same_eq x y
  have hb0 : Below w.heap.size w ((w.alloc (.cells #[.int .i64 x.kind_, .string x.name_, .slice A x.args_.length c] 27)).alloc (.cells #[.int .i64 y.kind_, .string y.name_, .slice B y.args_.length d] 27)) := ((Below.refl _ _).alloc (Nat.le_refl _) _).alloc (by simp) _
  have HX := Lib.hid (hx.grow hb0)
  have HY := Lib.hid (hy.grow hb0)
  have HN := Lib.hid hn
  clear hx hy hn
  cases hk : (x.kind_ == y.kind_) with
  | false =>
    rw [hk, Bool.false_and] at hsq
    have HS := Lib.hid hsq
    clear hsq
    go_enter Try.func18, Try.ntmps18
    go_wp2
    go_ret
    exact ⟨congrArg (fun b => Ending.returned (.bool b)) HS.out.symm, hb0⟩
  | true =>
    rw [hk, Bool.true_and] at hsq
    by_cases hnm : x.name_ = y.name_
    · rw [decide_eq_true hnm, Bool.true_and] at hsq
      have HS := Lib.hid hsq
      have he1 : (x.name_.toList == y.name_.toList) = true := by rw [hnm]; simp
      clear hsq hnm
      go_enter Try.func18, Try.ntmps18
      go_wp2_with fail
      refine (ih x.args_ y.args_ _ _ _ _ _ (by have := HN.out; rw [TypeX.size_eq] at this; omega) HX.out HY.out).mono ?_
      rw [← HS.out]
      rintro e w1 ⟨rfl, hb1⟩
      have hb2 := hb0.trans (hb1.mono hb0.size)
      go_wp2
      go_ret
      exact ⟨rfl, hb2⟩
    · rw [decide_eq_false hnm, Bool.false_and] at hsq
      have HS := Lib.hid hsq
      have he1 : (x.name_.toList == y.name_.toList) = false := text_ne hnm
      clear hsq hnm
      go_enter Try.func18, Try.ntmps18
      go_wp2
      go_ret
      exact ⟨congrArg (fun b => Ending.returned (.bool b)) HS.out.symm, hb0⟩
theorem sameTAll : ∀ N, SameT N
  | 0 => fun x y v v' w hn => by rw [TypeX.size_eq] at hn; omega
  | N + 1 => sameT_step N (sameTL_step N (sameTAll N))
theorem specSameTy (x y : TypeX) (v v' : Value) (w : World) (hv : TypeAt w (Und w.heap.size) x v) (hv' : TypeAt w (Und w.heap.size) y v') :
    Calls Try.prog 18 #[v, v'] w fun e w' => e = .returned (.bool (x.same y)) ∧ Below w.heap.size w w' := sameTAll _ x y v v' w (Nat.le_refl _) hv hv'
end Go.Proofs.Ytoongnmkhjkbkaa
namespace Go.Proofs.Ytoongnmkhjkbkaa
open Go.ChangeShapes Go.WideShapes Go.ChangeAt Go.RowKit Go.Deep

/-- The fields lie one behind another. -/
def contig (P : Program) : Nat → Nat → List Field → Prop
  | off, n, [] => off = n
  | off, n, f :: r => f.offset = off ∧ contig P (off + P.cellsOf f.type) n r
/-- A type that is made of types of G alone. -/
def KindOk (P : Program) (G : TypeId → Prop) (t : TypeId) : Prop :=
  P.underlying t = some (.int .i64) ∨ P.underlying t = some .string ∨ P.underlying t = some .bool ∨ (∃ e, P.underlying t = some (.slice e) ∧ G e ∧ 0 < P.cellsOf e) ∨
  (∃ fs : Array Field, P.underlying t = some (.struct fs) ∧ (∀ f ∈ fs.toList, G f.type) ∧ contig P 0 (P.cellsOf t) fs.toList)
/-- The shape of a type's data. -/
def Fits (P : Program) (φ : TypeId → TypeId) : Nat → TypeId → List DV → Prop
  | 0, _, _ => False
  | n + 1, t, ds =>
    (P.underlying t = some (.int .i64) ∧ ∃ z, ds = [.pl (.int .i64 z)]) ∨ (P.underlying t = some .string ∧ ∃ s, ds = [.pl (.string s)]) ∨ (P.underlying t = some .bool ∧ ∃ b, ds = [.pl (.bool b)]) ∨
    (∃ e, P.underlying t = some (.slice e) ∧ ∃ xs, ds = [.row (φ e) (P.cellsOf e) xs] ∧ ∀ x ∈ xs, Fits P φ n e x) ∨
    (∃ fs : Array Field, P.underlying t = some (.struct fs) ∧ ∃ parts : List (List DV), ds = parts.flatten ∧ parts.length = fs.size ∧ ∀ (i : Nat) (f : Field) (p : List DV), fs[i]? = some f → parts[i]? = some p → Fits P φ n f.type p)

theorem RdVs_app {w : World} {Q : Nat → Prop} : ∀ {ds : List DV} {vs : List Value}, RdVs w Q ds vs → ∀ {es : List DV} {us : List Value}, RdVs w Q es us → RdVs w Q (ds ++ es) (vs ++ us)
  | [], vs, h, es, us, h' => by rw [RdVs] at h; subst h; exact h'
  | d :: r, vs, h, es, us, h' => by
    rw [RdVs] at h
    obtain ⟨v, vs', rfl, h1, h2⟩ := h
    rw [List.cons_append, RdVs]
    exact ⟨v, _, rfl, h1, RdVs_app h2 h'⟩
theorem okL_app : ∀ {ds es : List DV}, DV.okL ds → DV.okL es → DV.okL (ds ++ es)
  | [], es, _, h => h
  | d :: r, es, h, h' => by
    rw [DV.okL] at h
    rw [List.cons_append, DV.okL]
    exact ⟨h.1, okL_app h.2 h'⟩
theorem okE_of : ∀ {xs : List (List DV)}, (∀ x ∈ xs, DV.okL x) → DV.okE xs
  | [], _ => by rw [DV.okE]; trivial
  | x :: r, h => by
    rw [DV.okE]
    exact ⟨h x (by simp), okE_of fun y hy => h y (List.mem_cons_of_mem _ hy)⟩
theorem RdVE_of {w : World} {Q : Nat → Prop} {k b : Nat} : ∀ (xs : List (List DV)) (o : Nat), (∀ (j : Nat) (h : j < xs.length), xs[j].length = k ∧ ∃ vs : List Value, RdVs w Q xs[j] vs ∧ ∀ (i : Nat) (v : Value), vs[i]? = some v → w.cell? ⟨b, o + j * k + i, none⟩ = some v) →
    ∃ vs : List Value, RdVE w Q k xs vs ∧ ∀ (i : Nat) (v : Value), vs[i]? = some v → w.cell? ⟨b, o + i, none⟩ = some v
  | [], o, _ => ⟨[], by rw [RdVE], by simp⟩
  | x :: r, o, h => by
    obtain ⟨hk, vs, h1, h2⟩ := h 0 (by simp)
    have hk' : x.length = k := hk
    have h1' : RdVs w Q x vs := h1
    obtain ⟨us, h3, h4⟩ := RdVE_of r (o + k) fun j hj => by
      obtain ⟨hk2, us, g1, g2⟩ := h (j + 1) (by simpa using hj)
      refine ⟨by simpa using hk2, us, by simpa using g1, fun i v hi => ?_⟩
      have := g2 i v hi
      rw [show o + (j + 1) * k + i = o + k + j * k + i by rw [Nat.add_mul]; omega] at this
      exact this
    have hvl : vs.length = k := by rw [RdVs_length h1', hk']
    refine ⟨vs ++ us, by rw [RdVE]; exact ⟨vs, us, rfl, hk', h1', h3⟩, fun i v hi => ?_⟩
    by_cases hlt : i < vs.length
    · rw [List.getElem?_append_left hlt] at hi
      have := h2 i v hi
      rw [Nat.zero_mul, Nat.add_zero] at this
      exact this
    · rw [List.getElem?_append_right (by omega)] at hi
      have := h4 _ v hi
      rw [show o + k + (i - vs.length) = o + i by omega] at this
      exact this

section
variable {H : Type} {enc : TypeId × Value → H} {P : Program} {w : World} {base : Nat} {spare : Nat → Bool} {held : Bool} {φ : TypeId → TypeId} {G : TypeId → Prop}

theorem fits_fields {m n : Nat} {cs : List Value} (ih : ∀ (t : TypeId) (cs : List Value) (y : DataW H × List MemPlace), G t → DataW.trod enc P w base spare held m t cs = some y → ∃ ds, Fits P φ n t ds ∧ RdVs w (Und w.heap.size) ds cs ∧ DV.okL ds) :
    ∀ (fl : List Field) (off : Nat), contig P off cs.length fl → (∀ f ∈ fl, G f.type ∧ ∃ y, DataW.trod enc P w base spare held m f.type ((cs.drop f.offset).take (P.cellsOf f.type)) = some y) →
      ∃ parts : List (List DV), parts.length = fl.length ∧ (∀ (i : Nat) (f : Field) (p : List DV), fl[i]? = some f → parts[i]? = some p → Fits P φ n f.type p) ∧ RdVs w (Und w.heap.size) parts.flatten (cs.drop off) ∧ DV.okL parts.flatten
  | [], off, hc, _ => by
    rw [contig] at hc
    subst hc
    exact ⟨[], rfl, by simp, by rw [List.drop_length]; rfl, by rw [List.flatten_nil, DV.okL]; trivial⟩
  | f :: r, off, hc, hf => by
    rw [contig] at hc
    obtain ⟨rfl, hc⟩ := hc
    obtain ⟨hg, y, hy⟩ := hf f (by simp)
    obtain ⟨ds, d1, d2, d3⟩ := ih _ _ _ hg hy
    obtain ⟨parts, p1, p2, p3, p4⟩ := fits_fields ih r _ hc fun g hg => hf g (List.mem_cons_of_mem _ hg)
    refine ⟨ds :: parts, by simp [p1], fun i g p hi hp => ?_, ?_, ?_⟩
    · match i, hi, hp with
      | 0, hi, hp =>
        simp at hi hp
        subst hi hp
        exact d1
      | i + 1, hi, hp => exact p2 i g p (by simpa using hi) (by simpa using hp)
    · rw [List.flatten_cons]
      have h := RdVs_app d2 p3
      rw [← List.drop_drop, List.take_append_drop] at h
      exact h
    · rw [List.flatten_cons]; exact okL_app d3 p4

theorem trod_fits (hG : ∀ t, G t → KindOk P G t) : ∀ (F fuel : Nat) (t : TypeId) (cs : List Value) (y : DataW H × List MemPlace), fuel ≤ F → G t → DataW.trod enc P w base spare held fuel t cs = some y →
    ∃ ds, Fits P φ F t ds ∧ RdVs w (Und w.heap.size) ds cs ∧ DV.okL ds := by
  intro F
  induction F with
  | zero =>
    intro fuel t cs y hf _ h
    obtain rfl : fuel = 0 := by omega
    simp [DataW.trod] at h
  | succ F ih =>
    intro fuel t cs y hf hg h
    rcases hG t hg with hk | hk | hk | ⟨e, hk, he, hpos⟩ | ⟨fs, hk, hfs, hct⟩
    · obtain ⟨z, rfl, _, hz⟩ := DataW.trod_int hk h
      refine ⟨[.pl (.int .i64 z)], by rw [Fits]; exact .inl ⟨hk, z, rfl⟩, by rw [RdVs]; exact ⟨_, [], rfl, by rw [RdV], by rw [RdVs]⟩, ?_⟩
      simp only [DV.okL, DV.ok, uok, and_true]
      have := hz
      simp [Lit.wf] at this
      exact ⟨this.1, this.2⟩
    · obtain ⟨s, rfl, _, hs⟩ := DataW.trod_string hk h
      refine ⟨[.pl (.string s)], by rw [Fits]; exact .inr (.inl ⟨hk, s, rfl⟩), by rw [RdVs]; exact ⟨_, [], rfl, by rw [RdV], by rw [RdVs]⟩, ?_⟩
      simp only [DV.okL, DV.ok, uok, and_true]
      unfold maxLen at hs; omega
    · obtain ⟨b, rfl, _⟩ := DataW.trod_bool hk h
      refine ⟨[.pl (.bool b)], by rw [Fits]; exact .inr (.inr (.inl ⟨hk, b, rfl⟩)), by rw [RdVs]; exact ⟨_, [], rfl, by rw [RdV], by rw [RdVs]⟩, ?_⟩
      simp only [DV.okL, DV.ok, uok, and_true]
    · rcases DataW.trod_slice hk h with ⟨rfl, _⟩ | ⟨a, len, cap, elems, rest, m, rfl, rfl, _, _, hlc, hcm, hel, hes, _, _⟩
      · refine ⟨[.row (φ e) (P.cellsOf e) []], by rw [Fits]; exact .inr (.inr (.inr (.inl ⟨e, hk, [], rfl, by simp⟩))), by rw [RdVs]; exact ⟨_, [], rfl, RdV_row.2 ⟨none, 0, rfl, Nat.le_refl _, by omega, .inl rfl⟩, by rw [RdVs]⟩, ?_⟩
        simp [DV.okL, DV.ok, DV.okE]
      · have each : ∀ i, i < len → ∃ ds, Fits P φ F e ds ∧ DV.okL ds ∧ ds.length = P.cellsOf e ∧ ∃ vs : List Value, RdVs w (Und w.heap.size) ds vs ∧ ∀ j, j < P.cellsOf e → w.cell? ((a.add (i * P.cellsOf e)).add j) = vs[j]? := by
          intro i hi
          have h2 := hes i hi
          rw [List.getElem?_eq_getElem (by omega)] at h2
          obtain ⟨cs', hc, ht⟩ := Option.bind_eq_some_iff.1 h2
          obtain ⟨ds, d1, d2, d3⟩ := ih m e cs' _ (by omega) he ht
          obtain ⟨_, hl, hat⟩ := World.cells?_some hc
          exact ⟨ds, d1, d3, by rw [← RdVs_length d2, hl], cs', d2, hat⟩
        obtain ⟨f, hf2⟩ := choose_lt each
        have hxl : ((List.range len).map f).length = len := by simp
        refine ⟨[.row (φ e) (P.cellsOf e) ((List.range len).map f)], by
          rw [Fits]
          refine .inr (.inr (.inr (.inl ⟨e, hk, _, rfl, fun x hx => ?_⟩)))
          obtain ⟨i, hi, rfl⟩ := List.mem_map.1 hx
          exact (hf2 i (by simpa using hi)).1, ?_, ?_⟩
        · rw [RdVs]
          refine ⟨_, [], rfl, RdV_row.2 ⟨some a, cap, by rw [hxl], by rw [hxl]; exact hlc, by unfold maxLen at hcm; omega, ?_⟩, by rw [RdVs]⟩
          by_cases hz : len = 0
          · exact .inl (by rw [hz]; rfl)
          · obtain ⟨b, o, spot⟩ := a
            obtain ⟨_, _, hl0, vs0, hr0, hc0⟩ := hf2 0 (by omega)
            have hv0 : 0 < vs0.length := by rw [RdVs_length hr0, hl0]; exact hpos
            have c00 := hc0 0 hpos
            rw [List.getElem?_eq_getElem hv0] at c00
            have hspot : spot = none := by simpa [Addr.add] using World.cell?_spot c00
            subst hspot
            have hb : b < w.heap.size := by
              have := World.block_lt_of_cell? w _ c00
              simpa [Addr.add] using this
            obtain ⟨vs, h1, h2⟩ := RdVE_of (w := w) (Q := Und w.heap.size) (k := P.cellsOf e) (b := b) ((List.range len).map f) o fun j hj => by
              have hjl : j < len := by simpa using hj
              obtain ⟨_, _, hlj, vsj, hrj, hcj⟩ := hf2 j hjl
              simp only [List.getElem_map, List.getElem_range]
              refine ⟨hlj, vsj, hrj, fun i v hi => ?_⟩
              have hil : i < P.cellsOf e := by
                rw [← hlj, ← RdVs_length hrj]
                exact (List.getElem?_eq_some_iff.1 hi).1
              have := hcj i hil
              rw [Go.WideShapes.add_plain, Go.WideShapes.add_plain, hi] at this
              exact this
            exact .inr ⟨b, o, rfl, hb, vs, h1, h2⟩
        · simp only [DV.okL, DV.ok, and_true]
          refine ⟨by rw [hxl]; unfold maxLen at hcm; omega, okE_of fun x hx => ?_⟩
          obtain ⟨i, hi, rfl⟩ := List.mem_map.1 hx
          exact (hf2 i (by simpa using hi)).2.1
    · obtain ⟨xs, m, rfl, _, hcl, hxl, hat⟩ := DataW.trod_struct hk h
      rw [← hcl] at hct
      obtain ⟨parts, p1, p2, p3, p4⟩ := fits_fields (φ := φ) (G := G) (m := m) (n := F) (cs := cs) (fun t cs y hg' h' => ih m t cs y (by omega) hg' h') fs.toList 0 hct fun f hf => by
        refine ⟨hfs f hf, ?_⟩
        obtain ⟨i, hi, rfl⟩ := List.mem_iff_getElem.1 hf
        have hi' : i < fs.size := by simpa using hi
        refine ⟨xs[i]'(by omega), ?_⟩
        rw [hat i _ (by simp [hi']), List.getElem?_eq_getElem (by omega)]
      refine ⟨parts.flatten, ?_, by simpa using p3, p4⟩
      rw [Fits]
      exact .inr (.inr (.inr (.inr ⟨fs, hk, parts, rfl, by simpa using p1, fun i f p hi hp => p2 i f p (by simpa using hi) hp⟩)))
end
end Go.Proofs.Ytoongnmkhjkbkaa
namespace Go.Proofs.Ytoongnmkhjkbkaa
open Go.ChangeShapes Go.WideShapes Go.ChangeAt Go.RowKit Go.Deep

/-- The laws' types by the program's. -/
def toImplT (t : TypeId) : TypeId := if t = 46 then 27 else t
def typeG (t : TypeId) : Prop := t = 46 ∨ t = 44 ∨ t = 3 ∨ t = 9
theorem typeG_ok : ∀ t, typeG t → KindOk Try.prog typeG t := by
  rintro t (rfl | rfl | rfl | rfl)
  · refine .inr (.inr (.inr (.inr ⟨_, Try.underlying46, ?_, ?_⟩)))
    · intro f hf
      simp only [List.mem_cons, List.not_mem_nil, or_false] at hf
      rcases hf with rfl | rfl | rfl
      · exact .inr (.inr (.inl rfl))
      · exact .inr (.inr (.inr rfl))
      · exact .inr (.inl rfl)
    · simp only [contig]
      exact ⟨trivial, by kernel_rfl, by kernel_rfl, by kernel_rfl⟩
  · exact .inr (.inr (.inr (.inl ⟨_, Try.underlying44, .inl rfl, by rw [show Try.prog.cellsOf 46 = 3 by kernel_rfl]; decide⟩)))
  · exact .inl Try.underlying3
  · exact .inr (.inl Try.underlying9)

/-- Only one of a type's five shapes is its own. -/
theorem fits_int {φ : TypeId → TypeId} {P : Program} {n : Nat} {t : TypeId} {ds : List DV} (hu : P.underlying t = some (.int .i64)) (h : Fits P φ n t ds) : ∃ z, ds = [.pl (.int .i64 z)] := by
  cases n with
  | zero => rw [Fits] at h; exact h.elim
  | succ n =>
    rw [Fits, hu] at h
    rcases h with ⟨_, h⟩ | ⟨h, _⟩ | ⟨h, _⟩ | ⟨_, h, _⟩ | ⟨_, h, _⟩
    · exact h
    all_goals cases h
theorem fits_string {φ : TypeId → TypeId} {P : Program} {n : Nat} {t : TypeId} {ds : List DV} (hu : P.underlying t = some .string) (h : Fits P φ n t ds) : ∃ s, ds = [.pl (.string s)] := by
  cases n with
  | zero => rw [Fits] at h; exact h.elim
  | succ n =>
    rw [Fits, hu] at h
    rcases h with ⟨h, _⟩ | ⟨_, h⟩ | ⟨h, _⟩ | ⟨_, h, _⟩ | ⟨_, h, _⟩
    · cases h
    · exact h
    all_goals cases h
theorem fits_bool {φ : TypeId → TypeId} {P : Program} {n : Nat} {t : TypeId} {ds : List DV} (hu : P.underlying t = some .bool) (h : Fits P φ n t ds) : ∃ b, ds = [.pl (.bool b)] := by
  cases n with
  | zero => rw [Fits] at h; exact h.elim
  | succ n =>
    rw [Fits, hu] at h
    rcases h with ⟨h, _⟩ | ⟨h, _⟩ | ⟨_, h⟩ | ⟨_, h, _⟩ | ⟨_, h, _⟩
    · cases h
    · cases h
    · exact h
    all_goals cases h
theorem fits_slice {φ : TypeId → TypeId} {P : Program} {n : Nat} {t e : TypeId} {ds : List DV} (hu : P.underlying t = some (.slice e)) (h : Fits P φ n t ds) : ∃ (m : Nat) (xs : List (List DV)), n = m + 1 ∧ ds = [.row (φ e) (P.cellsOf e) xs] ∧ ∀ x ∈ xs, Fits P φ m e x := by
  cases n with
  | zero => rw [Fits] at h; exact h.elim
  | succ n =>
    rw [Fits, hu] at h
    rcases h with ⟨h, _⟩ | ⟨h, _⟩ | ⟨h, _⟩ | ⟨e', h, xs, h1, h2⟩ | ⟨_, h, _⟩
    · cases h
    · cases h
    · cases h
    · injection h with h; injection h with h; subst h; exact ⟨n, xs, rfl, h1, h2⟩
    · cases h
theorem fits_struct {φ : TypeId → TypeId} {P : Program} {n : Nat} {t : TypeId} {fs : Array Field} {ds : List DV} (hu : P.underlying t = some (.struct fs)) (h : Fits P φ n t ds) : ∃ (m : Nat) (parts : List (List DV)), n = m + 1 ∧ ds = parts.flatten ∧ parts.length = fs.size ∧ ∀ (i : Nat) (f : Field) (p : List DV), fs[i]? = some f → parts[i]? = some p → Fits P φ m f.type p := by
  cases n with
  | zero => rw [Fits] at h; exact h.elim
  | succ n =>
    rw [Fits, hu] at h
    rcases h with ⟨h, _⟩ | ⟨h, _⟩ | ⟨h, _⟩ | ⟨_, h, _⟩ | ⟨fs', h, parts, h1, h2, h3⟩
    · cases h
    · cases h
    · cases h
    · cases h
    · injection h with h; injection h with h; subst h; exact ⟨n, parts, rfl, h1, h2, h3⟩
/-- Each of these is one of those: all of them are. -/
theorem list_of {α β : Type} (f : α → β) : ∀ (l : List β), (∀ x ∈ l, ∃ a, x = f a) → ∃ l' : List α, l = l'.map f
  | [], _ => ⟨[], rfl⟩
  | x :: r, h => by
    obtain ⟨a, rfl⟩ := h x (by simp)
    obtain ⟨l', rfl⟩ := list_of f r fun y hy => h y (List.mem_cons_of_mem _ hy)
    exact ⟨a :: l', rfl⟩

theorem cellsOf_Type : Try.prog.cellsOf 46 = 3 := by kernel_rfl
theorem fits_Type : ∀ (N n : Nat) (ds : List DV), n ≤ N → Fits Try.prog toImplT n 46 ds → ∃ x : TypeX, ds = x.cells
  | 0, n, ds, hn, h => by
    obtain rfl : n = 0 := by omega
    rw [Fits] at h; exact h.elim
  | N + 1, n, ds, hn, h => by
    obtain ⟨m, parts, rfl, rfl, hl, hp⟩ := fits_struct Try.underlying46 h
    match parts, hl with
    | [p0, p1, p2], _ =>
      obtain ⟨z, rfl⟩ := fits_int Try.underlying3 (hp 0 _ p0 rfl rfl)
      obtain ⟨s, rfl⟩ := fits_string Try.underlying9 (hp 1 _ p1 rfl rfl)
      obtain ⟨m', xs, rfl, rfl, hx⟩ := fits_slice Try.underlying44 (hp 2 _ p2 rfl rfl)
      obtain ⟨l, rfl⟩ := list_of TypeX.cells xs fun y hy => fits_Type N m' y (by omega) (hx y hy)
      exact ⟨.mk z s l, by rw [TypeX.cells, TypeX.rows_map, cellsOf_Type]; rfl⟩

theorem type_arg {H : Type} {enc : TypeId × Value → H} {w : World} {base : Nat} {spare : Nat → Bool} {held : Bool} {fuel : Nat} {cs : List Value} {y : DataW H × List MemPlace} (h : DataW.trod enc Try.prog w base spare held fuel 46 cs = some y) :
    ∃ x : TypeX, TypeAt w (Und w.heap.size) x (.agg cs.toArray) ∧ DV.okL x.cells := by
  obtain ⟨ds, h1, h2, h3⟩ := trod_fits (φ := toImplT) typeG_ok fuel fuel _ _ _ (Nat.le_refl _) (.inl rfl) h
  obtain ⟨x, rfl⟩ := fits_Type fuel fuel ds (Nat.le_refl _) h1
  exact ⟨x, TypeAt.of_reads h2, h3⟩
end Go.Proofs.Ytoongnmkhjkbkaa
namespace Go.Proofs.Ytoongnmkhjkbkaa
open Go.ChangeShapes Go.WideShapes Go.ChangeAt Go.RowKit Go.Deep

/-- The laws' types by the program's. -/
def toImplB (t : TypeId) : TypeId := if t = 46 then 27 else if t = 92 then 81 else t
def bindG (t : TypeId) : Prop := t = 46 ∨ t = 44 ∨ t = 3 ∨ t = 9 ∨ t = 92 ∨ t = 39
theorem bindG_ok : ∀ t, bindG t → KindOk Try.prog bindG t := by
  rintro t (rfl | rfl | rfl | rfl | rfl | rfl)
  · refine .inr (.inr (.inr (.inr ⟨_, Try.underlying46, ?_, ?_⟩)))
    · intro f hf
      simp only [List.mem_cons, List.not_mem_nil, or_false] at hf
      rcases hf with rfl | rfl | rfl
      · exact .inr (.inr (.inl rfl))
      · exact .inr (.inr (.inr (.inl rfl)))
      · exact .inr (.inl rfl)
    · simp only [contig]
      exact ⟨trivial, by kernel_rfl, by kernel_rfl, by kernel_rfl⟩
  · exact .inr (.inr (.inr (.inl ⟨_, Try.underlying44, .inl rfl, by rw [show Try.prog.cellsOf 46 = 3 by kernel_rfl]; decide⟩)))
  · exact .inl Try.underlying3
  · exact .inr (.inl Try.underlying9)
  · refine .inr (.inr (.inr (.inr ⟨_, Try.underlying92, ?_, ?_⟩)))
    · intro f hf
      simp only [List.mem_cons, List.not_mem_nil, or_false] at hf
      rcases hf with rfl | rfl
      · exact .inr (.inr (.inr (.inl rfl)))
      · exact .inl rfl
    · simp only [contig]
      exact ⟨trivial, by kernel_rfl, by kernel_rfl⟩
  · exact .inr (.inr (.inr (.inl ⟨_, Try.underlying39, .inr (.inr (.inr (.inr (.inl rfl)))), by rw [show Try.prog.cellsOf 92 = 4 by kernel_rfl]; decide⟩)))
theorem cellsOf_Binding : Try.prog.cellsOf 92 = 4 := by kernel_rfl
theorem fitsB_Type : ∀ (N n : Nat) (ds : List DV), n ≤ N → Fits Try.prog toImplB n 46 ds → ∃ x : TypeX, ds = x.cells
  | 0, n, ds, hn, h => by
    obtain rfl : n = 0 := by omega
    rw [Fits] at h; exact h.elim
  | N + 1, n, ds, hn, h => by
    obtain ⟨m, parts, rfl, rfl, hl, hp⟩ := fits_struct Try.underlying46 h
    match parts, hl with
    | [p0, p1, p2], _ =>
      obtain ⟨z, rfl⟩ := fits_int Try.underlying3 (hp 0 _ p0 rfl rfl)
      obtain ⟨s, rfl⟩ := fits_string Try.underlying9 (hp 1 _ p1 rfl rfl)
      obtain ⟨m', xs, rfl, rfl, hx⟩ := fits_slice Try.underlying44 (hp 2 _ p2 rfl rfl)
      obtain ⟨l, rfl⟩ := list_of TypeX.cells xs fun y hy => fitsB_Type N m' y (by omega) (hx y hy)
      exact ⟨.mk z s l, by rw [TypeX.cells, TypeX.rows_map, cellsOf_Type]; rfl⟩
theorem fits_Binding (n : Nat) (ds : List DV) (h : Fits Try.prog toImplB n 92 ds) : ∃ x : BindingX, ds = x.cells := by
  obtain ⟨m, parts, rfl, rfl, hl, hp⟩ := fits_struct Try.underlying92 h
  match parts, hl with
  | [p0, p1], _ =>
    obtain ⟨s, rfl⟩ := fits_string Try.underlying9 (hp 0 _ p0 rfl rfl)
    obtain ⟨x, rfl⟩ := fitsB_Type m m p1 (Nat.le_refl _) (hp 1 _ p1 rfl rfl)
    refine ⟨.mk s x, ?_⟩
    rw [BindingX.cells, TypeX.cells_eq]
    rfl

section
variable {H : Type} {enc : TypeId × Value → H} {w : World} {base : Nat} {spare : Nat → Bool} {held : Bool} {fuel : Nat} {A : Option Addr} {n c : Nat} {y : DataW H × List MemPlace}
theorem row_in {e : TypeId} {k : Nat} {xs : List (List DV)} {N : Nat} (hx : xs.length = N) (h2 : RdVs w (Und w.heap.size) [.row e k xs] [.slice A n c]) : n = N ∧ RdV w (Und w.heap.size) (.row e k xs) (.slice A N c) := by
  rw [RdVs] at h2
  obtain ⟨v, vs', e1, h3, h4⟩ := h2
  injection e1 with e1 _
  subst e1
  have h5 := h3
  rw [RdV] at h5
  obtain ⟨A', c', e2, _⟩ := h5
  injection e2 with _ e2 _
  rw [hx] at e2
  subst e2
  exact ⟨rfl, h3⟩
theorem binds_arg (h : DataW.trod enc Try.prog w base spare held fuel 39 [.slice A n c] = some y) :
    ∃ l : List BindingX, n = l.length ∧ BindingRow w (Und w.heap.size) A c l ∧ DV.okE (BindingX.rows l) ∧ l.length ≤ 9223372036854775807 := by
  obtain ⟨ds, h1, h2, h3⟩ := trod_fits (φ := toImplB) bindG_ok fuel fuel _ _ _ (Nat.le_refl _) (.inr (.inr (.inr (.inr (.inr rfl))))) h
  obtain ⟨m, xs, hf, rfl, hx⟩ := fits_slice Try.underlying39 h1
  obtain ⟨l, rfl⟩ := list_of BindingX.cells xs fun y hy => fits_Binding m y (hx y hy)
  rw [cellsOf_Binding] at h2 h3
  obtain ⟨hn, hr⟩ := row_in (BindingX.rows_length l) h2
  simp only [DV.okL, DV.ok] at h3
  exact ⟨l, hn, hr, h3.1.2, by have := h3.1.1; rwa [List.length_map] at this⟩
theorem types_arg (h : DataW.trod enc Try.prog w base spare held fuel 44 [.slice A n c] = some y) :
    ∃ l : List TypeX, n = l.length ∧ TypeRow w (Und w.heap.size) A c l ∧ DV.okE (TypeX.rows l) ∧ l.length ≤ 9223372036854775807 := by
  obtain ⟨ds, h1, h2, h3⟩ := trod_fits (φ := toImplB) bindG_ok fuel fuel _ _ _ (Nat.le_refl _) (.inr (.inl rfl)) h
  obtain ⟨m, xs, hf, rfl, hx⟩ := fits_slice Try.underlying44 h1
  obtain ⟨l, rfl⟩ := list_of TypeX.cells xs fun y hy => fitsB_Type m m y (Nat.le_refl _) (hx y hy)
  rw [cellsOf_Type] at h2 h3
  rw [← TypeX.rows_map] at h2 h3
  obtain ⟨hn, hr⟩ := row_in (TypeX.rows_length l) h2
  simp only [DV.okL, DV.ok] at h3
  exact ⟨l, hn, hr, h3.1.2, by have := h3.1.1; rwa [TypeX.rows_length] at this⟩
end
end Go.Proofs.Ytoongnmkhjkbkaa
namespace Go.Proofs.Ytoongnmkhjkbkaa
open Go.RowKit Go.Lib

theorem news4 (w : World) (t : TypeId) (a b c d : Value) : ∀ (j : Nat) (u : Value), [a, b, c, d][j]? = some u → (w.alloc (.cells #[a, b, c, d] t)).cell? ((⟨w.heap.size, 0, none⟩ : Addr).add j) = some u := by
  intro j u hj
  match j, hj with
  | 0, hj => simp at hj; subst hj; simp [Addr.add]
  | 1, hj => simp at hj; subst hj; simp [Addr.add]
  | 2, hj => simp at hj; subst hj; simp [Addr.add]
  | 3, hj => simp at hj; subst hj; simp [Addr.add]
theorem one4 (s t : ByteArray) (k : Int) (A : Option Addr) (n c : Nat) : ∀ u ∈ [Value.string s, .int .i64 k, .string t, .slice A n c], u.oneCell' = true := by
  intro u hu
  simp at hu
  rcases hu with rfl | rfl | rfl | rfl <;> rfl
/-- One element more on a row of the call's own. -/
theorem row_push {w w6 w7 : World} {B K n : Nat} {e : TypeId} {xs : List (List DV)} {x : List DV} {V V' : Value} {vs news : List Value} {bs' b2 : List Nat} {O : Obj}
    (ho : w.ownsRow B e K V n vs) (hE : OwVE w B K xs vs bs') (hnd : (V.ownBlock.toList ++ bs').Nodup) (hb : Below w.heap.size w w6) (hx : OwVs w6 w.heap.size x news b2) (hn2 : b2.Nodup) (hk : x.length = K) (hB : B ≤ w.heap.size)
    (hl : n = xs.length) (hown7 : w7.ownsRow B e K V' (n + 1) (vs ++ news)) (hg : (w6.alloc O).grownBy w7 V.ownBlock) (hv : V'.ownBlock = V.ownBlock ∨ V'.ownBlock = some (w6.heap.size + 1)) :
    OwV w7 B (.row e K (xs ++ [x])) V' (V'.ownBlock.toList ++ (bs' ++ b2)) ∧ (V'.ownBlock.toList ++ (bs' ++ b2)).Nodup := by
  have hs := hb.size
  have hEl := OwVE_lt _ hE
  have hxl := OwVs_lt _ hx
  rw [List.nodup_append] at hnd
  obtain ⟨hd1, hd2, hd3⟩ := hnd
  have hVb : ∀ b, V.ownBlock = some b → B ≤ b ∧ b < w.heap.size := ho.lt
  have hE7 : OwVE w7 B K xs vs bs' := OwVE_frame _ (fun b hm => by
    have hlt := (hEl b hm).2
    rw [hg.block b (by rw [World.size_alloc]; omega) (fun e => hd3 b (by rw [← e]; simp) b hm rfl), Below.heap_alloc _ _ _ (by omega)]
    exact hb.block b hlt) hE
  have hx7 : OwVs w7 B x news b2 := OwVs_wide hB _ (OwVs_frame _ (fun b hm => by
    have hlt := hxl b hm
    rw [hg.block b (by rw [World.size_alloc]; omega) (fun e => by have := (hVb b e.symm).2; omega), Below.heap_alloc _ _ _ hlt.2]) hx)
  have hbb : (bs' ++ b2).Nodup := by
    rw [List.nodup_append]
    exact ⟨hd2, hn2, fun a ha b hb' e => by have := (hEl a ha).2; have := (hxl b hb').1; omega⟩
  refine ⟨?_, ?_⟩
  · rw [OwV]
    exact ⟨vs ++ news, bs' ++ b2, by rw [List.length_append, List.length_singleton, ← hl]; exact hown7, OwVE_snoc hE7 hk hx7, rfl⟩
  · rw [List.nodup_append]
    refine ⟨?_, hbb, fun a ha b hb' e => ?_⟩
    · cases hV' : V'.ownBlock with
      | none => simp
      | some g => simp
    · subst e
      rcases hv with h | h
      · rw [h] at ha
        rcases List.mem_append.1 hb' with hb' | hb'
        · exact hd3 a ha a hb' rfl
        · have := (hVb a (by simpa using ha)).2; have := (hxl a hb').1; omega
      · rw [h] at ha
        simp at ha
        rcases List.mem_append.1 hb' with hb' | hb'
        · have := (hEl a hb').2; omega
        · have := (hxl a hb').2; omega
theorem infoBd : (Try.prog.info? 81).map (fun i => (i.zero, i.size, i.bytes)) = some (some (.agg #[.string ByteArray.empty, .int .i64 0, .string ByteArray.empty, .slice none 0 0]), 4, 64) := by kernel_rfl
/-- The row of what has been kept. -/
def KeptAt (B : Nat) (acc : List BindingX) (V : Value) (w : World) : Prop := ∃ (vs : List Value) (bs : List Nat), w.ownsRow B 81 4 V acc.length vs ∧ OwVE w B 4 (BindingX.rows acc) vs bs ∧ (V.ownBlock.toList ++ bs).Nodup
theorem KeptAt.row {B : Nat} {acc : List BindingX} {V : Value} {w : World} (h : KeptAt B acc V w) : ∃ bs, OwV w B (.row 81 4 (BindingX.rows acc)) V bs ∧ bs.Nodup := by
  obtain ⟨vs, bs, h1, h2, h3⟩ := h
  refine ⟨_, ?_, h3⟩
  rw [OwV, BindingX.rows_length]
  exact ⟨vs, bs, h1, h2, rfl⟩
theorem KeptAt.below {B : Nat} {acc : List BindingX} {V : Value} {w w' : World} (h : KeptAt B acc V w) (hb : Below w.heap.size w w') : KeptAt B acc V w' := by
  obtain ⟨vs, bs, h1, h2, h3⟩ := h
  exact ⟨vs, bs, owns_below h1 hb, OwVE_frame _ (fun b hm => hb.block b (OwVE_lt _ h2 b hm).2) h2, h3⟩
theorem KeptAt.push {w w6 w7 : World} {B : Nat} {acc : List BindingX} {x : BindingX} {V V' : Value} {vs : List Value} {A : Option Addr} {c : Nat} {bs' b2 : List Nat} {O : Obj}
    (ho : w.ownsRow B 81 4 V acc.length vs) (hE : OwVE w B 4 (BindingX.rows acc) vs bs') (hnd : (V.ownBlock.toList ++ bs').Nodup) (hb : Below w.heap.size w w6)
    (hx : OwVs w6 w.heap.size x.type_.cells [.int .i64 x.type_.kind_, .string x.type_.name_, .slice A x.type_.args_.length c] b2) (hn2 : b2.Nodup) (hB : B ≤ w.heap.size)
    (hown7 : w7.ownsRow B 81 4 V' (acc.length + 1) (vs ++ [.string x.var_, .int .i64 x.type_.kind_, .string x.type_.name_, .slice A x.type_.args_.length c])) (hg : (w6.alloc O).grownBy w7 V.ownBlock) (hv : V'.ownBlock = V.ownBlock ∨ V'.ownBlock = some (w6.heap.size + 1)) :
    KeptAt B (acc ++ [x]) V' w7 := by
  have hx' : OwVs w6 w.heap.size x.cells [.string x.var_, .int .i64 x.type_.kind_, .string x.type_.name_, .slice A x.type_.args_.length c] b2 := by
    rw [TypeX.cells_eq] at hx
    rw [BindingX.cells_eq, OwVs]
    exact ⟨_, _, [], b2, rfl, rfl, by rw [OwV]; exact ⟨rfl, rfl⟩, hx⟩
  obtain ⟨h1, h2⟩ := row_push ho hE hnd hb hx' hn2 (BindingX.cells_length x) hB (BindingX.rows_length acc).symm hown7 hg hv
  rw [← BindingX.rows_snoc, OwV, BindingX.rows_length] at h1
  obtain ⟨vs', bs'', h3, h4, h5⟩ := h1
  rw [h5] at h2
  exact ⟨vs', bs'', h3, h4, h2⟩

theorem news3 (w : World) (t : TypeId) (a b c : Value) : ∀ (j : Nat) (u : Value), [a, b, c][j]? = some u → (w.alloc (.cells #[a, b, c] t)).cell? ((⟨w.heap.size, 0, none⟩ : Addr).add j) = some u := by
  intro j u hj
  match j, hj with
  | 0, hj => simp at hj; subst hj; simp [Addr.add]
  | 1, hj => simp at hj; subst hj; simp [Addr.add]
  | 2, hj => simp at hj; subst hj; simp [Addr.add]
theorem one3 (k : Int) (t : ByteArray) (A : Option Addr) (n c : Nat) : ∀ u ∈ [Value.int .i64 k, .string t, .slice A n c], u.oneCell' = true := by
  intro u hu
  simp at hu
  rcases hu with rfl | rfl | rfl <;> rfl
/-- A row of types under way. -/
def MoreT (B : Nat) (acc : List TypeX) (V : Value) (w : World) : Prop := ∃ (vs : List Value) (bs : List Nat), w.ownsRow B 27 3 V acc.length vs ∧ OwVE w B 3 (TypeX.rows acc) vs bs ∧ (V.ownBlock.toList ++ bs).Nodup
theorem MoreT.row {B : Nat} {acc : List TypeX} {V : Value} {w : World} (h : MoreT B acc V w) : ∃ bs, OwV w B (.row 27 3 (TypeX.rows acc)) V bs ∧ bs.Nodup := by
  obtain ⟨vs, bs, h1, h2, h3⟩ := h
  refine ⟨_, ?_, h3⟩
  rw [OwV, TypeX.rows_length]
  exact ⟨vs, bs, h1, h2, rfl⟩
theorem MoreT.below {B : Nat} {acc : List TypeX} {V : Value} {w w' : World} (h : MoreT B acc V w) (hb : Below w.heap.size w w') : MoreT B acc V w' := by
  obtain ⟨vs, bs, h1, h2, h3⟩ := h
  exact ⟨vs, bs, owns_below h1 hb, OwVE_frame _ (fun b hm => hb.block b (OwVE_lt _ h2 b hm).2) h2, h3⟩
theorem MoreT.push {w w6 w7 : World} {B B6 : Nat} {acc : List TypeX} {x : TypeX} {V V' : Value} {vs : List Value} {A : Option Addr} {c : Nat} {bs' b2 : List Nat} {O : Obj}
    (ho : w.ownsRow B 27 3 V acc.length vs) (hE : OwVE w B 3 (TypeX.rows acc) vs bs') (hnd : (V.ownBlock.toList ++ bs').Nodup) (hb : Below w.heap.size w w6) (hB6 : B6 = w.heap.size)
    (hx : OwVs w6 B6 x.cells [.int .i64 x.kind_, .string x.name_, .slice A x.args_.length c] b2) (hn2 : b2.Nodup) (hB : B ≤ w.heap.size)
    (hown7 : w7.ownsRow B 27 3 V' (acc.length + 1) (vs ++ [.int .i64 x.kind_, .string x.name_, .slice A x.args_.length c])) (hg : (w6.alloc O).grownBy w7 V.ownBlock) (hv : V'.ownBlock = V.ownBlock ∨ V'.ownBlock = some (w6.heap.size + 1)) :
    MoreT B (acc ++ [x]) V' w7 := by
  subst hB6
  obtain ⟨h1, h2⟩ := row_push ho hE hnd hb hx hn2 (TypeX.cells_length x) hB (TypeX.rows_length acc).symm hown7 hg hv
  rw [← TypeX.rows_snoc, OwV, TypeX.rows_length] at h1
  obtain ⟨vs', bs'', h3, h4, h5⟩ := h1
  rw [h5] at h2
  exact ⟨vs', bs'', h3, h4, h2⟩
/-- A type's cells out of its row. -/
theorem cells_own {w : World} {B : Nat} {k : Int} {s : ByteArray} {l : List TypeX} {V : Value} {bs : List Nat} (h : OwV w B (.row 27 3 (TypeX.rows l)) V bs) : OwVs w B (TypeX.mk k s l).cells [.int .i64 k, .string s, V] bs := by
  rw [TypeX.cells]
  simp only [OwVs]
  exact ⟨_, _, [], _, rfl, rfl, by rw [OwV]; exact ⟨rfl, rfl⟩, _, _, [], _, rfl, rfl, by rw [OwV]; exact ⟨rfl, rfl⟩, V, [], _, [], rfl, (List.append_nil _).symm, h, rfl, rfl⟩
end Go.Proofs.Ytoongnmkhjkbkaa
namespace Go.Proofs.Ytoongnmkhjkbkaa
open Go.RowKit

set_option maxRecDepth 100000 in
set_option maxHeartbeats 400000 in
theorem eqStrings (A B : Option Addr) (c d : Nat) (ss : List ByteArray) (w : World) (hA : Strs w A ss) (hB : Strs w B ss) (hlen : ss.length ≤ 9223372036854775807) :
    Calls Try.prog 46 #[.slice A ss.length c, .slice B ss.length d] w fun e w' => e = .returned (.bool true) ∧ Below w.heap.size w w' := by
  have HA := Lib.hid hA
  have HB := Lib.hid hB
  clear hA hB
  go_enter Try.func46, Try.ntmps46
  go_wp2
  go_loopw [5] (fun i wr => ∃ k : Nat, k ≤ ss.length ∧ i = .int .i64 k ∧ Below w.heap.size w wr) (fun i _ => ss.length - (Go.RowKit.intOf i).toNat)
  case atStart => exact ⟨0, Nat.zero_le _, rfl, Below.refl _ _⟩
  case round =>
    obtain ⟨k, hk, rfl, hb⟩ := hrel
    by_cases hlt : k < ss.length
    · obtain ⟨g, o, rfl, hc⟩ := (HA.out.below hb).at_ hlt
      obtain ⟨g', o', rfl, hc'⟩ := (HB.out.below hb).at_ hlt
      have hk0 : (0 : Int) ≤ k := by omega
      go_wp2
      go_quiet (fail)
      go_wp2
      go_roundw
      case rel => exact ⟨k + 1, by omega, by go_num, hb.trans ⟨rfl, rfl, rfl, Nat.le_refl _, fun _ _ => rfl⟩⟩
      case measure => simp [Go.RowKit.intOf]; omega
    · go_wp2
      go_ret
      exact ⟨rfl, hb⟩

end Go.Proofs.Ytoongnmkhjkbkaa
namespace Go.Proofs.Ytoongnmkhjkbkaa
open Go.RowKit Go.Lib

def sizes (ss : List ByteArray) : Nat := (ss.map (·.size)).sum
theorem sizes_take (ss : List ByteArray) (k : Nat) (h : k < ss.length) : sizes (ss.take (k + 1)) = sizes (ss.take k) + ss[k].size := by
  rw [List.take_succ_eq_append_getElem h, sizes, List.map_append, List.sum_append]
  simp [sizes]
theorem sizes_le (ss : List ByteArray) (k : Nat) : sizes (ss.take k) ≤ sizes ss := by
  have h : ss = ss.take k ++ ss.drop k := (List.take_append_drop k ss).symm
  have h2 : sizes ss = sizes (ss.take k) + sizes (ss.drop k) := by
    conv => lhs; rw [h]
    simp only [sizes, List.map_append, List.sum_append]
  omega

theorem join_take_one (d : List (List UInt8)) (sep : List UInt8) (h : 0 < d.length) : join (d.take 1) sep = d[0] := by
  match d, h with
  | x :: r, _ => rw [List.take_succ_cons, List.take_zero, join_one]; rfl
theorem join_take_succ (d : List (List UInt8)) (sep : List UInt8) (k : Nat) (h0 : 0 < k) (h : k < d.length) : join (d.take (k + 1)) sep = join (d.take k) sep ++ sep ++ d[k] := by
  match d, k, h0, h with
  | x :: r, k + 1, _, h =>
    have hr : k < r.length := by simp at h; omega
    rw [List.take_succ_cons, List.take_succ_cons, join_cons, join_cons, joinTail_take_succ sep r k r[k] (List.getElem?_eq_getElem hr)]
    simp [List.append_assoc]
theorem join_length_le (d : List (List UInt8)) (sep : List UInt8) : (join d sep).length ≤ sep.length * d.length + lens d := by
  cases d with
  | nil => simp [join_nil]
  | cons x r =>
    rw [join_length, List.length_cons, Nat.mul_add]
    omega
theorem lens_sizes (ss : List ByteArray) : lens (ss.map (·.data.toList)) = sizes ss := by
  simp [lens, sizes, Function.comp_def]
/-- How long what is joined may become. -/
theorem joined_le (ss : List ByteArray) (sep : ByteArray) (k : Nat) (h1 : ss.length + sizes ss ≤ 1048576) (h2 : sep.size ≤ 1048576) : (join ((ss.map (·.data.toList)).take k) sep.data.toList).length ≤ 1099512676352 := by
  have h := join_length_le ((ss.map (·.data.toList)).take k) sep.data.toList
  have hl := lens_take_le (ss.map (·.data.toList)) k
  rw [lens_sizes] at hl
  have hn : ((ss.map (·.data.toList)).take k).length ≤ 1048576 := by
    have := List.length_take_le k (ss.map (·.data.toList))
    rw [List.length_take, List.length_map]
    omega
  have hs : sep.data.toList.length ≤ 1048576 := by simpa using h2
  have hm := Nat.mul_le_mul hs hn
  omega
end Go.Proofs.Ytoongnmkhjkbkaa
namespace Go.Proofs.Ytoongnmkhjkbkaa
open Go.RowKit Go.Lib

set_option maxRecDepth 100000 in
set_option maxHeartbeats 400000 in
theorem szYes (A : Option Addr) (c : Nat) (ss : List ByteArray) (L : Nat) (w : World) (hA : Strs w A ss) (hL : ss.length + sizes ss ≤ L) (h1 : L ≤ 4294967296) :
    Calls Try.prog 43 #[.slice A ss.length c, .int .i64 L] w fun e w' => e = .returned (.int .i64 ((L : Int) - ss.length - (sizes ss : Nat))) ∧ w = w' := by
  have HA := Lib.hid hA
  clear hA
  go_enter Try.func43, Try.ntmps43
  go_wp2
  go_loop [1, 5] (fun q i => ∃ k : Nat, k ≤ ss.length ∧ i = .int .i64 k ∧ q = .int .i64 ((L : Int) - ss.length - (sizes (ss.take k) : Nat))) (fun _ i => ss.length - (Go.RowKit.intOf i).toNat)
  case atStart => exact ⟨0, Nat.zero_le _, rfl, int_of (by simp [sizes])⟩
  case round =>
    obtain ⟨k, hk, rfl, rfl⟩ := hrel
    have hs1 := sizes_le ss k
    by_cases hlt : k < ss.length
    · obtain ⟨g, o, rfl, hc⟩ := HA.out.at_ hlt
      have hs2 := sizes_le ss (k + 1)
      have hst := sizes_take ss k hlt
      have HS := Lib.hid hst
      have hz : ss[k].size ≤ 4294967296 := by omega
      have hnn : ¬ (L : Int) - ss.length - (sizes (ss.take k) : Nat) - (ss[k].size : Nat) < 0 := by omega
      clear hst
      go_wp2
      go_round
      case rel => exact ⟨k + 1, by omega, by go_num, int_of (by rw [HS.out]; omega)⟩
      case measure => simp [Go.RowKit.intOf]; omega
    · have hkl : k = ss.length := by omega
      subst hkl
      rw [List.take_length]
      go_wp2
      go_ret
      exact ⟨rfl, rfl⟩

set_option maxRecDepth 100000 in
set_option maxHeartbeats 400000 in
theorem szNo (A : Option Addr) (c : Nat) (ss : List ByteArray) (L : Nat) (w : World) (hA : Strs w A ss) (hL : L < ss.length + sizes ss) (h1 : L ≤ 4294967296) (hn : ss.length ≤ 9223372036854775807) (hz : ∀ x ∈ ss, x.size ≤ 9223372036854775807) :
    Calls Try.prog 43 #[.slice A ss.length c, .int .i64 L] w fun e w' => e = .returned (.int .i64 (-1)) ∧ w = w' := by
  have HA := Lib.hid hA
  have HZ := Lib.hid hz
  clear hA hz
  by_cases hfst : L < ss.length
  · have hnn : (L : Int) - ss.length < 0 := by omega
    go_enter Try.func43, Try.ntmps43
    go_wp2
    go_ret
    exact ⟨rfl, rfl⟩
  · go_enter Try.func43, Try.ntmps43
    go_wp2
    go_loop [1, 5] (fun q i => ∃ k : Nat, k ≤ ss.length ∧ i = .int .i64 k ∧ sizes (ss.take k) + ss.length ≤ L ∧ q = .int .i64 ((L : Int) - ss.length - (sizes (ss.take k) : Nat))) (fun _ i => ss.length - (Go.RowKit.intOf i).toNat)
    case atStart => exact ⟨0, Nat.zero_le _, rfl, by simp [sizes]; omega, int_of (by simp [sizes])⟩
    case round =>
      obtain ⟨k, hk, rfl, hle, rfl⟩ := hrel
      by_cases hlt : k < ss.length
      · obtain ⟨g, o, rfl, hc⟩ := HA.out.at_ hlt
        have hst := sizes_take ss k hlt
        have hz := HZ.out ss[k] (List.getElem_mem hlt)
        by_cases hnx : sizes (ss.take (k + 1)) + ss.length ≤ L
        · have HS := Lib.hid hst
          have hnn : ¬ (L : Int) - ss.length - (sizes (ss.take k) : Nat) - (ss[k].size : Nat) < 0 := by omega
          clear hst
          go_wp2
          go_round
          case rel => exact ⟨k + 1, by omega, by go_num, hnx, int_of (by rw [HS.out]; omega)⟩
          case measure => simp [Go.RowKit.intOf]; omega
        · have hnn : (L : Int) - ss.length - (sizes (ss.take k) : Nat) - (ss[k].size : Nat) < 0 := by omega
          clear hst
          go_wp2
          go_ret
          exact ⟨rfl, rfl⟩
      · have hkl : k = ss.length := by omega
        subst hkl
        rw [List.take_length] at hle
        omega

/-- The cells of a row of which the first k are written. -/
def filled (xs : List Value) (k : Nat) (z : Value) : Array Value := (xs.take k ++ List.replicate (xs.length - k) z).toArray
theorem filled_zero (xs : List Value) (z : Value) : filled xs 0 z = madeCells #[z] xs.length := by
  apply Array.ext'
  rw [toList_madeCells_one]
  simp [filled]
theorem filled_step (xs : List Value) (k : Nat) (z : Value) (h : k < xs.length) : (filled xs k z).setIfInBounds k xs[k] = filled xs (k + 1) z := by
  unfold filled
  rw [List.setIfInBounds_toArray, List.set_append_right _ _ (by simp; omega)]
  have e : k - (xs.take k).length = 0 := by simp; omega
  rw [e, show xs.length - k = (xs.length - (k + 1)) + 1 by omega, List.replicate_succ, List.set_cons_zero, List.take_succ_eq_append_getElem h, List.append_assoc]
  rfl
theorem filled_full (xs : List Value) (z : Value) : filled xs xs.length z = xs.toArray := by simp [filled]
theorem filled_at (xs : List Value) (k : Nat) (z : Value) (h : k < xs.length) : (filled xs k z)[k]? = some z := by
  unfold filled
  rw [List.getElem?_toArray, List.getElem?_append_right (by simp; omega)]
  have e : k - (xs.take k).length = 0 := by simp; omega
  rw [e, List.getElem?_replicate]
  simp; omega

theorem infoStr : (Try.prog.info? 9).map (fun i => (i.zero, i.size, i.bytes)) = some (some (.string ByteArray.empty), 1, 16) := by kernel_rfl

/-- A COPY: a new row of the same strings. -/
def CopyOf (ss : List ByteArray) (w : World) (e : Ending) (w' : World) : Prop :=
  ∃ g : Nat, e = .returned (.slice (some ⟨g, 0, none⟩) ss.length ss.length) ∧ w.heap.size ≤ g ∧ Whole w' g 9 (ss.map Value.string).toArray ∧ Below w.heap.size w w'

set_option maxRecDepth 100000 in
set_option maxHeartbeats 400000 in
theorem toStrings (A : Option Addr) (c : Nat) (ss : List ByteArray) (w : World) (hA : Strs w A ss) (hn : ss.length ≤ 4294967296) :
    Calls Try.prog 45 #[.slice A ss.length c] w (CopyOf ss w) := by
  obtain ⟨i0, hi, hz0, hz1, hz2⟩ := info_parts infoStr
  have hlen : (ss.map Value.string).length = ss.length := by simp
  have km := fun (w : World) => run_make (P := Try.prog) w 33 9 i0 (.string ByteArray.empty) Try.underlying33 hi hz0 .i64 .i64 (ss.length : Int) (ss.length : Int) (by omega) (by omega) (by rw [hz2]; omega) (by omega)
  simp only [Int.toNat_natCast, hz1, Nat.mul_one] at km
  have e0 : madeCells (Value.string ByteArray.empty).cells ss.length = filled (ss.map Value.string) 0 (.string ByteArray.empty) := by rw [filled_zero, hlen]; rfl
  rw [e0] at km
  have HA := Lib.hid hA
  have HL := Lib.hid hlen
  clear hA hlen e0 hi hz0 hz1 hz2
  go_enter Try.func45, Try.ntmps45
  go_wp2
  clear km
  have hb0 : Below w.heap.size w (w.alloc (.cells (filled (ss.map Value.string) 0 (.string ByteArray.empty)) 9)) := (Below.refl _ _).alloc (Nat.le_refl _) _
  have hw0 := Whole.new w 9 (filled (ss.map Value.string) 0 (.string ByteArray.empty))
  go_loopw [4] (fun i wr => ∃ k : Nat, k ≤ ss.length ∧ i = .int .i64 k ∧ Whole wr w.heap.size 9 (filled (ss.map Value.string) k (.string ByteArray.empty)) ∧ Below w.heap.size w wr) (fun i _ => ss.length - (Go.RowKit.intOf i).toNat)
  case atStart => exact ⟨0, Nat.zero_le _, rfl, hw0, hb0⟩
  case round =>
    obtain ⟨k, hk, rfl, hw, hb⟩ := hrel
    clear hw0 hb0
    by_cases hlt : k < ss.length
    · obtain ⟨g, o, rfl, hc⟩ := (HA.out.below hb).at_ hlt
      have hfl : k < (ss.map Value.string).length := by rw [HL.out]; exact hlt
      have hcw : wr.cell? ⟨w.heap.size, k, none⟩ = some (.string ByteArray.empty) := by rw [hw.cell, filled_at _ _ _ hfl]
      have hfz : wr.frozen? ⟨w.heap.size, k, none⟩ = false := hw.frozen k
      have hst := filled_step (ss.map Value.string) k (.string ByteArray.empty) hfl
      rw [List.getElem_map] at hst
      have HS := Lib.hid hst
      clear hst
      go_wp2
      go_roundw
      case rel => exact ⟨k + 1, by omega, by go_num, by rw [← HS.out]; exact hw.set_ _ _, hb.setCell (by simp) _⟩
      case measure => simp [Go.RowKit.intOf]; omega
    · have hkl : k = ss.length := by omega
      subst hkl
      have hfull : filled (ss.map Value.string) ss.length (.string ByteArray.empty) = (ss.map Value.string).toArray := by rw [← HL.out]; exact filled_full _ _
      rw [hfull] at hw
      clear hfull
      go_wp2
      go_ret
      exact ⟨_, rfl, Nat.le_refl _, hw, hb⟩
end Go.Proofs.Ytoongnmkhjkbkaa
namespace Go.Proofs.Ytoongnmkhjkbkaa
open Go.RowKit Go.Lib

/-- A row of n strings in block g that may be written. -/
def RowAt (w : World) (A : Option Addr) (g n : Nat) : Prop := n = 0 ∨ (A = some ⟨g, 0, none⟩ ∧ g < w.heap.size ∧ ∀ j, j < n → (∃ s, w.cell? ⟨g, j, none⟩ = some (.string s)) ∧ w.frozen? ⟨g, j, none⟩ = false)
/-- The row bears its marks. -/
def MarkedAt (w : World) (A : Option Addr) (g k n : Nat) : Prop := n = 0 ∨ (A = some ⟨g, 0, none⟩ ∧ g < w.heap.size ∧ ∀ j, j < n → w.cell? ⟨g, j, none⟩ = some (.string (mark (k + j))))
theorem RowAt.keep {w w' : World} {A : Option Addr} {g n : Nat} (h : RowAt w A g n) (hsz : w.heap.size ≤ w'.heap.size) (hb : g < w.heap.size → w'.heap[g]? = w.heap[g]?) : RowAt w' A g n := by
  rcases h with h | ⟨rfl, hg, hc⟩
  · exact .inl h
  · refine .inr ⟨rfl, by omega, fun j hj => ⟨?_, ?_⟩⟩
    · obtain ⟨s, hs⟩ := (hc j hj).1
      exact ⟨s, (World.cell?_of_block (a := ⟨g, j, none⟩) (hb hg)).trans hs⟩
    · have hf := (hc j hj).2
      unfold World.frozen? at hf ⊢
      rw [hb hg]
      exact hf
theorem RowAt.below {w w' : World} {A : Option Addr} {g n : Nat} (h : RowAt w A g n) (hb : Below w.heap.size w w') : RowAt w' A g n := h.keep hb.size (hb.block g)
theorem RowAt.but {w w' : World} {A : Option Addr} {g k n : Nat} (h : RowAt w A g n) (hb : But k w w') (hne : g ≠ k) : RowAt w' A g n := h.keep hb.size fun hg => hb.block g hg hne
theorem MarkedAt.keep {w w' : World} {A : Option Addr} {g k n : Nat} (h : MarkedAt w A g k n) (hsz : w.heap.size ≤ w'.heap.size) (hb : g < w.heap.size → w'.heap[g]? = w.heap[g]?) : MarkedAt w' A g k n := by
  rcases h with h | ⟨rfl, hg, hc⟩
  · exact .inl h
  · exact .inr ⟨rfl, by omega, fun j hj => (World.cell?_of_block (a := ⟨g, j, none⟩) (hb hg)).trans (hc j hj)⟩
theorem MarkedAt.below {w w' : World} {A : Option Addr} {g k n : Nat} (h : MarkedAt w A g k n) (hb : Below w.heap.size w w') : MarkedAt w' A g k n := h.keep hb.size (hb.block g)
theorem Whole.row {w : World} {g : Nat} {t : TypeId} {ss : List ByteArray} (h : Whole w g t (ss.map Value.string).toArray) : RowAt w (some ⟨g, 0, none⟩) g ss.length :=
  .inr ⟨rfl, h.lt, fun j hj => ⟨⟨ss[j], by rw [h.cell]; simp [hj]⟩, h.frozen j⟩⟩
theorem Strs.but {w w' : World} {A : Option Addr} {ss : List ByteArray} {g : Nat} (h : Strs w A ss) (hb : But g w w') (hne : ∀ ad, A = some ad → ad.block ≠ g) : Strs w' A ss := by
  rcases h with h | ⟨b, o, rfl, hg, hc⟩
  · exact .inl h
  · exact .inr ⟨b, o, rfl, Nat.lt_of_lt_of_le hg hb.size, fun j s hj => (World.cell?_of_block (a := ⟨b, o + j, none⟩) (hb.block b hg (hne _ rfl))).trans (hc j s hj)⟩
/-- What an owned row of strings is: its strings, its block. -/
theorem own_row {w : World} {B : Nat} {e : TypeId} {V : Value} {d : List ByteArray} (h : w.ownsRow B e 1 V d.length (d.map Value.string)) :
    ∃ A c g, V = .slice A d.length c ∧ Strs w A d ∧ RowAt w A g d.length ∧ B ≤ g ∧ (∀ ad, A = some ad → ad.block = g ∧ g < w.heap.size) := by
  rcases h.2 with ⟨rfl, h0⟩ | ⟨g, cap, cur, rfl, hBg, hblk, _⟩
  · exact ⟨none, 0, B, by rw [h0], .inl (List.eq_nil_of_length_eq_zero h0), .inl h0, Nat.le_refl _, fun ad e => by cases e⟩
  · have hlt := (h.lt g rfl).2
    have hc : ∀ j, j < d.length → w.cell? ⟨g, j, none⟩ = (d.map Value.string)[j]? := fun j hj => World.ownsRow.cellAt h j (by omega)
    refine ⟨_, cap, g, rfl, .inr ⟨g, 0, rfl, hlt, fun j s hj => ?_⟩, .inr ⟨rfl, hlt, fun j hj => ⟨⟨d[j], ?_⟩, ?_⟩⟩, hBg, fun ad e => by injection e with e; subst e; exact ⟨rfl, hlt⟩⟩
    · have hjl : j < d.length := by
        rcases Nat.lt_or_ge j d.length with h | h
        · exact h
        · rw [List.getElem?_eq_none h] at hj; cases hj
      rw [Nat.zero_add, hc j hjl, List.getElem?_map, hj]
      rfl
    · rw [hc j hj]; simp [hj]
    · simp [World.frozen?, hblk]

set_option maxRecDepth 100000 in
set_option maxHeartbeats 1000000 in
theorem markS (A : Option Addr) (g n k0 c : Nat) (w : World) (h : RowAt w A g n) (h0 : 0 < k0) (h1 : k0 ≤ 8589934592) (hn : n ≤ 8589934592) :
    Calls Try.prog 47 #[.slice A n c, .int .i64 k0] w fun e w' => e = .returned (.int .i64 (k0 + n : Nat)) ∧ MarkedAt w' A g k0 n ∧ But g w w' := by
  have HR := Lib.hid h
  clear h
  go_enter Try.func47, Try.ntmps47
  go_wp2
  go_loopw [1, 5] (fun q i wr => ∃ j : Nat, j ≤ n ∧ i = .int .i64 j ∧ q = .int .i64 (k0 + j : Nat) ∧ RowAt wr A g n ∧ MarkedAt wr A g k0 j ∧ But g w wr) (fun _ i _ => n - (Go.RowKit.intOf i).toNat)
  case atStart => exact ⟨0, Nat.zero_le _, rfl, rfl, HR.out, .inl rfl, But.refl _ _⟩
  case round =>
    clear HR
    obtain ⟨j, hj, rfl, rfl, hr, hm, hb⟩ := hrel
    by_cases hlt : j < n
    · have hr' := hr
      rcases hr' with h | ⟨rfl, hg, hc⟩
      · omega
      · have HM := Lib.hid hm
        have HR := Lib.hid hr
        have hc' := hc j hlt
        clear hm hr hc
        go_wp2_with fail
        refine (markText (k0 + j) _ (by omega) (by omega)).mono ?_
        rintro e w1 ⟨rfl, hb1⟩
        obtain ⟨⟨s, hs⟩, hf⟩ := hc'
        have hc1 : w1.cell? ⟨g, j, none⟩ = some (.string s) := (hb1.cell (p := ⟨g, j, none⟩) hg).trans hs
        have hf1 : w1.frozen? ⟨g, j, none⟩ = false := (hb1.frozen (p := ⟨g, j, none⟩) hg).trans hf
        have hb2 : But g w w1 := hb.trans (But.of_below hb1)
        have hr1 := HR.out.below hb1
        have hm1 := HM.out.below hb1
        have hr2 : RowAt (w1.setCell ⟨g, j, none⟩ (.string (mark (k0 + j)))) (some ⟨g, 0, none⟩) g n := by
          rcases hr1 with h | ⟨_, hg1, hc1'⟩
          · exact .inl h
          · refine .inr ⟨rfl, by simpa [World.setCell] using hg1, fun i hi => ⟨?_, by rw [World.frozen?_setCell]; exact (hc1' i hi).2⟩⟩
            by_cases hij : i = j
            · subst hij; exact ⟨_, World.cell?_setCell_same _ _ _ hc1⟩
            · obtain ⟨s', hs'⟩ := (hc1' i hi).1
              exact ⟨s', (World.cell?_setCell_other _ _ _ _ (fun e => hij (by injection e with _ e; exact e.symm))).trans hs'⟩
        have hm2 : MarkedAt (w1.setCell ⟨g, j, none⟩ (.string (mark (k0 + j)))) (some ⟨g, 0, none⟩) g k0 (j + 1) := by
          refine .inr ⟨rfl, by have := hb1.size; simp [World.setCell]; omega, fun i hi => ?_⟩
          by_cases hij : i = j
          · subst hij; exact World.cell?_setCell_same _ _ _ hc1
          · rcases hm1 with h | ⟨_, _, hcm⟩
            · omega
            · exact (World.cell?_setCell_other _ _ _ _ (fun e => hij (by injection e with _ e; exact e.symm))).trans (hcm i (by omega))
        have HR2 := Lib.hid hr2
        have HM2 := Lib.hid hm2
        clear hr1 hr2 hm1 hm2 HM HR
        go_wp2
        go_roundw
        case rel => exact ⟨j + 1, by omega, by go_num, int_of (by omega), HR2.out, HM2.out, hb2.trans (But.set_ _ _ _ _)⟩
        case measure => simp [Go.RowKit.intOf]; omega
    · have hjl : j = n := by omega
      subst hjl
      have HM := Lib.hid hm
      clear hm hr
      go_wp2
      go_ret
      exact ⟨rfl, HM.out, hb⟩

set_option maxRecDepth 100000 in
set_option maxHeartbeats 400000 in
theorem heldS (A : Option Addr) (g n k0 c : Nat) (w : World) (h : MarkedAt w A g k0 n) (h0 : 0 < k0) (h1 : k0 ≤ 8589934592) (hlen : n ≤ 8589934592) :
    Calls Try.prog 65 #[.slice A n c, .int .i64 k0] w fun e w' => e = .returned (.int .i64 (k0 + n : Nat)) ∧ Below w.heap.size w w' := by
  have HW := Lib.hid h
  clear h
  go_enter Try.func65, Try.ntmps65
  go_wp2
  go_loopw [1, 5] (fun q i wr => ∃ j : Nat, j ≤ n ∧ i = .int .i64 j ∧ q = .int .i64 (k0 + j : Nat) ∧ Below w.heap.size w wr) (fun _ i _ => n - (Go.RowKit.intOf i).toNat)
  case atStart => exact ⟨0, Nat.zero_le _, rfl, rfl, Below.refl _ _⟩
  case round =>
    obtain ⟨j, hj, rfl, rfl, hb⟩ := hrel
    by_cases hlt : j < n
    · rcases HW.out.below hb with h | ⟨rfl, hg, hcs⟩
      · omega
      · have hc := hcs j hlt
        have cM : ∀ d os, Calls Try.prog 83 #[.int .i64 (k0 + j : Nat)] (Go.Sort.grow (redrawn wr d) os) fun e w'' => e = .returned (.string (mark (k0 + j))) ∧ ∃ p : Regrown, w'' = Go.Sort.grow (redrawn wr p.d) p.os := fun d os => Calls.regrown_of (markText (k0 + j) _ (by omega) (by omega))
        have kc := cell_regrown hc
        have hj0 : (0 : Int) ≤ j := by omega
        clear hcs
        go_wp2
        refine wp_region_quiet_below (by kernel_rfl) (by kernel_rfl) ?_
        repeat (quiet_step (exact cM _ _))
        refine wpQuiet_nil ?_
        intro _ hw'
        obtain ⟨⟨dq, osq⟩, hw''⟩ := hw'
        subst hw''
        have hb3 := hb.trans ((below_regrown wr dq osq).mono hb.size)
        clear cM kc
        go_wp2
        go_roundw
        case rel => exact ⟨j + 1, by omega, by go_num, int_of (by omega), hb3⟩
        case measure => simp [Go.RowKit.intOf]; omega
    · go_wp2
      go_ret
      have hjl : j = n := by omega
      subst hjl
      exact ⟨rfl, hb⟩
end Go.Proofs.Ytoongnmkhjkbkaa
namespace Go.Proofs.Ytoongnmkhjkbkaa
open Go.ChangeShapes Go.WideShapes Go.ChangeAt Go.RowKit Go.WideMaps Go.WideElems

theorem strs_of {w : World} {a : Addr} {ss : List ByteArray} {len : Nat} (hb : a.block < w.heap.size ∨ ss = []) (h : ∀ i, i < ss.length → w.cell? (a.add i) = some (.string (ss.getD i ByteArray.empty))) : Strs w (some a) (ss.take len) := by
  by_cases h0 : (ss.take len) = []
  · exact .inl h0
  · have hp : 0 < ss.length := by
      cases ss with
      | nil => simp at h0
      | cons x r => simp
    obtain ⟨b, off, spot⟩ := a
    have hspot : spot = none := by simpa [Addr.add] using World.cell?_spot (h 0 hp)
    subst hspot
    refine .inr ⟨b, off, rfl, ?_, fun j s hj => ?_⟩
    · rcases hb with hb | hb
      · exact hb
      · subst hb; simp at hp
    · have hjl : j < ss.length ∧ ss[j]? = some s := by
        rw [List.getElem?_take] at hj
        split at hj
        · exact ⟨(List.getElem?_eq_some_iff.1 hj).1, hj⟩
        · cases hj
      have := h j hjl.1
      rw [Go.WideShapes.add_plain] at this
      rw [this]
      simp [List.getD, hjl.2]
end Go.Proofs.Ytoongnmkhjkbkaa

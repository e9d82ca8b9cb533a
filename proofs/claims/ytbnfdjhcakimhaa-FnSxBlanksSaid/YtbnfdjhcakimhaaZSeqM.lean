/- A range over a function whose iterator keeps memory of its own from round to round: the iterator's contract, and the statement's law. -/
import Derived.RangeFuncNested
import Derived.RangeFuncBound
import Derived.Test.YtbnfdjhcakimhaaQ1
import Derived.Lib.Hide
namespace Go.Proofs.Ytbnfdjhcakimhaa
open Go.RowKit

/-- What a round keeps: what lay below n₀, and the iterator's own blocks. -/
structure KeepsM (n₀ : Nat) (M : Nat → Prop) (W W' : World) : Prop where
  below : Below n₀ W W'
  own : ∀ b, M b → W'.heap[b]? = W.heap[b]?
theorem KeepsM.refl (n₀ : Nat) (M : Nat → Prop) (W : World) : KeepsM n₀ M W W := ⟨Below.refl _ _, fun _ _ => rfl⟩
theorem KeepsM.trans {n₀ : Nat} {M : Nat → Prop} {A B C : World} (h : KeepsM n₀ M A B) (k : KeepsM n₀ M B C) : KeepsM n₀ M A C := ⟨h.below.trans k.below, fun b hb => (k.own b hb).trans (h.own b hb)⟩
theorem KeepsM.putObj {n₀ : Nat} {M : Nat → Prop} {W : World} {l : Nat} {o' : Obj} (hn : n₀ ≤ l) (hl : l < W.heap.size) (hM : ¬ M l) : KeepsM n₀ M W (W.putObj l o') :=
  ⟨(Below.refl n₀ W).grown (grownBy_putObj' W l o') (by omega) (fun k e => by cases e; exact hn), fun b hb => World.putObj_heap_other (fun e => hM (e ▸ hb))⟩
theorem KeepsM.alloc {n₀ : Nat} {M : Nat → Prop} {W : World} (hn : n₀ ≤ W.heap.size) (hM : ∀ b, M b → b < W.heap.size) (o : Obj) : KeepsM n₀ M W (W.alloc o) :=
  ⟨(Below.refl n₀ W).alloc hn o, fun b hb => Below.heap_alloc W o b (hM b hb)⟩
theorem KeepsM.setCell {n₀ : Nat} {M : Nat → Prop} {W : World} {b : Nat} {o : Nat} (hn : n₀ ≤ b) (hM : ¬ M b) (v : Value) : KeepsM n₀ M W (W.setCell ⟨b, o, none⟩ v) :=
  ⟨(Below.refl n₀ W).setCell (p := ⟨b, o, none⟩) hn v, fun k hk => Below.heap_setCell W _ v k (fun e => hM (by rw [← show k = b from e]; exact hk))⟩
theorem KeepsM.grown {n₀ : Nat} {M : Nat → Prop} {W W' : World} {row : Option Nat} (hg : W.grownBy W' row) (hn : n₀ ≤ W.heap.size) (hM : ∀ b, M b → b < W.heap.size) (hr : ∀ k, row = some k → n₀ ≤ k ∧ ¬ M k) : KeepsM n₀ M W W' :=
  ⟨(Below.refl n₀ W).grown hg hn (fun k e => (hr k e).1), fun b hb => hg.block b (hM b hb) (fun e => (hr b e.symm).2 hb)⟩
theorem KeepsM.of_below {n₀ : Nat} {M : Nat → Prop} {W W' : World} (hb : Below W.heap.size W W') (hn : n₀ ≤ W.heap.size) (hM : ∀ b, M b → b < W.heap.size) : KeepsM n₀ M W W' :=
  ⟨hb.mono hn, fun b hb' => hb.block b (hM b hb')⟩
theorem grown_none {A B : World} (h : Below A.heap.size A B) : A.grownBy B none := ⟨h.os, h.tape, h.output, h.size, fun k hk _ => h.block k hk⟩
theorem grownBy_setCell'' (W : World) (b o : Nat) (v : Value) : W.grownBy (W.setCell ⟨b, o, none⟩ v) (some b) :=
  ⟨rfl, rfl, rfl, by simp, fun k _ hk => Below.heap_setCell _ _ _ k (fun e => hk (by rw [e]))⟩
theorem KeepsFrom.of_below {B : Nat} {W W' : World} (hb : Below W.heap.size W W') : KeepsFrom B W W' :=
  ⟨hb.size, fun k _ _ hk _ => (hb.block k (Array.getElem?_eq_some_iff.1 hk).1).trans hk⟩

/-- THE ITERATOR's CONTRACT: J and Jx are the caller's; M: the blocks that the iterator has made; Rd: those that it only reads. -/
def SeqM {α : Type} (F : Fence) (n : Nat) (P : Program) (g : Nat) (lb : Array Value) (encs : α → Array Value) (Ok : List α → α → Prop) (S : List α → Prop) (n₀ : Nat) (Rd : Nat → Prop) (w : World) : Prop :=
  ∀ (l : Nat) (J : (Nat → Prop) → List α → World → Prop) (Jx : List α → World → Prop) (W : World), Below w.heap.size w W →
    (∀ M s A B row, J M s A → A.grownBy B row → (∀ r, row = some r → M r) → J (fun b => M b ∨ (A.heap.size ≤ b ∧ b < B.heap.size)) s B) →
    (∀ M pre x W1, J M pre W1 → Ok pre x → YieldAt F (n - 1) P l (encs x) W1 fun e W' =>
      (e = .returned (.bool true) ∧ J M (pre ++ [x]) W' ∧ KeepsM n₀ (fun b => M b ∨ Rd b) W1 W') ∨ (e = .returned (.bool false) ∧ Jx (pre ++ [x]) W')) →
    J (fun _ => False) [] W →
    CallsIn F n P g (#[.func (.yield l) #[] #[]] ++ lb) W fun e W' => (∃ v, e = .returned v) ∧ ((∃ M xs, S xs ∧ J M xs W') ∨ (∃ pre, Jx pre W'))

/-- THE CALLER's INVARIANT abides the iterator's steps, and the turns of what is no cells, from B on. -/
def OwnM {β : Type} (B : Nat) (I : (Nat → Prop) → β → World → Prop) : Prop :=
  ∀ M M' s A A' row, I M s A → A.grownBy A' row → (∀ r, row = some r → B ≤ r ∧ (M r ∨ ∃ o : Obj, A.heap[r]? = some o ∧ o.isCells = false)) → (∀ b, M' b → M b ∨ A.heap.size ≤ b) → I M' s A'
theorem OwnM.and {β : Type} {B : Nat} {I I' : (Nat → Prop) → β → World → Prop} (h : OwnM B I) (h' : OwnM B I') : OwnM B (fun M s W => I M s W ∧ I' M s W) :=
  fun M M' s A A' row hs hg hr hM => ⟨h M M' s A A' row hs.1 hg hr hM, h' M M' s A A' row hs.2 hg hr hM⟩
theorem OwnM.from {β : Type} {B : Nat} {I : (Nat → Prop) → β → World → Prop} (h : OwnM B I) (M : Nat → Prop) : OwnFrom B (I M) :=
  fun s A A' row hs hg hr => h M M s A A' row hs hg (fun r e => ⟨(hr r e).1, .inr (hr r e).2⟩) (fun _ hb => .inl hb)
theorem ownM_pure {β : Type} (B : Nat) (p : β → Prop) : OwnM B (fun _ s (_ : World) => p s) := fun _ _ _ _ _ _ hs _ _ _ => hs
theorem ownM_below {β : Type} {B n₀ : Nat} {w : World} (hn : n₀ ≤ B) (hs : n₀ ≤ w.heap.size) : OwnM B (fun _ (_ : β) W => Below n₀ w W) :=
  fun _ _ _ A A' row h hg hr _ => h.grown hg (by have := h.size; omega) (fun k e => by have := (hr k e).1; omega)
theorem ownM_boxed {β : Type} {B Bx : Nat} (t : TypeId) (f : β → Value) (hx : Bx < B) : OwnM B (fun _ s W => Boxed W Bx t (f s)) :=
  fun _ _ _ _ _ _ hs hg hr _ => hs.kept hg (fun e => by have := (hr _ e.symm).1; omega)
/-- A box that holds a slice with memory of its own, none of it the iterator's. -/
theorem ownM_row {β : Type} (n₀ : Nat) {B Bx : Nat} (t e : TypeId) (size : Nat) (k : β → Nat) (f : β → List Value) (G : β → Value → Prop) (hx : Bx < B) :
    OwnM B (fun M s W => ∃ v, Boxed W Bx t v ∧ W.ownsRow n₀ e size v (k s) (f s) ∧ (∀ b, v.ownBlock = some b → ¬ M b) ∧ G s v) := by
  rintro M M' s A A' row ⟨v, hv, hr, hn, hG⟩ hg hrow hM
  refine ⟨v, hv.kept hg (fun e' => by have := (hrow _ e'.symm).1; omega), hr.kept hg ?_, fun b hb h' => ?_, hG⟩
  · rcases hr.2 with ⟨rfl, _⟩ | ⟨g, cap, cur, rfl, _, hgb, _⟩
    · exact .inl rfl
    · refine .inr fun e' => ?_
      have e2 : row = some g := by simpa [Value.ownBlock] using e'.symm
      rcases (hrow g e2).2 with h | ⟨o, ho, hc⟩
      · exact hn g rfl h
      · rw [hgb] at ho; cases ho; cases hc
  · rcases hM b h' with h | h
    · exact hn b hb h
    · have := (hr.lt b hb).2; omega

theorem boxed_set_int {W : World} {B : Nat} {t : TypeId} {v : Value} {z z' : Int} (h : Boxed W B t v) (e : z = z') : Boxed (W.setCell ⟨B, 0, none⟩ (.int .i64 z)) B t (.int .i64 z') := e ▸ h.set _
theorem whole_kept {W W' : World} {row : Option Nat} {B : Nat} {t : TypeId} {cs : Array Value} (h : Whole W B t cs) (hg : W.grownBy W' row) (hr : ∀ r, row = some r → ∃ o : Obj, W.heap[r]? = some o ∧ o.isCells = false) : Whole W' B t cs :=
  (hg.block B h.lt (fun e => by obtain ⟨o, ho, hc⟩ := hr B e.symm; rw [show W.heap[B]? = _ from h] at ho; cases ho; cases hc)).trans h
/-- A new block of the round's. -/
theorem OwnM.alloc_ {β : Type} {B : Nat} {I : (Nat → Prop) → β → World → Prop} (h : OwnM B I) {M : Nat → Prop} {s : β} {W : World} {o : Obj} (hs : I M s W) (_hM : ∀ b, M b → B < b) : I M s (W.alloc o) :=
  h M M s W _ none hs (World.grownBy_alloc W o none) (fun r e => by cases e) (fun _ hb => .inl hb)

/-- HOW THE BODY OF A ROUND MAY BE LEFT. -/
def ownPostM {α : Type} (B n₀ : Nat) (Rd : Nat → Prop) (I : (Nat → Prop) → List α → World → Prop) (Ix : Code → List α → World → Prop) (M : Nat → Prop) (xs : List α) (W : World) : Exit → Act → World → Prop
  | .normal, _, W' => KeepsFrom B W W' ∧ KeepsM n₀ (fun b => M b ∨ Rd b) W W' ∧ I M xs W'
  | .ret, _, W' => KeepsFrom B W W' ∧ Ix .ret xs W'
  | .exit id, _, W' => KeepsFrom B W W' ∧ Ix (.exit id) xs W'
  | .goto t, _, W' => KeepsFrom B W W' ∧ Ix (.goto t) xs W'
  | .panic _, _, _ => False
  | .outgrown, _, _ => False

variable {F : Fence} {n : Nat} {P : Program}

theorem wpIn_rangeFunc_ownM {α : Type} {g : Operand} {ps : Array Tmp} {assign body : Code} {Q : Exit → Act → World → Prop} {a : Act} {w : World}
    (hro : F.round = none) (h1 : 1 ≤ n) {gf : Nat} {lb : Array Value} (hg : a.eval g = .func (.func gf) #[] lb) (hFg : F.fn gf) (eg : ∀ args w, (callFunc gf args).run P w = .ok (.enter gf args) w)
    {encs : α → Array Value} {Ok : List α → α → Prop} {S : List α → Prop} {n₀ : Nat} {Rd : Nat → Prop} {w0 : World} (hseq : SeqM F (n - 1) P gf lb encs Ok S n₀ Rd w0) (hRd : ∀ b, Rd b → b < w.heap.size)
    (hb0 : Below w0.heap.size w0 w) (hn0 : n₀ ≤ w.heap.size) (hps : ∀ x, (encs x).size = ps.size)
    (I : (Nat → Prop) → List α → World → Prop) (Ix : Code → List α → World → Prop) (hI : OwnM w.heap.size I) (hIx : ∀ c, OwnFrom w.heap.size (Ix c)) (h0 : ∀ M : Nat → Prop, (∀ b, M b → w.heap.size ≤ b) → I M [] w) (Ax : α → Act → World → Prop) (hAx : ∀ x a', OwnFrom w.heap.size (fun (_ : Unit) W => Ax x a' W))
    (hassign : ∀ (l : Nat) (M : Nat → Prop) (pre : List α) (x : α) (W : World) (K : Act → World → Prop), (∀ b, M b → w.heap.size < b) → (∀ b, M b ∨ Rd b → b < W.heap.size) → w.heap.size + 1 < W.heap.size → I M pre W → Ok pre x → (∀ a' W', KeepsFrom w.heap.size W W' → KeepsM n₀ (fun b => M b ∨ Rd b) W W' → I M pre W' → Ax x a' W' → K a' W') →
      assign.wpIn (F.inRound l) (n - 1 - 1) P (Exit.then K (fun _ _ _ => False)) { tmps := (ps.zip (encs x)).foldl (fun t (p, v) => t.setIfInBounds p v) a.tmps, defers := [] } W)
    (hbody : ∀ (l : Nat) (M : Nat → Prop) (pre : List α) (x : α) (a' : Act) (W : World), (∀ b, M b → w.heap.size < b) → (∀ b, M b ∨ Rd b → b < W.heap.size) → w.heap.size + 1 < W.heap.size → I M pre W → Ax x a' W → Ok pre x → body.wpIn (F.inRound l) (n - 1 - 1) P (ownPostM w.heap.size n₀ Rd I Ix M (pre ++ [x]) W) a' W)
    (hdone : ∀ (D : Nat) (M : Nat → Prop) (xs : List α) (W : World), w.heap.size ≤ D → S xs → I M xs W → W.heap[D]? = some (.deferred (some [])) → Q .normal { a with defers := { target := .collected D, args := #[] } :: a.defers } W)
    (hstop : ∀ (D : Nat) (c : Code) (pre : List α) (W : World), w.heap.size ≤ D → Ix c pre W → W.heap[D]? = some (.deferred (some [])) → c.wpIn F n P Q { a with defers := { target := .collected D, args := #[] } :: a.defers } W) :
    (Code.rangeFunc g ps assign body).wpIn F n P Q a w := by
  refine wpIn_rangeFunc ?_
  intro fn hfn
  rw [hro]
  obtain ⟨rec, hrec⟩ : ∃ rec : LoopState → Option Code → Loop, rec = fun st pe => { state := st, pending := pe, fn, tmps := a.tmps, params := ps, assign, body, defers := w.heap.size } := ⟨_, rfl⟩
  obtain ⟨W1, hW1⟩ : ∃ W1, (w.alloc (.deferred (some []))).alloc (.loop (rec .ready none)) = W1 := ⟨_, rfl⟩
  have hsz : W1.heap.size = w.heap.size + 2 := by rw [← hW1]; simp
  have hL1 : W1.heap[w.heap.size + 1]? = some (.loop (rec .ready none)) := by
    rw [← hW1]; have := World.alloc_heap_new (w.alloc (.deferred (some []))) (.loop (rec .ready none)); rwa [World.size_alloc] at this
  have hK1 : W1.heap[w.heap.size]? = some (.deferred (some [])) := by
    rw [← hW1]; exact (Below.heap_alloc _ _ _ (by simp)).trans (World.alloc_heap_new w _)
  have hI1 : I (fun _ => False) [] W1 := by
    have h := h0 (fun _ => False) (fun _ h => h.elim)
    rw [← hW1]; exact (hI.from _).alloc _ ((hI.from _).alloc _ h)
  have hb1 : Below w0.heap.size w0 W1 := by
    rw [← hW1]; exact hb0.trans ((((Below.refl _ w).alloc (Nat.le_refl _) _).alloc (by simp) _).mono hb0.size)
  refine ⟨w.heap.size + 1, [{ target := .collected w.heap.size, args := #[] }], W1, { target := .fn (.func gf) lb, args := #[.func (.yield (w.heap.size + 1)) #[] #[]] }, W1, gf,
    #[.func (.yield (w.heap.size + 1)) #[] #[]] ++ lb, W1, ?_, ?_, ?_, ?_, fun _ => h1, ?_⟩
  · rw [← hW1, hrec]; exact run_enterLoop_outer _ _ _ _ _
  · simp only [resolve, hg]
    simp [go_sem]
  · intro f' hf'; simp [Target.leads] at hf'; subst hf'; exact hFg
  · simp [invoke, go_sem, eg]
  · refine (hseq (w.heap.size + 1)
      (fun M pre W => (∀ b, M b → w.heap.size + 2 ≤ b ∧ b < W.heap.size) ∧ I M pre W ∧ W.heap[w.heap.size + 1]? = some (.loop (rec .ready none)) ∧ W.heap[w.heap.size]? = some (.deferred (some [])))
      (fun pre W => ∃ c, Ix c pre W ∧ W.heap[w.heap.size + 1]? = some (.loop (rec .done (some c))) ∧ W.heap[w.heap.size]? = some (.deferred (some [])))
      W1 hb1 ?_ ?_ ⟨fun _ h => h.elim, hI1, hL1, hK1⟩).mono ?_
    · rintro M s A B row ⟨hM, hi, hl, hk⟩ hg' hr
      have hlt : w.heap.size + 1 < A.heap.size := (Array.getElem?_eq_some_iff.1 hl).1
      have hsz' := hg'.size
      refine ⟨fun b hb => ?_, hI M _ s A B row hi hg' (fun r e => ⟨by have := (hM r (hr r e)).1; omega, .inl (hr r e)⟩) (fun b hb => hb.imp_right (fun h => h.1)), ?_, ?_⟩
      · rcases hb with hb | hb
        · have := hM b hb; omega
        · omega
      · exact (hg'.block _ hlt (fun e => by have := (hM _ (hr _ e.symm)).1; omega)).trans hl
      · exact (hg'.block _ (by omega) (fun e => by have := (hM _ (hr _ e.symm)).1; omega)).trans hk
    · rintro M pre x W ⟨hM, hi, hl, hk⟩ hok
      have hlt : w.heap.size + 1 < W.heap.size := (Array.getElem?_eq_some_iff.1 hl).1
      have hy := run_yield (P := P) (args := encs x) hl (by rw [hrec]; exact hps x)
      rw [hrec] at hy
      refine ⟨fn, _, assign, body, hy, roundIn_of_wpIn hfn (hassign _ M pre x W _ (fun b hb => by have := hM b hb; omega) (fun b hb => hb.elim (fun h => (hM b h).2) (fun h => by have := hRd b h; omega)) hlt hi hok ?_)⟩
      clear hy
      intro a' Wa hkfa hkpa hia hax
      replace hl := hkfa.same _ _ (by omega) hl rfl
      replace hk := hkfa.same _ _ (Nat.le_refl _) hk rfl
      replace hlt : w.heap.size + 1 < Wa.heap.size := (Array.getElem?_eq_some_iff.1 hl).1
      replace hM : ∀ b, M b → w.heap.size + 2 ≤ b ∧ b < Wa.heap.size := fun b hb => ⟨(hM b hb).1, by have := (hM b hb).2; have := hkfa.size; omega⟩
      replace hi := hia
      clear hia
      revert hkpa hkfa
      generalize W = Wb
      intro hkfa hkpa
      obtain ⟨W, rfl⟩ : ∃ W, W = Wa := ⟨_, rfl⟩
      refine ⟨_, run_beginRound hl (by rw [hrec]), ?_⟩
      have hl2 : (W.putObj (w.heap.size + 1) (.loop { rec .ready none with state := .busy })).heap[w.heap.size + 1]? = some (.loop { rec .ready none with state := .busy }) := World.putObj_heap_same hlt
      have hk2 : (W.putObj (w.heap.size + 1) (.loop { rec .ready none with state := .busy })).heap[w.heap.size]? = some (.deferred (some [])) := (World.putObj_heap_other (by omega)).trans hk
      have hw2 : KeepsM n₀ (fun b => M b ∨ Rd b) W (W.putObj (w.heap.size + 1) (.loop { rec .ready none with state := .busy })) := KeepsM.putObj (by omega) hlt (fun h => h.elim (fun h => by have := (hM _ h).1; omega) (fun h => by have := hRd _ h; omega))
      refine wpIn_mono (hbody _ M pre x a' _ (fun b hb => by have := hM b hb; omega) (fun b hb => by simp; exact hb.elim (fun h => (hM b h).2) (fun h => by have := hRd b h; omega)) (by simp; omega) ((hI.from M).putObj _ hi (by omega) hl rfl) ((hAx x a').putObj (s := ()) _ hax (by omega) hl rfl) hok) ?_
      have fin : ∀ (jump : Option Code) (W3 : World), KeepsFrom w.heap.size (W.putObj (w.heap.size + 1) (.loop { rec .ready none with state := .busy })) W3 →
          (Instr.endRound (w.heap.size + 1) jump).run P W3 = .ok (.bool jump.isNone) (W3.putObj (w.heap.size + 1) (.loop (rec (if jump.isNone then .ready else .done) jump))) ∧
          W3.heap[w.heap.size + 1]? = some (.loop { rec .ready none with state := .busy }) ∧
          (W3.putObj (w.heap.size + 1) (.loop (rec (if jump.isNone then .ready else .done) jump))).heap[w.heap.size + 1]? = some (.loop (rec (if jump.isNone then .ready else .done) jump)) ∧
          (W3.putObj (w.heap.size + 1) (.loop (rec (if jump.isNone then .ready else .done) jump))).heap[w.heap.size]? = some (.deferred (some [])) := fun jump W3 hk3 => by
        have hl3 := hk3.same _ _ (by omega) hl2 rfl
        have := run_endRound (P := P) jump hl3
        rw [hrec] at this ⊢
        exact ⟨this, by rw [hrec] at hl3; exact hl3, World.putObj_heap_same (Array.getElem?_eq_some_iff.1 hl3).1, (World.putObj_heap_other (by omega)).trans (hk3.same _ _ (Nat.le_refl _) hk2 rfl)⟩
      rintro e a3 W3 hp
      cases e with
      | normal =>
        obtain ⟨hk3, hkp3, hi3⟩ := hp
        obtain ⟨hr, hl3, hl4, hk4⟩ := fin none W3 hk3
        have hlt3 := (Array.getElem?_eq_some_iff.1 hl3).1
        have hsz3 := hk3.size
        simp at hsz3
        exact ⟨_, _, hr, .inl ⟨rfl, ⟨fun b hb => by have := hM b hb; simp; omega, (hI.from M).putObj _ hi3 (by omega) hl3 rfl, hl4, hk4⟩, hkpa.trans ((hw2.trans hkp3).trans (KeepsM.putObj (by omega) hlt3 (fun h => h.elim (fun h => by have := (hM _ h).1; omega) (fun h => by have := hRd _ h; omega))))⟩⟩
      | ret =>
        obtain ⟨hk3, hi3⟩ := hp
        obtain ⟨hr, hl3, hl4, hk4⟩ := fin (some .ret) W3 hk3
        exact ⟨_, _, hr, .inr ⟨rfl, .ret, (hIx _).putObj _ hi3 (by omega) hl3 rfl, hl4, hk4⟩⟩
      | exit id =>
        obtain ⟨hk3, hi3⟩ := hp
        obtain ⟨hr, hl3, hl4, hk4⟩ := fin (some (.exit id)) W3 hk3
        exact ⟨_, _, hr, .inr ⟨rfl, .exit id, (hIx _).putObj _ hi3 (by omega) hl3 rfl, hl4, hk4⟩⟩
      | goto t =>
        obtain ⟨hk3, hi3⟩ := hp
        obtain ⟨hr, hl3, hl4, hk4⟩ := fin (some (.goto t)) W3 hk3
        exact ⟨_, _, hr, .inr ⟨rfl, .goto t, (hIx _).putObj _ hi3 (by omega) hl3 rfl, hl4, hk4⟩⟩
      | panic ch => exact hp.elim
      | outgrown => exact hp.elim
    · rintro e W2 ⟨⟨v, rfl⟩, (⟨M, xs, hS, hM, hi, hl, hk⟩ | ⟨pre, c, hi, hl, hk⟩)⟩
      · exact ⟨none, _, by have := run_endLoop (P := P) hl (by rw [hrec]; simp); rw [hrec] at this; exact this, hdone _ M xs _ (Nat.le_refl _) hS ((hI.from M).putObj _ hi (by omega) hl rfl) ((World.putObj_heap_other (by omega)).trans hk)⟩
      · exact ⟨some c, _, by have := run_endLoop (P := P) hl (by rw [hrec]; simp); rw [hrec] at this; exact this, hstop _ c pre _ (Nat.le_refl _) ((hIx c).putObj _ hi (by omega) hl rfl) ((World.putObj_heap_other (by omega)).trans hk)⟩
end Go.Proofs.Ytbnfdjhcakimhaa

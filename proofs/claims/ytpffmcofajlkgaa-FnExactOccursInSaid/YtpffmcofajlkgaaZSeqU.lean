/- A range over a function that keeps a stack, where the parts of what comes are told by a function that may turn memory of the caller's own: the iterator's contract, the statement's law. -/
import Derived.Test.YtpffmcofajlkgaaQ1
import Derived.Test.YtpffmcofajlkgaaZRepl
namespace Go.Proofs.Ytpffmcofajlkgaa
open Go.RowKit

/-- THE ITERATOR's CONTRACT. J: the caller's, over a state; M: the blocks that the iterator has made; Rd: those that it only reads; Mst: those that the parts' function may turn.
Ok: what may come at a state, Nx: the state behind it; Pst: what the parts' function answers and the state behind it; Pop: an empty list is done; Fin: nothing is left. -/
def SeqU {α S : Type} (F : Fence) (n : Nat) (P : Program) (g : FuncId) (lb : Array Value) (encs : α → Array Value) (Ok : S → α → Prop) (Nx : S → α → S → Prop) (Pop : S → S → Prop) (Fin Bd : S → Prop) (pf : FuncId) (pargs : α → Array Value) (Pst : S → α → S → Nat → Ending → World → Prop) (Mst Rd : Nat → Prop) (s0 : S) (w : World) : Prop :=
  ∀ (l : Nat) (J : (Nat → Prop) → S → World → Prop) (Jx : World → Prop) (W : World), Below w.heap.size w W →
    (∀ M s A B row, J M s A → A.grownBy B row → (∀ r, row = some r → M r) → J (fun b => M b ∨ (A.heap.size ≤ b ∧ b < B.heap.size)) s B) →
    (∀ M s s' A, J M s A → Pop s s' → J M s' A) → (∀ M s A, J M s A → Bd s) →
    (∀ M s x W1, J M s W1 → Ok s x → YieldAt F (n - 1) P l (encs x) W1 fun e W' =>
      (e = .returned (.bool true) ∧ (∃ s', Nx s x s' ∧ J M s' W') ∧ KeepsM 0 (fun b => M b ∨ Rd b) W1 W') ∨ (e = .returned (.bool false) ∧ Jx W')) →
    (∀ M s x s1 W1, Ok s x → Nx s x s1 → J M s1 W1 → Calls P pf (pargs x) W1 fun e W' => ∃ s2, Pst s1 x s2 W1.heap.size e W' ∧ KeptM Mst W1.heap.size W1 W' ∧ J (fun b => M b ∨ (W1.heap.size ≤ b ∧ b < W'.heap.size)) s2 W') →
    J (fun _ => False) s0 W →
    CallsIn F n P g (#[.func (.yield l) #[] #[]] ++ lb) W fun e W' => (∃ v, e = .returned v) ∧ ((∃ M s, Fin s ∧ J M s W') ∨ Jx W')

/-- HOW THE BODY OF A ROUND MAY BE LEFT. -/
def ownPostU {α S : Type} (B : Nat) (Rd : Nat → Prop) (I : (Nat → Prop) → S → World → Prop) (Ix : Code → World → Prop) (Nx : S → α → S → Prop) (M : Nat → Prop) (s : S) (x : α) (W : World) : Exit → Act → World → Prop
  | .normal, _, W' => KeepsFrom B W W' ∧ KeepsM 0 (fun b => M b ∨ Rd b) W W' ∧ ∃ s', Nx s x s' ∧ I M s' W'
  | .ret, _, W' => KeepsFrom B W W' ∧ Ix .ret W'
  | .exit id, _, W' => KeepsFrom B W W' ∧ Ix (.exit id) W'
  | .goto t, _, W' => KeepsFrom B W W' ∧ Ix (.goto t) W'
  | .panic _, _, _ => False
  | .outgrown, _, _ => False

variable {F : Fence} {n : Nat} {P : Program}

theorem wpIn_rangeFunc_ownU {α S : Type} {g : Operand} {ps : Array Tmp} {assign body : Code} {Q : Exit → Act → World → Prop} {a : Act} {w : World}
    (hro : F.round = none) (h1 : 1 ≤ n) {gf : Nat} {lb : Array Value} (hg : a.eval g = .func (.func gf) #[] lb) (hFg : F.fn gf) (eg : ∀ args w, (callFunc gf args).run P w = .ok (.enter gf args) w)
    {encs : α → Array Value} {Ok : S → α → Prop} {Nx : S → α → S → Prop} {Pop : S → S → Prop} {Fin Bd : S → Prop} {pf : FuncId} {pargs : α → Array Value} {Pst : S → α → S → Nat → Ending → World → Prop} {Mst Rd : Nat → Prop} {s0 : S} {w0 : World} (hseq : SeqU F (n - 1) P gf lb encs Ok Nx Pop Fin Bd pf pargs Pst Mst Rd s0 w0) (hRd : ∀ b, Rd b → b < w.heap.size) (hMst : ∀ b, Mst b → b < w.heap.size)
    (hb0 : Below w0.heap.size w0 w) (hps : ∀ x, (encs x).size = ps.size)
    (I : (Nat → Prop) → S → World → Prop) (Ix : Code → World → Prop) (hI : OwnM w.heap.size I) (hPop : ∀ M s s' W, I M s W → Pop s s' → I M s' W) (hBd : ∀ M s W, I M s W → Bd s) (hIx : ∀ c, OwnFrom w.heap.size (fun (_ : Unit) W => Ix c W)) (h0 : ∀ M : Nat → Prop, (∀ b, M b → w.heap.size ≤ b) → I M s0 w)
    (hparts : ∀ (M : Nat → Prop) (s : S) (x : α) (s1 : S) (W : World), (∀ b, M b → w.heap.size < b ∧ b < W.heap.size) → w.heap.size + 1 < W.heap.size → Ok s x → Nx s x s1 → I M s1 W → Calls P pf (pargs x) W fun e W' => ∃ s2, Pst s1 x s2 W.heap.size e W' ∧ KeptM Mst W.heap.size W W' ∧ I (fun b => M b ∨ (W.heap.size ≤ b ∧ b < W'.heap.size)) s2 W') (Ax : (Nat → Prop) → α → Act → World → Prop) (hAx : ∀ M x a', OwnFrom w.heap.size (fun (_ : Unit) W => Ax M x a' W))
    (hassign : ∀ (l : Nat) (M : Nat → Prop) (pre : S) (x : α) (W : World) (K : Act → World → Prop), (∀ b, M b → w.heap.size < b) → (∀ b, M b ∨ Rd b → b < W.heap.size) → w.heap.size + 1 < W.heap.size → I M pre W → Ok pre x → (∀ a' W', KeepsFrom w.heap.size W W' → KeepsM 0 (fun b => M b ∨ Rd b) W W' → I M pre W' → Ax M x a' W' → K a' W') →
      assign.wpIn (F.inRound l) (n - 1 - 1) P (Exit.then K (fun _ _ _ => False)) { tmps := (ps.zip (encs x)).foldl (fun t (p, v) => t.setIfInBounds p v) a.tmps, defers := [] } W)
    (hbody : ∀ (l : Nat) (M : Nat → Prop) (pre : S) (x : α) (a' : Act) (W : World), (∀ b, M b → w.heap.size < b) → (∀ b, M b ∨ Rd b → b < W.heap.size) → w.heap.size + 1 < W.heap.size → I M pre W → Ax M x a' W → Ok pre x → body.wpIn (F.inRound l) (n - 1 - 1) P (ownPostU w.heap.size Rd I Ix Nx M pre x W) a' W)
    (hdone : ∀ (D : Nat) (M : Nat → Prop) (xs : S) (W : World), w.heap.size ≤ D → Fin xs → I M xs W → W.heap[D]? = some (.deferred (some [])) → Q .normal { a with defers := { target := .collected D, args := #[] } :: a.defers } W)
    (hstop : ∀ (D : Nat) (c : Code) (W : World), w.heap.size ≤ D → Ix c W → W.heap[D]? = some (.deferred (some [])) → c.wpIn F n P Q { a with defers := { target := .collected D, args := #[] } :: a.defers } W) :
    (Code.rangeFunc g ps assign body).wpIn F n P Q a w := by
  refine wpIn_rangeFunc ?_
  intro fn hfn
  rw [hro]
  obtain ⟨rec, hrec⟩ : ∃ rec : LoopState → Option Code → Loop, rec = fun st pe => { state := st, pending := pe, fn, tmps := a.tmps, params := ps, assign, body, defers := w.heap.size } := ⟨_, rfl⟩
  obtain ⟨W1, hW1⟩ : ∃ W1, (w.alloc (.deferred (some []))).alloc (.loop (rec .ready none)) = W1 := ⟨_, rfl⟩
  have hsz : W1.heap.size = w.heap.size + 2 := by rw [← hW1]; simp
  have hL1 : W1.heap[w.heap.size + 1]? = some (.loop (rec .ready none)) := by
    rw [← hW1]; have := World.alloc_heap_new (w.alloc (.deferred (some []))) (.loop (rec .ready none)); rwa [World.size_alloc] at this
  have hK1 : W1.heap[w.heap.size]? = some (.deferred (some [])) := by
    rw [← hW1]; exact (Below.heap_alloc _ _ _ (by simp)).trans (World.alloc_heap_new w _)
  have hI1 : I (fun _ => False) s0 W1 := by
    have h := h0 (fun _ => False) (fun _ h => h.elim)
    rw [← hW1]; exact (hI.from _).alloc _ ((hI.from _).alloc _ h)
  have hb1 : Below w0.heap.size w0 W1 := by
    rw [← hW1]; exact hb0.trans ((((Below.refl _ w).alloc (Nat.le_refl _) _).alloc (by simp) _).mono hb0.size)
  refine ⟨w.heap.size + 1, [{ target := .collected w.heap.size, args := #[] }], W1, { target := .fn (.func gf) lb, args := #[.func (.yield (w.heap.size + 1)) #[] #[]] }, W1, gf,
    #[.func (.yield (w.heap.size + 1)) #[] #[]] ++ lb, W1, ?_, ?_, ?_, ?_, fun _ => h1, ?_⟩
  · rw [← hW1, hrec]; exact run_enterLoop_outer _ _ _ _ _
  · simp only [resolve, hg]
    simp [go_sem]
  · intro f' hf'; simp [Target.leads] at hf'; subst hf'; exact hFg
  · simp [invoke, go_sem, eg]
  · refine (hseq (w.heap.size + 1)
      (fun M pre W => (∀ b, M b → w.heap.size + 2 ≤ b ∧ b < W.heap.size) ∧ I M pre W ∧ W.heap[w.heap.size + 1]? = some (.loop (rec .ready none)) ∧ W.heap[w.heap.size]? = some (.deferred (some [])))
      (fun W => ∃ c, Ix c W ∧ W.heap[w.heap.size + 1]? = some (.loop (rec .done (some c))) ∧ W.heap[w.heap.size]? = some (.deferred (some [])))
      W1 hb1 ?_ (fun M s s' W h hp => ⟨h.1, hPop M s s' W h.2.1 hp, h.2.2⟩) (fun M s W h => hBd M s W h.2.1) ?_ ?_ ⟨fun _ h => h.elim, hI1, hL1, hK1⟩).mono ?_
    · rintro M s A B row ⟨hM, hi, hl, hk⟩ hg' hr
      have hlt : w.heap.size + 1 < A.heap.size := (Array.getElem?_eq_some_iff.1 hl).1
      have hsz' := hg'.size
      refine ⟨fun b hb => ?_, hI M _ s A B row hi hg' (fun r e => ⟨by have := (hM r (hr r e)).1; omega, .inl (hr r e)⟩) (fun b hb => hb.imp_right (fun h => h.1)), ?_, ?_⟩
      · rcases hb with hb | hb
        · have := hM b hb; omega
        · omega
      · exact (hg'.block _ hlt (fun e => by have := (hM _ (hr _ e.symm)).1; omega)).trans hl
      · exact (hg'.block _ (by omega) (fun e => by have := (hM _ (hr _ e.symm)).1; omega)).trans hk
    · rintro M pre x W ⟨hM, hi, hl, hk⟩ hok
      have hlt : w.heap.size + 1 < W.heap.size := (Array.getElem?_eq_some_iff.1 hl).1
      have hy := run_yield (P := P) (args := encs x) hl (by rw [hrec]; exact hps x)
      rw [hrec] at hy
      refine ⟨fn, _, assign, body, hy, roundIn_of_wpIn hfn (hassign _ M pre x W _ (fun b hb => by have := hM b hb; omega) (fun b hb => hb.elim (fun h => (hM b h).2) (fun h => by have := hRd b h; omega)) hlt hi hok ?_)⟩
      clear hy
      intro a' Wa hkfa hkpa hia hax
      replace hl := hkfa.same _ _ (by omega) hl rfl
      replace hk := hkfa.same _ _ (Nat.le_refl _) hk rfl
      replace hlt : w.heap.size + 1 < Wa.heap.size := (Array.getElem?_eq_some_iff.1 hl).1
      replace hM : ∀ b, M b → w.heap.size + 2 ≤ b ∧ b < Wa.heap.size := fun b hb => ⟨(hM b hb).1, by have := (hM b hb).2; have := hkfa.size; omega⟩
      replace hi := hia
      clear hia
      revert hkpa hkfa
      generalize W = Wb
      intro hkfa hkpa
      obtain ⟨W, rfl⟩ : ∃ W, W = Wa := ⟨_, rfl⟩
      refine ⟨_, run_beginRound hl (by rw [hrec]), ?_⟩
      have hl2 : (W.putObj (w.heap.size + 1) (.loop { rec .ready none with state := .busy })).heap[w.heap.size + 1]? = some (.loop { rec .ready none with state := .busy }) := World.putObj_heap_same hlt
      have hk2 : (W.putObj (w.heap.size + 1) (.loop { rec .ready none with state := .busy })).heap[w.heap.size]? = some (.deferred (some [])) := (World.putObj_heap_other (by omega)).trans hk
      have hw2 : KeepsM 0 (fun b => M b ∨ Rd b) W (W.putObj (w.heap.size + 1) (.loop { rec .ready none with state := .busy })) := KeepsM.putObj (by omega) hlt (fun h => h.elim (fun h => by have := (hM _ h).1; omega) (fun h => by have := hRd _ h; omega))
      refine wpIn_mono (hbody _ M pre x a' _ (fun b hb => by have := hM b hb; omega) (fun b hb => by simp; exact hb.elim (fun h => (hM b h).2) (fun h => by have := hRd b h; omega)) (by simp; omega) ((hI.from M).putObj _ hi (by omega) hl rfl) ((hAx M x a').putObj (s := ()) _ hax (by omega) hl rfl) hok) ?_
      have fin : ∀ (jump : Option Code) (W3 : World), KeepsFrom w.heap.size (W.putObj (w.heap.size + 1) (.loop { rec .ready none with state := .busy })) W3 →
          (Instr.endRound (w.heap.size + 1) jump).run P W3 = .ok (.bool jump.isNone) (W3.putObj (w.heap.size + 1) (.loop (rec (if jump.isNone then .ready else .done) jump))) ∧
          W3.heap[w.heap.size + 1]? = some (.loop { rec .ready none with state := .busy }) ∧
          (W3.putObj (w.heap.size + 1) (.loop (rec (if jump.isNone then .ready else .done) jump))).heap[w.heap.size + 1]? = some (.loop (rec (if jump.isNone then .ready else .done) jump)) ∧
          (W3.putObj (w.heap.size + 1) (.loop (rec (if jump.isNone then .ready else .done) jump))).heap[w.heap.size]? = some (.deferred (some [])) := fun jump W3 hk3 => by
        have hl3 := hk3.same _ _ (by omega) hl2 rfl
        have := run_endRound (P := P) jump hl3
        rw [hrec] at this ⊢
        exact ⟨this, by rw [hrec] at hl3; exact hl3, World.putObj_heap_same (Array.getElem?_eq_some_iff.1 hl3).1, (World.putObj_heap_other (by omega)).trans (hk3.same _ _ (Nat.le_refl _) hk2 rfl)⟩
      rintro e a3 W3 hp
      cases e with
      | normal =>
        obtain ⟨hk3, hkp3, s', hnx, hi3⟩ := hp
        obtain ⟨hr, hl3, hl4, hk4⟩ := fin none W3 hk3
        have hlt3 := (Array.getElem?_eq_some_iff.1 hl3).1
        have hsz3 := hk3.size
        simp at hsz3
        exact ⟨_, _, hr, .inl ⟨rfl, ⟨s', hnx, fun b hb => by have := hM b hb; simp; omega, (hI.from M).putObj _ hi3 (by omega) hl3 rfl, hl4, hk4⟩, hkpa.trans ((hw2.trans hkp3).trans (KeepsM.putObj (by omega) hlt3 (fun h => h.elim (fun h => by have := (hM _ h).1; omega) (fun h => by have := hRd _ h; omega))))⟩⟩
      | ret =>
        obtain ⟨hk3, hi3⟩ := hp
        obtain ⟨hr, hl3, hl4, hk4⟩ := fin (some .ret) W3 hk3
        exact ⟨_, _, hr, .inr ⟨rfl, .ret, (hIx _).putObj (s := ()) _ hi3 (by omega) hl3 rfl, hl4, hk4⟩⟩
      | exit id =>
        obtain ⟨hk3, hi3⟩ := hp
        obtain ⟨hr, hl3, hl4, hk4⟩ := fin (some (.exit id)) W3 hk3
        exact ⟨_, _, hr, .inr ⟨rfl, .exit id, (hIx _).putObj (s := ()) _ hi3 (by omega) hl3 rfl, hl4, hk4⟩⟩
      | goto t =>
        obtain ⟨hk3, hi3⟩ := hp
        obtain ⟨hr, hl3, hl4, hk4⟩ := fin (some (.goto t)) W3 hk3
        exact ⟨_, _, hr, .inr ⟨rfl, .goto t, (hIx _).putObj (s := ()) _ hi3 (by omega) hl3 rfl, hl4, hk4⟩⟩
      | panic ch => exact hp.elim
      | outgrown => exact hp.elim
    · rintro M s x s1 W hok hnx ⟨hM, hi, hl, hk⟩
      have hlt : w.heap.size + 1 < W.heap.size := (Array.getElem?_eq_some_iff.1 hl).1
      refine (hparts M s x s1 W (fun b hb => by have := hM b hb; omega) hlt hok hnx hi).mono ?_
      rintro e W' ⟨s2, hp, hkm, hi2⟩
      have hnm : ∀ b, w.heap.size ≤ b → ¬ Mst b := fun b h1 h2 => by have := hMst b h2; omega
      refine ⟨s2, hp, hkm, fun b hb => ?_, hi2, (hkm.block _ hlt (hnm _ (Nat.le_succ _))).trans hl, (hkm.block _ (by omega) (hnm _ (Nat.le_refl _))).trans hk⟩
      have := hkm.size
      rcases hb with hb | hb
      · have := hM b hb; omega
      · omega
    · rintro e W2 ⟨⟨v, rfl⟩, (⟨M, xs, hS, hM, hi, hl, hk⟩ | ⟨c, hi, hl, hk⟩)⟩
      · exact ⟨none, _, by have := run_endLoop (P := P) hl (by rw [hrec]; simp); rw [hrec] at this; exact this, hdone _ M xs _ (Nat.le_refl _) hS ((hI.from M).putObj _ hi (by omega) hl rfl) ((World.putObj_heap_other (by omega)).trans hk)⟩
      · exact ⟨some c, _, by have := run_endLoop (P := P) hl (by rw [hrec]; simp); rw [hrec] at this; exact this, hstop _ c _ (Nat.le_refl _) ((hIx c).putObj (s := ()) _ hi (by omega) hl rfl) ((World.putObj_heap_other (by omega)).trans hk)⟩
end Go.Proofs.Ytpffmcofajlkgaa

/- A map of strings to types: a name's value is another; a map that may be nil. -/
import Derived.Test.YtpffmcofajlkgaaZUniT
import Derived.Test.YtpffmcofajlkgaaZCopyI
namespace Go.Proofs.Ytpffmcofajlkgaa
open Go.RowKit Go.Lib

def putV (s : ByteArray) (v : Value) : List (ByteArray × Value) → List (ByteArray × Value)
  | [] => []
  | p :: r => if s = p.1 then (p.1, v) :: r else p :: putV s v r
theorem find_at (s : ByteArray) (v' : Value) : ∀ (es : List MapEntry) (l : List (ByteArray × Value)) (i : Nat) (v : Value), es.map (fun e => (e.key, e.val)) = l.map (fun p => (Value.string p.1, p.2)) → findV s l = some v →
    ∃ j e, Instr.findNow .string (.string s) es i = some (some (i + j, v)) ∧ es[j]? = some e ∧ e.key = .string s ∧ (es.modify j fun e => { e with key := .string s, val := v' }).map (fun e => (e.key, e.val)) = (putV s v' l).map fun p => (Value.string p.1, p.2)
  | [], [], i, v, _, hf => by simp [findV] at hf
  | e :: es, p :: l, i, v, h, hf => by
    rw [List.map_cons, List.map_cons, List.cons.injEq] at h
    obtain ⟨h1, h2⟩ := h
    rw [Prod.mk.injEq] at h1
    obtain ⟨h1, h3⟩ := h1
    rw [Instr.findNow, h1, sameNow_str]
    rw [findV] at hf
    by_cases hs : s = p.1
    · rw [if_pos hs] at hf
      injection hf with hf
      refine ⟨0, e, ?_, rfl, by rw [h1, hs], ?_⟩
      · rw [decide_eq_true hs]; simp only []; rw [h3, hf, Nat.add_zero]
      · rw [putV, if_pos hs, List.map_cons, ← h2]
        simp [hs]
    · rw [if_neg hs] at hf
      obtain ⟨j, e', k1, k2, k3, k4⟩ := find_at s v' es l (i + 1) v h2 hf
      refine ⟨j + 1, e', ?_, k2, k3, ?_⟩
      · rw [decide_eq_false hs]; simp only []; rw [k1]; congr 3; omega
      · rw [putV, if_neg hs, List.map_cons, ← k4]
        simp [h1, h3]
  | [], p :: l, i, v, h, _ => by simp at h
  | e :: es, [], i, v, h, _ => by simp at h
theorem MapAt.put {P : Program} {t k e : TypeId} {w : World} {b : Nat} {l : List (ByteArray × Value)} (h : MapAt w b l) (ht : P.underlying t = some (.map k e)) (hk : P.underlying k = some .string) (s : ByteArray) (v u : Value) (hn : findV s l = some u) :
    ∃ w', (Instr.mapUpdate t (.map (some b)) (.string s) v).run P w = .ok () w' ∧ MapAt w' b (putV s v l) ∧ w.grownBy w' (some b) ∧ w'.heap.size = w.heap.size := by
  obtain ⟨es, clk, hb, he⟩ := h
  obtain ⟨j, e', h1, h2, h3, h4⟩ := find_at s v es.toList l 0 u he hn
  rw [Nat.zero_add] at h1
  have hj : es[j]? = some e' := by rw [← Array.getElem?_toList]; exact h2
  refine ⟨{ w with heap := w.heap.setIfInBounds b (.map (es.modify j fun e => { e with key := .string s, val := v }) clk) }, ?_, ⟨_, _, (MapKept.heap_set hb).1, ?_⟩, ⟨rfl, rfl, rfl, by simp, fun k' _ hne => (MapKept.heap_set hb).2 k' fun e => hne (by rw [e])⟩, by simp⟩
  · simp [Instr.mapUpdate, run_underlying ht, MapKept.run_getObj_map hb, MapKept.run_checkKey (k := .string s) hk trivial, MapKept.run_findKey hk h1, hj, h3, MapKept.run_keyThatStays (d := .string) (k := .string s) trivial, MapKept.run_setObj_map _ hb, Result.andThen]
  · rw [← h4]; simp
theorem setX_out {v : ByteArray} {t : TypeX} : ∀ {σ : List BindingX}, (∀ b ∈ σ, b.var_ ≠ v) → setX v t σ = σ
  | [], _ => rfl
  | b :: r, h => by
    have ih := setX_out (t := t) (σ := r) fun c hc => h c (List.mem_cons_of_mem _ hc)
    rw [setX] at ih ⊢
    rw [List.map_cons, ih, if_neg (h b List.mem_cons_self)]
theorem Binds.put {w : World} {P : Nat → Prop} {s : ByteArray} {t : TypeX} {v : Value} (hv : TypeAt w P t v) : ∀ {σ : List BindingX} {vl : List (ByteArray × Value)}, Binds w P σ vl → (σ.map BindingX.var_).Nodup → Binds w P (setX s t σ) (putV s v vl)
  | [], vl, h, _ => by rw [Binds] at h; subst h; exact rfl
  | b :: r, vl, h, hn => by
    obtain ⟨u, vr, rfl, h1, h2⟩ := h
    rw [List.map_cons, List.nodup_cons] at hn
    rw [setX, List.map_cons, putV]
    by_cases hs : s = b.var_
    · subst hs
      have hr : setX b.var_ t r = r := setX_out fun c hc e => hn.1 (by rw [← e]; exact List.mem_map_of_mem hc)
      rw [setX] at hr
      rw [if_pos rfl, if_pos rfl, hr]
      exact ⟨v, vr, rfl, hv, h2⟩
    · rw [if_neg hs, if_neg (fun e => hs e.symm)]
      exact ⟨u, _, rfl, h1, Binds.put hv h2 hn.2⟩

/-- The values of a unifier: a map that may be nil. -/
def MapO (w : World) (P : Nat → Prop) (mo : Option Nat) (σ : List BindingX) : Prop := match mo with
  | none => σ = []
  | some mb => SubstAt w P mb σ
theorem MapO.same {w w' : World} {P Q : Nat → Prop} {mo : Option Nat} {σ : List BindingX} (h : MapO w P mo σ) (hb : ∀ mb, mo = some mb → w'.heap[mb]? = w.heap[mb]?) (hPQ : ∀ b, P b → Q b) (hk : ∀ b o, P b → w'.cell? ⟨b, o, none⟩ = w.cell? ⟨b, o, none⟩) : MapO w' Q mo σ := by
  cases mo with
  | none => exact h
  | some mb => exact SubstAt.same h (hb mb rfl) hPQ hk
theorem MapO.lt {w : World} {P : Nat → Prop} {mo : Option Nat} {σ : List BindingX} (h : MapO w P mo σ) : ∀ mb, mo = some mb → mb < w.heap.size := by
  rintro mb rfl
  obtain ⟨vl, h, _⟩ := h
  exact h.lt
/-- What the look-up of a name answers, whatever has been made since. -/
theorem MapO.look {w : World} {P : Nat → Prop} {mo : Option Nat} {σ : List BindingX} (h : MapO w P mo σ) (s : ByteArray) :
    ∃ (k : Int) (n : ByteArray) (A : Option Addr) (m c : Nat) (bb : Bool), (∀ wr : World, Below w.heap.size w wr → (Instr.lookup 47 (.map mo) (.string s) true).run Try.prog wr = .ok (.tuple #[.agg #[.int .i64 k, .string n, .slice A m c], .bool bb]) wr) ∧
      ((bb = false ∧ lookX s σ = none) ∨ (bb = true ∧ ∃ y, lookX s σ = some y ∧ k = y.kind_ ∧ n = y.name_ ∧ m = y.args_.length ∧ TypeRow w P A c y.args_)) := by
  cases mo with
  | none =>
    have hσ : σ = [] := h
    subst hσ
    exact ⟨0, ByteArray.empty, none, 0, 0, false, fun wr _ => look_nil Try.underlying47 Try.underlying9 (zeroTyRun wr) s, .inl ⟨rfl, rfl⟩⟩
  | some mb =>
    obtain ⟨vl, hmap, hbinds⟩ := h
    have hlk := fun (wr : World) (hb : Below w.heap.size w wr) => (hmap.same (hb.block mb hmap.lt)).look (P := Try.prog) Try.underlying47 Try.underlying9 (zeroTyRun wr) s
    rcases hbinds.find s with ⟨hn, hf⟩ | ⟨y, v, hn, hf, A2, c2, rfl, ht2⟩
    · rw [hf] at hlk
      exact ⟨0, ByteArray.empty, none, 0, 0, false, hlk, .inl ⟨rfl, hn⟩⟩
    · rw [hf] at hlk
      exact ⟨y.kind_, y.name_, A2, y.args_.length, c2, true, hlk, .inr ⟨rfl, y, hn, rfl, rfl, rfl, ht2⟩⟩
/-- A name's value is another. -/
theorem MapO.put {w : World} {P : Nat → Prop} {mo : Option Nat} {σ : List BindingX} (h : MapO w P mo σ) (hn : (σ.map BindingX.var_).Nodup) (hPl : ∀ b, P b → b < w.heap.size) (hP : ∀ b, P b → mo ≠ some b) {s : ByteArray} (hs : (lookX s σ).isSome = true) {t : TypeX} {A : Option Addr} {c : Nat} (ht : TypeRow w P A c t.args_) :
    ∃ w', (Instr.mapUpdate 47 (.map mo) (.string s) (.agg #[.int .i64 t.kind_, .string t.name_, .slice A t.args_.length c])).run Try.prog w = .ok () w' ∧ MapO w' P mo (setX s t σ) ∧ w.grownBy w' mo ∧ w'.heap.size = w.heap.size := by
  cases mo with
  | none =>
    have hσ : σ = [] := h
    subst hσ
    simp [lookX] at hs
  | some mb =>
    obtain ⟨vl, hmap, hbinds⟩ := h
    rcases hbinds.find s with ⟨h1, _⟩ | ⟨y, v, _, hf, _⟩
    · rw [h1] at hs; cases hs
    · obtain ⟨w', hrun, hm', hg, hsz⟩ := hmap.put (P := Try.prog) Try.underlying47 Try.underlying9 s (.agg #[.int .i64 t.kind_, .string t.name_, .slice A t.args_.length c]) v hf
      have hk : ∀ b o, P b → w'.cell? ⟨b, o, none⟩ = w.cell? ⟨b, o, none⟩ := fun b o hb => World.cell?_of_block (a := ⟨b, o, none⟩) (hg.block b (hPl b hb) (fun e => hP b hb e.symm))
      exact ⟨w', hrun, ⟨_, hm', (hbinds.put ⟨A, c, rfl, ht⟩ hn).frame (fun _ h => h) hk⟩, hg, hsz⟩

/-- A unifier under way: block Bu; its values: the map mo; what they lead to lies in P. -/
structure UniAt (P : Nat → Prop) (Bu : Nat) (mo : Option Nat) (V : Value) (σ : List BindingX) (w : World) : Prop where
  whole : Whole w Bu 52 #[.map mo, V]
  map : MapO w P mo σ
theorem UniAt.apart {P : Nat → Prop} {Bu : Nat} {mo : Option Nat} {V : Value} {σ : List BindingX} {w : World} (h : UniAt P Bu mo V σ w) : mo ≠ some Bu := by
  rintro rfl
  obtain ⟨vl, ⟨es, clk, hm, _⟩, _⟩ := h.map
  have hw : w.heap[Bu]? = _ := h.whole
  rw [hw] at hm
  cases hm
theorem UniAt.same {P : Nat → Prop} {Bu : Nat} {mo : Option Nat} {V : Value} {σ : List BindingX} {w w' : World} (h : UniAt P Bu mo V σ w) (h0 : w'.heap[Bu]? = w.heap[Bu]?) (h1 : ∀ mb, mo = some mb → w'.heap[mb]? = w.heap[mb]?) (hk : ∀ b o, P b → w'.cell? ⟨b, o, none⟩ = w.cell? ⟨b, o, none⟩) : UniAt P Bu mo V σ w' :=
  ⟨h0.trans h.whole, h.map.same h1 (fun _ h => h) hk⟩
theorem UniAt.below {P : Nat → Prop} {Bu : Nat} {mo : Option Nat} {V : Value} {σ : List BindingX} {w w' : World} (h : UniAt P Bu mo V σ w) (hP : ∀ b, P b → b < w.heap.size) (hb : Below w.heap.size w w') : UniAt P Bu mo V σ w' :=
  h.same (hb.block _ h.whole.lt) (fun mb e => hb.block _ (h.map.lt mb e)) fun b o h => hb.cell (p := ⟨b, o, none⟩) (hP b h)
end Go.Proofs.Ytpffmcofajlkgaa

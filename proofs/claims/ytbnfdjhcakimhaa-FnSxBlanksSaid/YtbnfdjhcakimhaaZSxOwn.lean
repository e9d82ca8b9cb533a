/- An expression that a call makes, every row of it in a block of its own; a list under way in a variable. -/
import Derived.Test.YtbnfdjhcakimhaaZTySx
import Derived.Test.YtbnfdjhcakimhaaZOw
namespace Go.Proofs.Ytbnfdjhcakimhaa
open Go.RowKit Go.Lib

/-- WHAT A MAKER LEAVES: an expression whose rows are its own, all apart. -/
def SxOwn (y : SX) (w : World) (e : Ending) (w' : World) : Prop := ∃ (A : Option Addr) (c : Nat) (bs : List Nat), e = .returned (.agg #[.string y.atom, .slice A y.list.length c]) ∧ OwX w' w.heap.size y (.string y.atom) (.slice A y.list.length c) bs ∧ bs.Nodup ∧ (∀ b ∈ bs, w.heap.size ≤ b ∧ b < w'.heap.size) ∧ Below w.heap.size w w'
theorem SxOwn.word {w w' : World} (a : ByteArray) (hb : Below w.heap.size w w') : SxOwn (.mk a []) w (.returned (.agg #[.string a, .slice none 0 0])) w' := ⟨none, 0, [], rfl, OwX_word _ _ _, by simp, by simp, hb⟩
mutual
theorem OwX_down {w : World} {B B' : Nat} (hB : B' ≤ B) : ∀ (x : SX) {v0 v1 : Value} {bs : List Nat}, OwX w B x v0 v1 bs → OwX w B' x v0 v1 bs
  | .mk a l, v0, v1, bs, h => by
    rw [OwX] at h ⊢
    obtain ⟨h0, xs, bs', h1, h2, rfl⟩ := h
    exact ⟨h0, xs, bs', own_lower hB h1, OwE_down hB l h2, rfl⟩
theorem OwE_down {w : World} {B B' : Nat} (hB : B' ≤ B) : ∀ (l : List SX) {xs : List Value} {bs : List Nat}, OwE w B l xs bs → OwE w B' l xs bs
  | [], xs, bs, h => by rw [OwE] at h ⊢; exact h
  | x :: r, xs, bs, h => by
    rw [OwE] at h ⊢
    obtain ⟨v0, v1, xs', b1, b2, rfl, rfl, h1, h2⟩ := h
    exact ⟨v0, v1, xs', b1, b2, rfl, rfl, OwX_down hB x h1, OwE_down hB r h2⟩
end
theorem own_uni {w : World} {B size n : Nat} {e : TypeId} {v : Value} {xs ys : List Value} (h : w.ownsRow B e size v n xs) (k : w.ownsRow B e size v n ys) : xs = ys := by
  rcases h.2 with ⟨rfl, h0⟩ | ⟨g, cap, cur, rfl, _, hg, _, _, _, ht⟩
  · subst h0
    have h1 := h.1
    have k1 := k.1
    rw [Nat.zero_mul] at h1 k1
    rw [List.eq_nil_of_length_eq_zero h1, List.eq_nil_of_length_eq_zero k1]
  · rcases k.2 with ⟨hv, _⟩ | ⟨g', cap', cur', hv, _, hg', _, _, _, ht'⟩
    · simp at hv
    · simp only [Value.slice.injEq, Option.some.injEq, Addr.mk.injEq, and_true, true_and] at hv
      obtain ⟨rfl, rfl⟩ := hv
      rw [hg] at hg'
      injection hg' with hg'
      injection hg' with hg'
      subst hg'
      rw [← ht, ← ht']
/-- One element more. -/
theorem OwX_push {w w8 : World} {B : Nat} {V V' v1 : Value} {a : ByteArray} {acc : List SX} {bs bx : List Nat} {y : SX} {vs : List Value} (h : OwX w B (.mk a acc) (.string a) V bs) (hy : OwX w B y (.string y.atom) v1 bx) (hnd : (bs ++ bx).Nodup)
    (hvs : w.ownsRow B 26 2 V acc.length vs) (hown : w8.ownsRow B 26 2 V' (acc.length + 1) (vs ++ [.string y.atom, v1])) (hlt : ∀ b ∈ bs ++ bx, b < w.heap.size)
    (hkeep : ∀ b ∈ bs ++ bx, V.ownBlock ≠ some b → w8.heap[b]? = w.heap[b]?) (hblk : V'.ownBlock = V.ownBlock ∨ ∃ g', V'.ownBlock = some g' ∧ w.heap.size ≤ g') :
    ∃ bs', OwX w8 B (.mk a (acc ++ [y])) (.string a) V' bs' ∧ bs'.Nodup ∧ ∀ b ∈ bs', b ∈ bs ++ bx ∨ V'.ownBlock = some b := by
  rw [OwX] at h
  obtain ⟨-, xs, es, hxs, hE, rfl⟩ := h
  rw [own_uni hvs hxs] at hown
  have hnd2 := hnd
  rw [List.append_assoc, List.nodup_append] at hnd2
  obtain ⟨hn1, hn2, hn3⟩ := hnd2
  have hV : ∀ b ∈ es ++ bx, V.ownBlock ≠ some b := fun b hb e => hn3 b (by rw [e]; simp) b hb rfl
  have hE8 := OwE_snoc (OwE_frame (w' := w8) acc (fun b hb => hkeep b (List.mem_append_left _ (List.mem_append_right _ hb)) (hV b (List.mem_append_left _ hb))) hE) (OwX_frame (w' := w8) y (fun b hb => hkeep b (List.mem_append_right _ hb) (hV b (List.mem_append_right _ hb))) hy)
  refine ⟨V'.ownBlock.toList ++ (es ++ bx), ?_, ?_, fun b hb => ?_⟩
  · rw [OwX]
    exact ⟨rfl, _, _, by rw [List.length_append]; exact hown, hE8, rfl⟩
  · rcases hblk with hv | ⟨g', hv, hg⟩
    · rw [hv, ← List.append_assoc]; exact hnd
    · rw [hv]
      refine List.nodup_cons.2 ⟨fun hm => ?_, hn2⟩
      have := hlt g' (by rw [List.append_assoc]; exact List.mem_append_right _ hm)
      omega
  · rcases List.mem_append.1 hb with hb | hb
    · right
      rw [Option.mem_toList] at hb
      exact hb
    · left
      rw [List.append_assoc]
      exact List.mem_append_right _ hb

/-- THE LIST UNDER WAY: the result's cells, the list's own variable. -/
structure OutL (w w' : World) (V : Value) (acc : List SX) (bs : List Nat) : Prop where
  rx : Whole w' w.heap.size 26 #[.string ⟨#[]⟩, .slice none 0 0]
  ox : Whole w' (w.heap.size + 1) 26 #[.string ⟨#[]⟩, V]
  own : OwX w' (w.heap.size + 2) (.mk ⟨#[]⟩ acc) (.string ⟨#[]⟩) V bs
  nd : bs.Nodup
  inB : ∀ b ∈ bs, w.heap.size + 2 ≤ b ∧ b < w'.heap.size
  bel : Below w.heap.size w w'
theorem OutL.grow {w w' w2 : World} {V : Value} {acc : List SX} {bs : List Nat} (h : OutL w w' V acc bs) (hb : Below w'.heap.size w' w2) : OutL w w2 V acc bs :=
  ⟨h.rx.below hb h.rx.lt, h.ox.below hb h.ox.lt, OwX_frame _ (fun b hm => hb.block b (h.inB b hm).2) h.own, h.nd, fun b hm => ⟨(h.inB b hm).1, Nat.lt_of_lt_of_le (h.inB b hm).2 hb.size⟩, h.bel.trans (hb.mono h.bel.size)⟩
theorem OutL.row {w w' : World} {V : Value} {acc : List SX} {bs : List Nat} (h : OutL w w' V acc bs) : ∃ vs, w'.ownsRow (w.heap.size + 2) 26 2 V acc.length vs := by
  have h1 := h.own
  rw [OwX] at h1
  obtain ⟨-, xs, es, hxs, -, -⟩ := h1
  exact ⟨xs, hxs⟩
theorem OutL.shape {w w' : World} {V : Value} {acc : List SX} {bs : List Nat} (h : OutL w w' V acc bs) : ∃ A c, V = .slice A acc.length c := by
  obtain ⟨vs, h1⟩ := h.row
  exact own_shape h1
theorem OutL.mid {w w6 w7 : World} {V : Value} {acc : List SX} {bs : List Nat} {o : Obj} (h : OutL w w6 V acc bs) (hgrow : (w6.alloc o).grownBy w7 V.ownBlock) :
    w7.cell? ⟨w.heap.size + 1, 0, none⟩ = some (.string ⟨#[]⟩) ∧ w7.cell? ⟨w.heap.size + 1, 1, none⟩ = some V ∧ w7.frozen? ⟨w.heap.size + 1, 1, none⟩ = false ∧ w.heap.size + 1 < w7.heap.size := by
  have hol := h.ox.lt
  obtain ⟨vs, hown⟩ := h.row
  have hVX : V.ownBlock ≠ some (w.heap.size + 1) := fun e => by have := (hown.lt _ e).1; omega
  have hz := hgrow.size
  simp only [World.size_alloc] at hz
  have h7 : Whole w7 (w.heap.size + 1) 26 #[.string ⟨#[]⟩, V] := ((hgrow.block _ (by simp; omega) (fun e => hVX e.symm)).trans (Below.heap_alloc _ _ _ hol)).trans h.ox
  exact ⟨by rw [h7.cell]; rfl, by rw [h7.cell]; rfl, h7.frozen 1, by omega⟩
theorem OutL.push {w w6 w7 : World} {V V' v1 : Value} {acc : List SX} {bs bx : List Nat} {vs : List Value} {y : SX} {o : Obj} (h : OutL w w6 V acc bs) (hown : w6.ownsRow (w.heap.size + 2) 26 2 V acc.length vs)
    (hy : OwX w6 (w.heap.size + 2) y (.string y.atom) v1 bx) (hyn : bx.Nodup) (hyin : ∀ b ∈ bx, w.heap.size + 2 ≤ b ∧ b < w6.heap.size) (hdis : ∀ b ∈ bs, b ∉ bx) (hgrow : (w6.alloc o).grownBy w7 V.ownBlock)
    (hown7 : w7.ownsRow (w.heap.size + 2) 26 2 V' (acc.length + 1) (vs ++ [.string y.atom, v1])) (hat : V'.ownBlock = V.ownBlock ∨ ∃ g', V'.ownBlock = some g' ∧ w6.heap.size ≤ g') :
    ∀ w8, w8 = w7.setCell ⟨w.heap.size + 1, 1, none⟩ V' → ∃ bs', OutL w w8 V' (acc ++ [y]) bs' := by
  intro w8 h8
  have hVlt := hown.lt
  have hol := h.ox.lt
  have hrl := h.rx.lt
  have hsz7 : w6.heap.size + 1 ≤ w7.heap.size := by have := hgrow.size; simpa using this
  have hlow : ∀ b, b < w6.heap.size → V.ownBlock ≠ some b → w7.heap[b]? = w6.heap[b]? := fun b hb hne => (hgrow.block b (by simp; omega) (fun e => hne e.symm)).trans (Below.heap_alloc _ _ _ hb)
  have hset : But (w.heap.size + 1) w7 w8 := by rw [h8]; exact But.set_ _ w7 1 _
  have hne : ∀ b, b < w.heap.size + 2 → V.ownBlock ≠ some b := fun b hb e => by have := (hVlt b e).1; omega
  have hb7 : Below w.heap.size w6 w7 := ⟨hgrow.os, hgrow.tape, hgrow.output, by omega, fun b hb => hlow b (by omega) (hne b (by omega))⟩
  have ho7 : Whole w7 (w.heap.size + 1) 26 #[.string ⟨#[]⟩, V] := (hlow _ hol (hne _ (by omega))).trans h.ox
  have hrx7 : Whole w7 w.heap.size 26 #[.string ⟨#[]⟩, .slice none 0 0] := (hlow _ hrl (hne _ (by omega))).trans h.rx
  have hin : ∀ b ∈ bs ++ bx, w.heap.size + 2 ≤ b ∧ b < w6.heap.size := fun b hb => by
    rcases List.mem_append.1 hb with hb | hb
    · exact h.inB b hb
    · exact hyin b hb
  have hown8 : w8.ownsRow (w.heap.size + 2) 26 2 V' (acc.length + 1) (vs ++ [.string y.atom, v1]) := own_same hown7 fun b hv => hset.block b (hown7.lt b hv).2 (by have := (hown7.lt b hv).1; omega)
  obtain ⟨bs', h1, h2, h3⟩ := OwX_push h.own hy (List.nodup_append.2 ⟨h.nd, hyn, fun a ha c hc e => hdis a ha (e ▸ hc)⟩) hown hown8 (fun b hb => (hin b hb).2)
    (fun b hb hv => (hset.block b (by have := (hin b hb).2; omega) (by have := (hin b hb).1; omega)).trans (hlow b (hin b hb).2 hv)) hat
  refine ⟨bs', hrx7.but hset (by omega), ?_, h1, h2, fun b hb => ?_, h.bel.trans (hb7.trans (hset.to_below (by omega) (by omega)))⟩
  · have h := ho7.set_ 1 V'
    rw [← h8] at h
    simpa using h
  · rcases h3 b hb with h | h
    · exact ⟨(hin b h).1, by have := (hin b h).2; have := hset.size; omega⟩
    · exact hown8.lt b h
/-- The list is done: the result's cells written. -/
theorem OutL.done {w w' : World} {V : Value} {acc : List SX} {bs : List Nat} (h : OutL w w' V acc bs) :
    ∀ w4, w4 = (w'.setCell ⟨w.heap.size, 0, none⟩ (.string ⟨#[]⟩)).setCell ⟨w.heap.size, 1, none⟩ V → w4.cell? ⟨w.heap.size, 0, none⟩ = some (.string ⟨#[]⟩) ∧ w4.cell? ⟨w.heap.size, 1, none⟩ = some V ∧ SxOwn (.mk ⟨#[]⟩ acc) w (.returned (.agg #[.string ⟨#[]⟩, V])) w4 := by
  intro w4 h4
  obtain ⟨A, c, rfl⟩ := h.shape
  have hw : Whole w4 w.heap.size 26 #[.string ⟨#[]⟩, .slice A acc.length c] := by
    have h := (h.rx.set_ 0 (.string ⟨#[]⟩)).set_ 1 (.slice A acc.length c)
    rw [← h4] at h
    simpa using h
  have hbut : But w.heap.size w' w4 := by rw [h4]; exact (But.set_ _ _ 0 _).trans (But.set_ _ _ 1 _)
  refine ⟨by rw [hw.cell]; rfl, by rw [hw.cell]; rfl, A, c, bs, rfl, OwX_down (Nat.le_add_right _ 2) _ (OwX_frame _ (fun b hb => hbut.block b (h.inB b hb).2 (by have := (h.inB b hb).1; omega)) h.own), h.nd, fun b hb => ⟨by have := (h.inB b hb).1; omega, Nat.lt_of_lt_of_le (h.inB b hb).2 hbut.size⟩, h.bel.trans (hbut.to_below (Nat.le_refl _) h.bel.size)⟩
/-- What a callee made is stored in the result's cells. -/
theorem SxOwn.store {w w1 w3 : World} {y : SX} {e : Ending} {a b : Value} (hm : SxOwn y w1 e w3) (h1 : Below w.heap.size w w1) (hx : Whole w1 (w.heap.size + 1) 26 #[a, b]) :
    ∃ A c, e = .returned (.agg #[.string y.atom, .slice A y.list.length c]) ∧ Whole w3 (w.heap.size + 1) 26 #[a, b] ∧ Below w1.heap.size w1 w3 ∧ ∀ w4, w4 = (w3.setCell ⟨w.heap.size + 1, 0, none⟩ (.string y.atom)).setCell ⟨w.heap.size + 1, 1, none⟩ (.slice A y.list.length c) → w4.cell? ⟨w.heap.size + 1, 0, none⟩ = some (.string y.atom) ∧ w4.cell? ⟨w.heap.size + 1, 1, none⟩ = some (.slice A y.list.length c) ∧ SxOwn y w (.returned (.agg #[.string y.atom, .slice A y.list.length c])) w4 := by
  obtain ⟨A, c, bs, rfl, ho, hn, hin, hb⟩ := hm
  have hxl := hx.lt
  have hx3 := hx.below hb hx.lt
  refine ⟨A, c, rfl, hx3, hb, fun w4 h4 => ?_⟩
  have hw : Whole w4 (w.heap.size + 1) 26 #[.string y.atom, .slice A y.list.length c] := by
    have h := (hx3.set_ 0 (.string y.atom)).set_ 1 (.slice A y.list.length c)
    rw [← h4] at h
    simpa using h
  have hbut : But (w.heap.size + 1) w3 w4 := by rw [h4]; exact (But.set_ _ _ 0 _).trans (But.set_ _ _ 1 _)
  have hs := h1.size
  have hs3 := hb.size
  refine ⟨by rw [hw.cell]; rfl, by rw [hw.cell]; rfl, A, c, bs, rfl, OwX_down hs _ (OwX_frame _ (fun b hb => hbut.block b (hin b hb).2 (by have := (hin b hb).1; omega)) ho), hn, fun b hb => ⟨by have := (hin b hb).1; omega, Nat.lt_of_lt_of_le (hin b hb).2 hbut.size⟩, (h1.trans (hb.mono hs)).trans (hbut.to_below (by omega) (by omega))⟩
end Go.Proofs.Ytbnfdjhcakimhaa

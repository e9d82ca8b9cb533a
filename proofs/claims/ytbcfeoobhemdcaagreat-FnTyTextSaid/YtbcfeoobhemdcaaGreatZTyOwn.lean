/- A type that a call makes, every row of it in a block of its own; a type under way in a variable. -/
import Derived.Test.YtbcfeoobhemdcaaGreatZSxOwn
import Derived.Test.YtbcfeoobhemdcaaGreatZLawV
import Derived.Test.YtbcfeoobhemdcaaGreatQ1
namespace Go.Proofs.YtbcfeoobhemdcaaGreat
open Go.RowKit Go.Lib

theorem news_ty (w : World) (t : TypeId) (a b c : Value) : ∀ (j : Nat) (u : Value), [a, b, c][j]? = some u → (w.alloc (.cells #[a, b, c] t)).cell? ((⟨w.heap.size, 0, none⟩ : Addr).add j) = some u := by
  intro j u hj
  rw [Go.WideShapes.add_plain, Nat.zero_add, (Whole.new w t #[a, b, c]).cell]
  simpa using hj
theorem one_ty (k : Int) (x : ByteArray) (A : Option Addr) (n c : Nat) : ∀ u ∈ [Value.int .i64 k, Value.string x, Value.slice A n c], u.oneCell' = true := by
  intro u hu
  simp at hu
  rcases hu with rfl | rfl | rfl <;> rfl
theorem OwV_own {w : World} {B k : Nat} {e : TypeId} {xs : List (List DV)} {V : Value} {bs : List Nat} (h : OwV w B (.row e k xs) V bs) : ∃ vs, w.ownsRow B e k V xs.length vs := by
  rw [OwV] at h
  obtain ⟨vs, es, h1, _⟩ := h
  exact ⟨vs, h1⟩
/-- One element more. -/
theorem OwV_push {w w8 : World} {B : Nat} {V V' : Value} {acc : List TypeX} {bs bx : List Nat} {y : TypeX} {us vs : List Value} (h : OwV w B (.row 26 3 (TypeX.rows acc)) V bs) (hy : OwVs w B y.cells us bx) (hnd : (bs ++ bx).Nodup)
    (hvs : w.ownsRow B 26 3 V acc.length vs) (hown : w8.ownsRow B 26 3 V' (acc.length + 1) (vs ++ us)) (hlt : ∀ b ∈ bs ++ bx, b < w.heap.size)
    (hkeep : ∀ b ∈ bs ++ bx, V.ownBlock ≠ some b → w8.heap[b]? = w.heap[b]?) (hblk : V'.ownBlock = V.ownBlock ∨ ∃ g', V'.ownBlock = some g' ∧ w.heap.size ≤ g') :
    ∃ bs', OwV w8 B (.row 26 3 (TypeX.rows (acc ++ [y]))) V' bs' ∧ bs'.Nodup ∧ ∀ b ∈ bs', b ∈ bs ++ bx ∨ V'.ownBlock = some b := by
  rw [OwV, TypeX.rows_length] at h
  obtain ⟨xs, es, hxs, hE, rfl⟩ := h
  rw [own_uni hvs hxs] at hown
  have hnd2 := hnd
  rw [List.append_assoc, List.nodup_append] at hnd2
  obtain ⟨hn1, hn2, hn3⟩ := hnd2
  have hV : ∀ b ∈ es ++ bx, V.ownBlock ≠ some b := fun b hb e => hn3 b (by rw [e]; simp) b hb rfl
  have hE8 := OwVE_snoc (OwVE_frame (w' := w8) _ (fun b hb => hkeep b (List.mem_append_left _ (List.mem_append_right _ hb)) (hV b (List.mem_append_left _ hb))) hE) (TypeX.cells_length y) (OwVs_frame (w' := w8) _ (fun b hb => hkeep b (List.mem_append_right _ hb) (hV b (List.mem_append_right _ hb))) hy)
  refine ⟨V'.ownBlock.toList ++ (es ++ bx), ?_, ?_, fun b hb => ?_⟩
  · rw [OwV, TypeX.rows_length, List.length_append, TypeX.rows_snoc]
    exact ⟨_, _, hown, hE8, rfl⟩
  · rcases hblk with hv | ⟨g', hv, hg⟩
    · rw [hv, ← List.append_assoc]; exact hnd
    · rw [hv]
      refine List.nodup_cons.2 ⟨fun hm => ?_, hn2⟩
      have := hlt g' (by rw [List.append_assoc]; exact List.mem_append_right _ hm)
      omega
  · rcases List.mem_append.1 hb with hb | hb
    · right
      rw [Option.mem_toList] at hb
      exact hb
    · left
      rw [List.append_assoc]
      exact List.mem_append_right _ hb
theorem OwVs_ty {w : World} {B : Nat} {k : Int} {s : ByteArray} {l : List TypeX} {V : Value} {bs : List Nat} (h : OwV w B (.row 26 3 (TypeX.rows l)) V bs) : OwVs w B (TypeX.mk k s l).cells [.int .i64 k, .string s, V] bs := by
  rw [TypeX.cells]
  simp only [OwVs]
  exact ⟨_, _, [], _, rfl, rfl, by rw [OwV]; exact ⟨rfl, rfl⟩, _, _, [], _, rfl, rfl, by rw [OwV]; exact ⟨rfl, rfl⟩, V, [], _, [], rfl, (List.append_nil _).symm, h, rfl, rfl⟩
theorem OwV_noTy (w : World) (B : Nat) : OwV w B (.row 26 3 (TypeX.rows [])) (.slice none 0 0) [] := by
  rw [OwV, TypeX.rows]
  exact ⟨[], [], World.ownsRow_nil _ _ _ _, by rw [OwVE]; exact ⟨rfl, rfl⟩, rfl⟩
/-- WHAT A MAKER LEAVES: a type whose rows are its own, all apart. -/
def TyOwn (y : TypeX) (w : World) (e : Ending) (w' : World) : Prop := ∃ (A : Option Addr) (c : Nat) (bs : List Nat), e = .returned (.agg #[.int .i64 y.kind_, .string y.name_, .slice A y.args_.length c]) ∧ OwVs w' w.heap.size y.cells [.int .i64 y.kind_, .string y.name_, .slice A y.args_.length c] bs ∧ bs.Nodup ∧ Below w.heap.size w w'
theorem TyOwn.bare {w w' : World} (k : Int) (s : ByteArray) (hb : Below w.heap.size w w') : TyOwn (.mk k s []) w (.returned (.agg #[.int .i64 k, .string s, .slice none 0 0])) w' := ⟨none, 0, [], rfl, OwVs_ty (OwV_noTy _ _), by simp, hb⟩
theorem OwVs_rowTy {w : World} {B : Nat} {P : Nat → Prop} {y : TypeX} {A : Option Addr} {c : Nat} {bs : List Nat} (hP : ∀ b ∈ bs, P b) (h : OwVs w B y.cells [.int .i64 y.kind_, .string y.name_, .slice A y.args_.length c] bs) : TypeRow w P A c y.args_ := by
  obtain ⟨A', c', e, hr⟩ := TypeAt.of_reads (OwVs_read y.cells hP h)
  simp only [List.toArray, Value.agg.injEq] at e
  have e2 := congrArg (fun a : Array Value => a.toList) e
  simp at e2
  obtain ⟨rfl, rfl⟩ := e2
  exact hr

/-- THE TYPE UNDER WAY: the result's cells, the type's own variable T. -/
structure OutT (w w' : World) (T : Nat) (k : Int) (s : ByteArray) (V : Value) (acc : List TypeX) (bs : List Nat) : Prop where
  rx : Whole w' (w.heap.size + 1) 26 #[.int .i64 0, .string ⟨#[]⟩, .slice none 0 0]
  tx : Whole w' T 26 #[.int .i64 k, .string s, V]
  own : OwV w' (T + 1) (.row 26 3 (TypeX.rows acc)) V bs
  nd : bs.Nodup
  hT : w.heap.size + 2 ≤ T
  bel : Below w.heap.size w w'
theorem OutT.inB {w w' : World} {T : Nat} {k : Int} {s : ByteArray} {V : Value} {acc : List TypeX} {bs : List Nat} (h : OutT w w' T k s V acc bs) : ∀ b ∈ bs, T + 1 ≤ b ∧ b < w'.heap.size := OwV_lt _ h.own
theorem OutT.grow {w w' w2 : World} {T : Nat} {k : Int} {s : ByteArray} {V : Value} {acc : List TypeX} {bs : List Nat} (h : OutT w w' T k s V acc bs) (hb : Below w'.heap.size w' w2) : OutT w w2 T k s V acc bs :=
  ⟨h.rx.below hb h.rx.lt, h.tx.below hb h.tx.lt, OwV_frame _ (fun b hm => hb.block b (h.inB b hm).2) h.own, h.nd, h.hT, h.bel.trans (hb.mono h.bel.size)⟩
theorem OutT.row {w w' : World} {T : Nat} {k : Int} {s : ByteArray} {V : Value} {acc : List TypeX} {bs : List Nat} (h : OutT w w' T k s V acc bs) : ∃ vs, w'.ownsRow (T + 1) 26 3 V acc.length vs := by
  obtain ⟨vs, h1⟩ := OwV_own h.own
  rw [TypeX.rows_length] at h1
  exact ⟨vs, h1⟩
theorem OutT.shape {w w' : World} {T : Nat} {k : Int} {s : ByteArray} {V : Value} {acc : List TypeX} {bs : List Nat} (h : OutT w w' T k s V acc bs) : ∃ A c, V = .slice A acc.length c := by
  obtain ⟨vs, h1⟩ := h.row
  exact own_nil h1
theorem OutT.mid {w w6 w7 : World} {T : Nat} {k : Int} {s : ByteArray} {V : Value} {acc : List TypeX} {bs : List Nat} {o : Obj} (h : OutT w w6 T k s V acc bs) (hgrow : (w6.alloc o).grownBy w7 V.ownBlock) :
    w7.cell? ⟨T, 2, none⟩ = some V ∧ w7.frozen? ⟨T, 2, none⟩ = false ∧ T < w7.heap.size := by
  have hol := h.tx.lt
  obtain ⟨vs, hown⟩ := h.row
  have hVX : V.ownBlock ≠ some T := fun e => by have := (hown.lt _ e).1; omega
  have hz := hgrow.size
  simp only [World.size_alloc] at hz
  have h7 : Whole w7 T 26 #[.int .i64 k, .string s, V] := ((hgrow.block _ (by simp; omega) (fun e => hVX e.symm)).trans (Below.heap_alloc _ _ _ hol)).trans h.tx
  exact ⟨by rw [h7.cell]; rfl, h7.frozen 2, by omega⟩
theorem OutT.push {w w6 w7 : World} {T : Nat} {k : Int} {s : ByteArray} {V V' : Value} {acc : List TypeX} {bs bx : List Nat} {vs us : List Value} {y : TypeX} {o : Obj} (h : OutT w w6 T k s V acc bs) (hown : w6.ownsRow (T + 1) 26 3 V acc.length vs)
    (hy : OwVs w6 (T + 1) y.cells us bx) (hyn : bx.Nodup) (hdis : ∀ b ∈ bs, b ∉ bx) (hgrow : (w6.alloc o).grownBy w7 V.ownBlock)
    (hown7 : w7.ownsRow (T + 1) 26 3 V' (acc.length + 1) (vs ++ us)) (hat : V'.ownBlock = V.ownBlock ∨ ∃ g', V'.ownBlock = some g' ∧ w6.heap.size ≤ g') :
    ∀ w8, w8 = w7.setCell ⟨T, 2, none⟩ V' → ∃ bs', OutT w w8 T k s V' (acc ++ [y]) bs' := by
  intro w8 h8
  have hVlt := hown.lt
  have hol := h.tx.lt
  have hrl := h.rx.lt
  have hT := h.hT
  have hyin := OwVs_lt _ hy
  have hsz7 : w6.heap.size + 1 ≤ w7.heap.size := by have := hgrow.size; simpa using this
  have hlow : ∀ b, b < w6.heap.size → V.ownBlock ≠ some b → w7.heap[b]? = w6.heap[b]? := fun b hb hne => (hgrow.block b (by simp; omega) (fun e => hne e.symm)).trans (Below.heap_alloc _ _ _ hb)
  have hset : But T w7 w8 := by rw [h8]; exact But.set_ _ w7 2 _
  have hne : ∀ b, b < T + 1 → V.ownBlock ≠ some b := fun b hb e => by have := (hVlt b e).1; omega
  have hb7 : Below w.heap.size w6 w7 := ⟨hgrow.os, hgrow.tape, hgrow.output, by omega, fun b hb => hlow b (by omega) (hne b (by omega))⟩
  have ho7 : Whole w7 T 26 #[.int .i64 k, .string s, V] := (hlow _ hol (hne _ (by omega))).trans h.tx
  have hrx7 : Whole w7 (w.heap.size + 1) 26 #[.int .i64 0, .string ⟨#[]⟩, .slice none 0 0] := (hlow _ hrl (hne _ (by omega))).trans h.rx
  have hin : ∀ b ∈ bs ++ bx, T + 1 ≤ b ∧ b < w6.heap.size := fun b hb => by
    rcases List.mem_append.1 hb with hb | hb
    · exact h.inB b hb
    · exact hyin b hb
  have hown8 : w8.ownsRow (T + 1) 26 3 V' (acc.length + 1) (vs ++ us) := own_same hown7 fun b hv => hset.block b (hown7.lt b hv).2 (by have := (hown7.lt b hv).1; omega)
  obtain ⟨bs', h1, h2, h3⟩ := OwV_push h.own hy (List.nodup_append.2 ⟨h.nd, hyn, fun a ha c hc e => hdis a ha (e ▸ hc)⟩) hown hown8 (fun b hb => (hin b hb).2)
    (fun b hb hv => (hset.block b (by have := (hin b hb).2; omega) (by have := (hin b hb).1; omega)).trans (hlow b (hin b hb).2 hv)) hat
  refine ⟨bs', hrx7.but hset (by omega), ?_, h1, h2, hT, h.bel.trans (hb7.trans (hset.to_below (by omega) (by omega)))⟩
  have h := ho7.set_ 2 V'
  rw [← h8] at h
  simpa using h
/-- What is written into the result's cells. -/
theorem tyRet {w w' : World} {k : Int} {s : ByteArray} {V u0 u1 u2 : Value} (hx : Whole w' (w.heap.size + 1) 26 #[u0, u1, u2]) :
    ∀ w4, w4 = ((w'.setCell ⟨w.heap.size + 1, 0, none⟩ (.int .i64 k)).setCell ⟨w.heap.size + 1, 1, none⟩ (.string s)).setCell ⟨w.heap.size + 1, 2, none⟩ V → w4.cell? ⟨w.heap.size + 1, 0, none⟩ = some (.int .i64 k) ∧ w4.cell? ⟨w.heap.size + 1, 1, none⟩ = some (.string s) ∧ w4.cell? ⟨w.heap.size + 1, 2, none⟩ = some V ∧ But (w.heap.size + 1) w' w4 := by
  intro w4 h4
  have hw : Whole w4 (w.heap.size + 1) 26 #[.int .i64 k, .string s, V] := by
    have h := ((hx.set_ 0 (.int .i64 k)).set_ 1 (.string s)).set_ 2 V
    rw [← h4] at h
    simpa using h
  obtain ⟨e0, e1, e2⟩ := cells3 hw
  exact ⟨e0, e1, e2, by rw [h4]; exact ((But.set_ _ _ 0 _).trans (But.set_ _ _ 1 _)).trans (But.set_ _ _ 2 _)⟩
theorem OutT.done {w w' : World} {T : Nat} {k : Int} {s : ByteArray} {V : Value} {acc : List TypeX} {bs : List Nat} (h : OutT w w' T k s V acc bs) :
    ∀ w4, w4 = ((w'.setCell ⟨w.heap.size + 1, 0, none⟩ (.int .i64 k)).setCell ⟨w.heap.size + 1, 1, none⟩ (.string s)).setCell ⟨w.heap.size + 1, 2, none⟩ V → w4.cell? ⟨w.heap.size + 1, 0, none⟩ = some (.int .i64 k) ∧ w4.cell? ⟨w.heap.size + 1, 1, none⟩ = some (.string s) ∧ w4.cell? ⟨w.heap.size + 1, 2, none⟩ = some V ∧ TyOwn (.mk k s acc) w (.returned (.agg #[.int .i64 k, .string s, V])) w4 := by
  intro w4 h4
  obtain ⟨e0, e1, e2, hbut⟩ := tyRet h.rx w4 h4
  obtain ⟨A, c, rfl⟩ := h.shape
  have hT := h.hT
  refine ⟨e0, e1, e2, A, c, bs, rfl, OwVs_ty (OwV_wide (show w.heap.size ≤ T + 1 by omega) _ (OwV_frame _ (fun b hb => hbut.block b (h.inB b hb).2 (by have := (h.inB b hb).1; omega)) h.own)), h.nd, h.bel.trans (hbut.to_below (by omega) h.bel.size)⟩
end Go.Proofs.YtbcfeoobhemdcaaGreat

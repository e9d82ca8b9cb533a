/- The program's replaceVariables: a stack of places in the result. -/
import Derived.Test.YtmacnanocofoaaaZHole
import Derived.Test.YtmacnanocofoaaaQ1
import Derived.Deep.LoopGhost
import Derived.Deep.CutRange
namespace Go.Proofs.Ytmacnanocofoaaa
open Go.RowKit Go.Lib

/-- What the look-up of a name in the map answers, whatever the call has made since. -/
def LooksAs (sv : Value) (f : ByteArray → Option TypeX) (w : World) : Prop := ∀ (s : ByteArray) (wr : World), Below w.heap.size w wr →
  ∃ (k : Int) (n : ByteArray) (A : Option Addr) (m c : Nat) (bb : Bool), (Instr.lookup 79 sv (.string s) true).run Try.prog wr = .ok (.tuple #[.agg #[.int .i64 k, .string n, .slice A m c], .bool bb]) wr ∧
    ((bb = false ∧ f s = none) ∨ (bb = true ∧ ∃ y, f s = some y ∧ k = y.kind_ ∧ n = y.name_ ∧ m = y.args_.length ∧ TypeRow w (Und w.heap.size) A c y.args_))
def ptrV (q : Pl × TypeX) : Value := .pointer (some ⟨q.1.1, q.1.2, none⟩)
/-- What is to come true: at the head of block B the result, in memory of its own. -/
def OutAt (B : Nat) (y : TypeX) (T : List Nat) (w : World) : Prop := ∃ bs, DoneAt w B (B, 0) y bs ∧ bs.Nodup ∧ ∀ b ∈ bs, b ∉ T
theorem room_free {B : Nat} {T : List Nat} {w : World} (h : Room B T w) {b : Nat} (hb : b ∈ T) (o : Nat) : w.frozen? ⟨b, o, none⟩ = false := by
  obtain ⟨_, cs, t, hc⟩ := h b hb
  simp [World.frozen?, hc]
/-- The relation of the walk's loop: what lies on the stack, and what it is good for. -/
def ReplAt (B : Nat) (P : Nat → Prop) (f : ByteArray → Option TypeX) (y : TypeX) (w : World) (gk : Nat) (v : Value) (wr : World) : Prop :=
  ∃ (ps : List (Pl × TypeX)) (T : List Nat), Hole B P f T ps wr (OutAt B y [B, B + 1]) ∧ wr.ownsRow (B + 2) 113 1 v ps.length (ps.map ptrV) ∧ (∀ b, v.ownBlock = some b → b ∉ T) ∧ gk = TypeX.sizeL (ps.map (·.2)) ∧ Below B w wr ∧ Whole wr (B + 1) 27 #[.int .i64 0, .string ByteArray.empty, .slice none 0 0] ∧ (∀ b ∈ T, b < wr.heap.size) ∧ B + 1 ∈ T ∧ ∀ q ∈ ps, q.1.1 ≠ B + 1

/-- A result's three cells written, whatever its block. -/
theorem tyEndY {w w3 : World} {X : Nat} {a b c : Value} {k : Int} {s : ByteArray} {A : Option Addr} {n cc : Nat} (hx : Whole w3 X 27 #[a, b, c]) (hX : w.heap.size ≤ X) (hb : Below w.heap.size w w3) :
    ∀ w4, w4 = ((w3.setCell ⟨X, 0, none⟩ (.int .i64 k)).setCell ⟨X, 1, none⟩ (.string s)).setCell ⟨X, 2, none⟩ (.slice A n cc) →
      w4.cell? ⟨X, 0, none⟩ = some (.int .i64 k) ∧ w4.cell? ⟨X, 1, none⟩ = some (.string s) ∧ w4.cell? ⟨X, 2, none⟩ = some (.slice A n cc) ∧ But X w3 w4 ∧ Below w.heap.size w w4 := by
  rintro w4 rfl
  have hx3 : Whole (((w3.setCell ⟨X, 0, none⟩ (.int .i64 k)).setCell ⟨X, 1, none⟩ (.string s)).setCell ⟨X, 2, none⟩ (.slice A n cc)) X 27 #[.int .i64 k, .string s, .slice A n cc] := by
    simpa using ((hx.set_ 0 (.int .i64 k)).set_ 1 (.string s)).set_ 2 (.slice A n cc)
  obtain ⟨e0, e1, e2⟩ := cells3 hx3
  exact ⟨e0, e1, e2, ((But.set_ _ _ 0 _).trans (But.set_ _ _ 1 _)).trans (But.set_ _ _ 2 _), ((hb.setCell (p := ⟨X, 0, none⟩) hX _).setCell (p := ⟨X, 1, none⟩) hX _).setCell (p := ⟨X, 2, none⟩) hX _⟩
/-- What a call made, its blocks named. -/
theorem madeT_get {x : TypeX} {w w' : World} {e : Ending} (h : MadeV x.cells w e w') : ∃ (vs : List Value) (bs : List Nat) (A : Option Addr) (c : Nat), vs = [.int .i64 x.kind_, .string x.name_, .slice A x.args_.length c] ∧ e = .returned (.agg vs.toArray) ∧ OwVs w' w.heap.size x.cells vs bs ∧ bs.Nodup ∧ Below w.heap.size w w' := by
  obtain ⟨vs, bs, rfl, ho, hn, hb⟩ := h
  obtain ⟨A, c, e, hr⟩ := TypeAt.of_reads (OwVs_read (P := Und w'.heap.size) x.cells (fun b hb' => (OwVs_lt x.cells ho b hb').2) ho)
  exact ⟨vs, bs, A, c, by injection e with e; injection e, rfl, ho, hn, hb⟩
theorem hold_below {B : Nat} {T : List Nat} {w w' : World} (hr : Room B T w) (hb : Below w.heap.size w w') : Hold T [] w w' := Hold.same fun b h => hb.block b (hr.lt h)
theorem hold_sets {B : Nat} {T : List Nat} {w w3 : World} {qb qo : Nat} {u0 u1 u2 : Value} (hr : Room B T w) (hb : Below w.heap.size w w3) :
    Hold T [(qb, qo)] w (((w3.setCell ⟨qb, qo, none⟩ u0).setCell ⟨qb, qo + 1, none⟩ u1).setCell ⟨qb, qo + 2, none⟩ u2) := by
  have h0 := hold_set (T := T) (p := (qb, qo)) w3 (i := 0) (by decide) u0
  have h1 := hold_set (T := T) (p := (qb, qo)) (w3.setCell ⟨qb, qo, none⟩ u0) (i := 1) (by decide) u1
  have h2 := hold_set (T := T) (p := (qb, qo)) ((w3.setCell ⟨qb, qo, none⟩ u0).setCell ⟨qb, qo + 1, none⟩ u1) (i := 2) (by decide) u2
  have nil : ∀ b o, inPl [] b o → inPl [(qb, qo)] b o := fun _ _ ⟨_, hp, _⟩ => by simp at hp
  exact (((hold_below hr hb).trans h0 (fun _ h => h) nil (fun _ _ _ h => h)).trans h1 (fun _ h => h) (fun _ _ h => h) (fun _ _ _ h => h)).trans h2 (fun _ h => h) (fun _ _ h => h) (fun _ _ _ h => h)
theorem hold_set2 {B : Nat} {T : List Nat} {w w3 : World} {qb qo : Nat} {u2 : Value} (hr : Room B T w) (hb : Below w.heap.size w w3) : Hold T [(qb, qo)] w (w3.setCell ⟨qb, qo + 2, none⟩ u2) := by
  have h2 := hold_set (T := T) (p := (qb, qo)) w3 (i := 2) (by decide) u2
  exact (hold_below hr hb).trans h2 (fun _ h => h) (fun _ _ ⟨_, hp, _⟩ => by simp at hp) (fun _ _ _ h => h)
theorem own_down {w : World} {B B' size n : Nat} {e : TypeId} {v : Value} {xs : List Value} (h : w.ownsRow B e size v n xs) (hB : B' ≤ B) : w.ownsRow B' e size v n xs := by
  refine ⟨h.1, ?_⟩
  rcases h.2 with hn | ⟨g, cap, cur, rfl, hbg, rest⟩
  · exact .inl hn
  · exact .inr ⟨g, cap, cur, rfl, by omega, rest⟩
theorem own_elsewhere {w w' : World} {B size n g : Nat} {e : TypeId} {v : Value} {xs : List Value} (h : w.ownsRow B e size v n xs) (hb : But g w w') (hg : v.ownBlock ≠ some g) : w'.ownsRow B e size v n xs :=
  own_same h fun b hv => hb.block b (h.lt b hv).2 fun e => hg (by rw [hv, e])
theorem cells_row {w : World} {g : Nat} {cs : Array Value} {t : TypeId} (h : w.heap[g]? = some (.cells cs t (0, 0))) (i : Nat) : w.cell? ⟨g, i, none⟩ = cs[i]? := cell_rows h
/-- Three cells of one block written. -/
theorem sets_at {w : World} {B : Nat} {T : List Nat} {qb qo : Nat} {a0 a1 a2 u0 u1 u2 : Value} (hr : Room B T w) (hq : qb ∈ T) (h0 : w.cell? ⟨qb, qo, none⟩ = some a0) (h1 : w.cell? ⟨qb, qo + 1, none⟩ = some a1) (h2 : w.cell? ⟨qb, qo + 2, none⟩ = some a2) :
    ∀ w4, w4 = ((w.setCell ⟨qb, qo, none⟩ u0).setCell ⟨qb, qo + 1, none⟩ u1).setCell ⟨qb, qo + 2, none⟩ u2 → w4.cell? ⟨qb, qo, none⟩ = some u0 ∧ w4.cell? ⟨qb, qo + 1, none⟩ = some u1 ∧ w4.cell? ⟨qb, qo + 2, none⟩ = some u2 := by
  rintro w4 rfl
  obtain ⟨_, cs, t, hc⟩ := hr qb hq
  have hw : Whole w qb t cs := hc
  rw [cells_row hc] at h0 h1 h2
  have l0 := (Array.getElem?_eq_some_iff.1 h0).1
  have l1 := (Array.getElem?_eq_some_iff.1 h1).1
  have l2 := (Array.getElem?_eq_some_iff.1 h2).1
  have h3 := ((hw.set_ qo u0).set_ (qo + 1) u1).set_ (qo + 2) u2
  refine ⟨?_, ?_, ?_⟩
  · rw [h3.cell]; simp [l0]
  · rw [h3.cell]; simp [l1]
  · rw [h3.cell]; simp [l2]
theorem set_at {w : World} {B : Nat} {T : List Nat} {qb o : Nat} {a u : Value} (hr : Room B T w) (hq : qb ∈ T) (h0 : w.cell? ⟨qb, o, none⟩ = some a) : (w.setCell ⟨qb, o, none⟩ u).cell? ⟨qb, o, none⟩ = some u := by
  obtain ⟨_, cs, t, hc⟩ := hr qb hq
  have hw : Whole w qb t cs := hc
  rw [cells_row hc] at h0
  have l0 := (Array.getElem?_eq_some_iff.1 h0).1
  rw [(hw.set_ o u).cell]
  simp [l0]
theorem set_other {w : World} {qb o o' : Nat} {u : Value} (h : o ≠ o') : (w.setCell ⟨qb, o, none⟩ u).cell? ⟨qb, o', none⟩ = w.cell? ⟨qb, o', none⟩ := World.cell?_setCell_other _ _ _ _ (fun e => h (by injection e))

/-- A bound variable: its place is done. -/
theorem replValue {f : ByteArray → Option TypeX} {y : TypeX} {w wr w3 : World} {ps0 : List (Pl × TypeX)} {qb qo : Nat} {z u : TypeX} {T : List Nat} {g cap : Nat} {A3 : Option Addr} {c3 : Nat} {bs : List Nat} {B3 : Nat}
    (hh : Hole w.heap.size (Und w.heap.size) f T (ps0 ++ [((qb, qo), z)]) wr (OutAt w.heap.size y [w.heap.size, w.heap.size + 1])) (ho : wr.ownsRow (w.heap.size + 2) 113 1 (.slice (some ⟨g, 0, none⟩) ps0.length cap) ps0.length (ps0.map ptrV))
    (hvT : g ∉ T) (hb : Below w.heap.size w wr) (hw2 : Whole wr (w.heap.size + 1) 27 #[.int .i64 0, .string ByteArray.empty, .slice none 0 0]) (hTl : ∀ b ∈ T, b < wr.heap.size) (hT1 : w.heap.size + 1 ∈ T) (hne : ∀ q ∈ ps0 ++ [((qb, qo), z)], q.1.1 ≠ w.heap.size + 1)
    (hk : z.kind_ = 1) (hf : f z.name_ = some u) (hbw : Below wr.heap.size wr w3) (hB3 : wr.heap.size ≤ B3) (hO : OwVs w3 B3 u.cells [.int .i64 u.kind_, .string u.name_, .slice A3 u.args_.length c3] bs) (hn : bs.Nodup) :
    ∀ w4, w4 = ((w3.setCell ⟨qb, qo, none⟩ (.int .i64 u.kind_)).setCell ⟨qb, qo + 1, none⟩ (.string u.name_)).setCell ⟨qb, qo + 2, none⟩ (.slice A3 u.args_.length c3) → ReplAt w.heap.size (Und w.heap.size) f y w (TypeX.sizeL (ps0.map (·.2))) (.slice (some ⟨g, 0, none⟩) ps0.length cap) w4 := by
  intro w4 h4
  have hqT : qb ∈ T := hh.inT ((qb, qo), z) (by simp)
  have hBq : w.heap.size ≤ qb := (hh.room qb hqT).1
  have hql := hTl qb hqT
  obtain ⟨Aq, cq, p0, p1, p2, _⟩ := hh.there ((qb, qo), z) (by simp)
  simp only at p0 p1 p2
  have r3 : Room w.heap.size T w3 := fun b hb' => by rw [hbw.block b (hTl b hb')]; exact hh.room b hb'
  obtain ⟨e0, e1, e2⟩ := sets_at (u0 := .int .i64 u.kind_) (u1 := .string u.name_) (u2 := .slice A3 u.args_.length c3) r3 hqT ((hbw.cell (p := ⟨qb, qo, none⟩) hql).trans p0) ((hbw.cell (p := ⟨qb, qo + 1, none⟩) hql).trans p1) ((hbw.cell (p := ⟨qb, qo + 2, none⟩) hql).trans p2) w4 h4
  have hbut : But qb w3 w4 := by rw [h4]; exact ((But.set_ _ _ _ _).trans (But.set_ _ _ _ _)).trans (But.set_ _ _ _ _)
  have hbl : ∀ b ∈ bs, B3 ≤ b ∧ b < w3.heap.size := OwVs_lt _ hO
  have hO4 : OwVs w4 w.heap.size u.cells [.int .i64 u.kind_, .string u.name_, .slice A3 u.args_.length c3] bs := OwVs_wide (by have := hb.size; omega) _ (OwVs_frame _ (fun b hb' => hbut.block b (hbl b hb').2 (by have := (hbl b hb').1; omega)) hO)
  have hsub : z.sub f = u := TypeX.sub_some hk hf
  have hb4 : Below w.heap.size w w4 := (hb.trans (hbw.mono hb.size)).trans (hbut.to_below hBq (by have := hb.size; have := hbw.size; omega))
  refine ⟨ps0, bs ++ T, hh.value ?_ ?_ ⟨_, by show OwVs w4 _ (z.sub f).cells _ _; rw [hsub]; exact hO4, ?_⟩ hn ?_, ?_, ?_, rfl, hb4, ?_, ?_, List.mem_append_right _ hT1, fun q hq => hne q (List.mem_append_left _ hq)⟩
  · rw [h4]; exact hold_sets hh.room hbw
  · intro b o hP
    have : b < w.heap.size := hP
    exact (hb4.cell (p := ⟨b, o, none⟩) hP).trans (hb.cell (p := ⟨b, o, none⟩) hP).symm
  · intro i v hi
    match i, hi with
    | 0, hi => simp at hi; subst hi; exact e0
    | 1, hi => simp at hi; subst hi; exact e1
    | 2, hi => simp at hi; subst hi; exact e2
  · exact fun b hb' hT => by have := (hbl b hb').1; have := hTl b hT; omega
  · exact own_elsewhere (owns_below ho hbw) hbut (fun e => hvT (by simp [Value.ownBlock] at e; exact e ▸ hqT))
  · intro b hb'
    simp [Value.ownBlock] at hb'
    subst hb'
    intro hm
    rcases List.mem_append.1 hm with hm | hm
    · have := (hbl g hm).1; have := (ho.lt g rfl).2; omega
    · exact hvT hm
  · exact (hbut.block _ (by have := hTl _ hT1; have := hbw.size; omega) (fun e => hne ((qb, qo), z) (by simp) e.symm)).trans ((hbw.block _ (hTl _ hT1)).trans hw2)
  · intro b hb'
    have := hbut.size
    have := hbw.size
    rcases List.mem_append.1 hb' with hb' | hb'
    · have := (hbl b hb').2; omega
    · have := hTl b hb'; omega

/-- The relation of the inner loop: so many of the new places lie on the stack. -/
def PushAt (f : ByteArray → Option TypeX) (y : TypeX) (w : World) (T : List Nat) (ps0 ks : List (Pl × TypeX)) (qb qo : Nat) (V : Value) (k : Nat) (v : Value) (wr : World) : Prop :=
  Hole w.heap.size (Und w.heap.size) f T (ps0 ++ ks) wr (OutAt w.heap.size y [w.heap.size, w.heap.size + 1]) ∧ wr.ownsRow (w.heap.size + 2) 113 1 v (ps0.length + k) ((ps0 ++ ks.take k).map ptrV) ∧ (∀ b, v.ownBlock = some b → b ∉ T) ∧ Below w.heap.size w wr ∧
    Whole wr (w.heap.size + 1) 27 #[.int .i64 0, .string ByteArray.empty, .slice none 0 0] ∧ (∀ b ∈ T, b < wr.heap.size) ∧ w.heap.size + 1 ∈ T ∧ (∀ q ∈ ps0 ++ ks, q.1.1 ≠ w.heap.size + 1) ∧ wr.cell? ⟨qb, qo + 2, none⟩ = some V ∧ qb < wr.heap.size ∧ qb ∈ T
/-- Any other: its arguments are copied, its place is parted. -/
theorem replPart {f : ByteArray → Option TypeX} {y : TypeX} {w wr w3 : World} {ps0 : List (Pl × TypeX)} {qb qo : Nat} {z : TypeX} {T : List Nat} {g cap : Nat} {VA : Option Addr} {vn vc : Nat} {us : List Value}
    (hh : Hole w.heap.size (Und w.heap.size) f T (ps0 ++ [((qb, qo), z)]) wr (OutAt w.heap.size y [w.heap.size, w.heap.size + 1])) (ho : wr.ownsRow (w.heap.size + 2) 113 1 (.slice (some ⟨g, 0, none⟩) ps0.length cap) ps0.length (ps0.map ptrV))
    (hvT : g ∉ T) (hb : Below w.heap.size w wr) (hw2 : Whole wr (w.heap.size + 1) 27 #[.int .i64 0, .string ByteArray.empty, .slice none 0 0]) (hTl : ∀ b ∈ T, b < wr.heap.size) (hT1 : w.heap.size + 1 ∈ T) (hne : ∀ q ∈ ps0 ++ [((qb, qo), z)], q.1.1 ≠ w.heap.size + 1)
    (hsub : ¬ (z.kind_ = 1 ∧ (f z.name_).isSome = true)) (hbw : Below wr.heap.size wr w3) (hO : w3.ownsRow wr.heap.size 27 3 (.slice VA vn vc) z.args_.length us) (he : ElemsT w3 (Und w.heap.size) z.args_ us) :
    ∀ w4, w4 = w3.setCell ⟨qb, qo + 2, none⟩ (.slice VA vn vc) → vn = z.args_.length ∧ (z.args_.length = 0 ∨ VA = some ⟨((Value.slice VA vn vc).ownBlock.getD 0), 0, none⟩) ∧ z.args_.length ≤ vc ∧ vc ≤ 9223372036854775807 ∧
      PushAt f y w ((Value.slice VA vn vc).ownBlock.toList ++ T) ps0 (kids ((Value.slice VA vn vc).ownBlock.getD 0) 0 z.args_) qb qo (.slice VA vn vc) 0 (.slice (some ⟨g, 0, none⟩) ps0.length cap) w4 := by
  intro w4 h4
  have hqT : qb ∈ T := hh.inT ((qb, qo), z) (by simp)
  have hBq : w.heap.size ≤ qb := (hh.room qb hqT).1
  have hql := hTl qb hqT
  obtain ⟨Aq, cq, p0, p1, p2, _⟩ := hh.there ((qb, qo), z) (by simp)
  simp only at p0 p1 p2
  have r3 : Room w.heap.size T w3 := fun b hb' => by rw [hbw.block b (hTl b hb')]; exact hh.room b hb'
  have hbut : But qb w3 w4 := by rw [h4]; exact But.set_ _ _ _ _
  have hVl := hO.lt
  have hb4 : Below w.heap.size w w4 := (hb.trans (hbw.mono hb.size)).trans (hbut.to_below hBq (by have := hb.size; have := hbw.size; omega))
  have hVT : ∀ b, (Value.slice VA vn vc).ownBlock = some b → b ∉ T := fun b hv hT => by have := (hVl b hv).1; have := hTl b hT; omega
  have hO4 : w4.ownsRow w.heap.size 27 3 (.slice VA vn vc) z.args_.length us := own_down (own_elsewhere hO hbut (fun e => by have := (hVl _ e).1; omega)) hb.size
  have hsz := hbut.size
  have hsw := hbw.size
  have hshape : vn = z.args_.length ∧ (z.args_.length = 0 ∨ VA = some ⟨((Value.slice VA vn vc).ownBlock.getD 0), 0, none⟩) ∧ z.args_.length ≤ vc ∧ vc ≤ 9223372036854775807 := by
    rcases hO.2 with ⟨h1, h2⟩ | ⟨g', cap', cur, h1, _, _, h3, h4, _⟩
    · injection h1 with h1 h5 h6
      subst h1 h5 h6
      exact ⟨h2.symm, .inl h2, by omega, by omega⟩
    · injection h1 with h1 h5 h6
      subst h1 h5 h6
      unfold maxLen at h4
      exact ⟨rfl, .inr (by simp [Value.ownBlock]), h3, by omega⟩
  refine ⟨hshape.1, hshape.2.1, hshape.2.2.1, hshape.2.2.2, hh.part (q := ((qb, qo), z)) hsub ?_ ?_ hO4 ?_ hVT ?_ ?_ ?_, ?_, ?_, hb4, ?_, ?_, List.mem_append_right _ hT1, ?_, ?_, by omega, List.mem_append_right _ hqT⟩
  · rw [h4]; exact hold_set2 hh.room hbw
  · intro b o hP
    exact (hb4.cell (p := ⟨b, o, none⟩) hP).trans (hb.cell (p := ⟨b, o, none⟩) hP).symm
  · exact he.frame (fun _ h => h) fun b o hP => World.cell?_of_block (a := ⟨b, o, none⟩) (hbut.block b (by have : b < w.heap.size := hP; have := hb.size; omega) (by have : b < w.heap.size := hP; omega))
  · rw [h4]; show (World.setCell w3 _ _).cell? ⟨qb, qo, none⟩ = _; rw [set_other (by omega), hbw.cell (p := ⟨qb, qo, none⟩) hql]; exact p0
  · rw [h4]; show (World.setCell w3 _ _).cell? ⟨qb, qo + 1, none⟩ = _; rw [set_other (by omega), hbw.cell (p := ⟨qb, qo + 1, none⟩) hql]; exact p1
  · rw [h4]; exact set_at r3 hqT ((hbw.cell (p := ⟨qb, qo + 2, none⟩) hql).trans p2)
  · rw [List.take_zero, List.append_nil]
    exact own_elsewhere (owns_below ho hbw) hbut (fun e => hvT (by simp [Value.ownBlock] at e; exact e ▸ hqT))
  · intro b hb'
    simp [Value.ownBlock] at hb'
    subst hb'
    intro hm
    rcases List.mem_append.1 hm with hm | hm
    · have := (hVl g (by simpa using hm)).1; have := (ho.lt g rfl).2; omega
    · exact hvT hm
  · exact (hbut.block _ (by have := hTl _ hT1; omega) (fun e => hne ((qb, qo), z) (by simp) e.symm)).trans ((hbw.block _ (hTl _ hT1)).trans hw2)
  · intro b hb'
    rcases List.mem_append.1 hb' with hb' | hb'
    · have := (hVl b (by simpa using hb')).2; omega
    · have := hTl b hb'; omega
  · intro q hq
    rcases List.mem_append.1 hq with hq | hq
    · exact hne q (List.mem_append_left _ hq)
    · rw [(kids_mem hq).1]
      have hpos : z.args_ ≠ [] := by rintro e; rw [e] at hq; simp [kids] at hq
      have hw1 := hTl _ hT1
      rcases hshape.2.1 with h | h
      · exact absurd (List.eq_nil_of_length_eq_zero h) hpos
      · cases VA with
        | none => cases h
        | some a =>
          have := (hVl a.block rfl).1
          show a.block ≠ _
          omega
  · rw [h4]; exact set_at r3 hqT ((hbw.cell (p := ⟨qb, qo + 2, none⟩) hql).trans p2)
/-- One place more on the stack. -/
theorem pushNext {f : ByteArray → Option TypeX} {y : TypeX} {w wr w' : World} {T : List Nat} {ps0 ks : List (Pl × TypeX)} {qb qo : Nat} {V : Value} {k : Nat} {v v' : Value} {q : Pl × TypeX} {O : Obj} (h : PushAt f y w T ps0 ks qb qo V k v wr) (hk : ks[k]? = some q)
    (hown : w'.ownsRow (w.heap.size + 2) 113 1 v' (ps0.length + k + 1) ((ps0 ++ ks.take k).map ptrV ++ [ptrV q])) (hg : (wr.alloc O).grownBy w' v.ownBlock) (hv' : v'.ownBlock = v.ownBlock ∨ v'.ownBlock = some (wr.alloc O).heap.size) : PushAt f y w T ps0 ks qb qo V (k + 1) v' w' := by
  obtain ⟨h1, h2, h3, h4, h5, h6, h7, h8, h9, h10, h11⟩ := h
  have hs := hg.size
  rw [World.size_alloc] at hs hv'
  have same : ∀ b ∈ T, w'.heap[b]? = wr.heap[b]? := fun b hb => (hg.block b (by rw [World.size_alloc]; have := h6 b hb; omega) (fun e => h3 b e.symm hb)).trans (Below.heap_alloc _ _ _ (h6 b hb))
  have hb' : Below w.heap.size w w' := (h4.alloc h4.size O).grown hg (by rw [World.size_alloc]; have := h4.size; omega) (fun j e => by have := (h2.lt j e).1; omega)
  refine ⟨h1.frame same fun b o hP => ?_, ?_, ?_, hb', (same _ h7).trans h5, fun b hb => by have := h6 b hb; omega, h7, h8, (World.cell?_of_block (a := ⟨qb, qo + 2, none⟩) (same _ h11)).trans h9, by omega, h11⟩
  · exact (hb'.cell (p := ⟨b, o, none⟩) hP).trans (h4.cell (p := ⟨b, o, none⟩) hP).symm
  · rw [List.take_add_one, hk]
    rw [show (ps0 ++ (ks.take k ++ (some q).toList)).map ptrV = (ps0 ++ ks.take k).map ptrV ++ [ptrV q] by simp]
    exact hown
  · intro b hb hm
    rcases hv' with e | e
    · exact h3 b (e ▸ hb) hm
    · rw [e] at hb
      injection hb with hb
      subst hb
      have := h6 _ hm
      omega
theorem pushDone {f : ByteArray → Option TypeX} {y : TypeX} {w wr : World} {T : List Nat} {ps0 ks : List (Pl × TypeX)} {qb qo : Nat} {V : Value} {v : Value} (h : PushAt f y w T ps0 ks qb qo V ks.length v wr) :
    ReplAt w.heap.size (Und w.heap.size) f y w (TypeX.sizeL ((ps0 ++ ks).map (·.2))) v wr := by
  obtain ⟨h1, h2, h3, h4, h5, h6, h7, h8, _, _⟩ := h
  rw [List.take_length, ← List.length_append] at h2
  exact ⟨_, _, h1, h2, h3, rfl, h4, h5, h6, h7, h8⟩

theorem infoPtr : (Try.prog.info? 113).map (fun i => (i.zero, i.size, i.bytes)) = some (some (.pointer none), 1, 8) := by kernel_rfl

set_option maxRecDepth 100000 in
set_option maxHeartbeats 8000000 in
theorem implReplace (f : ByteArray → Option TypeX) (x : TypeX) (A : Option Addr) (c : Nat) (sv : Value) (w : World) (hx : x.size ≤ 4294967296) (hv : TypeRow w (Und w.heap.size) A c x.args_) (hl : LooksAs sv f w)
    (hcopy : ∀ s y, f s = some y → ∀ (A : Option Addr) (c : Nat) (W : World), TypeRow W (Und W.heap.size) A c y.args_ → Calls Try.prog 76 #[.agg #[.int .i64 y.kind_, .string y.name_, .slice A y.args_.length c]] W (MadeV y.cells W)) :
    Calls Try.prog 65 #[.agg #[.int .i64 x.kind_, .string x.name_, .slice A x.args_.length c], sv] w (MadeV (x.sub f).cells w) := by
  obtain ⟨i0, hi, hz0, hz1, hz2⟩ := info_parts infoTy
  obtain ⟨j0, hj, hy0, hy1, hy2⟩ := info_parts infoPtr
  have HV := Lib.hid hv
  have HL := Lib.hid hl
  have HC := Lib.hid hcopy
  have HX := Lib.hid hx
  clear hv hl hcopy hx
  have hw1 : ∀ cs : Array Value, ∀ ds : Array Value, Room w.heap.size [w.heap.size, w.heap.size + 1] (((w.alloc (.cells cs 27)).alloc (.cells ds 27)).alloc (.cells #[.pointer (some ⟨w.heap.size, 0, none⟩)] 113)) ∧ Whole (((w.alloc (.cells cs 27)).alloc (.cells ds 27)).alloc (.cells #[.pointer (some ⟨w.heap.size, 0, none⟩)] 113)) w.heap.size 27 cs ∧ Whole (((w.alloc (.cells cs 27)).alloc (.cells ds 27)).alloc (.cells #[.pointer (some ⟨w.heap.size, 0, none⟩)] 113)) (w.heap.size + 1) 27 ds := by
    intro cs ds
    have h0 := Whole.new w 27 cs
    have h1 := Whole.new (w.alloc (.cells cs 27)) 27 ds
    rw [World.size_alloc] at h1
    have b1 : Below (w.heap.size + 1) (w.alloc (.cells cs 27)) (((w.alloc (.cells cs 27)).alloc (.cells ds 27)).alloc (.cells #[.pointer (some ⟨w.heap.size, 0, none⟩)] 113)) := ((Below.refl _ _).alloc (by simp) _).alloc (by simp) _
    have b2 : Below (w.heap.size + 2) ((w.alloc (.cells cs 27)).alloc (.cells ds 27)) (((w.alloc (.cells cs 27)).alloc (.cells ds 27)).alloc (.cells #[.pointer (some ⟨w.heap.size, 0, none⟩)] 113)) := (Below.refl _ _).alloc (by simp) _
    have h0 := h0.below b1 (by omega)
    have h1 := h1.below b2 (by omega)
    refine ⟨fun b hb => ?_, h0, h1⟩
    simp at hb
    rcases hb with rfl | rfl
    · exact ⟨Nat.le_refl _, _, _, h0⟩
    · exact ⟨Nat.le_succ _, _, _, h1⟩
  have hown := World.ownsRow_lit (base := w.heap.size + 2) (size := 1) (e := 113) ((w.alloc (.cells #[.int .i64 x.kind_, .string x.name_, .slice A x.args_.length c] 27)).alloc (.cells #[.int .i64 0, .string ⟨#[]⟩, .slice none 0 0] 27)) #[.pointer (some ⟨w.heap.size, 0, none⟩)] 1 (by simp) (by decide) rfl
  have hbb : Below w.heap.size w (((w.alloc (.cells #[.int .i64 x.kind_, .string x.name_, .slice A x.args_.length c] 27)).alloc (.cells #[.int .i64 0, .string ⟨#[]⟩, .slice none 0 0] 27)).alloc (.cells #[.pointer (some ⟨w.heap.size, 0, none⟩)] 113)) := (((Below.refl _ _).alloc (Nat.le_refl _) _).alloc (by simp) _).alloc (by simp; omega) _
  obtain ⟨hr1, hx0, hx1⟩ := hw1 #[.int .i64 x.kind_, .string x.name_, .slice A x.args_.length c] #[.int .i64 0, .string ⟨#[]⟩, .slice none 0 0]
  have hstart : ReplAt w.heap.size (Und w.heap.size) f (x.sub f) w x.size (.slice (some ⟨w.heap.size + 1 + 1, 0, none⟩) 1 1) (((w.alloc (.cells #[.int .i64 x.kind_, .string x.name_, .slice A x.args_.length c] 27)).alloc (.cells #[.int .i64 0, .string ⟨#[]⟩, .slice none 0 0] 27)).alloc (.cells #[.pointer (some ⟨w.heap.size, 0, none⟩)] 113)) := by
    obtain ⟨p0, p1, p2⟩ := cells3 hx0
    refine ⟨[((w.heap.size, 0), x)], [w.heap.size, w.heap.size + 1], hole_one hr1 (by simp) ⟨A, c, p0, p1, p2, HV.out.frame (fun _ h => h) fun b o hP => hbb.cell (p := ⟨b, o, none⟩) hP⟩, ?_, ?_, ?_, hbb, hx1, ?_, by simp, by simp⟩
    · simp only [World.size_alloc] at hown
      exact hown
    · intro b hb
      simp [Value.ownBlock] at hb
      subst hb
      simp
      omega
    · simp [TypeX.sizeL]
    · intro b hb
      simp at hb ⊢
      omega
  have HS := Lib.hid hstart
  clear hw1 hown hbb hr1 hx0 hx1 hstart
  go_enter Try.func65, Try.ntmps65
  go_wp2
  go_loopg [5] x.size (fun gk v wr => ReplAt w.heap.size (Und w.heap.size) f (x.sub f) w gk v wr ∧ gk ≤ x.size)
  case atStart => exact ⟨HS.out, Nat.le_refl _⟩
  case round =>
    obtain ⟨⟨ps, T, hh, ho, hvT, rfl, hb, hw2, hTl, hT1, hne⟩, hgk⟩ := hrel
    rcases concat_cases ps with rfl | ⟨ps0, q, rfl⟩
    · obtain ⟨A1, c1, rfl⟩ := own_nil ho
      have hfin := hh.fin_
      obtain ⟨bs, ⟨vs, hvs, hcs⟩, hnd, hbT⟩ := hfin
      have hvs0 := hvs
      rw [TypeX.cells_eq] at hvs0
      simp only [OwVs] at hvs0
      obtain ⟨v0, _, q0, _, rfl, rfl, k0, v1, _, q1, _, rfl, rfl, k1, v2, _, q2, _, rfl, rfl, k2, rfl, rfl⟩ := hvs0
      rw [OwV] at k0 k1
      obtain ⟨rfl, rfl⟩ := k0
      obtain ⟨rfl, rfl⟩ := k1
      obtain ⟨V2, C2, rfl⟩ := OwV_shape k2 (TypeX.rows_length _)
      have r0 : wr.cell? ⟨w.heap.size, 0, none⟩ = some (.int .i64 (x.sub f).kind_) := hcs 0 _ rfl
      have r1 : wr.cell? ⟨w.heap.size, 1, none⟩ = some (.string (x.sub f).name_) := hcs 1 _ rfl
      have r2 : wr.cell? ⟨w.heap.size, 2, none⟩ = some (.slice V2 (x.sub f).args_.length C2) := hcs 2 _ rfl
      obtain ⟨z0, z1, z2⟩ := cells3 hw2
      have zf0 := hw2.frozen 0
      have zf1 := hw2.frozen 1
      have zf2 := hw2.frozen 2
      have hend := tyEndY (k := (x.sub f).kind_) (s := (x.sub f).name_) (A := V2) (n := (x.sub f).args_.length) (cc := C2) hw2 (by omega) hb
      have HE := Lib.hid hend
      have HO := Lib.hid hvs
      have HN := Lib.hid hnd
      have HT := Lib.hid hbT
      clear hh ho hvT hTl hT1 hvs hnd hbT hcs k2 hend hw2 hgk
      go_wp2
      obtain ⟨e0, e1, e2, hbut, hb4⟩ := HE.out _ rfl
      refine bodyPost_ret (v := .agg #[.int .i64 (x.sub f).kind_, .string (x.sub f).name_, .slice V2 (x.sub f).args_.length C2]) (by simp [results, Try.results65, go_sem, e0, e1, e2]) rfl ⟨_, _, rfl, OwVs_frame _ (fun b hb => hbut.block b (OwVs_lt _ HO.out b hb).2 fun e => HT.out b hb (by rw [e]; simp)) HO.out, HN.out, hb4⟩
    · obtain ⟨⟨qb, qo⟩, z⟩ := q
      rw [List.length_append, List.length_singleton, List.map_append, List.map_singleton] at ho
      obtain ⟨g, cap, rfl⟩ := own_some ho
      obtain ⟨ho0, hc0, hcap, hcm, hBg, hgl⟩ := own_pop ho (by simp) rfl
      have hc1 : wr.cell? ⟨g, ps0.length, none⟩ = some (.pointer (some ⟨qb, qo, none⟩)) := by have := hc0 0 (by decide); simpa [ptrV] using this
      obtain ⟨Aq, cq, p0, p1, p2, hzr⟩ := hh.there ((qb, qo), z) (by simp)
      simp only at p0 p1 p2 hzr
      have hqT : qb ∈ T := hh.inT ((qb, qo), z) (by simp)
      have hqb : qb < wr.heap.size := hTl _ hqT
      have fq0 := room_free hh.room hqT qo
      have fq1 := room_free hh.room hqT (qo + 1)
      have fq2 := room_free hh.room hqT (qo + 2)
      have sl0 : (0 : Int) ≤ ps0.length := by omega
      have sla : (ps0.length : Int) ≤ cap := by omega
      unfold maxLen at hcm
      obtain ⟨k1, n1, A1, m1, c1, bb, hlk, hbb⟩ := HL.out z.name_ wr hb
      have hszz : TypeX.sizeL ((ps0 ++ [((qb, qo), z)]).map (·.2)) = TypeX.sizeL (ps0.map (·.2)) + z.size := by rw [List.map_append, List.map_singleton, sizeL_snoc]
      have hzz := TypeX.size_eq z
      have hll := sizeL_length (ps0.map (·.2))
      rw [List.length_map] at hll
      have hla := sizeL_length z.args_
      rw [hszz] at hgk
      have hgx := HX.out
      have hlz : ps0.length + z.args_.length + 1 ≤ 4294967296 := by omega
      have hlz2 : TypeX.sizeL (ps0.map (·.2)) + TypeX.sizeL z.args_ + 1 ≤ x.size := by omega
      have HM1 := Lib.hid (show TypeX.sizeL (ps0.map (·.2)) < TypeX.sizeL ((ps0 ++ [((qb, qo), z)]).map (·.2)) by omega)
      have HM2 := Lib.hid (show ∀ g, TypeX.sizeL ((ps0 ++ kids g 0 z.args_).map (·.2)) < TypeX.sizeL ((ps0 ++ [((qb, qo), z)]).map (·.2)) ∧ TypeX.sizeL ((ps0 ++ kids g 0 z.args_).map (·.2)) ≤ x.size by
        intro g
        rw [List.map_append, kids_types, sizeL_append]
        omega)
      have HM3 := Lib.hid hlz2
      clear hszz hzz hll hla hgk hgx hlz2
      have HH := Lib.hid hh
      have HO := Lib.hid ho0
      have HVT := Lib.hid hvT
      have HZ := Lib.hid hzr
      have HBB := Lib.hid hbb
      have HTL := Lib.hid hTl
      have HW2 := Lib.hid hw2
      have HNE := Lib.hid hne
      have HTT := Lib.hid hqT
      have HT1 := Lib.hid hT1
      have HHB := Lib.hid hb
      clear hh ho ho0 hc0 hvT hzr hbb hTl hw2 hne hqT hT1
      go_upto_region 7 with (fail)
      go_cut [40] from 34 to 40 (fun v40 wc => v40 = .bool (bb && (z.kind_ == 1)) ∧ Below (wr.heap.size + 1) (wr.alloc (.cells #[.int .i64 k1, .string n1, .slice A1 m1 c1] 27)) wc)
      case first =>
        cases bb with
        | false =>
          go_wp2
          go_meet
          case rel => exact ⟨rfl, Below.refl _ _⟩
        | true =>
          go_wp2_with fail
          refine (implIsVar _ _ _ _ _ _).mono ?_
          rintro e w2 ⟨rfl, hb2⟩
          rw [World.size_alloc] at hb2
          go_wp2
          go_meet
          case rel => exact ⟨by simp, hb2⟩
      case rest =>
        obtain ⟨rfl, hbc⟩ := hcut
        have hbw : Below wr.heap.size wr wc := ((Below.refl _ _).alloc (Nat.le_refl _) _).trans (hbc.mono (Nat.le_succ _))
        have hsc := hbc.size
        rw [World.size_alloc] at hsc
        by_cases hyes : (bb && (z.kind_ == 1)) = true
        · obtain ⟨hb1, hz⟩ := by simpa using hyes
          subst hb1
          rcases HBB.out with ⟨h, _⟩ | ⟨_, u, hfu, rfl, rfl, rfl, hur⟩
          · cases h
          · have hx3 : Whole wc wr.heap.size 27 #[.int .i64 u.kind_, .string u.name_, .slice A1 u.args_.length c1] := (Whole.new wr _ _).below hbc (by omega)
            have hur2 : TypeRow wc (Und wc.heap.size) A1 c1 u.args_ := hur.frame (fun b h => by have : b < w.heap.size := h; have := hb.size; show b < wc.heap.size; omega) fun b o hP => (hbw.cell (p := ⟨b, o, none⟩) (by have : b < w.heap.size := hP; have := hb.size; show b < _; omega)).trans (hb.cell (p := ⟨b, o, none⟩) hP)
            have hcall := HC.out _ _ hfu A1 c1 wc hur2
            obtain ⟨x0, x1, x2⟩ := cells3 hx3
            have xlt := hx3.lt
            have HCALL := Lib.hid hcall
            have HFU := Lib.hid hfu
            have HKZ := Lib.hid hz
            have HYES := Lib.hid hyes
            clear hcall hfu hz hx3 hur hur2 hlk hc1 fq0 fq1 fq2
            rw [HYES.out]
            go_wp2_with fail
            refine HCALL.out.mono ?_
            intro e w3 hm
            obtain ⟨vs, bs, A3, c3, rfl, rfl, hO3, hn3, hb3⟩ := madeT_get hm
            have hbw3 := hbw.trans (hb3.mono hbw.size)
            have t0 : w3.cell? ⟨qb, qo, none⟩ = some (.int .i64 z.kind_) := (hbw3.cell (p := ⟨qb, qo, none⟩) hqb).trans p0
            have t1 : w3.cell? ⟨qb, qo + 1, none⟩ = some (.string z.name_) := (hbw3.cell (p := ⟨qb, qo + 1, none⟩) hqb).trans p1
            have t2 : w3.cell? ⟨qb, qo + 2, none⟩ = some (.slice Aq z.args_.length cq) := (hbw3.cell (p := ⟨qb, qo + 2, none⟩) hqb).trans p2
            have r3 : Room w.heap.size T w3 := fun b hb' => by rw [hbw3.block b (HTL.out b hb')]; exact HH.out.room b hb'
            have fr0 := room_free r3 HTT.out qo
            have fr1 := room_free r3 HTT.out (qo + 1)
            have fr2 := room_free r3 HTT.out (qo + 2)
            have hqb3 : qb < w3.heap.size := Nat.lt_of_lt_of_le hqb hbw3.size
            have hfin := replValue HH.out HO.out (HVT.out g rfl) HHB.out HW2.out HTL.out HT1.out HNE.out HKZ.out HFU.out hbw3 (by omega) hO3 hn3
            have HFIN := Lib.hid hfin
            clear hfin hm hO3 hn3 hb3 hbw3 r3 p0 p1 p2 x0 x1 x2
            go_wp2
            go_roundg (TypeX.sizeL (ps0.map (·.2)))
            case measure => exact HM1.out
            case rel => exact ⟨HFIN.out _ rfl, by have := HM3.out; omega⟩
        · have hno : (bb && (z.kind_ == 1)) = false := by simpa using hyes
          have hsub : ¬ (z.kind_ = 1 ∧ (f z.name_).isSome = true) := by
            rintro ⟨h1, h2⟩
            rcases HBB.out with ⟨h, hf⟩ | ⟨h, _⟩
            · rw [hf] at h2; cases h2
            · rw [h, h1] at hno; cases hno
          obtain ⟨us, hel, hul, hone, hadr⟩ := HZ.out.cells
          have HUL := Lib.hid hul
          have HONE := Lib.hid hone
          have HEL := Lib.hid (hel.frame (w' := wc) (fun _ h => h) fun b o hP => hbw.cell (p := ⟨b, o, none⟩) (by have : b < w.heap.size := hP; have := hb.size; show b < _; omega))
          have HADR := Lib.hid (cells_inT (hbw.mono hb.size) hadr)
          have q2 : wc.cell? ⟨qb, qo + 2, none⟩ = some (.slice Aq z.args_.length cq) := (hbw.cell (p := ⟨qb, qo + 2, none⟩) hqb).trans p2
          have HP2 := Lib.hid p2
          have hcq := HZ.out.cap
          have hbase : wr.heap.size ≤ wc.heap.size := hbw.size
          have HSUB := Lib.hid hsub
          clear hyes hsub hel hul hone hadr p0 p1 p2 hlk hc1 fq0 fq1 fq2
          rw [hno]
          go_wp2_with (at_builtin; refine wpList_append_any rfl (.const (.slice none 0 0)) (.tmp 49) 25 rfl wr.heap.size 27 i0 (.agg #[.int .i64 0, .string ByteArray.empty, .slice none 0 0]) 3 48 Try.underlying25 hi hz0 hz1 hz2 rfl (by decide) (.slice none 0 0) 0 [] rfl (World.ownsRow_nil _ _ _ _) Aq z.args_.length cq us rfl HUL.out HADR.out HONE.out (by unfold maxLen; omega) (by omega) hbase wc.heap.size rfl ?_)
          intro V w3 hown3 hgrow3 _
          obtain ⟨VA, vc, rfl⟩ := own_nil hown3
          have hb3 : Below wc.heap.size wc w3 := (Below.refl _ _).grown hgrow3 (Nat.le_refl _) (fun k hk => by cases hk)
          have hbw3 := hbw.trans (hb3.mono hbw.size)
          have hel3 := HEL.out.frame (w' := w3) (fun _ h => h) fun b o hP => hb3.cell (p := ⟨b, o, none⟩) (by have : b < w.heap.size := hP; have := hb.size; show b < _; omega)
          have hfin := replPart HH.out HO.out (HVT.out g rfl) HHB.out HW2.out HTL.out HT1.out HNE.out HSUB.out hbw3 hown3 hel3
          have r3 : Room w.heap.size T w3 := fun b hb' => by rw [hbw3.block b (HTL.out b hb')]; exact HH.out.room b hb'
          have t2 : w3.cell? ⟨qb, qo + 2, none⟩ = some (.slice Aq z.args_.length cq) := (hb3.cell (p := ⟨qb, qo + 2, none⟩) (show qb < wc.heap.size by omega)).trans q2
          have fr2 := room_free r3 HTT.out (qo + 2)
          have hqb3 : qb < w3.heap.size := Nat.lt_of_lt_of_le hqb hbw3.size
          have HFIN := Lib.hid hfin
          clear hfin hown3 hgrow3 hb3 hbw3 hel3 r3 q2 hno hcq
          go_wp2
          obtain ⟨-, hVA, hvc1, hvc2, hpush⟩ := HFIN.out _ rfl
          obtain ⟨gV, hgV⟩ : ∃ gV, gV = (Value.slice VA z.args_.length vc).ownBlock.getD 0 := ⟨_, rfl⟩
          obtain ⟨T', hT'⟩ : ∃ T', T' = (Value.slice VA z.args_.length vc).ownBlock.toList ++ T := ⟨_, rfl⟩
          rw [← hgV, ← hT'] at hpush
          rw [← hgV] at hVA
          have HPU := Lib.hid hpush
          have HVA := Lib.hid hVA
          clear hpush hgV hT' hVA t2 fr2 hqb3
          go_loopw [5, 58] (fun v i wi => ∃ k : Nat, k ≤ z.args_.length ∧ i = .int .i64 k ∧ PushAt f (x.sub f) w T' ps0 (kids gV 0 z.args_) qb qo (.slice VA z.args_.length vc) k v wi) (fun _ i _ => z.args_.length - (Go.RowKit.intOf i).toNat)
          case atStart => exact ⟨0, Nat.zero_le _, rfl, HPU.out⟩
          case round =>
            obtain ⟨k, hk, rfl, hpu⟩ := hrel
            by_cases hlt : k < z.args_.length
            · obtain rfl : VA = some ⟨gV, 0, none⟩ := by
                rcases HVA.out with h | h
                · omega
                · exact h
              have hqk : (kids gV 0 z.args_)[k]? = some ((gV, 0 + 3 * k), z.args_[k]) := by rw [kids_at, List.getElem?_eq_getElem hlt]; rfl
              have hptr : ptrV ((gV, 0 + 3 * k), z.args_[k]) = .pointer (some ⟨gV, k * 3, none⟩) := by rw [ptrV, Nat.zero_add, Nat.mul_comm]
              have HPN := Lib.hid (fun (v' : Value) (w' : World) (O : Obj) => pushNext (v' := v') (w' := w') (O := O) hpu hqk)
              rw [hptr] at HPN
              obtain ⟨h1, h2, h3, h4, h5, h6, h7, h8, h9, h10, h11⟩ := hpu
              have hbase : w.heap.size + 2 ≤ wr.heap.size + 1 := by have := h6 _ h7; omega
              have HO2 := Lib.hid (h2.alloc (.cells #[.pointer (some ⟨gV, k * 3, none⟩)] 113))
              have HNW := Lib.hid (news_one wr 113 (.pointer (some ⟨gV, k * 3, none⟩)))
              have hkl : ps0.length + k + 1 ≤ 4294967296 := by omega
              clear hqk hptr h1 h2 h3 h4 h5 h6 h7 h8 h11
              go_wp2_with (at_builtin; refine wpList_append_any rfl (.tmp 61) (.tmp 68) 114 rfl (w.heap.size + 2) 113 j0 (.pointer none) 1 8 Try.underlying114 hj hy0 hy1 hy2 rfl (by decide) u5 (ps0.length + k) _ rfl HO2.out (some ⟨wr.heap.size, 0, none⟩) 1 1 [.pointer (some ⟨gV, k * 3, none⟩)] rfl rfl (.inr ⟨_, rfl, HNW.out⟩) (by simp [Value.oneCell']) (by unfold maxLen; omega) (by omega) (by simpa using hbase) (wr.heap.size + 1) (by simp) ?_)
              intro v' w4 hown4 hgrow4 hat4
              have hnx := HPN.out v' w4 _ (by simpa using hown4) hgrow4 (by rw [World.size_alloc]; exact hat4)
              have HNX := Lib.hid hnx
              clear hown4 hgrow4 hat4 hnx h9
              go_wp2
              go_roundw
              case rel => exact ⟨k + 1, by omega, by go_num, HNX.out⟩
              case measure => simp [Go.RowKit.intOf]; omega
            · obtain rfl : k = z.args_.length := by omega
              have hdone := pushDone (by rw [kids_length]; exact hpu)
              have HD := Lib.hid hdone
              clear hpu hdone
              go_wp2
              go_roundg (TypeX.sizeL ((ps0 ++ kids gV 0 z.args_).map (·.2)))
              case measure => exact (HM2.out gV).1
              case rel => exact ⟨HD.out, (HM2.out gV).2⟩
end Go.Proofs.Ytmacnanocofoaaa

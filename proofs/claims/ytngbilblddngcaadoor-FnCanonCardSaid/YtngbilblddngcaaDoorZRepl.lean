/- The program's rewrite: a stack of places in the result, each changed by a function that is handed over. -/
import Derived.Test.YtngbilblddngcaaDoorZHole
import Derived.Test.YtngbilblddngcaaDoorQ1
import Derived.Deep.LoopGhost
import Derived.Deep.CutRange
namespace Go.Proofs.YtngbilblddngcaaDoor
open Go.RowKit Go.Lib

/-- What the look-up of a name in the map answers, whatever the call has made since. -/
def LooksAs (sv : Value) (f : ByteArray → Option TypeX) (w : World) : Prop := ∀ s : ByteArray,
  ∃ (k : Int) (n : ByteArray) (A : Option Addr) (m c : Nat) (bb : Bool), (∀ wr : World, Below w.heap.size w wr → (Instr.lookup 62 sv (.string s) true).run Tryd.prog wr = .ok (.tuple #[.agg #[.int .i64 k, .string n, .slice A m c], .bool bb]) wr) ∧
    ((bb = false ∧ f s = none) ∨ (bb = true ∧ ∃ y, f s = some y ∧ k = y.kind_ ∧ n = y.name_ ∧ m = y.args_.length ∧ TypeRow w (Und w.heap.size) A c y.args_))
def ptrV (q : Pl × TypeX) : Value := .pointer (some ⟨q.1.1, q.1.2, none⟩)
/-- What is to come true: at the head of block B the result, in memory of its own. -/
def OutAt (B : Nat) (y : TypeX) (T : List Nat) (w : World) : Prop := ∃ bs, DoneAt w B (B, 0) y bs ∧ bs.Nodup ∧ ∀ b ∈ bs, b ∉ T
theorem room_free {B : Nat} {T : List Nat} {w : World} (h : Room B T w) {b : Nat} (hb : b ∈ T) (o : Nat) : w.frozen? ⟨b, o, none⟩ = false := by
  obtain ⟨_, cs, t, hc⟩ := h b hb
  simp [World.frozen?, hc]

/-- From w to w': all blocks below B but those of M are as they were. -/
structure KeptM (M : Nat → Prop) (B : Nat) (w w' : World) : Prop where
  os : w'.os = w.os
  tape : w'.tape = w.tape
  output : w'.output = w.output
  size : w.heap.size ≤ w'.heap.size
  block : ∀ k, k < B → ¬ M k → w'.heap[k]? = w.heap[k]?
theorem KeptM.refl (M : Nat → Prop) (B : Nat) (w : World) : KeptM M B w w := ⟨rfl, rfl, rfl, Nat.le_refl _, fun _ _ _ => rfl⟩
theorem KeptM.trans {M : Nat → Prop} {B : Nat} {a b c : World} (h : KeptM M B a b) (k : KeptM M B b c) : KeptM M B a c :=
  ⟨k.os.trans h.os, k.tape.trans h.tape, k.output.trans h.output, Nat.le_trans h.size k.size, fun i hi hm => (k.block i hi hm).trans (h.block i hi hm)⟩
theorem KeptM.of_below {M : Nat → Prop} {B : Nat} {w w' : World} (h : Below B w w') : KeptM M B w w' := ⟨h.os, h.tape, h.output, h.size, fun k hk _ => h.block k hk⟩
theorem KeptM.below {M : Nat → Prop} {B : Nat} {w w' : World} (h : KeptM M B w w') (hM : ∀ k, k < B → ¬ M k) : Below B w w' := ⟨h.os, h.tape, h.output, h.size, fun k hk => h.block k hk (hM k hk)⟩
theorem KeptM.mono {M N : Nat → Prop} {B B' : Nat} {w w' : World} (h : KeptM M B w w') (hB : B' ≤ B) (hM : ∀ k, k < B' → M k → N k) : KeptM N B' w w' := ⟨h.os, h.tape, h.output, h.size, fun k hk hn => h.block k (Nat.lt_of_lt_of_le hk hB) fun hm => hn (hM k hk hm)⟩
theorem KeptM.cell {M : Nat → Prop} {B : Nat} {w w' : World} (h : KeptM M B w w') {b : Nat} (hb : b < B) (hm : ¬ M b) (o : Nat) : w'.cell? ⟨b, o, none⟩ = w.cell? ⟨b, o, none⟩ := World.cell?_of_block (a := ⟨b, o, none⟩) (h.block b hb hm)
theorem KeptM.setCell {M : Nat → Prop} {B : Nat} {w : World} {g o : Nat} (h : B ≤ g ∨ M g) (v : Value) : KeptM M B w (w.setCell ⟨g, o, none⟩ v) :=
  ⟨rfl, rfl, rfl, by simp [World.setCell], fun k hk hm => Below.heap_setCell _ _ _ _ (fun e => by
    have e : k = g := e
    subst e
    rcases h with h | h
    · omega
    · exact hm h)⟩

/-- What a change does at a place: either the walk goes on below what now lies there, or the place is done. -/
def ChgPost (M P : Nat → Prop) (I : World → Prop) (out : TypeX → TypeX) (m : TypeX → Nat) (qb qo : Nat) (x : TypeX) (W : World) (e : Ending) (W' : World) : Prop :=
  KeptM (fun b => M b ∨ b = qb) W.heap.size W W' ∧ Hold [qb] [(qb, qo)] W W' ∧ I W' ∧
    ((e = .returned (.bool true) ∧ ∃ x' : TypeX, out x = .mk x'.kind_ x'.name_ (x'.args_.map out) ∧ (x'.args_.map m).sum + 1 ≤ m x ∧ PendAt W' P (qb, qo) x') ∨
     (e = .returned (.bool false) ∧ ∃ bs, DoneAt W' W.heap.size (qb, qo) (out x) bs ∧ bs.Nodup))
/-- The function that is handed over: M: the blocks that it may turn; P: where the arguments lie. -/
def Changes (cf : FuncId) (lb : Array Value) (M P : Nat → Prop) (I : World → Prop) (out : TypeX → TypeX) (m : TypeX → Nat) (w : World) : Prop :=
  ∀ (W : World) (qb qo : Nat) (x : TypeX) (cs : Array Value) (t : TypeId), I W → KeptM M w.heap.size w W → w.heap.size ≤ qb → W.heap[qb]? = some (.cells cs t (0, 0)) → PendAt W P (qb, qo) x → m x ≤ 4294967296 →
    Calls Tryd.prog cf (#[.pointer (some ⟨qb, qo, none⟩)] ++ lb) W (ChgPost M P I out m qb qo x W)
/-- A result in memory of its own; but for M all is as it was. -/
def MadeM (M : Nat → Prop) (I : World → Prop) (d : List DV) (w : World) (e : Ending) (w' : World) : Prop :=
  ∃ (vs : List Value) (bs : List Nat), e = .returned (.agg vs.toArray) ∧ OwVs w' w.heap.size d vs bs ∧ bs.Nodup ∧ KeptM M w.heap.size w w' ∧ I w'
def sumM (m : TypeX → Nat) (l : List TypeX) : Nat := (l.map m).sum
theorem sumM_nil (m : TypeX → Nat) : sumM m [] = 0 := rfl
theorem sumM_append (m : TypeX → Nat) (l r : List TypeX) : sumM m (l ++ r) = sumM m l + sumM m r := by simp [sumM]
theorem sumM_one (m : TypeX → Nat) (x : TypeX) : sumM m [x] = m x := by simp [sumM]
theorem sumM_length {m : TypeX → Nat} (hm : ∀ x, 1 ≤ m x) : ∀ l : List TypeX, l.length ≤ sumM m l
  | [] => Nat.le_refl _
  | x :: r => by
    have h1 := hm x
    have h2 := sumM_length hm r
    simp only [sumM, List.map_cons, List.sum_cons, List.length_cons] at h2 ⊢
    omega

/-- The relation of the walk's loop: what lies on the stack, and what it is good for. -/
def ReplAt (B : Nat) (M P : Nat → Prop) (I : World → Prop) (out : TypeX → TypeX) (m : TypeX → Nat) (y : TypeX) (w : World) (gk : Nat) (v : Value) (wr : World) : Prop :=
  ∃ (ps : List (Pl × TypeX)) (T : List Nat), Hole B P out T ps wr (OutAt B y [B, B + 1]) ∧ wr.ownsRow (B + 2) 97 1 v ps.length (ps.map ptrV) ∧ (∀ b, v.ownBlock = some b → b ∉ T) ∧ gk = sumM m (ps.map (·.2)) ∧ KeptM M B w wr ∧ Whole wr (B + 1) 26 #[.int .i64 0, .string ByteArray.empty, .slice none 0 0] ∧ (∀ b ∈ T, b < wr.heap.size) ∧ B + 1 ∈ T ∧ (∀ q ∈ ps, q.1.1 ≠ B + 1) ∧ I wr

/-- A result's three cells written, whatever its block. -/
theorem tyEndY {w w3 : World} {X : Nat} {a b c : Value} {k : Int} {s : ByteArray} {A : Option Addr} {n cc : Nat} (hx : Whole w3 X 26 #[a, b, c]) (hX : w.heap.size ≤ X) (hb : Below w.heap.size w w3) :
    ∀ w4, w4 = ((w3.setCell ⟨X, 0, none⟩ (.int .i64 k)).setCell ⟨X, 1, none⟩ (.string s)).setCell ⟨X, 2, none⟩ (.slice A n cc) →
      w4.cell? ⟨X, 0, none⟩ = some (.int .i64 k) ∧ w4.cell? ⟨X, 1, none⟩ = some (.string s) ∧ w4.cell? ⟨X, 2, none⟩ = some (.slice A n cc) ∧ But X w3 w4 ∧ Below w.heap.size w w4 := by
  rintro w4 rfl
  have hx3 : Whole (((w3.setCell ⟨X, 0, none⟩ (.int .i64 k)).setCell ⟨X, 1, none⟩ (.string s)).setCell ⟨X, 2, none⟩ (.slice A n cc)) X 26 #[.int .i64 k, .string s, .slice A n cc] := by
    simpa using ((hx.set_ 0 (.int .i64 k)).set_ 1 (.string s)).set_ 2 (.slice A n cc)
  obtain ⟨e0, e1, e2⟩ := cells3 hx3
  exact ⟨e0, e1, e2, ((But.set_ _ _ 0 _).trans (But.set_ _ _ 1 _)).trans (But.set_ _ _ 2 _), ((hb.setCell (p := ⟨X, 0, none⟩) hX _).setCell (p := ⟨X, 1, none⟩) hX _).setCell (p := ⟨X, 2, none⟩) hX _⟩
/-- A result's three cells written: all else stands. -/
theorem tyEndB {w3 : World} {X : Nat} {a b c : Value} {k : Int} {s : ByteArray} {A : Option Addr} {n cc : Nat} (hx : Whole w3 X 26 #[a, b, c]) :
    ∀ w4, w4 = ((w3.setCell ⟨X, 0, none⟩ (.int .i64 k)).setCell ⟨X, 1, none⟩ (.string s)).setCell ⟨X, 2, none⟩ (.slice A n cc) →
      w4.cell? ⟨X, 0, none⟩ = some (.int .i64 k) ∧ w4.cell? ⟨X, 1, none⟩ = some (.string s) ∧ w4.cell? ⟨X, 2, none⟩ = some (.slice A n cc) ∧ But X w3 w4 := by
  rintro w4 rfl
  have hx3 : Whole (((w3.setCell ⟨X, 0, none⟩ (.int .i64 k)).setCell ⟨X, 1, none⟩ (.string s)).setCell ⟨X, 2, none⟩ (.slice A n cc)) X 26 #[.int .i64 k, .string s, .slice A n cc] := by
    simpa using ((hx.set_ 0 (.int .i64 k)).set_ 1 (.string s)).set_ 2 (.slice A n cc)
  obtain ⟨e0, e1, e2⟩ := cells3 hx3
  exact ⟨e0, e1, e2, ((But.set_ _ _ 0 _).trans (But.set_ _ _ 1 _)).trans (But.set_ _ _ 2 _)⟩
theorem cells_addr {w : World} {P : Nat → Prop} {A : Option Addr} {n : Nat} {us : List Value} (h : n = 0 ∨ ∃ b o, A = some ⟨b, o, none⟩ ∧ P b ∧ ∀ (j : Nat) (u : Value), us[j]? = some u → w.cell? ⟨b, o + j, none⟩ = some u) :
    n = 0 ∨ ∃ ad, A = some ad ∧ ∀ (j : Nat) (u : Value), us[j]? = some u → w.cell? (ad.add j) = some u := by
  rcases h with h | ⟨b, o, rfl, hP, h3⟩
  · exact .inl h
  · refine .inr ⟨_, rfl, fun j u hj => ?_⟩
    rw [Go.WideShapes.add_plain]
    exact h3 j u hj
/-- What a call made, its blocks named. -/
theorem madeT_get {x : TypeX} {w w' : World} {e : Ending} (h : MadeV x.cells w e w') : ∃ (vs : List Value) (bs : List Nat) (A : Option Addr) (c : Nat), vs = [.int .i64 x.kind_, .string x.name_, .slice A x.args_.length c] ∧ e = .returned (.agg vs.toArray) ∧ OwVs w' w.heap.size x.cells vs bs ∧ bs.Nodup ∧ Below w.heap.size w w' := by
  obtain ⟨vs, bs, rfl, ho, hn, hb⟩ := h
  obtain ⟨A, c, e, hr⟩ := TypeAt.of_reads (OwVs_read (P := Und w'.heap.size) x.cells (fun b hb' => (OwVs_lt x.cells ho b hb').2) ho)
  exact ⟨vs, bs, A, c, by injection e with e; injection e, rfl, ho, hn, hb⟩
theorem hold_below {B : Nat} {T : List Nat} {w w' : World} (hr : Room B T w) (hb : Below w.heap.size w w') : Hold T [] w w' := Hold.same fun b h => hb.block b (hr.lt h)
theorem hold_sets {B : Nat} {T : List Nat} {w w3 : World} {qb qo : Nat} {u0 u1 u2 : Value} (hr : Room B T w) (hb : Below w.heap.size w w3) :
    Hold T [(qb, qo)] w (((w3.setCell ⟨qb, qo, none⟩ u0).setCell ⟨qb, qo + 1, none⟩ u1).setCell ⟨qb, qo + 2, none⟩ u2) := by
  have h0 := hold_set (T := T) (p := (qb, qo)) w3 (i := 0) (by decide) u0
  have h1 := hold_set (T := T) (p := (qb, qo)) (w3.setCell ⟨qb, qo, none⟩ u0) (i := 1) (by decide) u1
  have h2 := hold_set (T := T) (p := (qb, qo)) ((w3.setCell ⟨qb, qo, none⟩ u0).setCell ⟨qb, qo + 1, none⟩ u1) (i := 2) (by decide) u2
  have nil : ∀ b o, inPl [] b o → inPl [(qb, qo)] b o := fun _ _ ⟨_, hp, _⟩ => by simp at hp
  exact (((hold_below hr hb).trans h0 (fun _ h => h) nil (fun _ _ _ h => h)).trans h1 (fun _ h => h) (fun _ _ h => h) (fun _ _ _ h => h)).trans h2 (fun _ h => h) (fun _ _ h => h) (fun _ _ _ h => h)
theorem hold_set2 {B : Nat} {T : List Nat} {w w3 : World} {qb qo : Nat} {u2 : Value} (hr : Room B T w) (hb : Below w.heap.size w w3) : Hold T [(qb, qo)] w (w3.setCell ⟨qb, qo + 2, none⟩ u2) := by
  have h2 := hold_set (T := T) (p := (qb, qo)) w3 (i := 2) (by decide) u2
  exact (hold_below hr hb).trans h2 (fun _ h => h) (fun _ _ ⟨_, hp, _⟩ => by simp at hp) (fun _ _ _ h => h)
theorem own_down {w : World} {B B' size n : Nat} {e : TypeId} {v : Value} {xs : List Value} (h : w.ownsRow B e size v n xs) (hB : B' ≤ B) : w.ownsRow B' e size v n xs := by
  refine ⟨h.1, ?_⟩
  rcases h.2 with hn | ⟨g, cap, cur, rfl, hbg, rest⟩
  · exact .inl hn
  · exact .inr ⟨g, cap, cur, rfl, by omega, rest⟩
theorem own_elsewhere {w w' : World} {B size n g : Nat} {e : TypeId} {v : Value} {xs : List Value} (h : w.ownsRow B e size v n xs) (hb : But g w w') (hg : v.ownBlock ≠ some g) : w'.ownsRow B e size v n xs :=
  own_same h fun b hv => hb.block b (h.lt b hv).2 fun e => hg (by rw [hv, e])
theorem cells_row {w : World} {g : Nat} {cs : Array Value} {t : TypeId} (h : w.heap[g]? = some (.cells cs t (0, 0))) (i : Nat) : w.cell? ⟨g, i, none⟩ = cs[i]? := cell_rows h
/-- Three cells of one block written. -/
theorem sets_at {w : World} {B : Nat} {T : List Nat} {qb qo : Nat} {a0 a1 a2 u0 u1 u2 : Value} (hr : Room B T w) (hq : qb ∈ T) (h0 : w.cell? ⟨qb, qo, none⟩ = some a0) (h1 : w.cell? ⟨qb, qo + 1, none⟩ = some a1) (h2 : w.cell? ⟨qb, qo + 2, none⟩ = some a2) :
    ∀ w4, w4 = ((w.setCell ⟨qb, qo, none⟩ u0).setCell ⟨qb, qo + 1, none⟩ u1).setCell ⟨qb, qo + 2, none⟩ u2 → w4.cell? ⟨qb, qo, none⟩ = some u0 ∧ w4.cell? ⟨qb, qo + 1, none⟩ = some u1 ∧ w4.cell? ⟨qb, qo + 2, none⟩ = some u2 := by
  rintro w4 rfl
  obtain ⟨_, cs, t, hc⟩ := hr qb hq
  have hw : Whole w qb t cs := hc
  rw [cells_row hc] at h0 h1 h2
  have l0 := (Array.getElem?_eq_some_iff.1 h0).1
  have l1 := (Array.getElem?_eq_some_iff.1 h1).1
  have l2 := (Array.getElem?_eq_some_iff.1 h2).1
  have h3 := ((hw.set_ qo u0).set_ (qo + 1) u1).set_ (qo + 2) u2
  refine ⟨?_, ?_, ?_⟩
  · rw [h3.cell]; simp [l0]
  · rw [h3.cell]; simp [l1]
  · rw [h3.cell]; simp [l2]
theorem set_at {w : World} {B : Nat} {T : List Nat} {qb o : Nat} {a u : Value} (hr : Room B T w) (hq : qb ∈ T) (h0 : w.cell? ⟨qb, o, none⟩ = some a) : (w.setCell ⟨qb, o, none⟩ u).cell? ⟨qb, o, none⟩ = some u := by
  obtain ⟨_, cs, t, hc⟩ := hr qb hq
  have hw : Whole w qb t cs := hc
  rw [cells_row hc] at h0
  have l0 := (Array.getElem?_eq_some_iff.1 h0).1
  rw [(hw.set_ o u).cell]
  simp [l0]
theorem set_other {w : World} {qb o o' : Nat} {u : Value} (h : o ≠ o') : (w.setCell ⟨qb, o, none⟩ u).cell? ⟨qb, o', none⟩ = w.cell? ⟨qb, o', none⟩ := World.cell?_setCell_other _ _ _ _ (fun e => h (by injection e))


/-- What a change at the last place leaves of the rest. -/
theorem chg_hold {M P : Nat → Prop} {out : TypeX → TypeX} {B qb qo : Nat} {z : TypeX} {T : List Nat} {ps0 : List (Pl × TypeX)} {wr w3 : World} {R : World → Prop}
    (hh : Hole B P out T (ps0 ++ [((qb, qo), z)]) wr R) (hM : ∀ b, M b → b < B) (hTl : ∀ b ∈ T, b < wr.heap.size) (hk : KeptM (fun b => M b ∨ b = qb) wr.heap.size wr w3) (hq : Hold [qb] [(qb, qo)] wr w3) : Hold T [(qb, qo)] wr w3 := by
  intro b hb cs t hc
  by_cases e : b = qb
  · subst e; exact hq b (List.mem_singleton.2 rfl) cs t hc
  · exact ⟨cs, (hk.block b (hTl b hb) (fun h => by
      rcases h with h | h
      · have := hM b h; have := (hh.room b hb).1; omega
      · exact e h)).trans hc, rfl, fun _ _ => rfl⟩
/-- The place is done. -/
theorem replValue {M P : Nat → Prop} {I : World → Prop} {out : TypeX → TypeX} {m : TypeX → Nat} {y : TypeX} {w wr w3 : World} {ps0 : List (Pl × TypeX)} {qb qo : Nat} {z : TypeX} {T : List Nat} {v : Value} {bs : List Nat}
    (hP : ∀ b, P b → b < w.heap.size ∧ ¬ M b) (hM : ∀ b, M b → b < w.heap.size)
    (hh : Hole w.heap.size P out T (ps0 ++ [((qb, qo), z)]) wr (OutAt w.heap.size y [w.heap.size, w.heap.size + 1])) (ho : wr.ownsRow (w.heap.size + 2) 97 1 v ps0.length (ps0.map ptrV))
    (hvT : ∀ b, v.ownBlock = some b → b ∉ T) (hb : KeptM M w.heap.size w wr) (hw2 : Whole wr (w.heap.size + 1) 26 #[.int .i64 0, .string ByteArray.empty, .slice none 0 0]) (hTl : ∀ b ∈ T, b < wr.heap.size) (hT1 : w.heap.size + 1 ∈ T) (hne : ∀ q ∈ ps0 ++ [((qb, qo), z)], q.1.1 ≠ w.heap.size + 1)
    (hk : KeptM (fun b => M b ∨ b = qb) wr.heap.size wr w3) (hq : Hold [qb] [(qb, qo)] wr w3) (hi : I w3) (hd : DoneAt w3 wr.heap.size (qb, qo) (out z) bs) (hn : bs.Nodup) :
    ReplAt w.heap.size M P I out m y w (sumM m (ps0.map (·.2))) v w3 := by
  have hqT : qb ∈ T := hh.inT ((qb, qo), z) (by simp)
  have hBq : w.heap.size ≤ qb := (hh.room qb hqT).1
  have hhold := chg_hold hh hM hTl hk hq
  have hs := hb.size
  have hb3 : KeptM M w.heap.size w w3 := hb.trans (hk.mono hs fun k hk' h => h.elim id fun e => by omega)
  have hfar : ∀ b, w.heap.size ≤ b → b < wr.heap.size → b ≠ qb → w3.heap[b]? = wr.heap[b]? := fun b h1 h2 h3 => hk.block b h2 fun h => by
    rcases h with h | h
    · have := hM b h; omega
    · exact h3 h
  obtain ⟨vs, hO, hc⟩ := hd
  have hbl : ∀ b ∈ bs, wr.heap.size ≤ b ∧ b < w3.heap.size := OwVs_lt _ hO
  have hown : w3.ownsRow (w.heap.size + 2) 97 1 v ps0.length (ps0.map ptrV) := own_same ho fun b hv => hfar b (by have := (ho.lt b hv).1; omega) (ho.lt b hv).2 fun e => hvT b hv (e ▸ hqT)
  refine ⟨ps0, bs ++ T, hh.value hhold ?_ ⟨vs, OwVs_wide hs _ hO, hc⟩ hn ?_, hown, ?_, rfl, hb3, ?_, ?_, List.mem_append_right _ hT1, fun q hq' => hne q (List.mem_append_left _ hq'), hi⟩
  · intro b o hP'
    exact (hb3.cell (hP b hP').1 (hP b hP').2 o).trans (hb.cell (hP b hP').1 (hP b hP').2 o).symm
  · exact fun b hb' hT => by have := (hbl b hb').1; have := hTl b hT; omega
  · intro b hv hm'
    rcases List.mem_append.1 hm' with h | h
    · have := (hbl b h).1; have := (ho.lt b hv).2; omega
    · exact hvT b hv h
  · exact (hfar _ (by omega) (hTl _ hT1) (fun e => hne ((qb, qo), z) (by simp) e.symm)).trans hw2
  · intro b hb'
    have := hk.size
    rcases List.mem_append.1 hb' with h | h
    · exact (hbl b h).2
    · have := hTl b h; omega

/-- The relation of the inner loop: so many of the new places lie on the stack. -/
def PushAt (M P : Nat → Prop) (I : World → Prop) (out : TypeX → TypeX) (y : TypeX) (w : World) (T : List Nat) (ps0 ks : List (Pl × TypeX)) (qb qo : Nat) (V : Value) (k : Nat) (v : Value) (wr : World) : Prop :=
  Hole w.heap.size P out T (ps0 ++ ks) wr (OutAt w.heap.size y [w.heap.size, w.heap.size + 1]) ∧ wr.ownsRow (w.heap.size + 2) 97 1 v (ps0.length + k) ((ps0 ++ ks.take k).map ptrV) ∧ (∀ b, v.ownBlock = some b → b ∉ T) ∧ KeptM M w.heap.size w wr ∧
    Whole wr (w.heap.size + 1) 26 #[.int .i64 0, .string ByteArray.empty, .slice none 0 0] ∧ (∀ b ∈ T, b < wr.heap.size) ∧ w.heap.size + 1 ∈ T ∧ (∀ q ∈ ps0 ++ ks, q.1.1 ≠ w.heap.size + 1) ∧ wr.cell? ⟨qb, qo + 2, none⟩ = some V ∧ qb < wr.heap.size ∧ qb ∈ T ∧ I wr
/-- The walk goes on below: the arguments of what lies there are copied, the place is parted. -/
theorem replPart {M P : Nat → Prop} {I : World → Prop} {out : TypeX → TypeX} {y : TypeX} {w wr w3 : World} {ps0 : List (Pl × TypeX)} {qb qo : Nat} {z x : TypeX} {T : List Nat} {v : Value} {VA : Option Addr} {vn vc : Nat} {us : List Value}
    (hP : ∀ b, P b → b < w.heap.size ∧ ¬ M b) (hM : ∀ b, M b → b < w.heap.size) (hI : ∀ W W', I W → Below w.heap.size W W' → I W')
    (hh : Hole w.heap.size P out T (ps0 ++ [((qb, qo), z)]) wr (OutAt w.heap.size y [w.heap.size, w.heap.size + 1])) (ho : wr.ownsRow (w.heap.size + 2) 97 1 v ps0.length (ps0.map ptrV))
    (hvT : ∀ b, v.ownBlock = some b → b ∉ T) (hb : KeptM M w.heap.size w wr) (hw2 : Whole wr (w.heap.size + 1) 26 #[.int .i64 0, .string ByteArray.empty, .slice none 0 0]) (hTl : ∀ b ∈ T, b < wr.heap.size) (hT1 : w.heap.size + 1 ∈ T) (hne : ∀ q ∈ ps0 ++ [((qb, qo), z)], q.1.1 ≠ w.heap.size + 1)
    (hout : out z = .mk x.kind_ x.name_ (x.args_.map out)) {w2 : World} (hk : KeptM (fun b => M b ∨ b = qb) wr.heap.size wr w2) (hq : Hold [qb] [(qb, qo)] wr w2) (hi : I w2) (hp : PendAt w2 P (qb, qo) x)
    (hb23 : Below w2.heap.size w2 w3) (hO : w3.ownsRow w2.heap.size 26 3 (.slice VA vn vc) x.args_.length us) (he : ElemsT w3 P x.args_ us) :
    ∀ w4, w4 = w3.setCell ⟨qb, qo + 2, none⟩ (.slice VA vn vc) → vn = x.args_.length ∧ (x.args_.length = 0 ∨ VA = some ⟨((Value.slice VA vn vc).ownBlock.getD 0), 0, none⟩) ∧ x.args_.length ≤ vc ∧ vc ≤ 9223372036854775807 ∧
      PushAt M P I out y w ((Value.slice VA vn vc).ownBlock.toList ++ T) ps0 (kids ((Value.slice VA vn vc).ownBlock.getD 0) 0 x.args_) qb qo (.slice VA vn vc) 0 v w4 := by
  intro w4 h4
  have hqT : qb ∈ T := hh.inT ((qb, qo), z) (by simp)
  have hBq : w.heap.size ≤ qb := (hh.room qb hqT).1
  have hql := hTl qb hqT
  have hs := hb.size
  have hs2 := hk.size
  have hs3 := hb23.size
  have hbut : But qb w3 w4 := by rw [h4]; exact But.set_ _ _ _ _
  have hs4 := hbut.size
  have hhold := chg_hold hh hM hTl hk hq
  have hroom2 : Room w.heap.size T w2 := hh.room.hold hhold
  have hT2 : ∀ b ∈ T, b < w2.heap.size := fun b hb' => by have := hTl b hb'; omega
  have hroom3 : Room w.heap.size T w3 := fun b hb' => by rw [hb23.block b (hT2 b hb')]; exact hroom2 b hb'
  have hVl := hO.lt
  have hk2 : KeptM M w.heap.size w w2 := hb.trans (hk.mono hs fun k hk' h => h.elim id fun e => by omega)
  have hb24 : Below w.heap.size w2 w4 := (hb23.mono (by omega)).trans (hbut.to_below hBq (by omega))
  have hb4 : KeptM M w.heap.size w w4 := hk2.trans (KeptM.of_below hb24)
  have hfar : ∀ b, w.heap.size ≤ b → b < wr.heap.size → b ≠ qb → w4.heap[b]? = wr.heap[b]? := fun b h1 h2 h3 => (hbut.block b (by omega) h3).trans ((hb23.block b (by omega)).trans (hk.block b h2 fun h => by
    rcases h with h | h
    · have := hM b h; omega
    · exact h3 h))
  have hVT : ∀ b, (Value.slice VA vn vc).ownBlock = some b → b ∉ T := fun b hv hT => by have := (hVl b hv).1; have := hTl b hT; omega
  have hO4 : w4.ownsRow w.heap.size 26 3 (.slice VA vn vc) x.args_.length us := own_down (own_elsewhere hO hbut (fun e => by have := (hVl _ e).1; omega)) (by omega)
  have hpc : ∀ i, i < 3 → w3.cell? ⟨qb, qo + i, none⟩ = w2.cell? ⟨qb, qo + i, none⟩ := fun i _ => hb23.cell (p := ⟨qb, qo + i, none⟩) (hT2 _ hqT)
  obtain ⟨Aq, cq, p0, p1, p2, hrow⟩ := hp
  have hPc : ∀ b o, P b → w4.cell? ⟨b, o, none⟩ = wr.cell? ⟨b, o, none⟩ := fun b o hP' => (hb4.cell (hP b hP').1 (hP b hP').2 o).trans (hb.cell (hP b hP').1 (hP b hP').2 o).symm
  have hshape : vn = x.args_.length ∧ (x.args_.length = 0 ∨ VA = some ⟨((Value.slice VA vn vc).ownBlock.getD 0), 0, none⟩) ∧ x.args_.length ≤ vc ∧ vc ≤ 9223372036854775807 := by
    rcases hO.2 with ⟨h1, h2⟩ | ⟨g', cap', cur, h1, _, _, h3, h4, _⟩
    · injection h1 with h1 h5 h6
      subst h1 h5 h6
      exact ⟨h2.symm, .inl h2, by omega, by omega⟩
    · injection h1 with h1 h5 h6
      subst h1 h5 h6
      unfold maxLen at h4
      exact ⟨rfl, .inr (by simp [Value.ownBlock]), h3, by omega⟩
  have hH4 : Hold T [(qb, qo)] wr w4 := by
    refine (hhold.trans (S := T) (qs := [(qb, qo)]) ?_ (fun _ h => h) (fun _ _ h => h) (fun _ _ _ h => h))
    have h1 : Hold T [(qb, qo)] w2 w3 := Hold.same fun b hb' => hb23.block b (hT2 b hb')
    refine h1.trans (S := T) (qs := [(qb, qo)]) ?_ (fun _ h => h) (fun _ _ h => h) (fun _ _ _ h => h)
    rw [h4]
    exact hold_set (p := (qb, qo)) w3 (i := 2) (by decide) _
  refine ⟨hshape.1, hshape.2.1, hshape.2.2.1, hshape.2.2.2, hh.part (q := ((qb, qo), z)) (x := x) hout hH4 hPc hO4 ?_ hVT ?_ ?_ ?_, ?_, ?_, hb4, ?_, ?_, List.mem_append_right _ hT1, ?_, ?_, by omega, List.mem_append_right _ hqT, hI _ _ hi hb24⟩
  · exact he.frame (fun _ h => h) fun b o hP' => World.cell?_of_block (a := ⟨b, o, none⟩) (hbut.block b (by have := (hP b hP').1; omega) (by have := (hP b hP').1; omega))
  · rw [h4]; show (World.setCell w3 _ _).cell? ⟨qb, qo, none⟩ = _; rw [set_other (by omega)]; exact (hpc 0 (by decide)).trans p0
  · rw [h4]; show (World.setCell w3 _ _).cell? ⟨qb, qo + 1, none⟩ = _; rw [set_other (by omega)]; exact (hpc 1 (by decide)).trans p1
  · rw [h4]; exact set_at hroom3 hqT ((hpc 2 (by decide)).trans p2)
  · rw [List.take_zero, List.append_nil]
    exact own_same ho fun b hv => hfar b (by have := (ho.lt b hv).1; omega) (ho.lt b hv).2 fun e => hvT b hv (e ▸ hqT)
  · intro b hb' hm
    rcases List.mem_append.1 hm with hm | hm
    · have := (hVl b (by simpa using hm)).1; have := (ho.lt b hb').2; omega
    · exact hvT b hb' hm
  · exact (hfar _ (by omega) (hTl _ hT1) (fun e => hne ((qb, qo), z) (by simp) e.symm)).trans hw2
  · intro b hb'
    rcases List.mem_append.1 hb' with hb' | hb'
    · have := (hVl b (by simpa using hb')).2; omega
    · have := hTl b hb'; omega
  · intro q hq'
    rcases List.mem_append.1 hq' with hq' | hq'
    · exact hne q (List.mem_append_left _ hq')
    · rw [(kids_mem hq').1]
      have hpos : x.args_ ≠ [] := by rintro e; rw [e] at hq'; simp [kids] at hq'
      have hw1 := hTl _ hT1
      rcases hshape.2.1 with h | h
      · exact absurd (List.eq_nil_of_length_eq_zero h) hpos
      · cases VA with
        | none => cases h
        | some a =>
          have := (hVl a.block rfl).1
          show a.block ≠ _
          omega
  · rw [h4]; exact set_at hroom3 hqT ((hpc 2 (by decide)).trans p2)
/-- One place more on the stack. -/
theorem pushNext {M P : Nat → Prop} {I : World → Prop} {out : TypeX → TypeX} {y : TypeX} {w wr w' : World} {T : List Nat} {ps0 ks : List (Pl × TypeX)} {qb qo : Nat} {V : Value} {k : Nat} {v v' : Value} {q : Pl × TypeX} {O : Obj}
    (hP : ∀ b, P b → b < w.heap.size ∧ ¬ M b) (hI : ∀ W W', I W → Below w.heap.size W W' → I W') (h : PushAt M P I out y w T ps0 ks qb qo V k v wr) (hk : ks[k]? = some q)
    (hown : w'.ownsRow (w.heap.size + 2) 97 1 v' (ps0.length + k + 1) ((ps0 ++ ks.take k).map ptrV ++ [ptrV q])) (hg : (wr.alloc O).grownBy w' v.ownBlock) (hv' : v'.ownBlock = v.ownBlock ∨ v'.ownBlock = some (wr.alloc O).heap.size) : PushAt M P I out y w T ps0 ks qb qo V (k + 1) v' w' := by
  obtain ⟨h1, h2, h3, h4, h5, h6, h7, h8, h9, h10, h11, h12⟩ := h
  have hs := hg.size
  have hs4 := h4.size
  rw [World.size_alloc] at hs hv'
  have same : ∀ b ∈ T, w'.heap[b]? = wr.heap[b]? := fun b hb => (hg.block b (by rw [World.size_alloc]; have := h6 b hb; omega) (fun e => h3 b e.symm hb)).trans (Below.heap_alloc _ _ _ (h6 b hb))
  have hbr : Below w.heap.size wr w' := ((Below.refl _ _).alloc hs4 O).grown hg (by rw [World.size_alloc]; omega) (fun j e => by have := (h2.lt j e).1; omega)
  have hb' : KeptM M w.heap.size w w' := h4.trans (KeptM.of_below hbr)
  refine ⟨h1.frame same fun b o hP' => hbr.cell (p := ⟨b, o, none⟩) (hP b hP').1, ?_, ?_, hb', (same _ h7).trans h5, fun b hb => by have := h6 b hb; omega, h7, h8, (World.cell?_of_block (a := ⟨qb, qo + 2, none⟩) (same _ h11)).trans h9, by omega, h11, hI _ _ h12 hbr⟩
  · rw [List.take_add_one, hk]
    rw [show (ps0 ++ (ks.take k ++ (some q).toList)).map ptrV = (ps0 ++ ks.take k).map ptrV ++ [ptrV q] by simp]
    exact hown
  · intro b hb hm
    rcases hv' with e | e
    · exact h3 b (e ▸ hb) hm
    · rw [e] at hb
      injection hb with hb
      subst hb
      have := h6 _ hm
      omega
theorem pushDone {M P : Nat → Prop} {I : World → Prop} {out : TypeX → TypeX} (m : TypeX → Nat) {y : TypeX} {w wr : World} {T : List Nat} {ps0 ks : List (Pl × TypeX)} {qb qo : Nat} {V : Value} {v : Value} (h : PushAt M P I out y w T ps0 ks qb qo V ks.length v wr) :
    ReplAt w.heap.size M P I out m y w (sumM m ((ps0 ++ ks).map (·.2))) v wr := by
  obtain ⟨h1, h2, h3, h4, h5, h6, h7, h8, _, _, _, h12⟩ := h
  rw [List.take_length, ← List.length_append] at h2
  exact ⟨_, _, h1, h2, h3, rfl, h4, h5, h6, h7, h8, h12⟩

theorem infoPtr : (Tryd.prog.info? 97).map (fun i => (i.zero, i.size, i.bytes)) = some (some (.pointer none), 1, 8) := by kernel_rfl


set_option maxRecDepth 100000 in
set_option maxHeartbeats 8000000 in
theorem implRewrite (cf : FuncId) (lb : Array Value) (M P : Nat → Prop) (I : World → Prop) (out : TypeX → TypeX) (m : TypeX → Nat) (x : TypeX) (A : Option Addr) (c : Nat) (w : World)
    (ecf : ∀ (args : Array Value) (w : World), (callFunc cf args).run Tryd.prog w = .ok (.enter cf args) w) (hm : m x ≤ 4294967296) (hm1 : ∀ x, 1 ≤ m x) (hv : TypeRow w P A c x.args_) (hP : ∀ b, P b → b < w.heap.size ∧ ¬ M b) (hM : ∀ b, M b → b < w.heap.size)
    (hI0 : I w) (hI : ∀ W W', I W → Below w.heap.size W W' → I W') (hch : Changes cf lb M P I out m w) :
    Calls Tryd.prog 69 #[.agg #[.int .i64 x.kind_, .string x.name_, .slice A x.args_.length c], .func (.func cf) #[] lb] w (MadeM M I (out x).cells w) := by
  obtain ⟨i0, hi, hz0, hz1, hz2⟩ := info_parts infoTy
  obtain ⟨j0, hj, hy0, hy1, hy2⟩ := info_parts infoPtr
  have HV := Lib.hid hv
  have HCH := Lib.hid hch
  have HX := Lib.hid hm
  have HM1 := Lib.hid hm1
  have HP := Lib.hid hP
  have HMM := Lib.hid hM
  have HI := Lib.hid hI
  clear hv hch hm hm1 hP hM hI
  have hw1 : ∀ cs : Array Value, ∀ ds : Array Value, Room w.heap.size [w.heap.size, w.heap.size + 1] (((w.alloc (.cells cs 26)).alloc (.cells ds 26)).alloc (.cells #[.pointer (some ⟨w.heap.size, 0, none⟩)] 97)) ∧ Whole (((w.alloc (.cells cs 26)).alloc (.cells ds 26)).alloc (.cells #[.pointer (some ⟨w.heap.size, 0, none⟩)] 97)) w.heap.size 26 cs ∧ Whole (((w.alloc (.cells cs 26)).alloc (.cells ds 26)).alloc (.cells #[.pointer (some ⟨w.heap.size, 0, none⟩)] 97)) (w.heap.size + 1) 26 ds := by
    intro cs ds
    have h0 := Whole.new w 26 cs
    have h1 := Whole.new (w.alloc (.cells cs 26)) 26 ds
    rw [World.size_alloc] at h1
    have b1 : Below (w.heap.size + 1) (w.alloc (.cells cs 26)) (((w.alloc (.cells cs 26)).alloc (.cells ds 26)).alloc (.cells #[.pointer (some ⟨w.heap.size, 0, none⟩)] 97)) := ((Below.refl _ _).alloc (by simp) _).alloc (by simp) _
    have b2 : Below (w.heap.size + 2) ((w.alloc (.cells cs 26)).alloc (.cells ds 26)) (((w.alloc (.cells cs 26)).alloc (.cells ds 26)).alloc (.cells #[.pointer (some ⟨w.heap.size, 0, none⟩)] 97)) := (Below.refl _ _).alloc (by simp) _
    have h0 := h0.below b1 (by omega)
    have h1 := h1.below b2 (by omega)
    refine ⟨fun b hb => ?_, h0, h1⟩
    simp at hb
    rcases hb with rfl | rfl
    · exact ⟨Nat.le_refl _, _, _, h0⟩
    · exact ⟨Nat.le_succ _, _, _, h1⟩
  have hown := World.ownsRow_lit (base := w.heap.size + 2) (size := 1) (e := 97) ((w.alloc (.cells #[.int .i64 x.kind_, .string x.name_, .slice A x.args_.length c] 26)).alloc (.cells #[.int .i64 0, .string ⟨#[]⟩, .slice none 0 0] 26)) #[.pointer (some ⟨w.heap.size, 0, none⟩)] 1 (by simp) (by decide) rfl
  have hbb : Below w.heap.size w (((w.alloc (.cells #[.int .i64 x.kind_, .string x.name_, .slice A x.args_.length c] 26)).alloc (.cells #[.int .i64 0, .string ⟨#[]⟩, .slice none 0 0] 26)).alloc (.cells #[.pointer (some ⟨w.heap.size, 0, none⟩)] 97)) := (((Below.refl _ _).alloc (Nat.le_refl _) _).alloc (by simp) _).alloc (by simp; omega) _
  obtain ⟨hr1, hx0, hx1⟩ := hw1 #[.int .i64 x.kind_, .string x.name_, .slice A x.args_.length c] #[.int .i64 0, .string ⟨#[]⟩, .slice none 0 0]
  have hstart : ReplAt w.heap.size M P I out m (out x) w (m x) (.slice (some ⟨w.heap.size + 1 + 1, 0, none⟩) 1 1) (((w.alloc (.cells #[.int .i64 x.kind_, .string x.name_, .slice A x.args_.length c] 26)).alloc (.cells #[.int .i64 0, .string ⟨#[]⟩, .slice none 0 0] 26)).alloc (.cells #[.pointer (some ⟨w.heap.size, 0, none⟩)] 97)) := by
    obtain ⟨p0, p1, p2⟩ := cells3 hx0
    refine ⟨[((w.heap.size, 0), x)], [w.heap.size, w.heap.size + 1], hole_one hr1 (by simp) ⟨A, c, p0, p1, p2, HV.out.frame (fun _ h => h) fun b o hP => hbb.cell (p := ⟨b, o, none⟩) (HP.out b hP).1⟩, ?_, ?_, ?_, KeptM.of_below hbb, hx1, ?_, by simp, by simp, HI.out _ _ hI0 hbb⟩
    · simp only [World.size_alloc] at hown
      exact hown
    · intro b hb
      simp [Value.ownBlock] at hb
      subst hb
      simp
      omega
    · simp [sumM]
    · intro b hb
      simp at hb ⊢
      omega
  have HS := Lib.hid hstart
  clear hw1 hown hbb hr1 hx0 hx1 hstart hI0
  go_enter Tryd.func69, Tryd.ntmps69
  go_wp2
  go_loopg [5] (m x) (fun gk v wr => ReplAt w.heap.size M P I out m (out x) w gk v wr ∧ gk ≤ m x)
  case atStart => exact ⟨HS.out, Nat.le_refl _⟩
  case round =>
    obtain ⟨⟨ps, T, hh, ho, hvT, rfl, hb, hw2, hTl, hT1, hne, hiw⟩, hgk⟩ := hrel
    rcases concat_cases ps with rfl | ⟨ps0, q, rfl⟩
    · obtain ⟨A1, c1, rfl⟩ := own_nil ho
      have hfin := hh.fin_
      obtain ⟨bs, ⟨vs, hvs, hcs⟩, hnd, hbT⟩ := hfin
      have hvs0 := hvs
      rw [TypeX.cells_eq] at hvs0
      simp only [OwVs] at hvs0
      obtain ⟨v0, _, q0, _, rfl, rfl, k0, v1, _, q1, _, rfl, rfl, k1, v2, _, q2, _, rfl, rfl, k2, rfl, rfl⟩ := hvs0
      rw [OwV] at k0 k1
      obtain ⟨rfl, rfl⟩ := k0
      obtain ⟨rfl, rfl⟩ := k1
      obtain ⟨V2, C2, rfl⟩ := OwV_shape k2 (TypeX.rows_length _)
      have r0 : wr.cell? ⟨w.heap.size, 0, none⟩ = some (.int .i64 (out x).kind_) := hcs 0 _ rfl
      have r1 : wr.cell? ⟨w.heap.size, 1, none⟩ = some (.string (out x).name_) := hcs 1 _ rfl
      have r2 : wr.cell? ⟨w.heap.size, 2, none⟩ = some (.slice V2 (out x).args_.length C2) := hcs 2 _ rfl
      obtain ⟨z0, z1, z2⟩ := cells3 hw2
      have zf0 := hw2.frozen 0
      have zf1 := hw2.frozen 1
      have zf2 := hw2.frozen 2
      have hend := tyEndB (k := (out x).kind_) (s := (out x).name_) (A := V2) (n := (out x).args_.length) (cc := C2) hw2
      have hsz := hb.size
      have HE := Lib.hid hend
      have HO := Lib.hid hvs
      have HN := Lib.hid hnd
      have HT := Lib.hid hbT
      have HB := Lib.hid hb
      have HIW := Lib.hid hiw
      have hlt := hw2.lt
      clear hh ho hvT hTl hT1 hvs hnd hbT hcs k2 hend hw2 hgk hb hiw
      go_wp2
      obtain ⟨e0, e1, e2, hbut⟩ := HE.out _ rfl
      have hbX := hbut.to_below (B := w.heap.size) (Nat.le_succ _) hsz
      refine bodyPost_ret (v := .agg #[.int .i64 (out x).kind_, .string (out x).name_, .slice V2 (out x).args_.length C2]) (by simp [results, Tryd.results69, go_sem, e0, e1, e2]) rfl ⟨_, _, rfl, OwVs_frame _ (fun b hb => hbut.block b (OwVs_lt _ HO.out b hb).2 fun e => HT.out b hb (by rw [e]; simp)) HO.out, HN.out, HB.out.trans (KeptM.of_below hbX), HI.out _ _ HIW.out hbX⟩
    · obtain ⟨⟨qb, qo⟩, z⟩ := q
      rw [List.length_append, List.length_singleton, List.map_append, List.map_singleton] at ho
      obtain ⟨g, cap, rfl⟩ := own_some ho
      obtain ⟨ho0, hc0, hcap, hcm, hBg, hgl⟩ := own_pop ho (by simp) rfl
      have hc1 : wr.cell? ⟨g, ps0.length, none⟩ = some (.pointer (some ⟨qb, qo, none⟩)) := by have := hc0 0 (by decide); simpa [ptrV] using this
      have hpend := hh.there ((qb, qo), z) (by simp)
      have hqT : qb ∈ T := hh.inT ((qb, qo), z) (by simp)
      have hqb : qb < wr.heap.size := hTl _ hqT
      obtain ⟨hBq, csq, tq, hblk⟩ := hh.room qb hqT
      have sl0 : (0 : Int) ≤ ps0.length := by omega
      have sla : (ps0.length : Int) ≤ cap := by omega
      unfold maxLen at hcm
      have hsm : sumM m ((ps0 ++ [((qb, qo), z)]).map (·.2)) = sumM m (ps0.map (·.2)) + m z := by rw [List.map_append, List.map_singleton, sumM_append, sumM_one]
      rw [hsm] at hgk
      have hmz := HM1.out z
      have hpl := sumM_length HM1.out (ps0.map (·.2))
      rw [List.length_map] at hpl
      have hgx := HX.out
      have hlz : ps0.length + 1 ≤ 4294967296 := by omega
      have HMZ := Lib.hid (show m z ≤ 4294967296 by omega)
      have HM0 := Lib.hid (show sumM m (ps0.map (·.2)) < sumM m ((ps0 ++ [((qb, qo), z)]).map (·.2)) by omega)
      have HMK := Lib.hid (show ∀ (x' : TypeX) (g : Nat), (x'.args_.map m).sum + 1 ≤ m z → ps0.length + x'.args_.length + 1 ≤ 4294967296 ∧ sumM m ((ps0 ++ kids g 0 x'.args_).map (·.2)) < sumM m ((ps0 ++ [((qb, qo), z)]).map (·.2)) ∧ sumM m ((ps0 ++ kids g 0 x'.args_).map (·.2)) ≤ m x by
        intro x' g hx'
        have h1 := sumM_length HM1.out x'.args_
        have h2 : sumM m x'.args_ = (x'.args_.map m).sum := rfl
        rw [hsm, List.map_append, kids_types, sumM_append]
        omega)
      have HGK := Lib.hid (show sumM m (ps0.map (·.2)) ≤ m x by omega)
      have hcall := HCH.out wr qb qo z csq tq hiw hb hBq hblk hpend HMZ.out
      have HCALL := Lib.hid hcall
      have HH := Lib.hid hh
      have HO := Lib.hid ho0
      have HVT := Lib.hid hvT
      have HTL := Lib.hid hTl
      have HW2 := Lib.hid hw2
      have HNE := Lib.hid hne
      have HTT := Lib.hid hqT
      have HT1 := Lib.hid hT1
      have HHB := Lib.hid hb
      clear hsm hmz hpl hgx hgk hpend hcall hh ho ho0 hc0 hvT hTl hw2 hne hqT hT1 hblk hiw hb
      go_wp2_with fail
      refine HCALL.out.mono ?_
      rintro e w2 ⟨hk2, hq2, hi2, h2⟩
      have hov : ∀ b, (Value.slice (some ⟨g, 0, none⟩) ps0.length cap).ownBlock = some b → b ∉ T := fun b hb => HVT.out b (by simpa [Value.ownBlock] using hb)
      rcases h2 with ⟨rfl, x', hout, hmx, hpx⟩ | ⟨rfl, bs, hd, hn⟩
      · obtain ⟨Aq, cq, p0, p1, p2, hrow⟩ := hpx
        simp only at p0 p1 p2
        have hhold2 := chg_hold HH.out HMM.out HTL.out hk2 hq2
        have hroom2 := HH.out.room.hold hhold2
        have hs2 := hk2.size
        have hqb2 : qb < w2.heap.size := by omega
        have fq2 := room_free hroom2 HTT.out (qo + 2)
        obtain ⟨us, hel, hul, hone, hadr⟩ := hrow.cells
        have hcq := hrow.cap
        have HMX := Lib.hid hmx
        have HWW := Lib.hid (Nat.le_trans HHB.out.size hs2)
        have hlz := (HMK.out x' g hmx).1
        have HUL := Lib.hid hul
        have HONE := Lib.hid hone
        have HEL := Lib.hid hel
        have HADR := Lib.hid (cells_addr hadr)
        have HP2 := Lib.hid p2
        have hpx' : PendAt w2 P (qb, qo) x' := ⟨Aq, cq, p0, p1, p2, hrow⟩
        have HPX := Lib.hid hpx'
        have HK2 := Lib.hid hk2
        have HQ2 := Lib.hid hq2
        have HI2 := Lib.hid hi2
        have HR2 := Lib.hid hroom2
        have HOUT := Lib.hid hout
        have HOV := Lib.hid hov
        clear hpx' hrow hel hul hone hadr hhold2 hroom2 p0 p1 hk2 hq2 hi2 hout hov hc1 hmx
        go_wp2_with (at_builtin; refine wpList_append_any rfl (.const (.slice none 0 0)) (.tmp 31) 24 rfl w2.heap.size 26 i0 (.agg #[.int .i64 0, .string ByteArray.empty, .slice none 0 0]) 3 48 Tryd.underlying24 hi hz0 hz1 hz2 rfl (by decide) (.slice none 0 0) 0 [] rfl (World.ownsRow_nil _ _ _ _) Aq x'.args_.length cq us rfl HUL.out HADR.out HONE.out (by unfold maxLen; omega) (by omega) (Nat.le_refl _) w2.heap.size rfl ?_)
        intro V w3 hown3 hgrow3 _
        obtain ⟨VA, vc, rfl⟩ := own_nil hown3
        have hb3 : Below w2.heap.size w2 w3 := (Below.refl _ _).grown hgrow3 (Nat.le_refl _) (fun k hk => by cases hk)
        have hel3 : ElemsT w3 P x'.args_ us := HEL.out.frame (fun _ h => h) fun b o hP => hb3.cell (p := ⟨b, o, none⟩) (Nat.lt_of_lt_of_le (HP.out b hP).1 HWW.out)
        have hfin := replPart HP.out HMM.out HI.out HH.out HO.out HOV.out HHB.out HW2.out HTL.out HT1.out HNE.out HOUT.out HK2.out HQ2.out HI2.out HPX.out hb3 hown3 hel3
        have t2 : w3.cell? ⟨qb, qo + 2, none⟩ = some (.slice Aq x'.args_.length cq) := (hb3.cell (p := ⟨qb, qo + 2, none⟩) hqb2).trans HP2.out
        have r3 : w3.frozen? ⟨qb, qo + 2, none⟩ = false := by
          have hbb := hb3.block qb hqb2
          exact room_free (B := w.heap.size) (T := T) (w := w3) (fun b hb' => by rw [hb3.block b (HR2.out.lt hb')]; exact HR2.out b hb') HTT.out (qo + 2)
        have hqb3 : qb < w3.heap.size := Nat.lt_of_lt_of_le hqb2 hb3.size
        have HFIN := Lib.hid hfin
        clear hfin hown3 hgrow3 hb3 hel3 p2 fq2
        go_wp2
        obtain ⟨-, hVA, hvc1, hvc2, hpush⟩ := HFIN.out _ rfl
        obtain ⟨gV, hgV⟩ : ∃ gV, gV = (Value.slice VA x'.args_.length vc).ownBlock.getD 0 := ⟨_, rfl⟩
        obtain ⟨T', hT'⟩ : ∃ T', T' = (Value.slice VA x'.args_.length vc).ownBlock.toList ++ T := ⟨_, rfl⟩
        rw [← hgV, ← hT'] at hpush
        rw [← hgV] at hVA
        have HPU := Lib.hid hpush
        have HVA := Lib.hid hVA
        clear hpush hgV hT' hVA t2 r3 hqb3
        go_loopw [5, 40] (fun v i wi => ∃ k : Nat, k ≤ x'.args_.length ∧ i = .int .i64 k ∧ PushAt M P I out (out x) w T' ps0 (kids gV 0 x'.args_) qb qo (.slice VA x'.args_.length vc) k v wi) (fun _ i _ => x'.args_.length - (Go.RowKit.intOf i).toNat)
        case atStart => exact ⟨0, Nat.zero_le _, rfl, HPU.out⟩
        case round =>
          obtain ⟨k, hk, rfl, hpu⟩ := hrel
          by_cases hlt : k < x'.args_.length
          · obtain rfl : VA = some ⟨gV, 0, none⟩ := by
              rcases HVA.out with h | h
              · omega
              · exact h
            have hqk : (kids gV 0 x'.args_)[k]? = some ((gV, 0 + 3 * k), x'.args_[k]) := by rw [kids_at, List.getElem?_eq_getElem hlt]; rfl
            have hptr : ptrV ((gV, 0 + 3 * k), x'.args_[k]) = .pointer (some ⟨gV, k * 3, none⟩) := by rw [ptrV, Nat.zero_add, Nat.mul_comm]
            have HPN := Lib.hid (fun (v' : Value) (w' : World) (O : Obj) => pushNext (v' := v') (w' := w') (O := O) HP.out HI.out hpu hqk)
            rw [hptr] at HPN
            obtain ⟨h1, h2, h3, h4, h5, h6, h7, h8, h9, h10, h11, h12⟩ := hpu
            have hbase : w.heap.size + 2 ≤ wr.heap.size + 1 := by have := h6 _ h7; omega
            have HO2 := Lib.hid (h2.alloc (.cells #[.pointer (some ⟨gV, k * 3, none⟩)] 97))
            have HNW := Lib.hid (news_one wr 97 (.pointer (some ⟨gV, k * 3, none⟩)))
            have hkl : ps0.length + k + 1 ≤ 4294967296 := by omega
            clear hqk hptr h1 h2 h3 h4 h5 h6 h7 h8 h11 h12
            go_wp2_with (at_builtin; refine wpList_append_any rfl (.tmp 43) (.tmp 50) 113 rfl (w.heap.size + 2) 97 j0 (.pointer none) 1 8 Tryd.underlying113 hj hy0 hy1 hy2 rfl (by decide) u5 (ps0.length + k) _ rfl HO2.out (some ⟨wr.heap.size, 0, none⟩) 1 1 [.pointer (some ⟨gV, k * 3, none⟩)] rfl rfl (.inr ⟨_, rfl, HNW.out⟩) (by simp [Value.oneCell']) (by unfold maxLen; omega) (by omega) (by simpa using hbase) (wr.heap.size + 1) (by simp) ?_)
            intro v' w4 hown4 hgrow4 hat4
            have hnx := HPN.out v' w4 _ (by simpa using hown4) hgrow4 (by rw [World.size_alloc]; exact hat4)
            have HNX := Lib.hid hnx
            clear hown4 hgrow4 hat4 hnx h9
            go_wp2
            go_roundw
            case rel => exact ⟨k + 1, by omega, by go_num, HNX.out⟩
            case measure => simp [Go.RowKit.intOf]; omega
          · obtain rfl : k = x'.args_.length := by omega
            have hdone := pushDone m (by rw [kids_length]; exact hpu)
            have HD := Lib.hid hdone
            have HMS := Lib.hid (HMK.out x' gV HMX.out)
            clear hpu hdone
            go_wp2
            go_roundg (sumM m ((ps0 ++ kids gV 0 x'.args_).map (·.2)))
            case measure => exact HMS.out.2.1
            case rel => exact ⟨HD.out, HMS.out.2.2⟩
      · have hfin := replValue (m := m) HP.out HMM.out HH.out HO.out hov HHB.out HW2.out HTL.out HT1.out HNE.out hk2 hq2 hi2 hd hn
        have HFIN := Lib.hid hfin
        clear hfin hd hn hk2 hq2 hi2 hov hc1
        go_wp2
        go_roundg (sumM m (ps0.map (·.2)))
        case measure => exact HM0.out
        case rel => exact ⟨HFIN.out, HGK.out⟩
end Go.Proofs.YtngbilblddngcaaDoor

/- The reference model's reader: what holds while a list's elements are read. -/
import Derived.Test.YtbnfdjhcakimhaaReadD
namespace Go.Proofs.Ytbnfdjhcakimhaa
open Go.RowKit Go.Lib

theorem goingStart {g d z N m j n : Nat} {s : ByteArray} {w wr : World} {R : Option (SX × List UInt8 × Nat)} (hg : g < w.heap.size) (hb : But g w wr) (hr : Whole wr w.heap.size 26 #[.string ByteArray.empty, .slice none 0 0])
    (hc : Cells wr g s j d ((z : Int) + 1) false) (hj : j < s.size) (hz : z + 1 ≤ 900) (hm : m ≤ N) (hf : 2 * (s.data.toList.drop (j + 1)).length + 2 ≤ m) (hR : readL m (s.data.toList.drop (j + 1)) (d + 1) (z + 1) [] = R) :
    Going g s d N wr.heap.size w R ((((wr.drewN n).setCell ⟨g, 1, none⟩ (.int .i64 ((j : Int) + 1))).setCell ⟨g, 2, none⟩ (.int .i64 ((d : Int) + 1))).alloc (.cells #[.string ⟨#[]⟩, .slice none 0 0] 26)) := by
  have hlt := hr.lt
  have hc1 : Cells (((wr.drewN n).setCell ⟨g, 1, none⟩ (.int .i64 ((j : Int) + 1))).setCell ⟨g, 2, none⟩ (.int .i64 ((d : Int) + 1))) g s (j + 1) ((d : Int) + 1) ((z : Int) + 1) false := ((hc.drewN n).set1 (j + 1)).set2 ((d : Int) + 1)
  have hb1 := (hb.drewN_s n).trans ((But.set_ g (wr.drewN n) 1 (.int .i64 ((j : Int) + 1))).trans (But.set_ g _ 2 (.int .i64 ((d : Int) + 1))))
  have hr1 := (hr.drewN_ n).but ((But.set_ g (wr.drewN n) 1 (.int .i64 ((j : Int) + 1))).trans (But.set_ g _ 2 (.int .i64 ((d : Int) + 1)))) (by omega)
  have hsz : (((wr.drewN n).setCell ⟨g, 1, none⟩ (.int .i64 ((j : Int) + 1))).setCell ⟨g, 2, none⟩ (.int .i64 ((d : Int) + 1))).heap.size = wr.heap.size := by simp
  generalize ((wr.drewN n).setCell ⟨g, 1, none⟩ (.int .i64 ((j : Int) + 1))).setCell ⟨g, 2, none⟩ (.int .i64 ((d : Int) + 1)) = w5 at *
  have hal : But g w5 (w5.alloc (.cells #[.string ⟨#[]⟩, .slice none 0 0] 26)) := (But.refl g w5).alloc_ _
  have hlt' := hb.size
  refine ⟨.slice none 0 0, [], [], j + 1, by omega, by simp, ?_, World.ownsRow_nil _ _ _ _, rfl, hr1.of_alloc _, hb1.alloc_ _, .inl ⟨m, z + 1, hf, hm, hz, by simp, ?_, hR⟩⟩
  · have h := Whole.new w5 26 #[.string ⟨#[]⟩, .slice none 0 0]
    rw [hsz] at h
    exact h
  · exact Whole.of_alloc hc1 _

/-- The ending at a failure inside the list. -/
theorem goingBad {act : Act} {g d X k : Nat} {s : ByteArray} {w wr : World} {R : Option (SX × List UInt8 × Nat)} {V : Value} {acc : List SX} {vs : List Value} {d0 z0 : Int} (h2 : act.tmps[2]? = some (.pointer (some ⟨w.heap.size, 0, none⟩))) (hd : act.defers = []) (hg : g < w.heap.size) (hX : w.heap.size < X)
    (hk : k ≤ s.size) (hown : wr.ownsRow (X + 1) 26 2 V acc.length vs) (he : Elems wr (Own V (X + 1) wr.heap.size) acc vs) (hr : Whole wr w.heap.size 26 #[.string ByteArray.empty, .slice none 0 0]) (hb : But g w wr) (hR : R = none)
    (hc : Cells wr g s k d0 z0 true) :
    bodyPost Try.prog Try.f52 (Gave g s d w R) .ret act ((wr.setCell ⟨w.heap.size, 0, none⟩ (.string ⟨#[]⟩)).setCell ⟨w.heap.size, 1, none⟩ V) := by
  obtain ⟨A, c, rfl, hl⟩ := list_own hown (he.frame (Q := New (X + 1) wr.heap.size) (fun b h => h.1) (fun _ _ _ => rfl)) (fun b hb => ⟨(hown.lt b hb).1, (hown.lt b hb).2⟩)
  have hfin : Whole ((wr.setCell ⟨w.heap.size, 0, none⟩ (.string ⟨#[]⟩)).setCell ⟨w.heap.size, 1, none⟩ (.slice A acc.length c)) w.heap.size 26 #[.string ⟨#[]⟩, .slice A acc.length c] := by
    have h2 := (hr.set_ 0 (.string ⟨#[]⟩)).set_ 1 (.slice A acc.length c)
    simpa using h2
  have hset : But w.heap.size wr ((wr.setCell ⟨w.heap.size, 0, none⟩ (.string ⟨#[]⟩)).setCell ⟨w.heap.size, 1, none⟩ (.slice A acc.length c)) := (But.set_ _ _ 0 _).trans (But.set_ _ _ 1 _)
  have hbf := (hb.far (p := ⟨w.heap.size, 0, none⟩) (Nat.le_refl _) (.string ⟨#[]⟩)).far (p := ⟨w.heap.size, 1, none⟩) (Nat.le_refl _) (.slice A acc.length c)
  have hcf := hc.but_ hset (by omega)
  refine giveX h2 hd hfin ⟨.mk ByteArray.empty acc, A, c, rfl, ?_, hbf, by rw [hR]; exact ⟨k, _, _, hk, hcf⟩⟩
  exact hl.frame (fun b hP => ⟨by have := hP.1; omega, Nat.lt_of_lt_of_le hP.2 hset.size⟩) fun b o hP => World.cell?_of_block (a := ⟨b, o, none⟩) (hset.block b hP.2 (by have := hP.1; omega))
/-- The ending at the closing parenthesis. -/
theorem goingDone {act : Act} {g d X k n : Nat} {s : ByteArray} {w wr : World} {R : Option (SX × List UInt8 × Nat)} {V : Value} {acc : List SX} {vs : List Value} {z : Nat} (h2 : act.tmps[2]? = some (.pointer (some ⟨w.heap.size, 0, none⟩))) (hd : act.defers = []) (hg : g < w.heap.size) (hX : w.heap.size < X)
    (hk : k < s.size) (hz : z ≤ 900) (hown : wr.ownsRow (X + 1) 26 2 V acc.length vs) (he : Elems wr (Own V (X + 1) wr.heap.size) acc vs) (hr : Whole wr w.heap.size 26 #[.string ByteArray.empty, .slice none 0 0]) (hb : But g w wr)
    (hR : R = some (.mk ByteArray.empty acc, s.data.toList.drop (k + 1), z)) (hc : Cells wr g s k ((d : Int) + 1) z false) :
    bodyPost Try.prog Try.f52 (Gave g s d w R) .ret act (((((wr.drewN n).setCell ⟨g, 1, none⟩ (.int .i64 ((k : Int) + 1))).setCell ⟨g, 2, none⟩ (.int .i64 d)).setCell ⟨w.heap.size, 0, none⟩ (.string ⟨#[]⟩)).setCell ⟨w.heap.size, 1, none⟩ V) := by
  obtain ⟨A, c, rfl, hl⟩ := list_own hown (he.frame (Q := New (X + 1) wr.heap.size) (fun b h => h.1) (fun _ _ _ => rfl)) (fun b hb => ⟨(hown.lt b hb).1, (hown.lt b hb).2⟩)
  have hc1 : Cells (((wr.drewN n).setCell ⟨g, 1, none⟩ (.int .i64 ((k : Int) + 1))).setCell ⟨g, 2, none⟩ (.int .i64 d)) g s (k + 1) d z false := ((hc.drewN n).set1 (k + 1)).set2 (d : Int)
  have hb0 : But g wr (((wr.drewN n).setCell ⟨g, 1, none⟩ (.int .i64 ((k : Int) + 1))).setCell ⟨g, 2, none⟩ (.int .i64 d)) := ((But.refl g wr).drewN_s n).trans ((But.set_ g (wr.drewN n) 1 (.int .i64 ((k : Int) + 1))).trans (But.set_ g _ 2 (.int .i64 d)))
  have hr1 := hr.but hb0 (by omega)
  have hl1 : ListAt (((wr.drewN n).setCell ⟨g, 1, none⟩ (.int .i64 ((k : Int) + 1))).setCell ⟨g, 2, none⟩ (.int .i64 d)) (New (X + 1) wr.heap.size) A acc :=
    hl.frame (fun b hP => hP) fun b o hP => World.cell?_of_block (a := ⟨b, o, none⟩) (hb0.block b hP.2 (by have := hP.1; omega))
  have hb1 := hb.trans hb0
  have hsz := hb0.size
  generalize ((wr.drewN n).setCell ⟨g, 1, none⟩ (.int .i64 ((k : Int) + 1))).setCell ⟨g, 2, none⟩ (.int .i64 d) = w5 at *
  have hfin : Whole ((w5.setCell ⟨w.heap.size, 0, none⟩ (.string ⟨#[]⟩)).setCell ⟨w.heap.size, 1, none⟩ (.slice A acc.length c)) w.heap.size 26 #[.string ⟨#[]⟩, .slice A acc.length c] := by
    have h2 := (hr1.set_ 0 (.string ⟨#[]⟩)).set_ 1 (.slice A acc.length c)
    simpa using h2
  have hset : But w.heap.size w5 ((w5.setCell ⟨w.heap.size, 0, none⟩ (.string ⟨#[]⟩)).setCell ⟨w.heap.size, 1, none⟩ (.slice A acc.length c)) := (But.set_ _ _ 0 _).trans (But.set_ _ _ 1 _)
  have hbf := (hb1.far (p := ⟨w.heap.size, 0, none⟩) (Nat.le_refl _) (.string ⟨#[]⟩)).far (p := ⟨w.heap.size, 1, none⟩) (Nat.le_refl _) (.slice A acc.length c)
  have hcf := hc1.but_ hset (by omega)
  refine giveX h2 hd hfin ⟨.mk ByteArray.empty acc, A, c, rfl, ?_, hbf, by rw [hR]; exact ⟨rfl, hz, k + 1, by omega, rfl, hcf⟩⟩
  exact hl1.frame (fun b hP => ⟨by have := hP.1; omega, Nat.lt_of_lt_of_le hP.2 (Nat.le_trans hsz hset.size)⟩) fun b o hP => World.cell?_of_block (a := ⟨b, o, none⟩) (hset.block b (Nat.lt_of_lt_of_le hP.2 hsz) (by have := hP.1; omega))

theorem elems_but {w w' : World} {g B : Nat} {l : List SX} {vs : List Value} {V : Value} (h : Elems w (Own V B w.heap.size) l vs) (hb : But g w w') (hg : g < B) : Elems w' (Own V B w'.heap.size) l vs :=
  h.frame (fun b hP => ⟨⟨hP.1.1, Nat.lt_of_lt_of_le hP.1.2 hb.size⟩, hP.2⟩) fun b o hP => World.cell?_of_block (a := ⟨b, o, none⟩) (hb.block b hP.1.2 (by have := hP.1.1; omega))
theorem ask_close {m d z k k3 : Nat} {s : ByteArray} {acc : List SX} (hlt : k3 < s.size) (h : s[k3] = 41) (hs : s.data.toList.drop k3 = skipW (s.data.toList.drop k)) :
    readL (m + 1) (s.data.toList.drop k) d z acc = some (.mk ByteArray.empty acc, s.data.toList.drop (k3 + 1), z) := by
  rw [readL, ← hs, drop_step s k3 hlt, if_pos (by rw [h]; rfl)]
  rfl
def more (m d : Nat) (acc : List SX) : Option (SX × List UInt8 × Nat) → Option (SX × List UInt8 × Nat)
  | none => none
  | some (y, rest', z') => readL m rest' d z' (acc ++ [y])
theorem ask_more {m d z k k3 : Nat} {s : ByteArray} {acc : List SX} (h : (s.data.toList.drop k3).head? ≠ some 41) (hs : s.data.toList.drop k3 = skipW (s.data.toList.drop k)) :
    readL (m + 1) (s.data.toList.drop k) d z acc = more m d acc (readX m (s.data.toList.drop k3) d z) := by
  rw [readL, ← hs, if_neg h]
  cases readX m (s.data.toList.drop k3) d z with
  | none => rfl
  | some p => rfl
/-- Behind the inner reading: the list's own row and variable. -/
theorem behind {g d X n : Nat} {s : ByteArray} {wr w6 : World} {V : Value} {o : Option (SX × List UInt8 × Nat)} {e : Ending} {k : Nat} {vs : List Value} (hg : g < X) (hx : Whole wr X 26 #[.string ⟨#[]⟩, V]) (hown : wr.ownsRow (X + 1) 26 2 V k vs)
    (h : Gave g s d (wr.drewN n) o e w6) : ∃ (y : SX) (A : Option Addr) (c : Nat), e = .returned (.agg #[.string y.atom, .slice A y.list.length c]) ∧ w6.cell? ⟨X, 1, none⟩ = some V ∧ w6.frozen? ⟨X, 1, none⟩ = false ∧ w6.ownsRow (X + 1) 26 2 V k vs ∧ X < w6.heap.size ∧
      But g wr w6 ∧ ListAt w6 (New wr.heap.size w6.heap.size) A y.list ∧ After w6 g s d y o := by
  obtain ⟨y, A, c, rfl, hl, hb, ha⟩ := h
  have hb' : But g wr w6 := ((But.refl g wr).drewN_s n).trans hb
  have hx6 := hx.but hb' (by omega)
  exact ⟨y, A, c, rfl, by rw [hx6.cell]; rfl, hx6.frozen 1, own_but hown hb' (by omega), hx6.lt, hb', hl, ha⟩
/-- One element more, or the failure. -/
theorem goingMore {g d N X k m z g' cap' H : Nat} {s : ByteArray} {w wr w3 w4 : World} {R : Option (SX × List UInt8 × Nat)} {V : Value} {acc : List SX} {vs : List Value} {y : SX} {A : Option Addr} {c : Nat} (hg : g < w.heap.size) (hX : w.heap.size < X)
    (hal : acc.length ≤ 900) (hk : k ≤ s.size) (hx : Whole wr X 26 #[.string ⟨#[]⟩, V]) (hown : wr.ownsRow (X + 1) 26 2 V acc.length vs) (he : Elems wr (Own V (X + 1) wr.heap.size) acc vs)
    (hr : Whole wr w.heap.size 26 #[.string ByteArray.empty, .slice none 0 0]) (hb : But g w wr) (hm : 2 * (s.data.toList.drop k).length + 1 ≤ m) (hmN : m ≤ N) (_hz : z ≤ 900) (haz : acc.length ≤ z)
    (hR : more m (d + 1) acc (readX m (s.data.toList.drop k) (d + 1) z) = R)
    (hb3 : But g wr w3) (hl3 : ListAt w3 (New wr.heap.size w3.heap.size) A y.list) (ha : After w3 g s (d + 1) y (readX m (s.data.toList.drop k) (d + 1) z))
    (hgrow : (w3.alloc (.cells #[.string y.atom, .slice A y.list.length c] 26)).grownBy w4 V.ownBlock) (hown4 : w4.ownsRow (X + 1) 26 2 (.slice (some ⟨g', 0, none⟩) (acc.length + 1) cap') (acc.length + 1) (vs ++ [.string y.atom, .slice A y.list.length c]))
    (hat : V.ownBlock = some g' ∨ g' = H) (hH : w3.heap.size < H) :
    Going g s d N X w R (w4.setCell ⟨X, 1, none⟩ (.slice (some ⟨g', 0, none⟩) (acc.length + 1) cap')) ∧ (∀ k0, k0 ≤ k → stillAt (w4.setCell ⟨X, 1, none⟩ (.slice (some ⟨g', 0, none⟩) (acc.length + 1) cap')) g s < s.size + 1 - k0) := by
  have hXw := hx.lt
  have hsz3 := hb3.size
  have hsz4 : w3.heap.size + 1 ≤ w4.heap.size := by have := hgrow.size; simpa using this
  have hVlt := hown.lt
  have hn4 : ∀ b, b < w3.heap.size → V.ownBlock ≠ some b → w4.heap[b]? = w3.heap[b]? := fun b hb hne =>
    (hgrow.block b (by simp; omega) (fun e => hne e.symm)).trans (Below.heap_alloc _ _ _ hb)
  have hlow : ∀ b, b ≤ X → V.ownBlock ≠ some b := fun b hb e => by have := (hVlt b e).1; omega
  have hw5 : ∀ b, b < w3.heap.size → V.ownBlock ≠ some b → b ≠ X → (w4.setCell ⟨X, 1, none⟩ (.slice (some ⟨g', 0, none⟩) (acc.length + 1) cap')).heap[b]? = w3.heap[b]? := fun b hb hne hX =>
    (Below.heap_setCell _ _ _ _ hX).trans (hn4 b hb hne)
  have hx4 : Whole w4 X 26 #[.string ⟨#[]⟩, V] := (hn4 X (by omega) (hlow X (Nat.le_refl _))).trans (hx.but hb3 (by omega))
  have hx5 : Whole (w4.setCell ⟨X, 1, none⟩ (.slice (some ⟨g', 0, none⟩) (acc.length + 1) cap')) X 26 #[.string ⟨#[]⟩, .slice (some ⟨g', 0, none⟩) (acc.length + 1) cap'] := by
    have h := hx4.set_ 1 (.slice (some ⟨g', 0, none⟩) (acc.length + 1) cap')
    simpa using h
  have hr5 : Whole (w4.setCell ⟨X, 1, none⟩ (.slice (some ⟨g', 0, none⟩) (acc.length + 1) cap')) w.heap.size 26 #[.string ByteArray.empty, .slice none 0 0] :=
    (hw5 _ (by omega) (hlow _ (by omega)) (by omega)).trans (hr.but hb3 (by omega))
  have hown5 : (w4.setCell ⟨X, 1, none⟩ (.slice (some ⟨g', 0, none⟩) (acc.length + 1) cap')).ownsRow (X + 1) 26 2 (.slice (some ⟨g', 0, none⟩) (acc.length + 1) cap') (acc ++ [y]).length (vs ++ [.string y.atom, .slice A y.list.length c]) := by
    rw [List.length_append]
    exact ownsRow_setCell_below hown4 (by simp) _
  have hb4 : But g w w4 := ((hb.trans hb3).alloc_ _).grown hgrow (fun k hk => by have := (hVlt k hk).1; omega)
  have hb5 : But g w (w4.setCell ⟨X, 1, none⟩ (.slice (some ⟨g', 0, none⟩) (acc.length + 1) cap')) := hb4.far (p := ⟨X, 1, none⟩) (Nat.le_of_lt hX) _
  have hne' : ∀ b, b < w3.heap.size → V.ownBlock ≠ some b → (Value.slice (some ⟨g', 0, none⟩) (acc.length + 1) cap').ownBlock ≠ some b := fun b hb hne e => by
    have e' : g' = b := by simpa [Value.ownBlock] using e
    rcases hat with h | h
    · exact hne (by rw [h, e'])
    · omega
  have hsz5 : (w4.setCell ⟨X, 1, none⟩ (.slice (some ⟨g', 0, none⟩) (acc.length + 1) cap')).heap.size = w4.heap.size := by simp
  have he5 : Elems (w4.setCell ⟨X, 1, none⟩ (.slice (some ⟨g', 0, none⟩) (acc.length + 1) cap')) (Own (.slice (some ⟨g', 0, none⟩) (acc.length + 1) cap') (X + 1) (w4.setCell ⟨X, 1, none⟩ (.slice (some ⟨g', 0, none⟩) (acc.length + 1) cap')).heap.size) (acc ++ [y]) (vs ++ [.string y.atom, .slice A y.list.length c]) := by
    refine Elems.snoc ?_ ?_
    · refine (elems_but he hb3 (by omega)).frame (fun b hP => ⟨⟨hP.1.1, by rw [hsz5]; have := hP.1.2; omega⟩, hne' b hP.1.2 hP.2⟩) fun b o hP => World.cell?_of_block (a := ⟨b, o, none⟩) (hw5 b hP.1.2 hP.2 (by have := hP.1.1; omega))
    · have hVb : ∀ b, wr.heap.size ≤ b → V.ownBlock ≠ some b := fun b hb e => by have := (hVlt b e).2; omega
      exact hl3.frame (fun b hP => ⟨⟨by have := hP.1; omega, by rw [hsz5]; have := hP.2; omega⟩, hne' b hP.2 (hVb b hP.1)⟩) fun b o hP => World.cell?_of_block (a := ⟨b, o, none⟩) (hw5 b hP.2 (hVb b hP.1) (by have := hP.1; omega))
  have hcell : ∀ {k d' z' b'}, Cells w3 g s k d' z' b' → Cells (w4.setCell ⟨X, 1, none⟩ (.slice (some ⟨g', 0, none⟩) (acc.length + 1) cap')) g s k d' z' b' := fun h =>
    (hw5 g (by omega) (hlow g (by omega)) (by omega)).trans h
  generalize w4.setCell ⟨X, 1, none⟩ (.slice (some ⟨g', 0, none⟩) (acc.length + 1) cap') = w5 at *
  cases ho : readX m (s.data.toList.drop k) (d + 1) z with
  | none =>
    rw [ho] at ha hR
    obtain ⟨k', d', z', hk', hc'⟩ := ha
    refine ⟨⟨_, acc ++ [y], _, k', hk', by simp; omega, hx5, hown5, he5, hr5, hb5, .inr ⟨hR.symm, d', z', hcell hc'⟩⟩, fun k0 hk0 => ?_⟩
    rw [stillAt, (hcell hc').at_.2.2.2.2]
    show 0 < _
    omega
  | some p =>
    obtain ⟨x, r, z'⟩ := p
    rw [ho] at ha hR
    obtain ⟨rfl, hz', k', hk', hr', hc'⟩ := ha
    subst hr'
    have hless := readX_less _ _ _ _ ho
    have hmore := readX_more _ _ _ _ ho
    rw [drop_len, drop_len] at hless
    refine ⟨⟨_, acc ++ [y], _, k', hk', by simp; omega, hx5, hown5, he5, hr5, hb5, .inl ⟨m, z', ?_, hmN, hz', by simp; omega, hcell hc', hR⟩⟩, fun k0 hk0 => ?_⟩
    · rw [drop_len] at *; omega
    · rw [stillAt, (hcell hc').at_.2.2.2.2, (hcell hc').num]
      show s.size + 1 - k' < _
      omega
end Go.Proofs.Ytbnfdjhcakimhaa

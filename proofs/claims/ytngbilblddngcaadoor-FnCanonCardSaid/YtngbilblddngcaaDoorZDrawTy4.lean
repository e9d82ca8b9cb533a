/- The draws of chapter 4: l4Bent, DrawIsValidType. -/
import Derived.Test.YtngbilblddngcaaDoorZDrawTy3
import Derived.Deep.AppendLies
import Derived.Deep.RegionLaw
namespace Go.Proofs.YtngbilblddngcaaDoor
open Go.RowKit Go.Lib

theorem TopT.rowX {G : Nat → Prop} {w w' : World} {V : Value} {l : List TypeX} (hG : ∀ b, V.ownBlock = some b → ¬ G b) (h : TopT G w w' V l) : ∃ A c, V = .slice A l.length c ∧ TypeRow w' (Nog G w') A c l := by
  obtain ⟨us, ho, he⟩ := h
  exact own_typeRow ho he (fun b h => h.1) (fun b hb => ⟨(ho.lt b hb).2, hG b hb⟩)
theorem TopT.more {G G' : Nat → Prop} {w w' : World} {V : Value} {l : List TypeX} (h : TopT G w w' V l) (hG : ∀ b, b < w'.heap.size → G' b → G b) : TopT G' w w' V l := by
  obtain ⟨us, ho, he⟩ := h
  exact ⟨us, ho, he.frame (fun b h => ⟨⟨h.1.1, fun hg => h.1.2 (hG b h.1.1 hg)⟩, h.2⟩) fun _ _ _ => rfl⟩
theorem TopT.own_lt {G : Nat → Prop} {w w' : World} {V : Value} {l : List TypeX} (h : TopT G w w' V l) {b : Nat} (hb : V.ownBlock = some b) : w.heap.size ≤ b ∧ b < w'.heap.size := by
  obtain ⟨us, ho, _⟩ := h
  exact ho.lt b hb

/-- THE BOX OF A DRAW UNDER WAY: X the result's, Y the type's own. -/
structure BoxT (G : Nat → Prop) (B g X Y : Nat) (w W0 w' : World) (k : Int) (s : ByteArray) (A : Option Addr) (n c : Nat) (l : List TypeX) : Prop where
  rx : Whole w' X 26 zeroT
  ry : Whole w' Y 26 #[.int .i64 k, .string s, .slice A n c]
  len : n = l.length
  top : TopT (fun b => (G b ∨ b = X) ∨ b = Y) W0 w' (.slice A n c) l
  neY : (Value.slice A n c).ownBlock ≠ some Y
  neg : (Value.slice A n c).ownBlock ≠ some g
  cur : Cur w' B g
  but : But g w w'
  gX : g < X
  XY : X < Y
  wX : w.heap.size ≤ X
theorem BoxT.draw {G : Nat → Prop} {B g X Y : Nat} {w W0 w' w2 : World} {k : Int} {s : ByteArray} {A : Option Addr} {n c : Nat} {l : List TypeX} (h : BoxT G B g X Y w W0 w' k s A n c l) (hg : G g) (hc : Cur w2 B g) (hb : But g w' w2) : BoxT G B g X Y w W0 w2 k s A n c l :=
  ⟨whole_but h.rx hb (by have := h.gX; omega), whole_but h.ry hb (by have := h.gX; have := h.XY; omega), h.len, h.top.butX h.neg (.inl (.inl hg)) hb, h.neY, h.neg, hc, h.but.trans hb, h.gX, h.XY, h.wX⟩
theorem BoxT.grow {G : Nat → Prop} {B g X Y : Nat} {w W0 w' w2 : World} {k : Int} {s : ByteArray} {A : Option Addr} {n c : Nat} {l : List TypeX} (h : BoxT G B g X Y w W0 w' k s A n c l) (hb : Below w'.heap.size w' w2) : BoxT G B g X Y w W0 w2 k s A n c l :=
  ⟨whole_keep h.rx hb, whole_keep h.ry hb, h.len, h.top.below hb, h.neY, h.neg, h.cur.kept hb, h.but.trans (But.of_below hb), h.gX, h.XY, h.wX⟩
/-- The box rewritten: what holds of the new cells, of the world before. -/
theorem BoxT.set {G : Nat → Prop} {B g X Y : Nat} {w W0 w' w2 : World} {k k2 : Int} {s s2 : ByteArray} {A A2 : Option Addr} {n c n2 c2 : Nat} {l l2 : List TypeX} (h : BoxT G B g X Y w W0 w' k s A n c l) (hb : But Y w' w2)
    (hy : Whole w2 Y 26 #[.int .i64 k2, .string s2, .slice A2 n2 c2]) (hn : n2 = l2.length) (ht : TopT (fun b => (G b ∨ b = X) ∨ b = Y) W0 w' (.slice A2 n2 c2) l2) (hY : (Value.slice A2 n2 c2).ownBlock ≠ some Y) (hg : (Value.slice A2 n2 c2).ownBlock ≠ some g) : BoxT G B g X Y w W0 w2 k2 s2 A2 n2 c2 l2 :=
  ⟨whole_but h.rx hb (by have := h.XY; omega), hy, hn, ht.butX hY (.inr rfl) hb, hY, hg, cur_far h.cur hb (by have := h.gX; have := h.XY; omega), but_new h.but hb (by have := h.wX; have := h.XY; omega), h.gX, h.XY, h.wX⟩
theorem BoxT.setK {G : Nat → Prop} {B g X Y : Nat} {w W0 w' : World} {k : Int} {s : ByteArray} {A : Option Addr} {n c : Nat} {l : List TypeX} (h : BoxT G B g X Y w W0 w' k s A n c l) (k2 : Int) : BoxT G B g X Y w W0 (w'.setCell ⟨Y, 0, none⟩ (.int .i64 k2)) k2 s A n c l :=
  h.set (But.set_ _ _ _ _) (by simpa using h.ry.set_ 0 (.int .i64 k2)) h.len h.top h.neY h.neg
theorem BoxT.setS {G : Nat → Prop} {B g X Y : Nat} {w W0 w' : World} {k : Int} {s : ByteArray} {A : Option Addr} {n c : Nat} {l : List TypeX} (h : BoxT G B g X Y w W0 w' k s A n c l) (s2 : ByteArray) : BoxT G B g X Y w W0 (w'.setCell ⟨Y, 1, none⟩ (.string s2)) k s2 A n c l :=
  h.set (But.set_ _ _ _ _) (by simpa using h.ry.set_ 1 (.string s2)) h.len h.top h.neY h.neg
/-- The ending. -/
theorem BoxT.fin_ {G : Nat → Prop} {N B g Y : Nat} {w W0 w' : World} {k : Int} {s : ByteArray} {A : Option Addr} {n c : Nat} {l : List TypeX} (h : BoxT G B g w.heap.size Y w W0 w' k s A n c l) (hg : g < w.heap.size) (hlt : w.heap.size < W0.heap.size) (hN : 1 + TypeX.sizeL l ≤ N) (htm : (TypeX.mk k s l).tame) (hun : (TypeX.mk k s l).under) :
    ∀ w4, w4 = ((w'.setCell ⟨w.heap.size, 0, none⟩ (.int .i64 k)).setCell ⟨w.heap.size, 1, none⟩ (.string s)).setCell ⟨w.heap.size, 2, none⟩ (.slice A n c) →
      w4.cell? ⟨w.heap.size, 0, none⟩ = some (.int .i64 k) ∧ w4.cell? ⟨w.heap.size, 1, none⟩ = some (.string s) ∧ w4.cell? ⟨w.heap.size, 2, none⟩ = some (.slice A n c) ∧ DrawnT G N B g w (.returned (.agg #[.int .i64 k, .string s, .slice A n c])) w4 := by
  have hl := h.len
  subst hl
  exact drawEndT (x := .mk k s l) hg h.rx h.top (.inl (.inr rfl)) hlt (fun b hb => .inl (.inl hb)) h.cur h.but (by rw [TypeX.size]; exact hN) htm hun
theorem namesL_app4 : ∀ (l m : List TypeX), TypeX.namesL (l ++ m) = TypeX.namesL l ++ TypeX.namesL m
  | [], m => by rw [TypeX.namesL]; rfl
  | x :: r, m => by rw [List.cons_append, TypeX.namesL, TypeX.namesL, namesL_app4 r m, List.append_assoc]
theorem tameL_append : ∀ (l m : List TypeX), TypeX.tameL l → TypeX.tameL m → TypeX.tameL (l ++ m)
  | [], m, _, h => h
  | x :: r, m, h, hm => by rw [TypeX.tameL] at h; rw [List.cons_append, TypeX.tameL]; exact ⟨h.1, tameL_append r m h.2 hm⟩
theorem But.grow_ {g : Nat} {a w w' : World} {row : Option Nat} (h : But g a w) (hg : w.grownBy w' row) (hrow : ∀ k, row = some k → a.heap.size ≤ k) : But g a w' :=
  ⟨hg.os.trans h.os, hg.tape.trans h.tape, hg.output.trans h.output, Nat.le_trans h.size hg.size, fun k hk hne =>
    (hg.block k (Nat.lt_of_lt_of_le hk h.size) (fun e => by have := hrow k e.symm; omega)).trans (h.block k hk hne)⟩
theorem cur_grown {w w' : World} {B g : Nat} {row : Option Nat} (h : Cur w B g) (hb : w.grownBy w' row) (hk : ∀ k, row = some k → g < k) : Cur w' B g := by
  have ho := h.own
  obtain ⟨A, n, c, i, x, hc⟩ := h
  refine ⟨A, n, c, i, x, ⟨(hb.block _ hc.cells.lt (fun e => by have := hk _ e.symm; omega)).trans hc.cells, ho, fun j hj => ?_, hc.size, hc.lo, hc.hi⟩⟩
  have hlt := hc.cells.lt
  obtain ⟨b, o, z, hA, hl, h0, h1, hz⟩ := hc.bytes j hj
  exact ⟨b, o, z, hA, hl, h0, h1, (World.cell?_of_block (a := ⟨b, o + j, none⟩) (hb.block b (by omega) (fun e => by have := hk _ e.symm; omega))).trans hz⟩
/-- More types at the end of the box's row. -/
theorem BoxT.push {G : Nat → Prop} {B g X Y : Nat} {w W0 w6 w8 : World} {k : Int} {s : ByteArray} {A : Option Addr} {n c gg cap m : Nat} {l ys : List TypeX} {us news : List Value} {o : Obj} (h : BoxT G B g X Y w W0 w6 k s A n c l) (hW : X < W0.heap.size)
    (he : ElemsT w6 (fun b => Nog (fun b => (G b ∨ b = X) ∨ b = Y) w6 b ∧ (Value.slice A n c).ownBlock ≠ some b) l us) (hy : ElemsT w6 (Nog (fun b => ((G b ∨ b = X) ∨ b = Y) ∨ (Value.slice A n c).ownBlock = some b) w6) ys news)
    (hown : w8.ownsRow W0.heap.size 26 3 (.slice (some ⟨gg, 0, none⟩) (n + m) cap) (n + m) (us ++ news)) (hm : m = ys.length) (hgrow : (w6.alloc o).grownBy w8 (Value.slice A n c).ownBlock) (hat : (Value.slice A n c).ownBlock = some gg ∨ gg = w6.heap.size + 1) :
    Whole w8 X 26 zeroT ∧ Whole w8 Y 26 #[.int .i64 k, .string s, .slice A n c] ∧ ∀ w9, w9 = w8.setCell ⟨Y, 2, none⟩ (.slice (some ⟨gg, 0, none⟩) (n + m) cap) → BoxT G B g X Y w W0 w9 k s (some ⟨gg, 0, none⟩) (n + m) cap (l ++ ys) := by
  have hY := h.ry.lt
  have hXl := h.rx.lt
  have hXY := h.XY
  have hgX := h.gX
  have hwX := h.wX
  have hba : Below w6.heap.size w6 (w6.alloc o) := (Below.refl _ _).alloc (Nat.le_refl _) o
  have hown6 : ∀ b, (Value.slice A n c).ownBlock = some b → W0.heap.size ≤ b ∧ b < w6.heap.size := fun b hb => h.top.own_lt hb
  have h7 := h.grow hba
  have hX8 : Whole w8 X 26 zeroT := (hgrow.block X h7.rx.lt (fun e => by have := (hown6 _ e.symm).1; omega)).trans h7.rx
  have hY8 : Whole w8 Y 26 #[.int .i64 k, .string s, .slice A n c] := (hgrow.block Y h7.ry.lt (Ne.symm h.neY)).trans h7.ry
  have hz8 := hgrow.size
  simp only [World.size_alloc] at hz8
  have hsame : ∀ b, b < w6.heap.size → (Value.slice A n c).ownBlock ≠ some b → w8.heap[b]? = w6.heap[b]? := fun b hb' hne => (hgrow.block b (by simp; omega) (Ne.symm hne)).trans (Below.heap_alloc _ _ _ hb')
  have hnew : ∀ b, b < w6.heap.size → (Value.slice A n c).ownBlock ≠ some b → (Value.slice (some ⟨gg, 0, none⟩) (n + m) cap).ownBlock ≠ some b := fun b hb' hne e => by
    simp only [Value.ownBlock] at e
    injection e with e
    rcases hat with h' | h'
    · exact hne (h'.trans (by rw [e]))
    · omega
  have hY9 : (Value.slice (some ⟨gg, 0, none⟩) (n + m) cap).ownBlock ≠ some Y := hnew Y hY h.neY
  have hg9 : (Value.slice (some ⟨gg, 0, none⟩) (n + m) cap).ownBlock ≠ some g := hnew g (by omega) h.neg
  have hlen : n + m = (l ++ ys).length := by rw [List.length_append, ← h.len, ← hm]
  have htop : TopT (fun b => (G b ∨ b = X) ∨ b = Y) W0 w8 (.slice (some ⟨gg, 0, none⟩) (n + m) cap) (l ++ ys) := by
    refine ⟨us ++ news, by rw [← hlen]; exact hown, ElemsT.append (he.frame (fun b h => ⟨⟨by have := h.1.1; omega, h.1.2⟩, hnew b h.1.1 h.2⟩) fun b o h => World.cell?_of_block (a := ⟨b, o, none⟩) (hsame b h.1.1 h.2)) (hy.frame (fun b h => ⟨⟨by have := h.1; omega, fun hg => h.2 (.inl hg)⟩, hnew b h.1 (fun e => h.2 (.inr e))⟩) fun b o h => World.cell?_of_block (a := ⟨b, o, none⟩) (hsame b h.1 (fun e => h.2 (.inr e))))⟩
  have hb8 : But g w w8 := h7.but.grow_ hgrow fun k hk => by have := (hown6 _ hk).1; omega
  have hc8 : Cur w8 B g := cur_grown h7.cur hgrow fun k hk => by have := (hown6 _ hk).1; omega
  refine ⟨hX8, hY8, ?_⟩
  rintro w9 rfl
  have hbt := But.set_ Y w8 2 (.slice (some ⟨gg, 0, none⟩) (n + m) cap)
  exact ⟨whole_but hX8 hbt (by omega), by simpa using hY8.set_ 2 _, hlen, htop.butX hY9 (.inr rfl) hbt, hY9, hg9, cur_far hc8 hbt (by omega), but_new hb8 hbt (by omega), hgX, hXY, hwX⟩
def nameWords : List ByteArray := [⟨#[]⟩, ⟨#[105, 110, 116]⟩, ⟨#[65]⟩, ⟨#[97, 115, 115, 111, 99]⟩, ⟨#[97, 98, 99, 100, 101, 102, 103, 104, 105]⟩]
theorem nameWords_short {s : ByteArray} (h : s ∈ nameWords) : s.size ≤ 100 := by
  simp only [nameWords, List.mem_cons, List.mem_nil_iff, or_false] at h
  rcases h with rfl | rfl | rfl | rfl | rfl <;> decide

end Go.Proofs.YtngbilblddngcaaDoor

/- The draws of chapter 4: l4Bent, DrawIsValidType. -/
import Derived.Test.YtpffmcofajlkgaaZDrawTy3
import Derived.Deep.AppendLies
import Derived.Deep.RegionLaw
namespace Go.Proofs.Ytpffmcofajlkgaa
open Go.RowKit Go.Lib

theorem TopT.rowX {G : Nat → Prop} {w w' : World} {V : Value} {l : List TypeX} (hG : ∀ b, V.ownBlock = some b → ¬ G b) (h : TopT G w w' V l) : ∃ A c, V = .slice A l.length c ∧ TypeRow w' (Nog G w') A c l := by
  obtain ⟨us, ho, he⟩ := h
  exact own_typeRow ho he (fun b h => h.1) (fun b hb => ⟨(ho.lt b hb).2, hG b hb⟩)
theorem TopT.more {G G' : Nat → Prop} {w w' : World} {V : Value} {l : List TypeX} (h : TopT G w w' V l) (hG : ∀ b, b < w'.heap.size → G' b → G b) : TopT G' w w' V l := by
  obtain ⟨us, ho, he⟩ := h
  exact ⟨us, ho, he.frame (fun b h => ⟨⟨h.1.1, fun hg => h.1.2 (hG b h.1.1 hg)⟩, h.2⟩) fun _ _ _ => rfl⟩
theorem TopT.own_lt {G : Nat → Prop} {w w' : World} {V : Value} {l : List TypeX} (h : TopT G w w' V l) {b : Nat} (hb : V.ownBlock = some b) : w.heap.size ≤ b ∧ b < w'.heap.size := by
  obtain ⟨us, ho, _⟩ := h
  exact ho.lt b hb

/-- THE BOX OF A DRAW UNDER WAY: X the result's, Y the type's own. -/
structure BoxT (G : Nat → Prop) (B g X Y : Nat) (w W0 w' : World) (k : Int) (s : ByteArray) (A : Option Addr) (n c : Nat) (l : List TypeX) : Prop where
  rx : Whole w' X 26 zeroT
  ry : Whole w' Y 26 #[.int .i64 k, .string s, .slice A n c]
  len : n = l.length
  top : TopT (fun b => (G b ∨ b = X) ∨ b = Y) W0 w' (.slice A n c) l
  neY : (Value.slice A n c).ownBlock ≠ some Y
  neg : (Value.slice A n c).ownBlock ≠ some g
  cur : Cur w' B g
  but : But g w w'
  gX : g < X
  XY : X < Y
  wX : w.heap.size ≤ X
theorem BoxT.draw {G : Nat → Prop} {B g X Y : Nat} {w W0 w' w2 : World} {k : Int} {s : ByteArray} {A : Option Addr} {n c : Nat} {l : List TypeX} (h : BoxT G B g X Y w W0 w' k s A n c l) (hg : G g) (hc : Cur w2 B g) (hb : But g w' w2) : BoxT G B g X Y w W0 w2 k s A n c l :=
  ⟨whole_but h.rx hb (by have := h.gX; omega), whole_but h.ry hb (by have := h.gX; have := h.XY; omega), h.len, h.top.butX h.neg (.inl (.inl hg)) hb, h.neY, h.neg, hc, h.but.trans hb, h.gX, h.XY, h.wX⟩
theorem BoxT.grow {G : Nat → Prop} {B g X Y : Nat} {w W0 w' w2 : World} {k : Int} {s : ByteArray} {A : Option Addr} {n c : Nat} {l : List TypeX} (h : BoxT G B g X Y w W0 w' k s A n c l) (hb : Below w'.heap.size w' w2) : BoxT G B g X Y w W0 w2 k s A n c l :=
  ⟨whole_keep h.rx hb, whole_keep h.ry hb, h.len, h.top.below hb, h.neY, h.neg, h.cur.kept hb, h.but.trans (But.of_below hb), h.gX, h.XY, h.wX⟩
/-- The box rewritten: what holds of the new cells, of the world before. -/
theorem BoxT.set {G : Nat → Prop} {B g X Y : Nat} {w W0 w' w2 : World} {k k2 : Int} {s s2 : ByteArray} {A A2 : Option Addr} {n c n2 c2 : Nat} {l l2 : List TypeX} (h : BoxT G B g X Y w W0 w' k s A n c l) (hb : But Y w' w2)
    (hy : Whole w2 Y 26 #[.int .i64 k2, .string s2, .slice A2 n2 c2]) (hn : n2 = l2.length) (ht : TopT (fun b => (G b ∨ b = X) ∨ b = Y) W0 w' (.slice A2 n2 c2) l2) (hY : (Value.slice A2 n2 c2).ownBlock ≠ some Y) (hg : (Value.slice A2 n2 c2).ownBlock ≠ some g) : BoxT G B g X Y w W0 w2 k2 s2 A2 n2 c2 l2 :=
  ⟨whole_but h.rx hb (by have := h.XY; omega), hy, hn, ht.butX hY (.inr rfl) hb, hY, hg, cur_far h.cur hb (by have := h.gX; have := h.XY; omega), but_new h.but hb (by have := h.wX; have := h.XY; omega), h.gX, h.XY, h.wX⟩
theorem BoxT.setK {G : Nat → Prop} {B g X Y : Nat} {w W0 w' : World} {k : Int} {s : ByteArray} {A : Option Addr} {n c : Nat} {l : List TypeX} (h : BoxT G B g X Y w W0 w' k s A n c l) (k2 : Int) : BoxT G B g X Y w W0 (w'.setCell ⟨Y, 0, none⟩ (.int .i64 k2)) k2 s A n c l :=
  h.set (But.set_ _ _ _ _) (by simpa using h.ry.set_ 0 (.int .i64 k2)) h.len h.top h.neY h.neg
theorem BoxT.setS {G : Nat → Prop} {B g X Y : Nat} {w W0 w' : World} {k : Int} {s : ByteArray} {A : Option Addr} {n c : Nat} {l : List TypeX} (h : BoxT G B g X Y w W0 w' k s A n c l) (s2 : ByteArray) : BoxT G B g X Y w W0 (w'.setCell ⟨Y, 1, none⟩ (.string s2)) k s2 A n c l :=
  h.set (But.set_ _ _ _ _) (by simpa using h.ry.set_ 1 (.string s2)) h.len h.top h.neY h.neg
/-- The ending. -/
theorem BoxT.fin_ {G : Nat → Prop} {N B g Y : Nat} {w W0 w' : World} {k : Int} {s : ByteArray} {A : Option Addr} {n c : Nat} {l : List TypeX} (h : BoxT G B g w.heap.size Y w W0 w' k s A n c l) (hg : g < w.heap.size) (hlt : w.heap.size < W0.heap.size) (hN : 1 + TypeX.sizeL l ≤ N) (htm : (TypeX.mk k s l).tame) (hun : (TypeX.mk k s l).under) :
    ∀ w4, w4 = ((w'.setCell ⟨w.heap.size, 0, none⟩ (.int .i64 k)).setCell ⟨w.heap.size, 1, none⟩ (.string s)).setCell ⟨w.heap.size, 2, none⟩ (.slice A n c) →
      w4.cell? ⟨w.heap.size, 0, none⟩ = some (.int .i64 k) ∧ w4.cell? ⟨w.heap.size, 1, none⟩ = some (.string s) ∧ w4.cell? ⟨w.heap.size, 2, none⟩ = some (.slice A n c) ∧ DrawnT G N B g w (.returned (.agg #[.int .i64 k, .string s, .slice A n c])) w4 := by
  have hl := h.len
  subst hl
  exact drawEndT (x := .mk k s l) hg h.rx h.top (.inl (.inr rfl)) hlt (fun b hb => .inl (.inl hb)) h.cur h.but (by rw [TypeX.size]; exact hN) htm hun
theorem namesL_app4 : ∀ (l m : List TypeX), TypeX.namesL (l ++ m) = TypeX.namesL l ++ TypeX.namesL m
  | [], m => by rw [TypeX.namesL]; rfl
  | x :: r, m => by rw [List.cons_append, TypeX.namesL, TypeX.namesL, namesL_app4 r m, List.append_assoc]
theorem tameL_append : ∀ (l m : List TypeX), TypeX.tameL l → TypeX.tameL m → TypeX.tameL (l ++ m)
  | [], m, _, h => h
  | x :: r, m, h, hm => by rw [TypeX.tameL] at h; rw [List.cons_append, TypeX.tameL]; exact ⟨h.1, tameL_append r m h.2 hm⟩
theorem intC' (G : Nat → Prop) (w : World) (hG : ∀ b, G b → b < w.heap.size) : Calls Try.prog 96 #[] w fun e w' => (∃ A c, e = .returned (.agg #[.int .i64 2, .string ⟨#[105, 110, 116]⟩, .slice A 0 c]) ∧ TypeRow w' (Nog G w') A c []) ∧ Below w.heap.size w w' := by
  refine (intC G w).mono ?_
  rintro e w' ⟨⟨V, rfl, ht⟩, hb⟩
  obtain ⟨A, c, rfl, hr⟩ := ht.row hG
  exact ⟨⟨A, c, rfl, hr⟩, hb⟩
theorem boolC' (G : Nat → Prop) (w : World) (hG : ∀ b, G b → b < w.heap.size) : Calls Try.prog 97 #[] w fun e w' => (∃ A c, e = .returned (.agg #[.int .i64 2, .string ⟨#[98, 111, 111, 108]⟩, .slice A 0 c]) ∧ TypeRow w' (Nog G w') A c []) ∧ Below w.heap.size w w' := by
  refine (boolC G w).mono ?_
  rintro e w' ⟨⟨V, rfl, ht⟩, hb⟩
  obtain ⟨A, c, rfl, hr⟩ := ht.row hG
  exact ⟨⟨A, c, rfl, hr⟩, hb⟩
theorem But.grow_ {g : Nat} {a w w' : World} {row : Option Nat} (h : But g a w) (hg : w.grownBy w' row) (hrow : ∀ k, row = some k → a.heap.size ≤ k) : But g a w' :=
  ⟨hg.os.trans h.os, hg.tape.trans h.tape, hg.output.trans h.output, Nat.le_trans h.size hg.size, fun k hk hne =>
    (hg.block k (Nat.lt_of_lt_of_le hk h.size) (fun e => by have := hrow k e.symm; omega)).trans (h.block k hk hne)⟩
theorem cur_grown {w w' : World} {B g : Nat} {row : Option Nat} (h : Cur w B g) (hb : w.grownBy w' row) (hk : ∀ k, row = some k → g < k) : Cur w' B g := by
  have ho := h.own
  obtain ⟨A, n, c, i, x, hc⟩ := h
  refine ⟨A, n, c, i, x, ⟨(hb.block _ hc.cells.lt (fun e => by have := hk _ e.symm; omega)).trans hc.cells, ho, fun j hj => ?_, hc.size, hc.lo, hc.hi⟩⟩
  have hlt := hc.cells.lt
  obtain ⟨b, o, z, hA, hl, h0, h1, hz⟩ := hc.bytes j hj
  exact ⟨b, o, z, hA, hl, h0, h1, (World.cell?_of_block (a := ⟨b, o + j, none⟩) (hb.block b (by omega) (fun e => by have := hk _ e.symm; omega))).trans hz⟩
/-- More types at the end of the box's row. -/
theorem BoxT.push {G : Nat → Prop} {B g X Y : Nat} {w W0 w6 w8 : World} {k : Int} {s : ByteArray} {A : Option Addr} {n c gg cap m : Nat} {l ys : List TypeX} {us news : List Value} {o : Obj} (h : BoxT G B g X Y w W0 w6 k s A n c l) (hW : X < W0.heap.size)
    (he : ElemsT w6 (fun b => Nog (fun b => (G b ∨ b = X) ∨ b = Y) w6 b ∧ (Value.slice A n c).ownBlock ≠ some b) l us) (hy : ElemsT w6 (Nog (fun b => ((G b ∨ b = X) ∨ b = Y) ∨ (Value.slice A n c).ownBlock = some b) w6) ys news)
    (hown : w8.ownsRow W0.heap.size 26 3 (.slice (some ⟨gg, 0, none⟩) (n + m) cap) (n + m) (us ++ news)) (hm : m = ys.length) (hgrow : (w6.alloc o).grownBy w8 (Value.slice A n c).ownBlock) (hat : (Value.slice A n c).ownBlock = some gg ∨ gg = w6.heap.size + 1) :
    Whole w8 X 26 zeroT ∧ Whole w8 Y 26 #[.int .i64 k, .string s, .slice A n c] ∧ ∀ w9, w9 = w8.setCell ⟨Y, 2, none⟩ (.slice (some ⟨gg, 0, none⟩) (n + m) cap) → BoxT G B g X Y w W0 w9 k s (some ⟨gg, 0, none⟩) (n + m) cap (l ++ ys) := by
  have hY := h.ry.lt
  have hXl := h.rx.lt
  have hXY := h.XY
  have hgX := h.gX
  have hwX := h.wX
  have hba : Below w6.heap.size w6 (w6.alloc o) := (Below.refl _ _).alloc (Nat.le_refl _) o
  have hown6 : ∀ b, (Value.slice A n c).ownBlock = some b → W0.heap.size ≤ b ∧ b < w6.heap.size := fun b hb => h.top.own_lt hb
  have h7 := h.grow hba
  have hX8 : Whole w8 X 26 zeroT := (hgrow.block X h7.rx.lt (fun e => by have := (hown6 _ e.symm).1; omega)).trans h7.rx
  have hY8 : Whole w8 Y 26 #[.int .i64 k, .string s, .slice A n c] := (hgrow.block Y h7.ry.lt (Ne.symm h.neY)).trans h7.ry
  have hz8 := hgrow.size
  simp only [World.size_alloc] at hz8
  have hsame : ∀ b, b < w6.heap.size → (Value.slice A n c).ownBlock ≠ some b → w8.heap[b]? = w6.heap[b]? := fun b hb' hne => (hgrow.block b (by simp; omega) (Ne.symm hne)).trans (Below.heap_alloc _ _ _ hb')
  have hnew : ∀ b, b < w6.heap.size → (Value.slice A n c).ownBlock ≠ some b → (Value.slice (some ⟨gg, 0, none⟩) (n + m) cap).ownBlock ≠ some b := fun b hb' hne e => by
    simp only [Value.ownBlock] at e
    injection e with e
    rcases hat with h' | h'
    · exact hne (h'.trans (by rw [e]))
    · omega
  have hY9 : (Value.slice (some ⟨gg, 0, none⟩) (n + m) cap).ownBlock ≠ some Y := hnew Y hY h.neY
  have hg9 : (Value.slice (some ⟨gg, 0, none⟩) (n + m) cap).ownBlock ≠ some g := hnew g (by omega) h.neg
  have hlen : n + m = (l ++ ys).length := by rw [List.length_append, ← h.len, ← hm]
  have htop : TopT (fun b => (G b ∨ b = X) ∨ b = Y) W0 w8 (.slice (some ⟨gg, 0, none⟩) (n + m) cap) (l ++ ys) := by
    refine ⟨us ++ news, by rw [← hlen]; exact hown, ElemsT.append (he.frame (fun b h => ⟨⟨by have := h.1.1; omega, h.1.2⟩, hnew b h.1.1 h.2⟩) fun b o h => World.cell?_of_block (a := ⟨b, o, none⟩) (hsame b h.1.1 h.2)) (hy.frame (fun b h => ⟨⟨by have := h.1; omega, fun hg => h.2 (.inl hg)⟩, hnew b h.1 (fun e => h.2 (.inr e))⟩) fun b o h => World.cell?_of_block (a := ⟨b, o, none⟩) (hsame b h.1 (fun e => h.2 (.inr e))))⟩
  have hb8 : But g w w8 := h7.but.grow_ hgrow fun k hk => by have := (hown6 _ hk).1; omega
  have hc8 : Cur w8 B g := cur_grown h7.cur hgrow fun k hk => by have := (hown6 _ hk).1; omega
  refine ⟨hX8, hY8, ?_⟩
  rintro w9 rfl
  have hbt := But.set_ Y w8 2 (.slice (some ⟨gg, 0, none⟩) (n + m) cap)
  exact ⟨whole_but hX8 hbt (by omega), by simpa using hY8.set_ 2 _, hlen, htop.butX hY9 (.inr rfl) hbt, hY9, hg9, cur_far hc8 hbt (by omega), but_new hb8 hbt (by omega), hgX, hXY, hwX⟩
def nameWords : List ByteArray := [⟨#[]⟩, ⟨#[105, 110, 116]⟩, ⟨#[65]⟩, ⟨#[97, 115, 115, 111, 99]⟩, ⟨#[97, 98, 99, 100, 101, 102, 103, 104, 105]⟩]
theorem nameWords_short {s : ByteArray} (h : s ∈ nameWords) : s.size ≤ 100 := by
  simp only [nameWords, List.mem_cons, List.mem_nil_iff, or_false] at h
  rcases h with rfl | rfl | rfl | rfl | rfl <;> decide

set_option maxRecDepth 100000 in
set_option maxHeartbeats 1000000 in
theorem bentC (G : Nat → Prop) (B g : Nat) (w : World) (hG : ∀ b, G b → b < w.heap.size) (hg : G g) (hc : Cur w B g) :
    Calls Try.prog 79 #[.pointer (some ⟨g, 0, none⟩)] w (DrawnT G 100 B g w) := by
  have hgl := hc.lt
  have hbX : Below w.heap.size w (w.alloc (.cells zeroT 26)) := (Below.refl _ _).alloc (Nat.le_refl _) _
  have HXX := Lib.hid (Whole.new w 26 zeroT)
  have HCC := Lib.hid (hc.kept hbX)
  have HBB := Lib.hid (But.of_below (g := g) hbX)
  have HGX : Hid (∀ b, (G b ∨ b = w.heap.size) → b < (w.alloc (.cells zeroT 26)).heap.size) := Lib.hid fun b h => by simp; exact h.elim (fun h => by have := hG b h; omega) (fun e => by omega)
  have HW0 : Hid ((w.alloc (.cells zeroT 26)).heap.size = w.heap.size + 1) := Lib.hid (by simp)
  clear hc hbX hG
  go_enter Try.func79, Try.ntmps79
  go_wp2_with fail
  refine (freeC (fun b => G b ∨ b = w.heap.size) B g 3 (by decide) _ HGX.out (.inl hg) HCC.out).mono ?_
  rintro e w2 ⟨x, ⟨V2, rfl, ht2⟩, hxs, hxt, hxf, hc2, hb2⟩
  obtain ⟨A2, c2, rfl⟩ := ht2.shape
  have hbY : Below w2.heap.size w2 (w2.alloc (.cells #[.int .i64 x.kind_, .string x.name_, .slice A2 x.args_.length c2] 26)) := (Below.refl _ _).alloc (Nat.le_refl _) _
  have hs2 := hb2.size
  simp only [World.size_alloc] at hs2
  have hbox : BoxT G B g w.heap.size w2.heap.size w (w.alloc (.cells zeroT 26)) (w2.alloc (.cells #[.int .i64 x.kind_, .string x.name_, .slice A2 x.args_.length c2] 26)) x.kind_ x.name_ A2 x.args_.length c2 x.args_ :=
    ⟨whole_keep (whole_but HXX.out hb2 (by omega)) hbY, Whole.new w2 26 _, rfl, (ht2.more (G' := fun b => (G b ∨ b = w.heap.size) ∨ b = w2.heap.size) fun b hb h => h.elim id (fun e => by omega)).below hbY, fun e => by have := (ht2.own_lt e).2; omega, ht2.ne (by have := HW0.out; omega), hc2.kept hbY, (HBB.out.trans hb2).trans (But.of_below hbY), hgl, by omega, Nat.le_refl _⟩
  have htm := hxt
  rw [TypeX.tame_eq] at htm
  obtain ⟨tm1, tm2, tm3, tm4⟩ := htm
  have tm5 : x.name_.size = 1 → TypeX.namesL x.args_ = [] := fun h => hxf.1.2.elim (fun h0 => by rw [h0, TypeX.namesL]) (fun h0 => by omega)
  have TMN := Lib.hid hxf.2
  have TMU := Lib.hid (under_of hxf.2)
  have tm6 : x.kind_ = 1 → x.args_ = [] := hxf.1.root
  have hsz : TypeX.sizeL x.args_ ≤ 16 := by rw [TypeX.size_eq] at hxs; have : 2 ^ (3 + 1) = 16 := rfl; omega
  have HBOX := Lib.hid hbox
  have HSZ := Lib.hid hsz
  have HTM := Lib.hid tm1
  clear hc2 ht2 hbY hbox hb2 HBB HCC HXX hxs hsz hxt tm1
  go_wp2_with fail
  refine (drawBelow B g 12 _ HBOX.out.cur (by decide) (by decide)).mono ?_
  rintro e w3 ⟨v, rfl, ⟨z, rfl, hz0, hz8⟩, hc3, hb3⟩
  have HB3 := Lib.hid (HBOX.out.draw hg hc3 hb3)
  have hs3 := hb3.size
  simp only [World.size_alloc] at hs3
  clear hc3 hb3 HBOX
  by_cases h0 : z = 0
  · subst h0
    go_wp2_with fail
    refine (drawBelow B g 7 _ HB3.out.cur (by decide) (by decide)).mono ?_
    rintro e w4 ⟨v, rfl, ⟨z2, rfl, hy0, hy7⟩, hc4, hb4⟩
    have HE0 := Lib.hid (HB3.out.draw hg hc4 hb4)
    have HE := Lib.hid ((HE0.out.setK (z2 - 1)).fin_ (N := 100) hgl (by have := HW0.out; omega) (by have := HSZ.out; omega) (by rw [TypeX.tame]; exact ⟨by omega, tm2, tm3, fun _ => tm5⟩) TMU.out)
    clear hc4 hb4
    have hX := HE0.out.rx
    have hY := HE0.out.ry
    obtain ⟨r0, r1, r2⟩ := cells3 hX
    have rf0 := hX.frozen 0
    have rf1 := hX.frozen 1
    have rf2 := hX.frozen 2
    have hxlt := hX.lt
    obtain ⟨y0, y1, y2⟩ := cells3 hY
    have yf0 := hY.frozen 0
    have yf1 := hY.frozen 1
    have yf2 := hY.frozen 2
    have hylt := hY.lt
    clear hX hY
    go_wp2
    obtain ⟨e0, e1, e2, e3⟩ := HE.out _ rfl
    exact bodyPost_ret (v := .agg #[.int .i64 (z2 - 1), .string x.name_, .slice A2 x.args_.length c2]) (by simp [results, Try.results79, go_sem, e0, e1, e2]) rfl e3
  · have h0' : (z == 0) = false := by simpa using h0
    by_cases h1 : z = 1
    · subst h1
      have hp1 := Whole.new w3 9 (nameWords.map Value.string).toArray
      have hbp : Below w3.heap.size w3 (w3.alloc (.cells (nameWords.map Value.string).toArray 9)) := (Below.refl _ _).alloc (Nat.le_refl _) _
      have HP := Lib.hid hp1
      have HBP := Lib.hid (HB3.out.grow hbp)
      clear hp1 hbp
      go_wp2_with fail
      refine (drawPick B g w3.heap.size 5 nameWords _ HBP.out.cur HP.out (by decide) (by decide) (by omega)).mono ?_
      rintro e w4 ⟨v, rfl, ⟨s, hsm, rfl⟩, hc4, hb4⟩
      have hss := nameWords_short hsm
      have HE0 := Lib.hid (HBP.out.draw hg hc4 hb4)
      have HE := Lib.hid ((HE0.out.setS s).fin_ (N := 100) hgl (by have := HW0.out; omega) (by have := HSZ.out; omega) (by rw [TypeX.tame]; exact ⟨HTM.out, hss, tm3, fun h _ => by rw [tm6 h, TypeX.namesL]⟩) TMU.out)
      clear hc4 hb4 hsm
      have hX := HE0.out.rx
      have hY := HE0.out.ry
      obtain ⟨r0, r1, r2⟩ := cells3 hX
      have rf0 := hX.frozen 0
      have rf1 := hX.frozen 1
      have rf2 := hX.frozen 2
      have hxlt := hX.lt
      obtain ⟨y0, y1, y2⟩ := cells3 hY
      have yf0 := hY.frozen 0
      have yf1 := hY.frozen 1
      have yf2 := hY.frozen 2
      have hylt := hY.lt
      clear hX hY
      go_wp2
      obtain ⟨e0, e1, e2, e3⟩ := HE.out _ rfl
      exact bodyPost_ret (v := .agg #[.int .i64 x.kind_, .string s, .slice A2 x.args_.length c2]) (by simp [results, Try.results79, go_sem, e0, e1, e2]) rfl e3
    · have h1' : (z == 1) = false := by simpa using h1
      by_cases h2 : z = 2
      · subst h2
        have hnl := HB3.out.len
        have hll := sizeL_length x.args_
        have HBX := Lib.hid (HB3.out.grow ((Below.refl w3.heap.size w3).drew))
        have HG3 : Hid (∀ b, (((G b ∨ b = w.heap.size) ∨ b = w2.heap.size) ∨ (Value.slice A2 x.args_.length c2).ownBlock = some b) → b < w3.drew.heap.size) := Lib.hid fun b h => by
          have := HBX.out.ry.lt
          have hw := HW0.out
          rcases h with ((h | h) | h) | h
          · have := HGX.out b (.inl h); omega
          · omega
          · omega
          · exact (HBX.out.top.own_lt h).2
        obtain ⟨i0, hi, hz0', hz1', hz2'⟩ := info_parts infoTy
        obtain ⟨y0, y1, y2⟩ := cells3 HB3.out.ry
        have yf2 := HB3.out.ry.frozen 2
        have hylt := HB3.out.ry.lt
        go_wp2
        go_region_law (first
          | (refine step_append_lies _ (by rfl) _ _ _ (by rfl) (w.alloc (.cells zeroT 26)).heap.size 26 i0 (.agg #[.int .i64 0, .string ByteArray.empty, .slice none 0 0]) 3 48 Try.underlying24 hi hz0' hz1' hz2' rfl (by decide) (.slice A2 x.args_.length c2) x.args_.length us (by rfl) HO.out
               ⟨w6.heap.size, 0, none⟩ 3 3 [.int .i64 2, .string ⟨#[105, 110, 116]⟩, .slice A4 0 c4, .int .i64 2, .string ⟨#[98, 111, 111, 108]⟩, .slice A5 0 c5, .int .i64 2, .string ⟨#[105, 110, 116]⟩, .slice A6 0 c6] (by rfl) (by rfl)
               (World.news_of_block (cs := #[.int .i64 2, .string ⟨#[105, 110, 116]⟩, .slice A4 0 c4, .int .i64 2, .string ⟨#[98, 111, 111, 108]⟩, .slice A5 0 c5, .int .i64 2, .string ⟨#[105, 110, 116]⟩, .slice A6 0 c6]) (t := 26) (fr := (0, 0)) (heap_alloc_new w6 _)) (by simp [Value.oneCell'])
               (by decide) (by have := HSZ.out; unfold maxLen; omega) (by have := HSZ.out; omega) (by have := HW0.out; simp; omega) (w6.heap.size + 1) (by simp) ?_
             intro gg cap w8 hown8 hgrow8 hat8 hlt8
             obtain ⟨hX8, hY8, hset8⟩ := HBX.out.push (by have := HW0.out; omega) HE6.out (ys := [.mk 2 ⟨#[105, 110, 116]⟩ [], .mk 2 ⟨#[98, 111, 111, 108]⟩ [], .mk 2 ⟨#[105, 110, 116]⟩ []]) ⟨A4, c4, _, rfl, HR1.out, A5, c5, _, rfl, HR2.out, A6, c6, [], rfl, HR3.out, rfl⟩ hown8 rfl hgrow8 hat8
             have HSET := Lib.hid (hset8 _ rfl)
             have HX8 := Lib.hid hX8
             have HY8 := Lib.hid hY8
             have y2 := (cells3 hY8).2.2
             have yf2 := hY8.frozen 2
             have hylt8 := hY8.lt
             clear hset8 hgrow8 hat8 hown8 hX8 hY8)
          | (go_simp
             go_at_call 96
             first
               | (have HR2' := HR2
                  clear HR2'
                  refine (intC' (fun b => ((G b ∨ b = w.heap.size) ∨ b = w2.heap.size) ∨ (Value.slice A2 x.args_.length c2).ownBlock = some b) _ HGC.out).mono ?_
                  rintro e w6 ⟨⟨A6, c6, rfl, hr⟩, hb6⟩
                  have HR1 := Lib.hid (HR1.out.nog hb6)
                  have HR2 := Lib.hid (HR2.out.nog hb6)
                  have HR3 := Lib.hid hr
                  have HBX := Lib.hid (HBX.out.grow hb6)
                  have hs6 := hb6.size
                  have y2 := (cells3 HBX.out.ry).2.2
                  have yf2 := HBX.out.ry.frozen 2
                  have hylt6 := HBX.out.ry.lt
                  obtain ⟨us, ho, he⟩ := HBX.out.top
                  have HO := Lib.hid (ho.alloc (.cells #[.int .i64 2, .string ⟨#[105, 110, 116]⟩, .slice A4 0 c4, .int .i64 2, .string ⟨#[98, 111, 111, 108]⟩, .slice A5 0 c5, .int .i64 2, .string ⟨#[105, 110, 116]⟩, .slice A6 0 c6] 26))
                  have HE6 := Lib.hid he
                  clear hr hb6 ho he)
               | (refine (intC' (fun b => ((G b ∨ b = w.heap.size) ∨ b = w2.heap.size) ∨ (Value.slice A2 x.args_.length c2).ownBlock = some b) _ HG3.out).mono ?_
                  rintro e w4 ⟨⟨A4, c4, rfl, hr⟩, hb4⟩
                  have HR1 := Lib.hid hr
                  have HBX := Lib.hid (HBX.out.grow hb4)
                  have hs4 := hb4.size
                  simp only [World.size_drew] at hs4
                  have HGC : Hid (∀ b, (((G b ∨ b = w.heap.size) ∨ b = w2.heap.size) ∨ (Value.slice A2 x.args_.length c2).ownBlock = some b) → b < w4.heap.size) := Lib.hid fun b h => Nat.lt_of_lt_of_le (HG3.out b h) hb4.size
                  have y2 := (cells3 HBX.out.ry).2.2
                  have yf2 := HBX.out.ry.frozen 2
                  have hylt4 := HBX.out.ry.lt
                  clear hr hb4))
          | (go_simp
             go_at_call 97
             refine (boolC' (fun b => ((G b ∨ b = w.heap.size) ∨ b = w2.heap.size) ∨ (Value.slice A2 x.args_.length c2).ownBlock = some b) _ HGC.out).mono ?_
             rintro e w5 ⟨⟨A5, c5, rfl, hr⟩, hb5⟩
             have HR1 := Lib.hid (HR1.out.nog hb5)
             have HR2 := Lib.hid hr
             have HBX := Lib.hid (HBX.out.grow hb5)
             have hs5 := hb5.size
             have HGC : Hid (∀ b, (((G b ∨ b = w.heap.size) ∨ b = w2.heap.size) ∨ (Value.slice A2 x.args_.length c2).ownBlock = some b) → b < w5.heap.size) := Lib.hid fun b h => Nat.lt_of_lt_of_le (HGC.out b h) hb5.size
             have y2 := (cells3 HBX.out.ry).2.2
             have yf2 := HBX.out.ry.frozen 2
             have hylt5 := HBX.out.ry.lt
             clear hr hb5))
        all_goals (
          have HE := Lib.hid (HSET.out.fin_ (N := 100) hgl (by have := HW0.out; omega) (by rw [sizeL_append]; have := HSZ.out; simp only [TypeX.sizeL, TypeX.size]; omega) (by rw [TypeX.tame]; exact ⟨HTM.out, tm2, tameL_append _ _ tm3 (by simp only [TypeX.tameL, TypeX.tame, TypeX.namesL]; decide), fun h _ => by rw [tm6 h]; simp [TypeX.namesL, TypeX.names]⟩) (fun u hu => by
            have hu : u ∈ TypeX.namesL (x.args_ ++ _) := hu
            rw [namesL_app4, List.mem_append] at hu
            rcases hu with hu | hu
            · exact TMU.out u hu
            · simp [TypeX.namesL, TypeX.names] at hu))
          have hX := HX8.out
          have hY := HY8.out
          obtain ⟨r0, r1, r2⟩ := cells3 hX
          have rf0 := hX.frozen 0
          have rf1 := hX.frozen 1
          have rf2 := hX.frozen 2
          have hxlt := hX.lt
          obtain ⟨y0, y1, y2⟩ := cells3 hY
          have yf0 := hY.frozen 0
          have yf1 := hY.frozen 1
          have yf2 := hY.frozen 2
          have hylt := hY.lt
          clear hX hY
          go_wp2
          obtain ⟨e0, e1, e2, e3⟩ := HE.out _ rfl
          exact bodyPost_ret (v := .agg #[.int .i64 x.kind_, .string x.name_, .slice (some ⟨gg, 0, none⟩) (x.args_.length + 3) cap]) (by simp [results, Try.results79, go_sem, e0, e1, e2]) rfl e3)
      · have h2' : (z == 2) = false := by simpa using h2
        by_cases h3 : z = 3
        · subst h3
          go_wp2
          go_loopw [4] (fun iv wr => ∃ (k : Nat) (K : Int) (S : ByteArray) (A : Option Addr) (n c : Nat) (l : List TypeX), k ≤ 6 ∧ iv = .int .i64 k ∧ BoxT G B g w.heap.size w2.heap.size w (w.alloc (.cells zeroT 26)) wr K S A n c l ∧ TypeX.sizeL l ≤ 16 + k ∧ (TypeX.mk K S l).tame ∧ ∀ u ∈ (TypeX.mk K S l).names, u ∈ varWords) (fun iv _ => 6 - (Go.RowKit.intOf iv).toNat)
          case atStart => exact ⟨0, _, _, _, _, _, _, Nat.zero_le _, rfl, HB3.out, HSZ.out, by rw [TypeX.tame]; exact ⟨HTM.out, tm2, tm3, tm4⟩, by rw [names_eta]; exact TMN.out⟩
          case round =>
            obtain ⟨k, K, S, A, n, c, l, hk, rfl, hbx, hsl, htm, hnm⟩ := hrel
            have HE0 := Lib.hid hbx
            by_cases hlt : k < 6
            · obtain ⟨A', c', e', hrow⟩ := hbx.top.rowX (fun b hb h => by
                rcases h with (h | h) | h
                · have := (hbx.top.own_lt hb).1; have := HW0.out; have := HGX.out b (.inl h); omega
                · have := (hbx.top.own_lt hb).1; have := HW0.out; omega
                · exact hbx.neY (h ▸ hb))
              injection e' with e1 e2 e3
              subst e1 e3
              have hn := hbx.len
              subst hn
              have hGw : ∀ b, ((G b ∨ b = w.heap.size) ∨ b = w2.heap.size) → b < wr.heap.size := fun b h => by
                have := hbx.ry.lt
                rcases h with (h | h) | h
                · have := HGX.out b (.inl h); have := HW0.out; omega
                · omega
                · omega
              have HROW := Lib.hid (row_one (x := .mk K S l) hrow hGw)
              have hbr : Below wr.heap.size wr (wr.alloc (.cells #[.int .i64 K, .string S, .slice A l.length c] 26)) := (Below.refl _ _).alloc (Nat.le_refl _) _
              have HBR := Lib.hid (hbx.grow hbr)
              have HGW := Lib.hid hGw
              clear hbr hGw hrow hbx
              have hX := HE0.out.rx
              have hY := HE0.out.ry
              obtain ⟨r0, r1, r2⟩ := cells3 hX
              have rf0 := hX.frozen 0
              have rf1 := hX.frozen 1
              have rf2 := hX.frozen 2
              have hxlt := hX.lt
              obtain ⟨y0, y1, y2⟩ := cells3 hY
              have yf0 := hY.frozen 0
              have yf1 := hY.frozen 1
              have yf2 := hY.frozen 2
              have hylt := hY.lt
              clear hX hY
              go_wp2_with fail
              refine (conC (fun b => (G b ∨ b = w.heap.size) ∨ b = w2.heap.size) ⟨#[108, 105, 115, 116]⟩ (some ⟨wr.heap.size, 0, none⟩) 1 [.mk K S l] _ (by simp) HROW.out).mono ?_
              rintro e w5 ⟨⟨V, rfl, ht⟩, hb5⟩
              obtain ⟨A5, c5, rfl⟩ := ht.shape
              clear r0 r1 r2 rf0 rf1 rf2 y0 y1 y2 yf0 yf1 yf2
              have hB5 := HBR.out.grow hb5
              have hX := hB5.rx
              have hY := hB5.ry
              obtain ⟨y0, y1, y2⟩ := cells3 hY
              have yf0 := hY.frozen 0
              have yf1 := hY.frozen 1
              have yf2 := hY.frozen 2
              have hylt5 := hY.lt
              have hset := hB5.set (k2 := 2) (s2 := ⟨#[108, 105, 115, 116]⟩) (A2 := A5) (n2 := 1) (c2 := c5) (l2 := [.mk K S l]) (((But.set_ w2.heap.size w5 0 (.int .i64 2)).trans (But.set_ _ _ 1 (.string ⟨#[108, 105, 115, 116]⟩))).trans (But.set_ _ _ 2 (.slice A5 1 c5))) (by simpa using ((hY.set_ 0 (.int .i64 2)).set_ 1 (.string ⟨#[108, 105, 115, 116]⟩)).set_ 2 (.slice A5 1 c5)) rfl
                (ht.wide (by have := HW0.out; simp; omega)) (ht.ne (by simp; omega)) (ht.ne (by simp; omega))
              have HSET := Lib.hid hset
              clear hset hX hY hB5 ht hb5
              go_wp2
              go_roundw
              case rel => exact ⟨k + 1, _, _, _, _, _, _, by omega, by go_num, HSET.out, by rw [TypeX.sizeL, TypeX.sizeL, TypeX.size]; omega, tame1 (by decide) (by decide) htm, fun u hu => hnm u (by rw [TypeX.names, if_neg (by decide), TypeX.namesL, TypeX.namesL] at hu; simpa using hu)⟩
              case measure => simp [Go.RowKit.intOf]; omega
            · have hk6 : k = 6 := by omega
              subst hk6
              have HE := Lib.hid (hbx.fin_ (N := 100) hgl (by have := HW0.out; omega) (by omega) htm (under_of hnm))
              clear hbx
              have hX := HE0.out.rx
              have hY := HE0.out.ry
              obtain ⟨r0, r1, r2⟩ := cells3 hX
              have rf0 := hX.frozen 0
              have rf1 := hX.frozen 1
              have rf2 := hX.frozen 2
              have hxlt := hX.lt
              obtain ⟨y0, y1, y2⟩ := cells3 hY
              have yf0 := hY.frozen 0
              have yf1 := hY.frozen 1
              have yf2 := hY.frozen 2
              have hylt := hY.lt
              clear hX hY
              go_wp2
              obtain ⟨e0, e1, e2, e3⟩ := HE.out _ rfl
              exact bodyPost_ret (v := .agg #[.int .i64 K, .string S, .slice A n c]) (by simp [results, Try.results79, go_sem, e0, e1, e2]) rfl e3
        · have h3' : (z == 3) = false := by simpa using h3
          have HE0 := HB3
          have HE := Lib.hid (HB3.out.fin_ (N := 100) hgl (by have := HW0.out; omega) (by have := HSZ.out; omega) (by rw [TypeX.tame]; exact ⟨HTM.out, tm2, tm3, tm4⟩) TMU.out)
          have hX := HE0.out.rx
          have hY := HE0.out.ry
          obtain ⟨r0, r1, r2⟩ := cells3 hX
          have rf0 := hX.frozen 0
          have rf1 := hX.frozen 1
          have rf2 := hX.frozen 2
          have hxlt := hX.lt
          obtain ⟨y0, y1, y2⟩ := cells3 hY
          have yf0 := hY.frozen 0
          have yf1 := hY.frozen 1
          have yf2 := hY.frozen 2
          have hylt := hY.lt
          clear hX hY
          go_wp2
          obtain ⟨e0, e1, e2, e3⟩ := HE.out _ rfl
          exact bodyPost_ret (v := .agg #[.int .i64 x.kind_, .string x.name_, .slice A2 x.args_.length c2]) (by simp [results, Try.results79, go_sem, e0, e1, e2]) rfl e3
end Go.Proofs.Ytpffmcofajlkgaa

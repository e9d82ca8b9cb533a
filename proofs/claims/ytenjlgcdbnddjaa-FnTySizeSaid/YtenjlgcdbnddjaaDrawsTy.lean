/- The draws of chapter 4 (joined out of several texts by join.py). -/
import Derived.Test.YtenjlgcdbnddjaaTyEqI
import Derived.Deep.RegionHeld3
import Derived.Test.YtenjlgcdbnddjaaDraw
import Derived.IntWalk
import Derived.Test.YtenjlgcdbnddjaaLawT
import Derived.Deep.AppendLies
import Derived.Deep.RegionLaw
import Derived.Test.YtenjlgcdbnddjaaTyVars
import Derived.Test.YtenjlgcdbnddjaaTyCount
/-!  Types that the reference model makes: l4Var, l4Con, l4Int, l4Bool. -/
namespace Go.Proofs.Ytenjlgcdbnddjaa
open Go.RowKit Go.Lib

/-- A block that is there, and none of G. -/
def Nog (G : Nat → Prop) (w : World) (b : Nat) : Prop := b < w.heap.size ∧ ¬ G b
/-- A ROW OF TYPES of the call's own; what its types lead to lies neither in it nor in G. -/
def TopT (G : Nat → Prop) (w w' : World) (V : Value) (l : List TypeX) : Prop :=
  ∃ us, w'.ownsRow w.heap.size 26 3 V l.length us ∧ ElemsT w' (fun b => Nog G w' b ∧ V.ownBlock ≠ some b) l us
/-- A TYPE whose arguments' row is the call's own. -/
def MadeT (G : Nat → Prop) (x : TypeX) (w : World) (e : Ending) (w' : World) : Prop := ∃ V, e = .returned (.agg #[.int .i64 x.kind_, .string x.name_, V]) ∧ TopT G w w' V x.args_

theorem ElemsT.frame {w w' : World} {P Q : Nat → Prop} (hPQ : ∀ b, P b → Q b) (hk : ∀ b o, P b → w'.cell? ⟨b, o, none⟩ = w.cell? ⟨b, o, none⟩) : ∀ {l : List TypeX} {us : List Value}, ElemsT w P l us → ElemsT w' Q l us
  | [], us, h => h
  | x :: r, us, h => by
    obtain ⟨A, c, rest, rfl, h1, h2⟩ := h
    exact ⟨A, c, rest, rfl, h1.frame hPQ hk, ElemsT.frame hPQ hk h2⟩
theorem ElemsT.rows {w : World} {P : Nat → Prop} : ∀ {l : List TypeX} {us : List Value}, ElemsT w P l us → RdVE w P 3 (TypeX.rows l) us
  | [], us, h => by rw [ElemsT] at h; subst h; rw [TypeX.rows, RdVE]
  | x :: r, us, h => by
    obtain ⟨A, c, rest, rfl, h1, h2⟩ := h
    rw [TypeX.rows, RdVE]
    refine ⟨[.int .i64 x.kind_, .string x.name_, .slice A x.args_.length c], rest, rfl, x.cells_length, ?_, h2.rows⟩
    rw [TypeX.cells_eq]
    simp only [RdVs]
    exact ⟨_, _, rfl, by rw [RdV_pl], _, _, rfl, by rw [RdV_pl], _, _, rfl, h1, rfl⟩
theorem ElemsT.one {w : World} {P : Nat → Prop} {l : List TypeX} {us : List Value} (h : ElemsT w P l us) : ∀ u ∈ us, u.oneCell' = true := (ElemsT.of_rows h.rows).2
/-- An owned row of types reads as one. -/
theorem own_typeRow {w : World} {P Q : Nat → Prop} {B : Nat} {V : Value} {l : List TypeX} {us : List Value} (ho : w.ownsRow B 26 3 V l.length us) (he : ElemsT w P l us) (hPQ : ∀ b, P b → Q b) (hV : ∀ b, V.ownBlock = some b → Q b) :
    ∃ A c, V = .slice A l.length c ∧ TypeRow w Q A c l := by
  have hE : RdVE w Q 3 (TypeX.rows l) us := (he.frame hPQ (fun _ _ _ => rfl)).rows
  rcases ho.2 with ⟨rfl, hn⟩ | ⟨g, cap, cur, rfl, _, hg, hnc, hcm, _⟩
  · have hl : l = [] := List.eq_nil_of_length_eq_zero hn
    subst hl
    exact ⟨none, 0, rfl, TypeRow.nil _ _ _ _ (by omega)⟩
  · refine ⟨some ⟨g, 0, none⟩, cap, rfl, RdV_row.2 ⟨some ⟨g, 0, none⟩, cap, by rw [TypeX.rows_length], by rw [TypeX.rows_length]; exact hnc, by unfold maxLen at hcm; omega, .inr ⟨g, 0, rfl, hV g rfl, us, hE, fun i v hi => ?_⟩⟩⟩
    have hil : i < l.length * 3 := by rw [← ho.1]; exact (List.getElem?_eq_some_iff.1 hi).1
    rw [Nat.zero_add, World.ownsRow.cellAt ho i hil]
    exact hi
theorem TopT.row {G : Nat → Prop} {w w' : World} {V : Value} {l : List TypeX} (hG : ∀ b, G b → b < w.heap.size) (h : TopT G w w' V l) : ∃ A c, V = .slice A l.length c ∧ TypeRow w' (Nog G w') A c l := by
  obtain ⟨us, ho, he⟩ := h
  exact own_typeRow ho he (fun b h => h.1) (fun b hb => ⟨(ho.lt b hb).2, fun hg => by have := (ho.lt b hb).1; have := hG b hg; omega⟩)
theorem TopT.shape {G : Nat → Prop} {w w' : World} {V : Value} {l : List TypeX} (h : TopT G w w' V l) : ∃ A c, V = .slice A l.length c := by
  obtain ⟨us, ho, _⟩ := h
  rcases ho.2 with ⟨rfl, h0⟩ | ⟨g, cap, cur, rfl, _⟩
  · exact ⟨none, 0, by rw [h0]⟩
  · exact ⟨_, cap, rfl⟩
/-- It stays while only blocks of G change. -/
theorem TopT.but {G : Nat → Prop} {g : Nat} {w w' w'' : World} {V : Value} {l : List TypeX} (hG : ∀ b, G b → b < w.heap.size) (hg : G g) (h : TopT G w w' V l) (hb : But g w' w'') : TopT G w w'' V l := by
  obtain ⟨us, ho, he⟩ := h
  refine ⟨us, own_same ho fun b hv => hb.block b (ho.lt b hv).2 (fun e => by have := (ho.lt b hv).1; have := hG g hg; omega), he.frame (fun b h => ⟨⟨Nat.lt_of_lt_of_le h.1.1 hb.size, h.1.2⟩, h.2⟩) fun b o h => World.cell?_of_block (a := ⟨b, o, none⟩) (hb.block b h.1.1 (fun e => h.1.2 (e ▸ hg)))⟩
theorem TopT.below {G : Nat → Prop} {w w' w'' : World} {V : Value} {l : List TypeX} (h : TopT G w w' V l) (hb : Below w'.heap.size w' w'') : TopT G w w'' V l := by
  obtain ⟨us, ho, he⟩ := h
  refine ⟨us, own_same ho fun b hv => hb.block b (ho.lt b hv).2, he.frame (fun b h => ⟨⟨Nat.lt_of_lt_of_le h.1.1 hb.size, h.1.2⟩, h.2⟩) fun b o h => hb.cell (p := ⟨b, o, none⟩) h.1.1⟩
/-- The same, of a block that is none of the row's. -/
theorem TopT.butX {G : Nat → Prop} {g : Nat} {w w' w'' : World} {V : Value} {l : List TypeX} (h : TopT G w w' V l) (hV : V.ownBlock ≠ some g) (hg : G g) (hb : But g w' w'') : TopT G w w'' V l := by
  obtain ⟨us, ho, he⟩ := h
  refine ⟨us, own_same ho fun b hv => hb.block b (ho.lt b hv).2 (fun e => hV (by rw [hv, e])), he.frame (fun b h => ⟨⟨Nat.lt_of_lt_of_le h.1.1 hb.size, h.1.2⟩, h.2⟩) fun b o h => World.cell?_of_block (a := ⟨b, o, none⟩) (hb.block b h.1.1 (fun e => h.1.2 (e ▸ hg)))⟩
theorem TopT.wide {G : Nat → Prop} {w w1 w' : World} {V : Value} {l : List TypeX} (h : TopT G w1 w' V l) (hs : w.heap.size ≤ w1.heap.size) : TopT G w w' V l := by
  obtain ⟨us, ho, he⟩ := h
  refine ⟨us, ⟨ho.1, ?_⟩, he⟩
  rcases ho.2 with h' | ⟨g, cap, cur, e, hb, rest⟩
  · exact .inl h'
  · exact .inr ⟨g, cap, cur, e, Nat.le_trans hs hb, rest⟩
theorem TopT.less {G G' : Nat → Prop} {w w' : World} {V : Value} {l : List TypeX} (h : TopT G' w w' V l) (hG : ∀ b, G b → G' b) : TopT G w w' V l := by
  obtain ⟨us, ho, he⟩ := h
  exact ⟨us, ho, he.frame (fun b h => ⟨⟨h.1.1, fun hg => h.1.2 (hG b hg)⟩, h.2⟩) fun _ _ _ => rfl⟩
theorem TopT.nil (G : Nat → Prop) (w w' : World) : TopT G w w' (.slice none 0 0) [] := ⟨[], World.ownsRow_nil _ _ _ _, rfl⟩
/-- The result's three cells written. -/
theorem tyEnd {w w3 : World} {a b c : Value} {k : Int} {s : ByteArray} {A : Option Addr} {n cc : Nat} (hx : Whole w3 w.heap.size 26 #[a, b, c]) (hb : Below w.heap.size w w3) :
    ∀ w4, w4 = ((w3.setCell ⟨w.heap.size, 0, none⟩ (.int .i64 k)).setCell ⟨w.heap.size, 1, none⟩ (.string s)).setCell ⟨w.heap.size, 2, none⟩ (.slice A n cc) →
      w4.cell? ⟨w.heap.size, 0, none⟩ = some (.int .i64 k) ∧ w4.cell? ⟨w.heap.size, 1, none⟩ = some (.string s) ∧ w4.cell? ⟨w.heap.size, 2, none⟩ = some (.slice A n cc) ∧ But w.heap.size w3 w4 ∧ Below w.heap.size w w4 := by
  rintro w4 rfl
  have hx3 := ((hx.set_ 0 (.int .i64 k)).set_ 1 (.string s)).set_ 2 (.slice A n cc)
  obtain ⟨e0, e1, e2⟩ := cells3 (by simpa using hx3)
  exact ⟨e0, e1, e2, ((But.set_ _ _ 0 _).trans (But.set_ _ _ 1 _)).trans (But.set_ _ _ 2 _), ((hb.setCell (p := ⟨w.heap.size, 0, none⟩) (Nat.le_refl _) _).setCell (p := ⟨w.heap.size, 1, none⟩) (Nat.le_refl _) _).setCell (p := ⟨w.heap.size, 2, none⟩) (Nat.le_refl _) _⟩

set_option maxRecDepth 100000 in
theorem varC (G : Nat → Prop) (s : ByteArray) (w : World) : Calls Try.prog 79 #[.string s] w fun e w' => MadeT G (.mk 1 s []) w e w' ∧ Below w.heap.size w w' := by
  have hb0 : ∀ a b c, Below w.heap.size w (w.alloc (.cells #[a, b, c] 26)) := fun a b c => (Below.refl _ _).alloc (Nat.le_refl _) _
  go_enter Try.func79, Try.ntmps79
  go_wp2
  exact bodyPost_ret (v := .agg #[.int .i64 1, .string s, .slice none 0 0]) (by simp [results, Try.results79, go_sem]) rfl ⟨⟨_, rfl, TopT.nil _ _ _⟩, hb0 _ _ _⟩

set_option maxRecDepth 100000 in
set_option maxHeartbeats 2000000 in
theorem conC (G : Nat → Prop) (s : ByteArray) (A : Option Addr) (c : Nat) (l : List TypeX) (w : World) (hl : l.length ≤ 1000000) (hA : TypeRow w (Nog G w) A c l) :
    Calls Try.prog 61 #[.string s, .slice A l.length c] w fun e w' => MadeT G (.mk 2 s l) w e w' ∧ Below w.heap.size w w' := by
  obtain ⟨i0, hi, hz0, hz1, hz2⟩ := info_parts infoTy
  obtain ⟨us, he, hul, hone, hadr⟩ := hA.cells
  have hb0 : Below w.heap.size w ((w.alloc (.cells #[.int .i64 0, .string ByteArray.empty, .slice none 0 0] 26)).alloc (.cells #[] 26)) := ((Below.refl _ _).alloc (Nat.le_refl _) _).alloc (by simp) _
  have hown := World.ownsRow_made (base := w.heap.size + 1) (e := 26) (size := 3) (w.alloc (.cells #[.int .i64 0, .string ByteArray.empty, .slice none 0 0] 26)) #[] 0 (by simp) (by decide) rfl
  rw [World.size_alloc] at hown
  have hx0 : Whole ((w.alloc (.cells #[.int .i64 0, .string ByteArray.empty, .slice none 0 0] 26)).alloc (.cells #[] 26)) w.heap.size 26 #[.int .i64 0, .string ByteArray.empty, .slice none 0 0] :=
    (Whole.new w _ _).below ((Below.refl (w.heap.size + 1) _).alloc (by simp) _) (by omega)
  have hcells : l.length = 0 ∨ ∃ ad, A = some ad ∧ ∀ (j : Nat) (u : Value), us[j]? = some u → ((w.alloc (.cells #[.int .i64 0, .string ByteArray.empty, .slice none 0 0] 26)).alloc (.cells #[] 26)).cell? (ad.add j) = some u := by
    rcases hadr with h | ⟨b, o, rfl, hP, hc⟩
    · exact .inl h
    · refine .inr ⟨_, rfl, fun j u hj => ?_⟩
      rw [Go.WideShapes.add_plain]
      exact (hb0.cell (p := ⟨b, o + j, none⟩) hP.1).trans (hc j u hj)
  have HB := Lib.hid hb0
  have HO := Lib.hid hown
  have HX := Lib.hid hx0
  have HC := Lib.hid hcells
  have HE := Lib.hid he
  have HL := Lib.hid hul
  have H1 := Lib.hid hone
  clear hb0 hown hx0 hcells he hul hone hadr hA
  go_enter Try.func61, Try.ntmps61
  go_wp2_with (at_builtin; refine wpList_append_any rfl (.tmp 6) (.tmp 7) 24 rfl (w.heap.size + 1) 26 i0 (.agg #[.int .i64 0, .string ByteArray.empty, .slice none 0 0]) 3 48 Try.underlying24 hi hz0 hz1 hz2 rfl (by decide) (.slice (some ⟨w.heap.size + 1, 0, none⟩) 0 0) 0 [] rfl HO.out A l.length c us rfl HL.out HC.out H1.out (by unfold maxLen; omega) (by omega) (by simp) (w.heap.size + 2) (by simp) ?_)
  intro V w2 hown2 hgrow2 hat2
  have hz2' := hgrow2.size
  simp only [World.size_alloc] at hz2'
  have hx2 : Whole w2 w.heap.size 26 #[.int .i64 0, .string ByteArray.empty, .slice none 0 0] := (hgrow2.block _ HX.out.lt (by simp [Value.ownBlock])).trans HX.out
  have hb2 : Below w.heap.size w w2 := HB.out.grown hgrow2 HB.out.size (fun k hk => by simp [Value.ownBlock] at hk; omega)
  have he2 : ElemsT w2 (fun b => Nog G w b) l us := HE.out.frame (fun b h => h) fun b o hP => hb2.cell (p := ⟨b, o, none⟩) hP.1
  have hVb : ∀ b, V.ownBlock = some b → w.heap.size + 1 ≤ b := fun b hb => (hown2.lt b hb).1
  obtain ⟨A2, n2, hV⟩ := own_nil hown2
  subst hV
  have htop : TopT (fun b => G b ∨ b = w.heap.size) w w2 (.slice A2 l.length n2) l := by
    refine ⟨us, ⟨hown2.1, ?_⟩, he2.frame (fun b h => ⟨⟨by have := h.1; omega, fun hg => hg.elim h.2 (fun e => by have := h.1; omega)⟩, fun e => by have := hVb b e; have := h.1; omega⟩) fun _ _ _ => rfl⟩
    rcases hown2.2 with h' | ⟨g', cap, cur, e, hb, rest⟩
    · exact .inl h'
    · exact .inr ⟨g', cap, cur, e, by omega, rest⟩
  have hend := tyEnd (k := 2) (s := s) (A := A2) (n := l.length) (cc := n2) hx2 hb2
  have hVX : (Value.slice A2 l.length n2).ownBlock ≠ some w.heap.size := fun e => by have := hVb _ e; omega
  obtain ⟨r0, r1, r2⟩ := cells3 hx2
  have rf0 := hx2.frozen 0
  have rf1 := hx2.frozen 1
  have rf2 := hx2.frozen 2
  have hlt := hx2.lt
  have HT := Lib.hid htop
  have HE2 := Lib.hid hend
  have HVX := Lib.hid hVX
  clear htop hend he2 hown2 hgrow2 hat2 hb2 hx2 hVX
  go_wp2
  obtain ⟨e0, e1, e2, hbut, hb3⟩ := HE2.out _ rfl
  exact bodyPost_ret (v := .agg #[.int .i64 2, .string s, .slice A2 l.length n2]) (by simp [results, Try.results61, go_sem, e0, e1, e2]) rfl ⟨⟨_, rfl, (HT.out.butX HVX.out (.inr rfl) hbut).less fun b h => .inl h⟩, hb3⟩
end Go.Proofs.Ytenjlgcdbnddjaa

/-!  Types that the reference model makes: l4Int, l4Bool, l4Copy, l4Proj. -/
namespace Go.Proofs.Ytenjlgcdbnddjaa
open Go.RowKit Go.Lib

abbrev zeroT : Array Value := #[.int .i64 0, .string ⟨#[]⟩, .slice none 0 0]
/-- A base type: the result's cell laid, l4Con called, the result stored. -/
theorem baseEnd {G : Nat → Prop} {s : ByteArray} {w w2 : World} {e : Ending} (hb0 : Below w.heap.size w (w.alloc (.cells zeroT 26))) (h : MadeT (fun b => G b ∨ b = w.heap.size) (.mk 2 s []) (w.alloc (.cells zeroT 26)) e w2) (hb : Below (w.alloc (.cells zeroT 26)).heap.size (w.alloc (.cells zeroT 26)) w2) :
    ∃ A c, e = .returned (.agg #[.int .i64 2, .string s, .slice A 0 c]) ∧ Whole w2 w.heap.size 26 zeroT ∧ ∀ w4, w4 = ((w2.setCell ⟨w.heap.size, 0, none⟩ (.int .i64 2)).setCell ⟨w.heap.size, 1, none⟩ (.string s)).setCell ⟨w.heap.size, 2, none⟩ (.slice A 0 c) →
      w4.cell? ⟨w.heap.size, 0, none⟩ = some (.int .i64 2) ∧ w4.cell? ⟨w.heap.size, 1, none⟩ = some (.string s) ∧ w4.cell? ⟨w.heap.size, 2, none⟩ = some (.slice A 0 c) ∧ MadeT G (.mk 2 s []) w (.returned (.agg #[.int .i64 2, .string s, .slice A 0 c])) w4 ∧ Below w.heap.size w w4 := by
  obtain ⟨V, rfl, ht⟩ := h
  obtain ⟨A, c, rfl⟩ := ht.shape
  have hx2 : Whole w2 w.heap.size 26 zeroT := (Whole.new w _ _).below hb (by simp)
  refine ⟨A, c, rfl, hx2, fun w4 h4 => ?_⟩
  obtain ⟨e0, e1, e2, hbut, hb4⟩ := tyEnd (k := 2) (s := s) (A := A) (n := 0) (cc := c) hx2 (hb0.trans (hb.mono (by simp))) w4 h4
  have hV : (Value.slice A 0 c).ownBlock ≠ some w.heap.size := fun e => by
    obtain ⟨us, ho, _⟩ := ht
    have := (ho.lt _ e).1
    simp at this
    omega
  exact ⟨e0, e1, e2, ⟨_, rfl, ((ht.butX hV (.inr rfl) hbut).less fun b h => .inl h).wide (by simp)⟩, hb4⟩

set_option maxRecDepth 100000 in
theorem intC (G : Nat → Prop) (w : World) : Calls Try.prog 59 #[] w fun e w' => MadeT G (.mk 2 ⟨#[105, 110, 116]⟩ []) w e w' ∧ Below w.heap.size w w' := by
  have hb0 : Below w.heap.size w (w.alloc (.cells zeroT 26)) := (Below.refl _ _).alloc (Nat.le_refl _) _
  go_enter Try.func59, Try.ntmps59
  go_wp2_with fail
  refine (conC (fun b => G b ∨ b = w.heap.size) ⟨#[105, 110, 116]⟩ none 0 [] _ (by decide) (TypeRow.nil _ _ _ _ (by decide))).mono ?_
  intro e w2 ⟨hm, hb⟩
  obtain ⟨A, c, rfl, hx2, hend⟩ := baseEnd hb0 hm hb
  obtain ⟨r0, r1, r2⟩ := cells3 hx2
  have rf0 := hx2.frozen 0
  have rf1 := hx2.frozen 1
  have rf2 := hx2.frozen 2
  have hlt := hx2.lt
  have HE := Lib.hid hend
  clear hend hx2 hm hb
  go_wp2
  obtain ⟨e0, e1, e2, e3⟩ := HE.out _ rfl
  exact bodyPost_ret (v := .agg #[.int .i64 2, .string ⟨#[105, 110, 116]⟩, .slice A 0 c]) (by simp [results, Try.results59, go_sem, e0, e1, e2]) rfl e3
set_option maxRecDepth 100000 in
theorem boolC (G : Nat → Prop) (w : World) : Calls Try.prog 60 #[] w fun e w' => MadeT G (.mk 2 ⟨#[98, 111, 111, 108]⟩ []) w e w' ∧ Below w.heap.size w w' := by
  have hb0 : Below w.heap.size w (w.alloc (.cells zeroT 26)) := (Below.refl _ _).alloc (Nat.le_refl _) _
  go_enter Try.func60, Try.ntmps60
  go_wp2_with fail
  refine (conC (fun b => G b ∨ b = w.heap.size) ⟨#[98, 111, 111, 108]⟩ none 0 [] _ (by decide) (TypeRow.nil _ _ _ _ (by decide))).mono ?_
  intro e w2 ⟨hm, hb⟩
  obtain ⟨A, c, rfl, hx2, hend⟩ := baseEnd hb0 hm hb
  obtain ⟨r0, r1, r2⟩ := cells3 hx2
  have rf0 := hx2.frozen 0
  have rf1 := hx2.frozen 1
  have rf2 := hx2.frozen 2
  have hlt := hx2.lt
  have HE := Lib.hid hend
  clear hend hx2 hm hb
  go_wp2
  obtain ⟨e0, e1, e2, e3⟩ := HE.out _ rfl
  exact bodyPost_ret (v := .agg #[.int .i64 2, .string ⟨#[98, 111, 111, 108]⟩, .slice A 0 c]) (by simp [results, Try.results60, go_sem, e0, e1, e2]) rfl e3

/-- A result's three cells written, whatever its block. -/
theorem tyEndX {w w3 : World} {X : Nat} {a b c : Value} {k : Int} {s : ByteArray} {A : Option Addr} {n cc : Nat} (hx : Whole w3 X 26 #[a, b, c]) (hX : w.heap.size ≤ X) (hb : Below w.heap.size w w3) :
    ∀ w4, w4 = ((w3.setCell ⟨X, 0, none⟩ (.int .i64 k)).setCell ⟨X, 1, none⟩ (.string s)).setCell ⟨X, 2, none⟩ (.slice A n cc) →
      w4.cell? ⟨X, 0, none⟩ = some (.int .i64 k) ∧ w4.cell? ⟨X, 1, none⟩ = some (.string s) ∧ w4.cell? ⟨X, 2, none⟩ = some (.slice A n cc) ∧ But X w3 w4 ∧ Below w.heap.size w w4 ∧ Whole w4 X 26 #[.int .i64 k, .string s, .slice A n cc] := by
  rintro w4 rfl
  have hx3 : Whole (((w3.setCell ⟨X, 0, none⟩ (.int .i64 k)).setCell ⟨X, 1, none⟩ (.string s)).setCell ⟨X, 2, none⟩ (.slice A n cc)) X 26 #[.int .i64 k, .string s, .slice A n cc] := by
    simpa using ((hx.set_ 0 (.int .i64 k)).set_ 1 (.string s)).set_ 2 (.slice A n cc)
  obtain ⟨e0, e1, e2⟩ := cells3 hx3
  exact ⟨e0, e1, e2, ((But.set_ _ _ 0 _).trans (But.set_ _ _ 1 _)).trans (But.set_ _ _ 2 _), ((hb.setCell (p := ⟨X, 0, none⟩) hX _).setCell (p := ⟨X, 1, none⟩) hX _).setCell (p := ⟨X, 2, none⟩) hX _, hx3⟩
/-- The row of a type under way is not a block of G. -/
theorem TopT.ne {G : Nat → Prop} {X : Nat} {w w' : World} {V : Value} {l : List TypeX} (h : TopT G w w' V l) (hX : X < w.heap.size) : V.ownBlock ≠ some X := fun e => by
  obtain ⟨us, ho, _⟩ := h
  have := (ho.lt _ e).1
  omega

/-! Copies. -/
def CopyT (N : Nat) : Prop := ∀ (G : Nat → Prop) (x : TypeX) (v : Value) (w : World), (∀ b, G b → b < w.heap.size) → x.size ≤ N → N ≤ 1000000 → TypeAt w (Nog G w) x v →
  Calls Try.prog 80 #[v] w fun e w' => MadeT G x w e w' ∧ Below w.heap.size w w'
def CopiesT (N : Nat) : Prop := ∀ (G : Nat → Prop) (l : List TypeX) (A : Option Addr) (c : Nat) (w : World), (∀ b, G b → b < w.heap.size) → TypeX.sizeL l ≤ N → N ≤ 1000000 → TypeRow w (Nog G w) A c l →
  Calls Try.prog 81 #[.slice A l.length c] w fun e w' => (∃ V, e = .returned V ∧ TopT G w w' V l) ∧ Below w.heap.size w w'

theorem TypeRow.nog {G : Nat → Prop} {w w' : World} {A : Option Addr} {c : Nat} {l : List TypeX} (h : TypeRow w (Nog G w) A c l) (hb : Below w.heap.size w w') : TypeRow w' (Nog G w') A c l :=
  h.frame (fun _ h => ⟨Nat.lt_of_lt_of_le h.1 hb.size, h.2⟩) fun b o h => hb.cell (p := ⟨b, o, none⟩) h.1
theorem TypeRow.nogX {G G' : Nat → Prop} {w w' : World} {A : Option Addr} {c : Nat} {l : List TypeX} (h : TypeRow w (Nog G w) A c l) (hb : Below w.heap.size w w') (hG : ∀ b, b < w.heap.size → G' b → G b) : TypeRow w' (Nog G' w') A c l :=
  h.frame (fun _ h => ⟨Nat.lt_of_lt_of_le h.1 hb.size, fun h' => h.2 (hG _ h.1 h')⟩) fun b o h => hb.cell (p := ⟨b, o, none⟩) h.1

set_option maxRecDepth 100000 in
set_option maxHeartbeats 2000000 in
theorem copyT_step (N : Nat) (ih : CopiesT N) : CopyT (N + 1) := by
  intro G x v w hG hn hN hv
  obtain ⟨A, c, rfl, hx⟩ := hv
  have hbb : Below w.heap.size w ((w.alloc (.cells #[.int .i64 x.kind_, .string x.name_, .slice A x.args_.length c] 26)).alloc (.cells zeroT 26)) := ((Below.refl _ _).alloc (Nat.le_refl _) _).alloc (by simp) _
  obtain ⟨W, hW⟩ : ∃ W, W = (w.alloc (.cells #[.int .i64 x.kind_, .string x.name_, .slice A x.args_.length c] 26)).alloc (.cells zeroT 26) := ⟨_, rfl⟩
  have hs : W.heap.size = w.heap.size + 2 := by rw [hW]; simp
  have hx1 : Whole W w.heap.size 26 #[.int .i64 x.kind_, .string x.name_, .slice A x.args_.length c] := by rw [hW]; exact (Whole.new w _ _).below ((Below.refl (w.heap.size + 1) _).alloc (by simp) _) (by omega)
  have hx2 : Whole W (w.heap.size + 1) 26 zeroT := by
    have h := Whole.new (w.alloc (.cells #[.int .i64 x.kind_, .string x.name_, .slice A x.args_.length c] 26)) 26 zeroT
    rw [World.size_alloc] at h; rw [hW]; exact h
  rw [← hW] at hbb
  have hr : TypeRow W (Nog (fun b => G b ∨ b = w.heap.size + 1) W) A c x.args_ := hx.nogX hbb fun b hb h => h.elim id (fun e => by omega)
  have hG' : ∀ b, (G b ∨ b = w.heap.size + 1) → b < W.heap.size := fun b h => h.elim (fun h => by have := hG b h; omega) (fun e => by omega)
  have hc := ih (fun b => G b ∨ b = w.heap.size + 1) x.args_ A c W.drew hG' (by rw [TypeX.size_eq] at hn; omega) (by omega) (hr.frame (fun _ h => h) fun _ _ _ => rfl)
  have HC := Lib.hid hc
  have HW := Lib.hid hW.symm
  have HS := Lib.hid hs
  have HX1 := Lib.hid hx1
  have HX2 := Lib.hid hx2
  have HB := Lib.hid hbb
  clear hc hW hs hx1 hx2 hbb hr hx
  go_enter Try.func80, Try.ntmps80
  go_upto_region 1 with (fail)
  rw [HW.out]
  obtain ⟨p0, p1, p2⟩ := cells3 HX1.out
  obtain ⟨r0, r1, r2⟩ := cells3 HX2.out
  have rf0 := HX2.out.frozen 0
  have rf1 := HX2.out.frozen 1
  have rf2 := HX2.out.frozen 2
  have hlt := HX2.out.lt
  have HX2e := fun (w2 : World) (h : Below W.heap.size W w2) => HX2.out.below h HX2.out.lt
  have HX1e := fun (w2 : World) (h : Below W.heap.size W w2) => HX1.out.below h HX1.out.lt
  have H2E := Lib.hid HX2e
  have H1E := Lib.hid HX1e
  clear HX2e HX1e
  go_region_held3 (fun w' => w'.cell? ⟨w.heap.size, 0, none⟩ = some (.int .i64 x.kind_) ∧ w'.cell? ⟨w.heap.size, 1, none⟩ = some (.string x.name_) ∧ w'.cell? ⟨w.heap.size, 2, none⟩ = some (.slice A x.args_.length c))
    (first
      | go_keep
      | exact cells3 (H1E.out _ hb2')
      | exact HSS _ _ _)
    (first
      | (go_at_call 81
         refine HC.out.mono ?_
         rintro e w2 ⟨⟨V, rfl, ht⟩, hb2⟩
         have hb2' : Below W.heap.size W w2 := (Below.refl _ W).drew.trans hb2
         obtain ⟨A2, c2, rfl⟩ := ht.shape
         have hx2 := H2E.out w2 hb2'
         have hbw := HB.out.trans (hb2'.mono HB.out.size)
         have r0 : w2.cell? ⟨w.heap.size + 1, 0, none⟩ = some (.int .i64 0) := by rw [hx2.cell]; rfl
         have r1 : w2.cell? ⟨w.heap.size + 1, 1, none⟩ = some (.string ⟨#[]⟩) := by rw [hx2.cell]; rfl
         have r2 : w2.cell? ⟨w.heap.size + 1, 2, none⟩ = some (.slice none 0 0) := by rw [hx2.cell]; rfl
         have rf0 := hx2.frozen 0
         have rf1 := hx2.frozen 1
         have rf2 := hx2.frozen 2
         have hlt := hx2.lt
         have HT := Lib.hid ht
         have HXX := Lib.hid hx2
         clear ht hx2 hb2))
  obtain ⟨e0, e1, e2, hbut, hb4, -⟩ := tyEndX (k := x.kind_) (s := x.name_) (A := A2) (n := x.args_.length) (cc := c2) HXX.out (by omega) hbw _ rfl
  have ht4 := ((HT.out.butX (HT.out.ne (by have := HS.out; show w.heap.size + 1 < W.heap.size; omega)) (.inr rfl) hbut).less (G := G) fun b h => .inl h).wide (w := w) (by have := HS.out; show w.heap.size ≤ W.heap.size; omega)
  have HT4 := Lib.hid ht4
  have HB4 := Lib.hid hb4
  clear hbut ht4 hb4
  go_wp2
  exact bodyPost_ret (v := .agg #[.int .i64 x.kind_, .string x.name_, .slice A2 x.args_.length c2]) (by simp [results, Try.results80, go_sem, e0, e1, e2]) rfl ⟨⟨_, rfl, HT4.out⟩, HB4.out⟩

set_option maxRecDepth 100000 in
set_option maxHeartbeats 4000000 in
theorem copiesT_step (N : Nat) (ih : CopyT N) : CopiesT N := by
  intro G l A c w hG hn hN hA
  obtain ⟨i0, hi, hz0, hz1, hz2⟩ := info_parts infoTy
  have hcap := hA.cap
  have hll := sizeL_length l
  have hb0 : Below w.heap.size w (w.alloc (.cells #[] 26)) := (Below.refl _ _).alloc (Nat.le_refl _) _
  have hown := World.ownsRow_made (base := w.heap.size) (e := 26) (size := 3) w #[] 0 (Nat.le_refl _) (by decide) rfl
  have HA := Lib.hid hA
  have HN := Lib.hid hn
  have HB := Lib.hid hb0
  have HO := Lib.hid hown
  clear hA hn hb0 hown
  go_enter Try.func81, Try.ntmps81
  go_wp2
  go_loopw [3, 4] (fun ov iv wr => ∃ (k : Nat), k ≤ l.length ∧ iv = .int .i64 k ∧ TopT G w wr ov (l.take k) ∧ Below w.heap.size w wr) (fun _ iv _ => l.length - (Go.RowKit.intOf iv).toNat)
  case atStart => exact ⟨0, Nat.zero_le _, rfl, ⟨[], HO.out, rfl⟩, HB.out⟩
  case round =>
    obtain ⟨k, hk, rfl, ht, hb⟩ := hrel
    obtain ⟨A1, c1, rfl⟩ := ht.shape
    by_cases hlt : k < l.length
    · have hG1 : ∀ b, (G b ∨ (Value.slice A1 (l.take k).length c1).ownBlock = some b) → b < wr.heap.size := fun b h => by
        have := hb.size
        rcases h with h | h
        · have := hG b h; omega
        · obtain ⟨us, ho, _⟩ := ht
          exact (ho.lt b h).2
      have hrow : TypeRow wr (Nog (fun b => G b ∨ (Value.slice A1 (l.take k).length c1).ownBlock = some b) wr) A c l := HA.out.nogX hb fun b hb' h => h.elim id fun e => by
        obtain ⟨us, ho, _⟩ := ht
        have := (ho.lt b e).1; omega
      obtain ⟨b, o, A2, c2, rfl, hP, p0, p1, p2, h2⟩ := hrow.at_ hlt
      have hsx : l[k].size ≤ N := by have := TypeX.sizeL_at l k hlt; have := HN.out; omega
      have hlen : (l.take k).length = k := by rw [List.length_take]; omega
      have hc := ih (fun b => G b ∨ (Value.slice A1 (l.take k).length c1).ownBlock = some b) l[k] (.agg #[.int .i64 l[k].kind_, .string l[k].name_, .slice A2 l[k].args_.length c2]) wr hG1 hsx hN ⟨_, _, rfl, h2⟩
      rw [hlen] at ht hc ⊢
      have HC := Lib.hid hc
      have HT := Lib.hid ht
      have HL := Lib.hid hlen
      clear hc ht hlen h2 hrow hG1
      go_wp2_with fail
      refine HC.out.mono ?_
      rintro e w2 ⟨⟨V2, rfl, ht2⟩, hb2⟩
      obtain ⟨A3, c3, rfl⟩ := ht2.shape
      obtain ⟨A3', c3', e3, hr3⟩ := ht2.row (fun b h => by
        rcases h with h | h
        · have := hG b h; have := hb.size; omega
        · obtain ⟨us, ho, _⟩ := HT.out
          exact (ho.lt b h).2)
      injection e3 with e3 _ e4
      subst e3 e4
      obtain ⟨us, ho, he⟩ := HT.out.below hb2
      rw [HL.out] at ho
      have hbw := hb.trans (hb2.mono hb.size)
      have HO2 := Lib.hid (ho.alloc (.cells #[.int .i64 l[k].kind_, .string l[k].name_, .slice A3 l[k].args_.length c3] 26))
      have HE := Lib.hid he
      have HR3 := Lib.hid hr3
      have HOW := Lib.hid ho
      have hk3 : k ≤ 1000000 := by have := HN.out; omega
      clear he hr3 ht2 hb2 p0 p1 p2 ho
      have hcell := fun (j : Nat) (u : Value) => (fun (h : [.int .i64 l[k].kind_, .string l[k].name_, .slice A3 l[k].args_.length c3][j]? = some u) => (by
        match j, h with
        | 0, h => simp at h; subst h; simp [Addr.add]
        | 1, h => simp at h; subst h; simp [Addr.add]
        | 2, h => simp at h; subst h; simp [Addr.add] : (w2.alloc (.cells #[.int .i64 l[k].kind_, .string l[k].name_, .slice A3 l[k].args_.length c3] 26)).cell? ((⟨w2.heap.size, 0, none⟩ : Addr).add j) = some u))
      have HCE := Lib.hid hcell
      clear hcell
      go_wp2_with (at_builtin; refine wpList_append_any rfl (.tmp 12) (.tmp 18) 24 rfl w.heap.size 26 i0 (.agg #[.int .i64 0, .string ByteArray.empty, .slice none 0 0]) 3 48 Try.underlying24 hi hz0 hz1 hz2 rfl (by decide) (.slice A1 k c1) k us rfl HO2.out (some ⟨w2.heap.size, 0, none⟩) 1 1 [.int .i64 l[k].kind_, .string l[k].name_, .slice A3 l[k].args_.length c3] rfl rfl (.inr ⟨_, rfl, HCE.out⟩) (by simp [Value.oneCell']) (by unfold maxLen; omega) (by omega) (by have := hbw.size; simp; omega) (w2.heap.size + 1) (by simp) ?_)
      intro V w3 hown3 hgrow3 hat3
      have hz3 := hgrow3.size
      simp only [World.size_alloc] at hz3
      have hbelow : Below w.heap.size w w3 := (hbw.alloc hbw.size (.cells #[.int .i64 l[k].kind_, .string l[k].name_, .slice A3 l[k].args_.length c3] 26)).grown hgrow3 (by have := hbw.size; simp; omega) (fun j hj => by have := (HOW.out.lt j hj).1; omega)
      have hsame : ∀ b, b < w2.heap.size → (Value.slice A1 k c1).ownBlock ≠ some b → w3.heap[b]? = w2.heap[b]? := fun b hb' hne => (hgrow3.block b (by simp; omega) (fun e => hne e.symm)).trans (Below.heap_alloc _ _ _ hb')
      have hnew : ∀ b, b < w2.heap.size → (Value.slice A1 k c1).ownBlock ≠ some b → V.ownBlock ≠ some b := fun b hb' hne e => by
        rcases hat3 with h | h
        · exact hne (h ▸ e)
        · rw [h] at e; injection e with e; omega
      have hend : TopT G w w3 V (l.take (k + 1)) := by
        refine ⟨us ++ [.int .i64 l[k].kind_, .string l[k].name_, .slice A3 l[k].args_.length c3], ?_, ?_⟩
        · rw [show (l.take (k + 1)).length = k + 1 by rw [List.length_take]; omega]; exact hown3
        · rw [List.take_succ_eq_append_getElem hlt]
          refine ElemsT.append (HE.out.frame (fun b h => ⟨⟨by have := h.1.1; omega, h.1.2⟩, hnew b h.1.1 h.2⟩) fun b o h => World.cell?_of_block (a := ⟨b, o, none⟩) (hsame b h.1.1 h.2)) ⟨A3, c3, [], rfl, ?_, rfl⟩
          exact HR3.out.frame (fun b h => ⟨⟨by have := h.1; omega, fun hg => h.2 (.inl hg)⟩, hnew b h.1 (fun e => h.2 (.inr e))⟩) fun b o h => World.cell?_of_block (a := ⟨b, o, none⟩) (hsame b h.1 (fun e => h.2 (.inr e)))
      have HEND := Lib.hid hend
      clear hend hown3 hgrow3 hat3 hsame hnew hz3
      go_wp2
      go_roundw
      case rel => exact ⟨k + 1, by omega, by go_num, HEND.out, hbelow⟩
      case measure => simp [Go.RowKit.intOf]; omega
    · have hkl : k = l.length := by omega
      subst hkl
      rw [List.take_length] at ht ⊢
      have HT := Lib.hid ht
      clear ht
      go_wp2
      go_ret
      exact ⟨⟨_, rfl, HT.out⟩, hb⟩
theorem copyTAll : ∀ N, CopyT N
  | 0 => fun G x v w _ hn => by rw [TypeX.size_eq] at hn; omega
  | N + 1 => copyT_step N (copiesT_step N (copyTAll N))
theorem copyT (G : Nat → Prop) (x : TypeX) (v : Value) (w : World) (hG : ∀ b, G b → b < w.heap.size) (hn : x.size ≤ 1000000) (hv : TypeAt w (Nog G w) x v) :
    Calls Try.prog 80 #[v] w fun e w' => MadeT G x w e w' ∧ Below w.heap.size w w' := copyTAll 1000000 G x v w hG hn (Nat.le_refl _) hv
end Go.Proofs.Ytenjlgcdbnddjaa

/-!  The draws of chapter 4: l4Proj, l4Ty. -/
namespace Go.Proofs.Ytenjlgcdbnddjaa
open Go.RowKit Go.Lib

mutual
/-- A small type: as the draws make them. -/
def TypeX.tame : TypeX → Prop
  | .mk k s l => (-9 ≤ k ∧ k ≤ 9) ∧ s.size ≤ 100 ∧ TypeX.tameL l
def TypeX.tameL : List TypeX → Prop
  | [] => True
  | x :: r => x.tame ∧ TypeX.tameL r
end
theorem TypeX.tame_eq (x : TypeX) : x.tame = ((-9 ≤ x.kind_ ∧ x.kind_ ≤ 9) ∧ x.name_.size ≤ 100 ∧ TypeX.tameL x.args_) := by cases x with | mk a b c => rw [TypeX.tame]; rfl
mutual
theorem TypeX.tame_ok : ∀ x : TypeX, x.tame → x.size ≤ 4294967296 → DV.okL x.cells
  | .mk k s l, h, hn => by
    rw [TypeX.tame] at h
    rw [TypeX.size] at hn
    have hl := sizeL_length l
    rw [TypeX.cells]
    simp only [DV.okL, DV.ok, uok, TypeX.rows_length]
    exact ⟨by omega, by omega, ⟨by omega, TypeX.tameL_ok l h.2.2 (by omega)⟩, trivial⟩
theorem TypeX.tameL_ok : ∀ l : List TypeX, TypeX.tameL l → TypeX.sizeL l ≤ 4294967296 → DV.okE (TypeX.rows l)
  | [], _, _ => by rw [TypeX.rows, DV.okE]; trivial
  | x :: r, h, hn => by
    rw [TypeX.tameL] at h
    rw [TypeX.sizeL] at hn
    rw [TypeX.rows, DV.okE]
    exact ⟨TypeX.tame_ok x h.1 (by omega), TypeX.tameL_ok r h.2 (by omega)⟩
end

theorem whole_but {w w' : World} {g k : Nat} {t : TypeId} {cs : Array Value} (h : Whole w g t cs) (hb : But k w w') (hne : g ≠ k) : Whole w' g t cs := (hb.block g h.lt hne).trans h
theorem cur_far {w w' : World} {B g k : Nat} (h : Cur w B g) (hb : But k w w') (hk : g < k) : Cur w' B g := by
  have ho := h.own
  obtain ⟨A, n, c, i, x, hc⟩ := h
  refine ⟨A, n, c, i, x, ⟨whole_but hc.cells hb (by omega), ho, fun j hj => ?_, hc.size, hc.lo, hc.hi⟩⟩
  have hlt := hc.cells.lt
  obtain ⟨b, o, z, hA, hl, h0, h1, hz⟩ := hc.bytes j hj
  exact ⟨b, o, z, hA, hl, h0, h1, (World.cell?_of_block (a := ⟨b, o + j, none⟩) (hb.block b (by omega) (by omega))).trans hz⟩
/-- Whatever changes beyond what was there. -/
theorem but_new {g X : Nat} {w w3 w4 : World} (hb : But g w w3) (h : But X w3 w4) (hX : w.heap.size ≤ X) : But g w w4 :=
  ⟨h.os.trans hb.os, h.tape.trans hb.tape, h.output.trans hb.output, Nat.le_trans hb.size h.size, fun k hk hg => (h.block k (Nat.lt_of_lt_of_le hk hb.size) (by omega)).trans (hb.block k hk hg)⟩

/-- WHAT A DRAW OF A TYPE LEAVES. -/
def DrawnT (G : Nat → Prop) (N B g : Nat) (w : World) (e : Ending) (w' : World) : Prop := ∃ x : TypeX, MadeT G x w e w' ∧ x.size ≤ N ∧ x.tame ∧ Cur w' B g ∧ But g w w'

/-- The ending of a draw: the result's cells written. -/
theorem drawEnd {G G' : Nat → Prop} {N B g : Nat} {w wa w3 : World} {x : TypeX} {A : Option Addr} {cc : Nat} {a b c : Value} (hg : g < w.heap.size) (hx : Whole w3 w.heap.size 26 #[a, b, c])
    (ht : TopT G' wa w3 (.slice A x.args_.length cc) x.args_) (hX : G' w.heap.size) (hlt : w.heap.size < wa.heap.size) (hsub : ∀ b, G b → G' b) (hc : Cur w3 B g) (hb : But g w w3) (hN : x.size ≤ N) (htm : x.tame) :
    ∀ w4, w4 = ((w3.setCell ⟨w.heap.size, 0, none⟩ (.int .i64 x.kind_)).setCell ⟨w.heap.size, 1, none⟩ (.string x.name_)).setCell ⟨w.heap.size, 2, none⟩ (.slice A x.args_.length cc) →
      w4.cell? ⟨w.heap.size, 0, none⟩ = some (.int .i64 x.kind_) ∧ w4.cell? ⟨w.heap.size, 1, none⟩ = some (.string x.name_) ∧ w4.cell? ⟨w.heap.size, 2, none⟩ = some (.slice A x.args_.length cc) ∧ DrawnT G N B g w (.returned (.agg #[.int .i64 x.kind_, .string x.name_, .slice A x.args_.length cc])) w4 := by
  intro w4 h4
  have hx3 : Whole w4 w.heap.size 26 #[.int .i64 x.kind_, .string x.name_, .slice A x.args_.length cc] := by
    rw [h4]; simpa using ((hx.set_ 0 (.int .i64 x.kind_)).set_ 1 (.string x.name_)).set_ 2 (.slice A x.args_.length cc)
  have hbut : But w.heap.size w3 w4 := by rw [h4]; exact ((But.set_ _ _ 0 _).trans (But.set_ _ _ 1 _)).trans (But.set_ _ _ 2 _)
  obtain ⟨e0, e1, e2⟩ := cells3 hx3
  exact ⟨e0, e1, e2, x, ⟨_, rfl, ((ht.butX (ht.ne hlt) hX hbut).less hsub).wide (Nat.le_of_lt hlt)⟩, hN, htm, cur_far hc hbut hg, but_new hb hbut (Nat.le_refl _)⟩

set_option maxRecDepth 100000 in
set_option maxHeartbeats 2000000 in
theorem projC (G : Nat → Prop) (s : ByteArray) (x : TypeX) (v : Value) (w : World) (hG : ∀ b, G b → b < w.heap.size) (hn : x.size ≤ 1000000) (hv : TypeAt w (Nog G w) x v) :
    Calls Try.prog 70 #[.string s, v] w fun e w' => MadeT G (.mk 3 s [x]) w e w' ∧ Below w.heap.size w w' := by
  obtain ⟨A, c, rfl, hx⟩ := hv
  have hbb : Below w.heap.size w ((w.alloc (.cells #[.int .i64 x.kind_, .string x.name_, .slice A x.args_.length c] 26)).alloc (.cells zeroT 26)) := ((Below.refl _ _).alloc (Nat.le_refl _) _).alloc (by simp) _
  obtain ⟨W, hW⟩ : ∃ W, W = (w.alloc (.cells #[.int .i64 x.kind_, .string x.name_, .slice A x.args_.length c] 26)).alloc (.cells zeroT 26) := ⟨_, rfl⟩
  have hs : W.heap.size = w.heap.size + 2 := by rw [hW]; simp
  have hx1 : Whole W w.heap.size 26 #[.int .i64 x.kind_, .string x.name_, .slice A x.args_.length c] := by rw [hW]; exact (Whole.new w _ _).below ((Below.refl (w.heap.size + 1) _).alloc (by simp) _) (by omega)
  have hx2 : Whole W (w.heap.size + 1) 26 zeroT := by
    have h := Whole.new (w.alloc (.cells #[.int .i64 x.kind_, .string x.name_, .slice A x.args_.length c] 26)) 26 zeroT
    rw [World.size_alloc] at h; rw [hW]; exact h
  rw [← hW] at hbb
  have hr : TypeRow W (Nog (fun b => G b ∨ b = w.heap.size + 1) W) A c x.args_ := hx.nogX hbb fun b hb h => h.elim id (fun e => by omega)
  have hG' : ∀ b, (G b ∨ b = w.heap.size + 1) → b < W.heap.size := fun b h => h.elim (fun h => by have := hG b h; omega) (fun e => by omega)
  have hc := copyT (fun b => G b ∨ b = w.heap.size + 1) x _ W hG' hn ⟨_, _, rfl, hr⟩
  have HC := Lib.hid hc
  have HW := Lib.hid hW.symm
  have HS := Lib.hid hs
  have HX2 := Lib.hid hx2
  have HB := Lib.hid hbb
  have HG := Lib.hid hG'
  clear hc hW hs hx1 hx2 hbb hr hx hG'
  go_enter Try.func70, Try.ntmps70
  go_wp2_with fail
  rw [HW.out]
  refine HC.out.mono ?_
  rintro e w2 ⟨⟨V, rfl, ht⟩, hb2⟩
  obtain ⟨A2, c2, rfl⟩ := ht.shape
  obtain ⟨A2', c2', e2, hr2⟩ := ht.row HG.out
  injection e2 with e2 _ e3
  subst e2 e3
  have hbw := HB.out.trans (hb2.mono HB.out.size)
  have hx3 : Whole (w2.alloc (.cells #[.int .i64 x.kind_, .string x.name_, .slice A2 x.args_.length c2] 26)) (w.heap.size + 1) 26 zeroT := whole_keep (HX2.out.below hb2 HX2.out.lt) ((Below.refl _ _).alloc (Nat.le_refl _) _)
  have hz2 : w.heap.size + 2 ≤ w2.heap.size := by have := hb2.size; have := HS.out; omega
  have ht3 : TopT (fun b => G b ∨ b = w.heap.size + 1) w (w2.alloc (.cells #[.int .i64 x.kind_, .string x.name_, .slice A2 x.args_.length c2] 26)) (.slice (some ⟨w2.heap.size, 0, none⟩) 1 1) [x] :=
    ⟨_, World.ownsRow_lit (base := w.heap.size) (size := 3) (e := 26) w2 #[.int .i64 x.kind_, .string x.name_, .slice A2 x.args_.length c2] 1 (by omega) (by decide) rfl, A2, c2, [], rfl,
      hr2.frame (fun b h => ⟨⟨by simp; have := h.1; omega, h.2⟩, fun e => by simp [Value.ownBlock] at e; have := h.1; omega⟩) (fun b o h => ((Below.refl w2.heap.size w2).alloc (Nat.le_refl _) _).cell (p := ⟨b, o, none⟩) h.1), rfl⟩
  have hend := tyEndX (w := w) (k := 3) (s := s) (A := some ⟨w2.heap.size, 0, none⟩) (n := 1) (cc := 1) hx3 (by omega) (hbw.alloc hbw.size _)
  obtain ⟨r0, r1, r2⟩ := cells3 hx3
  have rf0 := hx3.frozen 0
  have rf1 := hx3.frozen 1
  have rf2 := hx3.frozen 2
  have hlt := hx3.lt
  have HE := Lib.hid hend
  have HT := Lib.hid ht3
  clear hend ht3 hx3 hr2 ht hb2 hbw
  go_wp2
  obtain ⟨e0, e1, e2, hbut, hb4, -⟩ := HE.out _ rfl
  exact bodyPost_ret (v := .agg #[.int .i64 3, .string s, .slice (some ⟨w2.heap.size, 0, none⟩) 1 1]) (by simp [results, Try.results70, go_sem, e0, e1, e2]) rfl
    ⟨⟨_, rfl, (HT.out.butX (by simp [Value.ownBlock]; omega) (.inr rfl) hbut).less fun b h => .inl h⟩, hb4⟩
end Go.Proofs.Ytenjlgcdbnddjaa

/-!  The draws of chapter 4: l4Ty. -/
namespace Go.Proofs.Ytenjlgcdbnddjaa
open Go.RowKit Go.Lib

def baseWords : List ByteArray := [⟨#[105, 110, 116]⟩, ⟨#[98, 111, 111, 108]⟩, ⟨#[117, 110, 105, 116]⟩]
theorem baseWords_short {x : ByteArray} (h : x ∈ baseWords) : x.size ≤ 9 := by
  simp only [baseWords, List.mem_cons, List.mem_nil_iff, or_false] at h
  rcases h with rfl | rfl | rfl <;> decide
def conWords : List ByteArray := [⟨#[108, 105, 115, 116]⟩, ⟨#[108, 105, 115, 116]⟩, ⟨#[98, 111, 120]⟩]
theorem conWords_short {x : ByteArray} (h : x ∈ conWords) : x.size ≤ 9 := by
  simp only [conWords, List.mem_cons, List.mem_nil_iff, or_false] at h
  rcases h with rfl | rfl | rfl <;> decide

theorem base_tame {s : ByteArray} (h : s.size ≤ 100) : (TypeX.mk 2 s []).tame := by rw [TypeX.tame]; exact ⟨by omega, h, by rw [TypeX.tameL]; trivial⟩
theorem var_tame {s : ByteArray} (h : s.size ≤ 100) : (TypeX.mk 1 s []).tame := by rw [TypeX.tame]; exact ⟨by omega, h, by rw [TypeX.tameL]; trivial⟩
theorem con1_tame {s : ByteArray} {x : TypeX} (h : s.size ≤ 100) (hx : x.tame) : (TypeX.mk 2 s [x]).tame := by rw [TypeX.tame]; exact ⟨by omega, h, by rw [TypeX.tameL, TypeX.tameL]; exact ⟨hx, trivial⟩⟩
theorem con2_tame {s : ByteArray} {x y : TypeX} (h : s.size ≤ 100) (hx : x.tame) (hy : y.tame) : (TypeX.mk 2 s [x, y]).tame := by rw [TypeX.tame]; exact ⟨by omega, h, by rw [TypeX.tameL, TypeX.tameL, TypeX.tameL]; exact ⟨hx, hy, trivial⟩⟩
theorem size0 (k : Int) (s : ByteArray) : (TypeX.mk k s []).size = 1 := by rw [TypeX.size, TypeX.sizeL]
theorem size1 (k : Int) (s : ByteArray) (x : TypeX) : (TypeX.mk k s [x]).size = 1 + x.size := by rw [TypeX.size, TypeX.sizeL, TypeX.sizeL]; rfl
theorem size2 (k : Int) (s : ByteArray) (x y : TypeX) : (TypeX.mk k s [x, y]).size = 1 + (x.size + y.size) := by rw [TypeX.size, TypeX.sizeL, TypeX.sizeL, TypeX.sizeL]; rfl

/-- Two types in a new row. -/
theorem row_two {G : Nat → Prop} {w : World} {x y : TypeX} {A B : Option Addr} {c d : Nat} (hx : TypeRow w (Nog G w) A c x.args_) (hy : TypeRow w (Nog G w) B d y.args_) (hG : ∀ b, G b → b < w.heap.size) :
    TypeRow (w.alloc (.cells #[.int .i64 x.kind_, .string x.name_, .slice A x.args_.length c, .int .i64 y.kind_, .string y.name_, .slice B y.args_.length d] 26)) (Nog G (w.alloc (.cells #[.int .i64 x.kind_, .string x.name_, .slice A x.args_.length c, .int .i64 y.kind_, .string y.name_, .slice B y.args_.length d] 26))) (some ⟨w.heap.size, 0, none⟩) 2 [x, y] := by
  have hb := (Below.refl w.heap.size w).alloc (Nat.le_refl _) (.cells #[.int .i64 x.kind_, .string x.name_, .slice A x.args_.length c, .int .i64 y.kind_, .string y.name_, .slice B y.args_.length d] 26)
  have ho := World.ownsRow_lit (base := w.heap.size) (size := 3) (e := 26) w #[.int .i64 x.kind_, .string x.name_, .slice A x.args_.length c, .int .i64 y.kind_, .string y.name_, .slice B y.args_.length d] 2 (Nat.le_refl _) (by decide) rfl
  obtain ⟨A2, c2, e, hr⟩ := own_typeRow (l := [x, y]) (P := Nog G (w.alloc (.cells #[.int .i64 x.kind_, .string x.name_, .slice A x.args_.length c, .int .i64 y.kind_, .string y.name_, .slice B y.args_.length d] 26))) ho ⟨A, c, _, rfl, hx.nog hb, B, d, [], rfl, hy.nog hb, rfl⟩ (fun b h => h) (fun b h => by simp [Value.ownBlock] at h; subst h; exact ⟨by simp, fun h => by have := hG _ h; omega⟩)
  injection e with e1 _ e2
  subst e1 e2
  exact hr
theorem row_one {G : Nat → Prop} {w : World} {x : TypeX} {A : Option Addr} {c : Nat} (hx : TypeRow w (Nog G w) A c x.args_) (hG : ∀ b, G b → b < w.heap.size) :
    TypeRow (w.alloc (.cells #[.int .i64 x.kind_, .string x.name_, .slice A x.args_.length c] 26)) (Nog G (w.alloc (.cells #[.int .i64 x.kind_, .string x.name_, .slice A x.args_.length c] 26))) (some ⟨w.heap.size, 0, none⟩) 1 [x] := by
  have hb := (Below.refl w.heap.size w).alloc (Nat.le_refl _) (.cells #[.int .i64 x.kind_, .string x.name_, .slice A x.args_.length c] 26)
  have ho := World.ownsRow_lit (base := w.heap.size) (size := 3) (e := 26) w #[.int .i64 x.kind_, .string x.name_, .slice A x.args_.length c] 1 (Nat.le_refl _) (by decide) rfl
  obtain ⟨A2, c2, e, hr⟩ := own_typeRow (l := [x]) (P := Nog G (w.alloc (.cells #[.int .i64 x.kind_, .string x.name_, .slice A x.args_.length c] 26))) ho ⟨A, c, [], rfl, hx.nog hb, rfl⟩ (fun b h => h) (fun b h => by simp [Value.ownBlock] at h; subst h; exact ⟨by simp, fun h => by have := hG _ h; omega⟩)
  injection e with e1 _ e2
  subst e1 e2
  exact hr
theorem TypeRow.nogBut {G : Nat → Prop} {g : Nat} {w w' : World} {A : Option Addr} {c : Nat} {l : List TypeX} (h : TypeRow w (Nog G w) A c l) (hg : G g) (hb : But g w w') : TypeRow w' (Nog G w') A c l :=
  h.frame (fun _ h => ⟨Nat.lt_of_lt_of_le h.1 hb.size, h.2⟩) fun b o h => World.cell?_of_block (a := ⟨b, o, none⟩) (hb.block b h.1 (fun e => h.2 (e ▸ hg)))
theorem Strs.butN {w w' : World} {A : Option Addr} {ss : List ByteArray} {g : Nat} (h : Strs w A ss) (hb : But g w w') (hne : ∀ ad, A = some ad → ad.block ≠ g) : Strs w' A ss := by
  rcases h with h | ⟨b, o, hA, hg, hc⟩
  · exact .inl h
  · exact hb.strs hc hg (hne _ hA) |> fun h' => by subst hA; exact h'

def DrawTyK (k : Nat) : Prop := ∀ (G : Nat → Prop) (B g : Nat) (A : Option Addr) (c : Nat) (vs : List ByteArray) (w : World), (∀ b, G b → b < w.heap.size) → G g → Cur w B g → Strs w A vs → (∀ ad, A = some ad → ad.block ≠ g) → 0 < vs.length → vs.length ≤ 1000 → (∀ s ∈ vs, s.size ≤ 100) →
  Calls Try.prog 69 #[.pointer (some ⟨g, 0, none⟩), .slice A vs.length c, .int .i64 k] w (DrawnT G (2 ^ (k + 1) - 1) B g w)
set_option maxRecDepth 100000 in
set_option maxHeartbeats 1000000 in
theorem drawTy0 : DrawTyK 0 := by
  intro G B g A c vs w hG hg hc hv hne hv0 hv1 hvs
  have hgl := hc.lt
  have hbX : Below w.heap.size w (w.alloc (.cells zeroT 26)) := (Below.refl _ _).alloc (Nat.le_refl _) _
  have HXX := Lib.hid (Whole.new w 26 zeroT)
  have HCC := Lib.hid (hc.kept hbX)
  have HVV := Lib.hid (hv.below hbX)
  have HBB := Lib.hid (But.of_below (g := g) hbX)
  have HNE := Lib.hid hne
  have HVS := Lib.hid hvs
  have HG := Lib.hid hG
  have hGX : ∀ b, (G b ∨ b = w.heap.size) → b < (w.alloc (.cells zeroT 26)).heap.size := fun b h => by simp; exact h.elim (fun h => by have := hG b h; omega) (fun e => by omega)
  have HGX := Lib.hid hGX
  clear hc hv hbX hne hvs hG hGX
  go_enter Try.func69, Try.ntmps69
  go_wp2_with fail
  refine (drawBelow B g 8 _ HCC.out (by decide) (by decide)).mono ?_
  rintro e w1 ⟨v, rfl, ⟨z, rfl, hz0, hz8⟩, hc1, hb1⟩
  have HX1 := Lib.hid (whole_but HXX.out hb1 (by omega))
  have HV1 := Lib.hid (HVV.out.butN hb1 HNE.out)
  have HB1 := Lib.hid (HBB.out.trans hb1)
  have HC1 := Lib.hid hc1
  have hs1 := hb1.size
  simp only [World.size_alloc] at hs1
  clear hc1
  by_cases h3 : z < 3
  · skip
    obtain ⟨rv, hrv⟩ : ∃ n : Int, n = (vs.length : Int) := ⟨_, rfl⟩
    go_wp2_with fail
    refine (drawBelow B g (vs.length : Int) _ HC1.out (by omega) (by omega)).mono ?_
    rintro e w2 ⟨v, rfl, ⟨i, rfl, hi0, hi1⟩, hc2, hb2⟩
    obtain ⟨k2, rfl⟩ := Int.eq_ofNat_of_zero_le hi0
    have hk2 : k2 < vs.length := by omega
    obtain ⟨gv, ov, hAv, hcv⟩ := (HV1.out.butN hb2 HNE.out).at_ hk2
    subst hAv
    have HX2 := Lib.hid (whole_but HX1.out hb2 (by omega))
    have HB2 := Lib.hid (HB1.out.trans hb2)
    have HC2 := Lib.hid hc2
    have hsv := HVS.out _ (List.getElem_mem hk2)
    have hs2 := hb2.size
    clear hc2 hrv
    go_wp2_with fail
    refine (varC (fun b => G b ∨ b = w.heap.size) vs[k2] _).mono ?_
    rintro e w3 ⟨⟨V, rfl, ht⟩, hb3⟩
    obtain ⟨A3, c3, rfl⟩ := ht.shape
    have hX3 := whole_keep HX2.out hb3
    have hend := drawEnd (G := G) (N := 2 ^ (0 + 1) - 1) (x := .mk 1 vs[k2] []) hgl hX3 ht (.inr rfl) (by omega) (fun b h => .inl h) (HC2.out.kept hb3) (HB2.out.trans (But.of_below hb3)) (by rw [size0]; decide) (var_tame hsv)
    have HE := Lib.hid hend
    have HXE := Lib.hid hX3
    clear hend ht hX3
    have hX := HXE.out
    obtain ⟨r0, r1, r2⟩ := cells3 hX
    have rf0 := hX.frozen 0
    have rf1 := hX.frozen 1
    have rf2 := hX.frozen 2
    have hlt := hX.lt
    clear hX
    go_wp2
    obtain ⟨e0, e1, e2, e3⟩ := HE.out _ rfl
    exact bodyPost_ret (v := .agg #[.int .i64 1, .string vs[k2], .slice A3 0 c3]) (by simp [results, Try.results69, go_sem, e0, e1, e2]; first | rfl | exact ⟨rfl, rfl⟩ | exact ⟨rfl, rfl, rfl⟩) rfl e3
  · by_cases h5 : z < 5
    · skip
      have hp1 := Whole.new w1 9 (baseWords.map Value.string).toArray
      have hbp : Below w1.heap.size w1 (w1.alloc (.cells (baseWords.map Value.string).toArray 9)) := (Below.refl _ _).alloc (Nat.le_refl _) _
      have HP := Lib.hid hp1
      have HCP := Lib.hid (HC1.out.kept hbp)
      have HXP := Lib.hid (whole_keep HX1.out hbp)
      have HBP := Lib.hid (HB1.out.trans (But.of_below hbp))
      clear hp1 hbp
      go_wp2_with fail
      refine (drawPick B g w1.heap.size 3 baseWords _ HCP.out HP.out (by decide) (by decide) (by omega)).mono ?_
      rintro e w2 ⟨v, rfl, ⟨s, hsm, rfl⟩, hc2, hb2⟩
      have hss := baseWords_short hsm
      have HX2 := Lib.hid (whole_but HXP.out hb2 (by omega))
      have HB2 := Lib.hid (HBP.out.trans hb2)
      have HC2 := Lib.hid hc2
      have hs2 := hb2.size
      simp only [World.size_alloc] at hs2
      clear hc2 hsm
      go_wp2_with fail
      refine (conC (fun b => G b ∨ b = w.heap.size) s none 0 [] _ (by decide) (TypeRow.nil _ _ _ _ (by decide))).mono ?_
      rintro e w3 ⟨⟨V, rfl, ht⟩, hb3⟩
      obtain ⟨A3, c3, rfl⟩ := ht.shape
      have hX3 := whole_keep HX2.out hb3
      have hend := drawEnd (G := G) (N := 2 ^ (0 + 1) - 1) (x := .mk 2 s []) hgl hX3 ht (.inr rfl) (by omega) (fun b h => .inl h) (HC2.out.kept hb3) (HB2.out.trans (But.of_below hb3)) (by rw [size0]; decide) (base_tame (by omega))
      have HE := Lib.hid hend
      have HXE := Lib.hid hX3
      clear hend ht hX3
      have hX := HXE.out
      obtain ⟨r0, r1, r2⟩ := cells3 hX
      have rf0 := hX.frozen 0
      have rf1 := hX.frozen 1
      have rf2 := hX.frozen 2
      have hlt := hX.lt
      clear hX
      go_wp2
      obtain ⟨e0, e1, e2, e3⟩ := HE.out _ rfl
      exact bodyPost_ret (v := .agg #[.int .i64 2, .string s, .slice A3 0 c3]) (by simp [results, Try.results69, go_sem, e0, e1, e2]; first | rfl | exact ⟨rfl, rfl⟩ | exact ⟨rfl, rfl, rfl⟩) rfl e3
    · skip
      have hp1 := Whole.new w1 9 (baseWords.map Value.string).toArray
      have hbp : Below w1.heap.size w1 (w1.alloc (.cells (baseWords.map Value.string).toArray 9)) := (Below.refl _ _).alloc (Nat.le_refl _) _
      have HP := Lib.hid hp1
      have HCP := Lib.hid (HC1.out.kept hbp)
      have HXP := Lib.hid (whole_keep HX1.out hbp)
      have HBP := Lib.hid (HB1.out.trans (But.of_below hbp))
      clear hp1 hbp
      go_wp2_with fail
      refine (drawPick B g w1.heap.size 3 baseWords _ HCP.out HP.out (by decide) (by decide) (by omega)).mono ?_
      rintro e w2 ⟨v, rfl, ⟨s, hsm, rfl⟩, hc2, hb2⟩
      have hss := baseWords_short hsm
      have HX2 := Lib.hid (whole_but HXP.out hb2 (by omega))
      have HB2 := Lib.hid (HBP.out.trans hb2)
      have HC2 := Lib.hid hc2
      have hs2 := hb2.size
      simp only [World.size_alloc] at hs2
      clear hc2 hsm
      go_wp2_with fail
      refine (conC (fun b => G b ∨ b = w.heap.size) s none 0 [] _ (by decide) (TypeRow.nil _ _ _ _ (by decide))).mono ?_
      rintro e w3 ⟨⟨V, rfl, ht⟩, hb3⟩
      obtain ⟨A3, c3, rfl⟩ := ht.shape
      have hX3 := whole_keep HX2.out hb3
      have hend := drawEnd (G := G) (N := 2 ^ (0 + 1) - 1) (x := .mk 2 s []) hgl hX3 ht (.inr rfl) (by omega) (fun b h => .inl h) (HC2.out.kept hb3) (HB2.out.trans (But.of_below hb3)) (by rw [size0]; decide) (base_tame (by omega))
      have HE := Lib.hid hend
      have HXE := Lib.hid hX3
      clear hend ht hX3
      have hX := HXE.out
      obtain ⟨r0, r1, r2⟩ := cells3 hX
      have rf0 := hX.frozen 0
      have rf1 := hX.frozen 1
      have rf2 := hX.frozen 2
      have hlt := hX.lt
      clear hX
      go_wp2
      obtain ⟨e0, e1, e2, e3⟩ := HE.out _ rfl
      exact bodyPost_ret (v := .agg #[.int .i64 2, .string s, .slice A3 0 c3]) (by simp [results, Try.results69, go_sem, e0, e1, e2]; first | rfl | exact ⟨rfl, rfl⟩ | exact ⟨rfl, rfl, rfl⟩) rfl e3
set_option maxRecDepth 100000 in
set_option maxHeartbeats 1000000 in
theorem drawTyS (k : Nat) (hkk : k ≤ 9) (ih : DrawTyK k) : DrawTyK (k + 1) := by
  intro G B g A c vs w hG hg hc hv hne hv0 hv1 hvs
  have hpw : 2 ^ (k + 1 + 1) = 2 * 2 ^ (k + 1) := by rw [Nat.pow_succ]; omega
  have hpp : 0 < 2 ^ (k + 1) := Nat.pos_of_ne_zero (by simp)
  have HPW := Lib.hid hpw
  have HPP := Lib.hid hpp
  clear hpw hpp
  have hgl := hc.lt
  have hbX : Below w.heap.size w (w.alloc (.cells zeroT 26)) := (Below.refl _ _).alloc (Nat.le_refl _) _
  have HXX := Lib.hid (Whole.new w 26 zeroT)
  have HCC := Lib.hid (hc.kept hbX)
  have HVV := Lib.hid (hv.below hbX)
  have HBB := Lib.hid (But.of_below (g := g) hbX)
  have HNE := Lib.hid hne
  have HVS := Lib.hid hvs
  have HG := Lib.hid hG
  have hGX : ∀ b, (G b ∨ b = w.heap.size) → b < (w.alloc (.cells zeroT 26)).heap.size := fun b h => by simp; exact h.elim (fun h => by have := hG b h; omega) (fun e => by omega)
  have HGX := Lib.hid hGX
  clear hc hv hbX hne hvs hG hGX
  go_enter Try.func69, Try.ntmps69
  go_wp2_with fail
  refine (drawBelow B g 8 _ HCC.out (by decide) (by decide)).mono ?_
  rintro e w1 ⟨v, rfl, ⟨z, rfl, hz0, hz8⟩, hc1, hb1⟩
  have HX1 := Lib.hid (whole_but HXX.out hb1 (by omega))
  have HV1 := Lib.hid (HVV.out.butN hb1 HNE.out)
  have HB1 := Lib.hid (HBB.out.trans hb1)
  have HC1 := Lib.hid hc1
  have hs1 := hb1.size
  simp only [World.size_alloc] at hs1
  clear hc1
  by_cases h3 : z < 3
  · skip
    obtain ⟨rv, hrv⟩ : ∃ n : Int, n = (vs.length : Int) := ⟨_, rfl⟩
    go_wp2_with fail
    refine (drawBelow B g (vs.length : Int) _ HC1.out (by omega) (by omega)).mono ?_
    rintro e w2 ⟨v, rfl, ⟨i, rfl, hi0, hi1⟩, hc2, hb2⟩
    obtain ⟨k2, rfl⟩ := Int.eq_ofNat_of_zero_le hi0
    have hk2 : k2 < vs.length := by omega
    obtain ⟨gv, ov, hAv, hcv⟩ := (HV1.out.butN hb2 HNE.out).at_ hk2
    subst hAv
    have HX2 := Lib.hid (whole_but HX1.out hb2 (by omega))
    have HB2 := Lib.hid (HB1.out.trans hb2)
    have HC2 := Lib.hid hc2
    have hsv := HVS.out _ (List.getElem_mem hk2)
    have hs2 := hb2.size
    clear hc2 hrv
    go_wp2_with fail
    refine (varC (fun b => G b ∨ b = w.heap.size) vs[k2] _).mono ?_
    rintro e w3 ⟨⟨V, rfl, ht⟩, hb3⟩
    obtain ⟨A3, c3, rfl⟩ := ht.shape
    have hX3 := whole_keep HX2.out hb3
    have hend := drawEnd (G := G) (N := 2 ^ (k + 1 + 1) - 1) (x := .mk 1 vs[k2] []) hgl hX3 ht (.inr rfl) (by omega) (fun b h => .inl h) (HC2.out.kept hb3) (HB2.out.trans (But.of_below hb3)) (by rw [size0]; (have := HPW.out; have := HPP.out; omega)) (var_tame hsv)
    have HE := Lib.hid hend
    have HXE := Lib.hid hX3
    clear hend ht hX3
    have hX := HXE.out
    obtain ⟨r0, r1, r2⟩ := cells3 hX
    have rf0 := hX.frozen 0
    have rf1 := hX.frozen 1
    have rf2 := hX.frozen 2
    have hlt := hX.lt
    clear hX
    go_wp2
    obtain ⟨e0, e1, e2, e3⟩ := HE.out _ rfl
    exact bodyPost_ret (v := .agg #[.int .i64 1, .string vs[k2], .slice A3 0 c3]) (by simp [results, Try.results69, go_sem, e0, e1, e2]; first | rfl | exact ⟨rfl, rfl⟩ | exact ⟨rfl, rfl, rfl⟩) rfl e3
  · by_cases h5 : z < 5
    · skip
      have hp1 := Whole.new w1 9 (baseWords.map Value.string).toArray
      have hbp : Below w1.heap.size w1 (w1.alloc (.cells (baseWords.map Value.string).toArray 9)) := (Below.refl _ _).alloc (Nat.le_refl _) _
      have HP := Lib.hid hp1
      have HCP := Lib.hid (HC1.out.kept hbp)
      have HXP := Lib.hid (whole_keep HX1.out hbp)
      have HBP := Lib.hid (HB1.out.trans (But.of_below hbp))
      clear hp1 hbp
      go_wp2_with fail
      refine (drawPick B g w1.heap.size 3 baseWords _ HCP.out HP.out (by decide) (by decide) (by omega)).mono ?_
      rintro e w2 ⟨v, rfl, ⟨s, hsm, rfl⟩, hc2, hb2⟩
      have hss := baseWords_short hsm
      have HX2 := Lib.hid (whole_but HXP.out hb2 (by omega))
      have HB2 := Lib.hid (HBP.out.trans hb2)
      have HC2 := Lib.hid hc2
      have hs2 := hb2.size
      simp only [World.size_alloc] at hs2
      clear hc2 hsm
      go_wp2_with fail
      refine (conC (fun b => G b ∨ b = w.heap.size) s none 0 [] _ (by decide) (TypeRow.nil _ _ _ _ (by decide))).mono ?_
      rintro e w3 ⟨⟨V, rfl, ht⟩, hb3⟩
      obtain ⟨A3, c3, rfl⟩ := ht.shape
      have hX3 := whole_keep HX2.out hb3
      have hend := drawEnd (G := G) (N := 2 ^ (k + 1 + 1) - 1) (x := .mk 2 s []) hgl hX3 ht (.inr rfl) (by omega) (fun b h => .inl h) (HC2.out.kept hb3) (HB2.out.trans (But.of_below hb3)) (by rw [size0]; (have := HPW.out; have := HPP.out; omega)) (base_tame (by omega))
      have HE := Lib.hid hend
      have HXE := Lib.hid hX3
      clear hend ht hX3
      have hX := HXE.out
      obtain ⟨r0, r1, r2⟩ := cells3 hX
      have rf0 := hX.frozen 0
      have rf1 := hX.frozen 1
      have rf2 := hX.frozen 2
      have hlt := hX.lt
      clear hX
      go_wp2
      obtain ⟨e0, e1, e2, e3⟩ := HE.out _ rfl
      exact bodyPost_ret (v := .agg #[.int .i64 2, .string s, .slice A3 0 c3]) (by simp [results, Try.results69, go_sem, e0, e1, e2]; first | rfl | exact ⟨rfl, rfl⟩ | exact ⟨rfl, rfl, rfl⟩) rfl e3
    · by_cases h6 : z = 5
      · subst h6
        go_wp2_with fail
        refine (ih (fun b => G b ∨ b = w.heap.size) B g A c vs _ (fun b h => by have := HGX.out b h; simp at this; omega) (.inl hg) HC1.out HV1.out HNE.out hv0 hv1 HVS.out).mono ?_
        rintro e w2 ⟨x, ⟨V2, rfl, ht2⟩, hxs, hxt, hc2, hb2⟩
        obtain ⟨A2, c2, rfl⟩ := ht2.shape
        obtain ⟨A2', c2', e2, hr2⟩ := ht2.row (fun b h => by have := HGX.out b h; simp at this; omega)
        injection e2 with e2 _ e3
        subst e2 e3
        have HR2 := Lib.hid hr2
        have HX2 := Lib.hid (whole_but HX1.out hb2 (by omega))
        have HV2 := Lib.hid (HV1.out.butN hb2 HNE.out)
        have HB2 := Lib.hid (HB1.out.trans hb2)
        have HC2 := Lib.hid hc2
        have hs2 := hb2.size
        clear hc2 hr2 ht2
        go_wp2_with fail
        refine (ih (fun b => G b ∨ b = w.heap.size) B g A c vs _ (fun b h => by have := HGX.out b h; simp at this; omega) (.inl hg) HC2.out HV2.out HNE.out hv0 hv1 HVS.out).mono ?_
        rintro e w3 ⟨y, ⟨V3, rfl, ht3⟩, hys, hyt, hc3, hb3⟩
        obtain ⟨A3, c3, rfl⟩ := ht3.shape
        obtain ⟨A3', c3', e3, hr3⟩ := ht3.row (fun b h => by have := HGX.out b h; simp at this; omega)
        injection e3 with e3 _ e4
        subst e3 e4
        have hGw3 : ∀ b, (G b ∨ b = w.heap.size) → b < w3.heap.size := fun b h => by have := HGX.out b h; have := hb3.size; simp at *; omega
        have HROW := Lib.hid (row_two (HR2.out.nogBut (.inl hg) hb3) hr3 hGw3)
        have hbr : Below w3.heap.size w3 (w3.alloc (.cells #[.int .i64 x.kind_, .string x.name_, .slice A2 x.args_.length c2, .int .i64 y.kind_, .string y.name_, .slice A3 y.args_.length c3] 26)) := (Below.refl _ _).alloc (Nat.le_refl _) _
        have HX3 := Lib.hid (whole_keep (whole_but HX2.out hb3 (by omega)) hbr)
        have HB3 := Lib.hid ((HB2.out.trans hb3).trans (But.of_below hbr))
        have HC3 := Lib.hid (hc3.kept hbr)
        have hs3 := hb3.size
        clear hc3 hr3 ht3 hbr hGw3
        go_wp2_with fail
        refine (conC (fun b => G b ∨ b = w.heap.size) ⟨#[112, 97, 105, 114]⟩ (some ⟨w3.heap.size, 0, none⟩) 2 [x, y] _ (by simp) HROW.out).mono ?_
        rintro e w4 ⟨⟨V, rfl, ht⟩, hb4⟩
        obtain ⟨A4, c4, rfl⟩ := ht.shape
        have hX4 := whole_keep HX3.out hb4
        have hend := drawEnd (G := G) (N := 2 ^ (k + 1 + 1) - 1) (x := .mk 2 ⟨#[112, 97, 105, 114]⟩ [x, y]) hgl hX4 ht (.inr rfl) (by simp; omega) (fun b h => .inl h) (HC3.out.kept hb4) (HB3.out.trans (But.of_below hb4)) (by rw [size2]; (have := HPW.out; have := HPP.out; omega)) (con2_tame (by decide) hxt hyt)
        have HE := Lib.hid hend
        have HXE := Lib.hid hX4
        clear hend ht hX4
        have hX := HXE.out
        obtain ⟨r0, r1, r2⟩ := cells3 hX
        have rf0 := hX.frozen 0
        have rf1 := hX.frozen 1
        have rf2 := hX.frozen 2
        have hlt := hX.lt
        clear hX
        go_wp2
        obtain ⟨e0, e1, e2, e3⟩ := HE.out _ rfl
        exact bodyPost_ret (v := .agg #[.int .i64 2, .string ⟨#[112, 97, 105, 114]⟩, .slice A4 2 c4]) (by simp [results, Try.results69, go_sem, e0, e1, e2]; first | rfl | exact ⟨rfl, rfl⟩ | exact ⟨rfl, rfl, rfl⟩) rfl e3
      · have h6' : (z == 5) = false := by simpa using h6
        have hp1 := Whole.new w1 9 (conWords.map Value.string).toArray
        have hbp : Below w1.heap.size w1 (w1.alloc (.cells (conWords.map Value.string).toArray 9)) := (Below.refl _ _).alloc (Nat.le_refl _) _
        have HP := Lib.hid hp1
        have HCP := Lib.hid (HC1.out.kept hbp)
        have HXP := Lib.hid (whole_keep HX1.out hbp)
        have HVP := Lib.hid (HV1.out.below hbp)
        have HBP := Lib.hid (HB1.out.trans (But.of_below hbp))
        clear hp1 hbp
        go_wp2_with fail
        refine (drawPick B g w1.heap.size 3 conWords _ HCP.out HP.out (by decide) (by decide) (by omega)).mono ?_
        rintro e w2 ⟨v, rfl, ⟨s, hsm, rfl⟩, hc2, hb2⟩
        have hss := conWords_short hsm
        have HX2 := Lib.hid (whole_but HXP.out hb2 (by omega))
        have HV2 := Lib.hid (HVP.out.butN hb2 HNE.out)
        have HB2 := Lib.hid (HBP.out.trans hb2)
        have HC2 := Lib.hid hc2
        have hs2 := hb2.size
        simp only [World.size_alloc] at hs2
        clear hc2 hsm
        go_wp2_with fail
        refine (ih (fun b => G b ∨ b = w.heap.size) B g A c vs _ (fun b h => by have := HGX.out b h; simp at this; omega) (.inl hg) HC2.out HV2.out HNE.out hv0 hv1 HVS.out).mono ?_
        rintro e w3 ⟨y, ⟨V3, rfl, ht3⟩, hys, hyt, hc3, hb3⟩
        obtain ⟨A3, c3, rfl⟩ := ht3.shape
        obtain ⟨A3', c3', e3, hr3⟩ := ht3.row (fun b h => by have := HGX.out b h; simp at this; omega)
        injection e3 with e3 _ e4
        subst e3 e4
        have hGw3 : ∀ b, (G b ∨ b = w.heap.size) → b < w3.heap.size := fun b h => by have := HGX.out b h; have := hb3.size; simp at *; omega
        have HROW := Lib.hid (row_one hr3 hGw3)
        have hbr : Below w3.heap.size w3 (w3.alloc (.cells #[.int .i64 y.kind_, .string y.name_, .slice A3 y.args_.length c3] 26)) := (Below.refl _ _).alloc (Nat.le_refl _) _
        have HX3 := Lib.hid (whole_keep (whole_but HX2.out hb3 (by omega)) hbr)
        have HB3 := Lib.hid ((HB2.out.trans hb3).trans (But.of_below hbr))
        have HC3 := Lib.hid (hc3.kept hbr)
        have hs3 := hb3.size
        clear hc3 hr3 ht3 hbr hGw3
        go_wp2_with fail
        refine (conC (fun b => G b ∨ b = w.heap.size) s (some ⟨w3.heap.size, 0, none⟩) 1 [y] _ (by simp) HROW.out).mono ?_
        rintro e w4 ⟨⟨V, rfl, ht⟩, hb4⟩
        obtain ⟨A4, c4, rfl⟩ := ht.shape
        have hX4 := whole_keep HX3.out hb4
        have hend := drawEnd (G := G) (N := 2 ^ (k + 1 + 1) - 1) (x := .mk 2 s [y]) hgl hX4 ht (.inr rfl) (by simp; omega) (fun b h => .inl h) (HC3.out.kept hb4) (HB3.out.trans (But.of_below hb4)) (by rw [size1]; (have := HPW.out; have := HPP.out; omega)) (con1_tame (by omega) hyt)
        have HE := Lib.hid hend
        have HXE := Lib.hid hX4
        clear hend ht hX4
        have hX := HXE.out
        obtain ⟨r0, r1, r2⟩ := cells3 hX
        have rf0 := hX.frozen 0
        have rf1 := hX.frozen 1
        have rf2 := hX.frozen 2
        have hlt := hX.lt
        clear hX
        go_wp2
        obtain ⟨e0, e1, e2, e3⟩ := HE.out _ rfl
        exact bodyPost_ret (v := .agg #[.int .i64 2, .string s, .slice A4 1 c4]) (by simp [results, Try.results69, go_sem, e0, e1, e2]; first | rfl | exact ⟨rfl, rfl⟩ | exact ⟨rfl, rfl, rfl⟩) rfl e3
theorem drawTy : ∀ k, k ≤ 10 → DrawTyK k
  | 0, _ => drawTy0
  | k + 1, h => drawTyS k (by omega) (drawTy k (by omega))
end Go.Proofs.Ytenjlgcdbnddjaa

/-!  The draws of chapter 4: l4Free. -/
namespace Go.Proofs.Ytenjlgcdbnddjaa
open Go.RowKit Go.Lib

def varWords : List ByteArray := [⟨#[97]⟩, ⟨#[98]⟩]
theorem varWords_short {s : ByteArray} (h : s ∈ varWords) : s.size ≤ 100 := by
  simp only [varWords, List.mem_cons, List.mem_nil_iff, or_false] at h
  rcases h with rfl | rfl <;> decide
def traitWords : List ByteArray := [⟨#[97, 100, 100]⟩, ⟨#[115, 104, 111, 119]⟩]
theorem traitWords_short {s : ByteArray} (h : s ∈ traitWords) : s.size ≤ 100 := by
  simp only [traitWords, List.mem_cons, List.mem_nil_iff, or_false] at h
  rcases h with rfl | rfl <;> decide

theorem tame1 {k : Int} {s : ByteArray} {x : TypeX} (hk : -9 ≤ k ∧ k ≤ 9) (h : s.size ≤ 100) (hx : x.tame) : (TypeX.mk k s [x]).tame := by rw [TypeX.tame]; exact ⟨hk, h, by rw [TypeX.tameL, TypeX.tameL]; exact ⟨hx, trivial⟩⟩
theorem tame0 {k : Int} {s : ByteArray} (hk : -9 ≤ k ∧ k ≤ 9) (h : s.size ≤ 100) : (TypeX.mk k s []).tame := by rw [TypeX.tame]; exact ⟨hk, h, by rw [TypeX.tameL]; trivial⟩

set_option maxRecDepth 100000 in
set_option maxHeartbeats 1000000 in
theorem freeC (G : Nat → Prop) (B g k : Nat) (hk : k ≤ 9) (w : World) (hG : ∀ b, G b → b < w.heap.size) (hg : G g) (hc : Cur w B g) :
    Calls Try.prog 56 #[.pointer (some ⟨g, 0, none⟩), .int .i64 k] w (DrawnT G (2 ^ (k + 1) + 1) B g w) := by
  have hpp : 0 < 2 ^ (k + 1) := Nat.pos_of_ne_zero (by simp)
  have HPP := Lib.hid hpp
  have hpn : 2 ^ (k + 1) ≤ 1024 := by have := Nat.pow_le_pow_right (n := 2) (by decide) (show k + 1 ≤ 10 by omega); simpa using this
  have HPN := Lib.hid hpn
  clear hpp hpn
  have hgl := hc.lt
  have hbX : Below w.heap.size w (w.alloc (.cells zeroT 26)) := (Below.refl _ _).alloc (Nat.le_refl _) _
  have hbN : Below (w.alloc (.cells zeroT 26)).heap.size (w.alloc (.cells zeroT 26)) ((w.alloc (.cells zeroT 26)).alloc (.cells (varWords.map Value.string).toArray 9)) := (Below.refl _ _).alloc (Nat.le_refl _) _
  have HXX := Lib.hid (whole_keep (Whole.new w 26 zeroT) hbN)
  have HCC := Lib.hid ((hc.kept hbX).kept hbN)
  have hvs := (Whole.new (w.alloc (.cells zeroT 26)) 9 (varWords.map Value.string).toArray).strs
  simp only [World.size_alloc] at hvs
  have HVV := Lib.hid hvs
  have HBB := Lib.hid ((But.of_below (g := g) hbX).trans (But.of_below hbN))
  have HGX : Hid (∀ b, (G b ∨ b = w.heap.size) → b < ((w.alloc (.cells zeroT 26)).alloc (.cells (varWords.map Value.string).toArray 9)).heap.size) := Lib.hid fun b h => by simp; exact h.elim (fun h => by have := hG b h; omega) (fun e => by omega)
  clear hc hbX hbN hvs hG
  go_enter Try.func56, Try.ntmps56
  go_wp2_with fail
  refine (drawTy k (by omega) (fun b => G b ∨ b = w.heap.size) B g _ _ varWords _ HGX.out (.inl hg) HCC.out HVV.out (by rintro ad h; injection h with h; subst h; simp; omega) (by decide) (by decide) (fun s h => varWords_short h)).mono ?_
  rintro e w2 ⟨x, ⟨V2, rfl, ht2⟩, hxs, hxt, hc2, hb2⟩
  obtain ⟨A2, c2, rfl⟩ := ht2.shape
  obtain ⟨A2', c2', e2, hr2⟩ := ht2.row HGX.out
  injection e2 with e2 _ e3
  subst e2 e3
  have hbY : Below w2.heap.size w2 (w2.alloc (.cells #[.int .i64 x.kind_, .string x.name_, .slice A2 x.args_.length c2] 26)) := (Below.refl _ _).alloc (Nat.le_refl _) _
  have hs2 := hb2.size
  simp only [World.size_alloc] at hs2
  have HR2 := Lib.hid (hr2.nog hbY)
  have HX2 := Lib.hid (whole_keep (whole_but HXX.out hb2 (by omega)) hbY)
  have HY2 := Lib.hid (Whole.new w2 26 #[.int .i64 x.kind_, .string x.name_, .slice A2 x.args_.length c2])
  have HB2 := Lib.hid ((HBB.out.trans hb2).trans (But.of_below hbY))
  have HC2 := Lib.hid (hc2.kept hbY)
  have HT2 := Lib.hid (ht2.below hbY)
  clear hc2 hr2 ht2 hbY
  go_wp2_with fail
  refine (drawBelow B g 8 _ HC2.out (by decide) (by decide)).mono ?_
  rintro e w3 ⟨v, rfl, ⟨z, rfl, hz0, hz8⟩, hc3, hb3⟩
  have hs3 := hb3.size
  simp only [World.size_alloc] at hs3
  have hy3 := whole_but HY2.out hb3 (by omega)
  obtain ⟨y0, y1, y2⟩ := cells3 hy3
  have hylt := hy3.lt
  have HY3 := Lib.hid hy3
  have HX3 := Lib.hid (whole_but HX2.out hb3 (by omega))
  have HR3 := Lib.hid (HR2.out.nogBut (.inl hg) hb3)
  have HT3 := Lib.hid (HT2.out.but HGX.out (.inl hg) hb3)
  have HB3 := Lib.hid (HB2.out.trans hb3)
  have HC3 := Lib.hid hc3
  have HG3 : Hid (∀ b, (G b ∨ b = w.heap.size) → b < w3.heap.size) := Lib.hid fun b h => by have := HGX.out b h; simp at this; omega
  clear hc3 hb3 hb2 HT2 HC2 HB2 HR2 HX2 HY2 HGX HBB HVV HCC HXX hy3
  by_cases h0 : z = 0
  · subst h0
    have hp1 := Whole.new w3.drew 9 (traitWords.map Value.string).toArray
    have hbd : Below w3.heap.size w3 w3.drew := (Below.refl _ w3).drew
    have hbp : Below w3.heap.size w3 (w3.drew.alloc (.cells (traitWords.map Value.string).toArray 9)) := hbd.alloc (Nat.le_refl _) _
    have HP := Lib.hid hp1
    have HCP := Lib.hid (HC3.out.kept hbp)
    have HXP := Lib.hid (whole_keep HX3.out hbp)
    have HYP := Lib.hid (whole_keep HY3.out hbp)
    have HRP := Lib.hid (HR3.out.nog hbp)
    have HBP := Lib.hid (HB3.out.trans (But.of_below hbp))
    clear hp1 hbd hbp
    go_wp2
    go_region_with (first
      | (go_at_call 58
         refine (drawPick B g w3.heap.size 2 traitWords _ HCP.out HP.out (by decide) (by decide) (by omega)).mono ?_
         rintro e w4 ⟨v, rfl, ⟨s, hsm, rfl⟩, hc4, hb4⟩
         have hs4 := hb4.size
         simp only [World.size_alloc, World.size_drew] at hs4
         have HR4 := Lib.hid (HRP.out.nogBut (.inl hg) hb4)
         have HX4 := Lib.hid (whole_but HXP.out hb4 (by omega))
         have HB4 := Lib.hid (HBP.out.trans hb4)
         have HC4 := Lib.hid hc4
         have hy4 := whole_but HYP.out hb4 (by omega)
         obtain ⟨q0, q1, q2⟩ := cells3 hy4
         have hss := traitWords_short hsm
         clear hc4 hb4 hsm hy4)
      | (go_at_call 70
         refine (projC (fun b => G b ∨ b = w.heap.size) _ x _ _ (fun b h => by have := HG3.out b h; omega) (by have := HPN.out; omega) ⟨_, _, rfl, HR4.out⟩).mono ?_
         rintro e w5 ⟨⟨V, rfl, ht⟩, hb5⟩
         obtain ⟨A5, c5, rfl⟩ := ht.shape
         have hX5 := whole_keep HX4.out hb5
         have hend := drawEnd (G := G) (N := 2 ^ (k + 1) + 1) (x := .mk 3 s [x]) hgl hX5 ht (.inr rfl) (by omega) (fun b h => .inl h) (HC4.out.kept hb5) (HB4.out.trans (But.of_below hb5)) (by rw [size1]; (have := HPP.out; omega)) (tame1 (by decide) hss hxt)
         have HE := Lib.hid hend
         have HXE := Lib.hid hX5
         obtain ⟨r0, r1, r2⟩ := cells3 hX5
         have rf0 := hX5.frozen 0
         have rf1 := hX5.frozen 1
         have rf2 := hX5.frozen 2
         clear hend ht hb5 hX5))
    all_goals (
      have hlt := HXE.out.lt
      go_wp2
      obtain ⟨e0, e1, e2, e3⟩ := HE.out _ rfl
      exact bodyPost_ret (v := .agg #[.int .i64 3, .string s, .slice A5 1 c5]) (by simp [results, Try.results56, go_sem, e0, e1, e2] <;> first | rfl | exact ⟨rfl, rfl⟩ | exact ⟨rfl, rfl, rfl⟩) rfl e3)
  · have h0' : (z == 0) = false := by simpa using h0
    by_cases h1 : z = 1
    · subst h1
      go_wp2_with fail
      refine (projC (fun b => G b ∨ b = w.heap.size) ⟨#[97, 100, 100]⟩ x _ _ HG3.out (by have := HPN.out; omega) ⟨_, _, rfl, HR3.out⟩).mono ?_
      rintro e w4 ⟨⟨V, rfl, ht⟩, hb4⟩
      obtain ⟨A4, c4, rfl⟩ := ht.shape
      obtain ⟨A4', c4', e4, hr4⟩ := ht.row HG3.out
      injection e4 with e4 _ e5
      subst e4 e5
      have hs4 := hb4.size
      have HROW := Lib.hid (row_one (x := .mk 3 ⟨#[97, 100, 100]⟩ [x]) hr4 (fun b h => by have := HG3.out b h; omega))
      have hbr : Below w4.heap.size w4 (w4.alloc (.cells #[.int .i64 3, .string ⟨#[97, 100, 100]⟩, .slice A4 1 c4] 26)) := (Below.refl _ _).alloc (Nat.le_refl _) _
      have HX4 := Lib.hid (whole_keep (whole_keep HX3.out hb4) hbr)
      have HB4 := Lib.hid ((HB3.out.trans (But.of_below hb4)).trans (But.of_below hbr))
      have HC4 := Lib.hid ((HC3.out.kept hb4).kept hbr)
      clear hr4 ht hbr hb4
      go_wp2_with fail
      refine (conC (fun b => G b ∨ b = w.heap.size) ⟨#[108, 105, 115, 116]⟩ (some ⟨w4.heap.size, 0, none⟩) 1 [.mk 3 ⟨#[97, 100, 100]⟩ [x]] _ (by simp) HROW.out).mono ?_
      rintro e w5 ⟨⟨V, rfl, ht⟩, hb5⟩
      obtain ⟨A5, c5, rfl⟩ := ht.shape
      have hX5 := whole_keep HX4.out hb5
      have hend := drawEnd (G := G) (N := 2 ^ (k + 1) + 1) (x := .mk 2 ⟨#[108, 105, 115, 116]⟩ [.mk 3 ⟨#[97, 100, 100]⟩ [x]]) hgl hX5 ht (.inr rfl) (by simp; omega) (fun b h => .inl h) (HC4.out.kept hb5) (HB4.out.trans (But.of_below hb5)) (by rw [size1, size1]; (have := HPP.out; omega)) (tame1 (by decide) (by decide) (tame1 (by decide) (by decide) hxt))
      have HE := Lib.hid hend
      have HXE := Lib.hid hX5
      clear hend ht hX5
      have hX := HXE.out
      obtain ⟨r0, r1, r2⟩ := cells3 hX
      have rf0 := hX.frozen 0
      have rf1 := hX.frozen 1
      have rf2 := hX.frozen 2
      have hlt := hX.lt
      clear hX
      go_wp2
      obtain ⟨e0, e1, e2, e3⟩ := HE.out _ rfl
      exact bodyPost_ret (v := .agg #[.int .i64 2, .string ⟨#[108, 105, 115, 116]⟩, .slice A5 1 c5]) (by simp [results, Try.results56, go_sem, e0, e1, e2] <;> first | rfl | exact ⟨rfl, rfl⟩ | exact ⟨rfl, rfl, rfl⟩) rfl e3
    · have h1' : (z == 1) = false := by simpa using h1
      by_cases h2 : z = 2
      · subst h2
        have hend := drawEnd (G := G) (N := 2 ^ (k + 1) + 1) (x := .mk 4 ⟨#[115, 104, 111, 119]⟩ []) (A := none) (cc := 0) hgl HX3.out (TopT.nil (fun b => G b ∨ b = w.heap.size) w3 _) (.inr rfl) (HG3.out _ (.inr rfl)) (fun b h => .inl h) HC3.out HB3.out (by rw [size0]; (have := HPP.out; omega)) (tame0 (by decide) (by decide))
        simp only [TypeX.kind_, TypeX.name_, TypeX.args_, List.length_nil] at hend
        have HE := Lib.hid hend
        have HXE := HX3
        clear hend
        have hX := HXE.out
        obtain ⟨r0, r1, r2⟩ := cells3 hX
        have rf0 := hX.frozen 0
        have rf1 := hX.frozen 1
        have rf2 := hX.frozen 2
        have hlt := hX.lt
        clear hX
        go_wp2
        obtain ⟨e0, e1, e2, e3⟩ := HE.out _ rfl
        exact bodyPost_ret (v := .agg #[.int .i64 4, .string ⟨#[115, 104, 111, 119]⟩, .slice none 0 0]) (by simp [results, Try.results56, go_sem, e0, e1, e2]) rfl e3
      · have h2' : (z == 2) = false := by simpa using h2
        have hend := drawEnd (G := G) (N := 2 ^ (k + 1) + 1) (x := x) hgl HX3.out HT3.out (.inr rfl) (by simp only [World.size_alloc]; omega) (fun b h => .inl h) HC3.out HB3.out (by have := HPP.out; omega) hxt
        have HE := Lib.hid hend
        have HXE := HX3
        clear hend
        have hX := HXE.out
        obtain ⟨r0, r1, r2⟩ := cells3 hX
        have rf0 := hX.frozen 0
        have rf1 := hX.frozen 1
        have rf2 := hX.frozen 2
        have hlt := hX.lt
        clear hX
        go_wp2
        obtain ⟨e0, e1, e2, e3⟩ := HE.out _ rfl
        exact bodyPost_ret (v := .agg #[.int .i64 x.kind_, .string x.name_, .slice A2 x.args_.length c2]) (by simp [results, Try.results56, go_sem, e0, e1, e2]) rfl e3
end Go.Proofs.Ytenjlgcdbnddjaa

/-!  The draws of chapter 4: l4Bent, DrawIsValidType. -/
namespace Go.Proofs.Ytenjlgcdbnddjaa
open Go.RowKit Go.Lib

theorem TopT.rowX {G : Nat → Prop} {w w' : World} {V : Value} {l : List TypeX} (hG : ∀ b, V.ownBlock = some b → ¬ G b) (h : TopT G w w' V l) : ∃ A c, V = .slice A l.length c ∧ TypeRow w' (Nog G w') A c l := by
  obtain ⟨us, ho, he⟩ := h
  exact own_typeRow ho he (fun b h => h.1) (fun b hb => ⟨(ho.lt b hb).2, hG b hb⟩)
theorem TopT.more {G G' : Nat → Prop} {w w' : World} {V : Value} {l : List TypeX} (h : TopT G w w' V l) (hG : ∀ b, b < w'.heap.size → G' b → G b) : TopT G' w w' V l := by
  obtain ⟨us, ho, he⟩ := h
  exact ⟨us, ho, he.frame (fun b h => ⟨⟨h.1.1, fun hg => h.1.2 (hG b h.1.1 hg)⟩, h.2⟩) fun _ _ _ => rfl⟩
theorem TopT.own_lt {G : Nat → Prop} {w w' : World} {V : Value} {l : List TypeX} (h : TopT G w w' V l) {b : Nat} (hb : V.ownBlock = some b) : w.heap.size ≤ b ∧ b < w'.heap.size := by
  obtain ⟨us, ho, _⟩ := h
  exact ho.lt b hb

/-- THE BOX OF A DRAW UNDER WAY: X the result's, Y the type's own. -/
structure BoxT (G : Nat → Prop) (B g X Y : Nat) (w W0 w' : World) (k : Int) (s : ByteArray) (A : Option Addr) (n c : Nat) (l : List TypeX) : Prop where
  rx : Whole w' X 26 zeroT
  ry : Whole w' Y 26 #[.int .i64 k, .string s, .slice A n c]
  len : n = l.length
  top : TopT (fun b => (G b ∨ b = X) ∨ b = Y) W0 w' (.slice A n c) l
  neY : (Value.slice A n c).ownBlock ≠ some Y
  neg : (Value.slice A n c).ownBlock ≠ some g
  cur : Cur w' B g
  but : But g w w'
  gX : g < X
  XY : X < Y
  wX : w.heap.size ≤ X
theorem BoxT.draw {G : Nat → Prop} {B g X Y : Nat} {w W0 w' w2 : World} {k : Int} {s : ByteArray} {A : Option Addr} {n c : Nat} {l : List TypeX} (h : BoxT G B g X Y w W0 w' k s A n c l) (hg : G g) (hc : Cur w2 B g) (hb : But g w' w2) : BoxT G B g X Y w W0 w2 k s A n c l :=
  ⟨whole_but h.rx hb (by have := h.gX; omega), whole_but h.ry hb (by have := h.gX; have := h.XY; omega), h.len, h.top.butX h.neg (.inl (.inl hg)) hb, h.neY, h.neg, hc, h.but.trans hb, h.gX, h.XY, h.wX⟩
theorem BoxT.grow {G : Nat → Prop} {B g X Y : Nat} {w W0 w' w2 : World} {k : Int} {s : ByteArray} {A : Option Addr} {n c : Nat} {l : List TypeX} (h : BoxT G B g X Y w W0 w' k s A n c l) (hb : Below w'.heap.size w' w2) : BoxT G B g X Y w W0 w2 k s A n c l :=
  ⟨whole_keep h.rx hb, whole_keep h.ry hb, h.len, h.top.below hb, h.neY, h.neg, h.cur.kept hb, h.but.trans (But.of_below hb), h.gX, h.XY, h.wX⟩
/-- The box rewritten: what holds of the new cells, of the world before. -/
theorem BoxT.set {G : Nat → Prop} {B g X Y : Nat} {w W0 w' w2 : World} {k k2 : Int} {s s2 : ByteArray} {A A2 : Option Addr} {n c n2 c2 : Nat} {l l2 : List TypeX} (h : BoxT G B g X Y w W0 w' k s A n c l) (hb : But Y w' w2)
    (hy : Whole w2 Y 26 #[.int .i64 k2, .string s2, .slice A2 n2 c2]) (hn : n2 = l2.length) (ht : TopT (fun b => (G b ∨ b = X) ∨ b = Y) W0 w' (.slice A2 n2 c2) l2) (hY : (Value.slice A2 n2 c2).ownBlock ≠ some Y) (hg : (Value.slice A2 n2 c2).ownBlock ≠ some g) : BoxT G B g X Y w W0 w2 k2 s2 A2 n2 c2 l2 :=
  ⟨whole_but h.rx hb (by have := h.XY; omega), hy, hn, ht.butX hY (.inr rfl) hb, hY, hg, cur_far h.cur hb (by have := h.gX; have := h.XY; omega), but_new h.but hb (by have := h.wX; have := h.XY; omega), h.gX, h.XY, h.wX⟩
theorem BoxT.setK {G : Nat → Prop} {B g X Y : Nat} {w W0 w' : World} {k : Int} {s : ByteArray} {A : Option Addr} {n c : Nat} {l : List TypeX} (h : BoxT G B g X Y w W0 w' k s A n c l) (k2 : Int) : BoxT G B g X Y w W0 (w'.setCell ⟨Y, 0, none⟩ (.int .i64 k2)) k2 s A n c l :=
  h.set (But.set_ _ _ _ _) (by simpa using h.ry.set_ 0 (.int .i64 k2)) h.len h.top h.neY h.neg
theorem BoxT.setS {G : Nat → Prop} {B g X Y : Nat} {w W0 w' : World} {k : Int} {s : ByteArray} {A : Option Addr} {n c : Nat} {l : List TypeX} (h : BoxT G B g X Y w W0 w' k s A n c l) (s2 : ByteArray) : BoxT G B g X Y w W0 (w'.setCell ⟨Y, 1, none⟩ (.string s2)) k s2 A n c l :=
  h.set (But.set_ _ _ _ _) (by simpa using h.ry.set_ 1 (.string s2)) h.len h.top h.neY h.neg
/-- The ending. -/
theorem BoxT.fin_ {G : Nat → Prop} {N B g Y : Nat} {w W0 w' : World} {k : Int} {s : ByteArray} {A : Option Addr} {n c : Nat} {l : List TypeX} (h : BoxT G B g w.heap.size Y w W0 w' k s A n c l) (hg : g < w.heap.size) (hlt : w.heap.size < W0.heap.size) (hN : 1 + TypeX.sizeL l ≤ N) (htm : (TypeX.mk k s l).tame) :
    ∀ w4, w4 = ((w'.setCell ⟨w.heap.size, 0, none⟩ (.int .i64 k)).setCell ⟨w.heap.size, 1, none⟩ (.string s)).setCell ⟨w.heap.size, 2, none⟩ (.slice A n c) →
      w4.cell? ⟨w.heap.size, 0, none⟩ = some (.int .i64 k) ∧ w4.cell? ⟨w.heap.size, 1, none⟩ = some (.string s) ∧ w4.cell? ⟨w.heap.size, 2, none⟩ = some (.slice A n c) ∧ DrawnT G N B g w (.returned (.agg #[.int .i64 k, .string s, .slice A n c])) w4 := by
  have hl := h.len
  subst hl
  exact drawEnd (x := .mk k s l) hg h.rx h.top (.inl (.inr rfl)) hlt (fun b hb => .inl (.inl hb)) h.cur h.but (by rw [TypeX.size]; exact hN) htm
theorem tameL_append : ∀ (l m : List TypeX), TypeX.tameL l → TypeX.tameL m → TypeX.tameL (l ++ m)
  | [], m, _, h => h
  | x :: r, m, h, hm => by rw [TypeX.tameL] at h; rw [List.cons_append, TypeX.tameL]; exact ⟨h.1, tameL_append r m h.2 hm⟩
theorem intC' (G : Nat → Prop) (w : World) (hG : ∀ b, G b → b < w.heap.size) : Calls Try.prog 59 #[] w fun e w' => (∃ A c, e = .returned (.agg #[.int .i64 2, .string ⟨#[105, 110, 116]⟩, .slice A 0 c]) ∧ TypeRow w' (Nog G w') A c []) ∧ Below w.heap.size w w' := by
  refine (intC G w).mono ?_
  rintro e w' ⟨⟨V, rfl, ht⟩, hb⟩
  obtain ⟨A, c, rfl, hr⟩ := ht.row hG
  exact ⟨⟨A, c, rfl, hr⟩, hb⟩
theorem boolC' (G : Nat → Prop) (w : World) (hG : ∀ b, G b → b < w.heap.size) : Calls Try.prog 60 #[] w fun e w' => (∃ A c, e = .returned (.agg #[.int .i64 2, .string ⟨#[98, 111, 111, 108]⟩, .slice A 0 c]) ∧ TypeRow w' (Nog G w') A c []) ∧ Below w.heap.size w w' := by
  refine (boolC G w).mono ?_
  rintro e w' ⟨⟨V, rfl, ht⟩, hb⟩
  obtain ⟨A, c, rfl, hr⟩ := ht.row hG
  exact ⟨⟨A, c, rfl, hr⟩, hb⟩
theorem But.grow_ {g : Nat} {a w w' : World} {row : Option Nat} (h : But g a w) (hg : w.grownBy w' row) (hrow : ∀ k, row = some k → a.heap.size ≤ k) : But g a w' :=
  ⟨hg.os.trans h.os, hg.tape.trans h.tape, hg.output.trans h.output, Nat.le_trans h.size hg.size, fun k hk hne =>
    (hg.block k (Nat.lt_of_lt_of_le hk h.size) (fun e => by have := hrow k e.symm; omega)).trans (h.block k hk hne)⟩
theorem cur_grown {w w' : World} {B g : Nat} {row : Option Nat} (h : Cur w B g) (hb : w.grownBy w' row) (hk : ∀ k, row = some k → g < k) : Cur w' B g := by
  have ho := h.own
  obtain ⟨A, n, c, i, x, hc⟩ := h
  refine ⟨A, n, c, i, x, ⟨(hb.block _ hc.cells.lt (fun e => by have := hk _ e.symm; omega)).trans hc.cells, ho, fun j hj => ?_, hc.size, hc.lo, hc.hi⟩⟩
  have hlt := hc.cells.lt
  obtain ⟨b, o, z, hA, hl, h0, h1, hz⟩ := hc.bytes j hj
  exact ⟨b, o, z, hA, hl, h0, h1, (World.cell?_of_block (a := ⟨b, o + j, none⟩) (hb.block b (by omega) (fun e => by have := hk _ e.symm; omega))).trans hz⟩
/-- More types at the end of the box's row. -/
theorem BoxT.push {G : Nat → Prop} {B g X Y : Nat} {w W0 w6 w8 : World} {k : Int} {s : ByteArray} {A : Option Addr} {n c gg cap m : Nat} {l ys : List TypeX} {us news : List Value} {o : Obj} (h : BoxT G B g X Y w W0 w6 k s A n c l) (hW : X < W0.heap.size)
    (he : ElemsT w6 (fun b => Nog (fun b => (G b ∨ b = X) ∨ b = Y) w6 b ∧ (Value.slice A n c).ownBlock ≠ some b) l us) (hy : ElemsT w6 (Nog (fun b => ((G b ∨ b = X) ∨ b = Y) ∨ (Value.slice A n c).ownBlock = some b) w6) ys news)
    (hown : w8.ownsRow W0.heap.size 26 3 (.slice (some ⟨gg, 0, none⟩) (n + m) cap) (n + m) (us ++ news)) (hm : m = ys.length) (hgrow : (w6.alloc o).grownBy w8 (Value.slice A n c).ownBlock) (hat : (Value.slice A n c).ownBlock = some gg ∨ gg = w6.heap.size + 1) :
    Whole w8 X 26 zeroT ∧ Whole w8 Y 26 #[.int .i64 k, .string s, .slice A n c] ∧ ∀ w9, w9 = w8.setCell ⟨Y, 2, none⟩ (.slice (some ⟨gg, 0, none⟩) (n + m) cap) → BoxT G B g X Y w W0 w9 k s (some ⟨gg, 0, none⟩) (n + m) cap (l ++ ys) := by
  have hY := h.ry.lt
  have hXl := h.rx.lt
  have hXY := h.XY
  have hgX := h.gX
  have hwX := h.wX
  have hba : Below w6.heap.size w6 (w6.alloc o) := (Below.refl _ _).alloc (Nat.le_refl _) o
  have hown6 : ∀ b, (Value.slice A n c).ownBlock = some b → W0.heap.size ≤ b ∧ b < w6.heap.size := fun b hb => h.top.own_lt hb
  have h7 := h.grow hba
  have hX8 : Whole w8 X 26 zeroT := (hgrow.block X h7.rx.lt (fun e => by have := (hown6 _ e.symm).1; omega)).trans h7.rx
  have hY8 : Whole w8 Y 26 #[.int .i64 k, .string s, .slice A n c] := (hgrow.block Y h7.ry.lt (Ne.symm h.neY)).trans h7.ry
  have hz8 := hgrow.size
  simp only [World.size_alloc] at hz8
  have hsame : ∀ b, b < w6.heap.size → (Value.slice A n c).ownBlock ≠ some b → w8.heap[b]? = w6.heap[b]? := fun b hb' hne => (hgrow.block b (by simp; omega) (Ne.symm hne)).trans (Below.heap_alloc _ _ _ hb')
  have hnew : ∀ b, b < w6.heap.size → (Value.slice A n c).ownBlock ≠ some b → (Value.slice (some ⟨gg, 0, none⟩) (n + m) cap).ownBlock ≠ some b := fun b hb' hne e => by
    simp only [Value.ownBlock] at e
    injection e with e
    rcases hat with h' | h'
    · exact hne (h'.trans (by rw [e]))
    · omega
  have hY9 : (Value.slice (some ⟨gg, 0, none⟩) (n + m) cap).ownBlock ≠ some Y := hnew Y hY h.neY
  have hg9 : (Value.slice (some ⟨gg, 0, none⟩) (n + m) cap).ownBlock ≠ some g := hnew g (by omega) h.neg
  have hlen : n + m = (l ++ ys).length := by rw [List.length_append, ← h.len, ← hm]
  have htop : TopT (fun b => (G b ∨ b = X) ∨ b = Y) W0 w8 (.slice (some ⟨gg, 0, none⟩) (n + m) cap) (l ++ ys) := by
    refine ⟨us ++ news, by rw [← hlen]; exact hown, ElemsT.append (he.frame (fun b h => ⟨⟨by have := h.1.1; omega, h.1.2⟩, hnew b h.1.1 h.2⟩) fun b o h => World.cell?_of_block (a := ⟨b, o, none⟩) (hsame b h.1.1 h.2)) (hy.frame (fun b h => ⟨⟨by have := h.1; omega, fun hg => h.2 (.inl hg)⟩, hnew b h.1 (fun e => h.2 (.inr e))⟩) fun b o h => World.cell?_of_block (a := ⟨b, o, none⟩) (hsame b h.1 (fun e => h.2 (.inr e))))⟩
  have hb8 : But g w w8 := h7.but.grow_ hgrow fun k hk => by have := (hown6 _ hk).1; omega
  have hc8 : Cur w8 B g := cur_grown h7.cur hgrow fun k hk => by have := (hown6 _ hk).1; omega
  refine ⟨hX8, hY8, ?_⟩
  rintro w9 rfl
  have hbt := But.set_ Y w8 2 (.slice (some ⟨gg, 0, none⟩) (n + m) cap)
  exact ⟨whole_but hX8 hbt (by omega), by simpa using hY8.set_ 2 _, hlen, htop.butX hY9 (.inr rfl) hbt, hY9, hg9, cur_far hc8 hbt (by omega), but_new hb8 hbt (by omega), hgX, hXY, hwX⟩
def nameWords : List ByteArray := [⟨#[]⟩, ⟨#[105, 110, 116]⟩, ⟨#[65]⟩, ⟨#[97, 115, 115, 111, 99]⟩, ⟨#[97, 98, 99, 100, 101, 102, 103, 104, 105]⟩]
theorem nameWords_short {s : ByteArray} (h : s ∈ nameWords) : s.size ≤ 100 := by
  simp only [nameWords, List.mem_cons, List.mem_nil_iff, or_false] at h
  rcases h with rfl | rfl | rfl | rfl | rfl <;> decide

set_option maxRecDepth 100000 in
set_option maxHeartbeats 1000000 in
theorem bentC (G : Nat → Prop) (B g : Nat) (w : World) (hG : ∀ b, G b → b < w.heap.size) (hg : G g) (hc : Cur w B g) :
    Calls Try.prog 36 #[.pointer (some ⟨g, 0, none⟩)] w (DrawnT G 100 B g w) := by
  have hgl := hc.lt
  have hbX : Below w.heap.size w (w.alloc (.cells zeroT 26)) := (Below.refl _ _).alloc (Nat.le_refl _) _
  have HXX := Lib.hid (Whole.new w 26 zeroT)
  have HCC := Lib.hid (hc.kept hbX)
  have HBB := Lib.hid (But.of_below (g := g) hbX)
  have HGX : Hid (∀ b, (G b ∨ b = w.heap.size) → b < (w.alloc (.cells zeroT 26)).heap.size) := Lib.hid fun b h => by simp; exact h.elim (fun h => by have := hG b h; omega) (fun e => by omega)
  have HW0 : Hid ((w.alloc (.cells zeroT 26)).heap.size = w.heap.size + 1) := Lib.hid (by simp)
  clear hc hbX hG
  go_enter Try.func36, Try.ntmps36
  go_wp2_with fail
  refine (freeC (fun b => G b ∨ b = w.heap.size) B g 3 (by decide) _ HGX.out (.inl hg) HCC.out).mono ?_
  rintro e w2 ⟨x, ⟨V2, rfl, ht2⟩, hxs, hxt, hc2, hb2⟩
  obtain ⟨A2, c2, rfl⟩ := ht2.shape
  have hbY : Below w2.heap.size w2 (w2.alloc (.cells #[.int .i64 x.kind_, .string x.name_, .slice A2 x.args_.length c2] 26)) := (Below.refl _ _).alloc (Nat.le_refl _) _
  have hs2 := hb2.size
  simp only [World.size_alloc] at hs2
  have hbox : BoxT G B g w.heap.size w2.heap.size w (w.alloc (.cells zeroT 26)) (w2.alloc (.cells #[.int .i64 x.kind_, .string x.name_, .slice A2 x.args_.length c2] 26)) x.kind_ x.name_ A2 x.args_.length c2 x.args_ :=
    ⟨whole_keep (whole_but HXX.out hb2 (by omega)) hbY, Whole.new w2 26 _, rfl, (ht2.more (G' := fun b => (G b ∨ b = w.heap.size) ∨ b = w2.heap.size) fun b hb h => h.elim id (fun e => by omega)).below hbY, fun e => by have := (ht2.own_lt e).2; omega, ht2.ne (by have := HW0.out; omega), hc2.kept hbY, (HBB.out.trans hb2).trans (But.of_below hbY), hgl, by omega, Nat.le_refl _⟩
  have htm := hxt
  rw [TypeX.tame_eq] at htm
  obtain ⟨tm1, tm2, tm3⟩ := htm
  have hsz : TypeX.sizeL x.args_ ≤ 16 := by rw [TypeX.size_eq] at hxs; have : 2 ^ (3 + 1) = 16 := rfl; omega
  have HBOX := Lib.hid hbox
  have HSZ := Lib.hid hsz
  have HTM := Lib.hid tm1
  clear hc2 ht2 hbY hbox hb2 HBB HCC HXX hxs hsz hxt tm1
  go_wp2_with fail
  refine (drawBelow B g 12 _ HBOX.out.cur (by decide) (by decide)).mono ?_
  rintro e w3 ⟨v, rfl, ⟨z, rfl, hz0, hz8⟩, hc3, hb3⟩
  have HB3 := Lib.hid (HBOX.out.draw hg hc3 hb3)
  have hs3 := hb3.size
  simp only [World.size_alloc] at hs3
  clear hc3 hb3 HBOX
  by_cases h0 : z = 0
  · subst h0
    go_wp2_with fail
    refine (drawBelow B g 7 _ HB3.out.cur (by decide) (by decide)).mono ?_
    rintro e w4 ⟨v, rfl, ⟨z2, rfl, hy0, hy7⟩, hc4, hb4⟩
    have HE0 := Lib.hid (HB3.out.draw hg hc4 hb4)
    have HE := Lib.hid ((HE0.out.setK (z2 - 1)).fin_ (N := 100) hgl (by have := HW0.out; omega) (by have := HSZ.out; omega) (by rw [TypeX.tame]; exact ⟨by omega, tm2, tm3⟩))
    clear hc4 hb4
    have hX := HE0.out.rx
    have hY := HE0.out.ry
    obtain ⟨r0, r1, r2⟩ := cells3 hX
    have rf0 := hX.frozen 0
    have rf1 := hX.frozen 1
    have rf2 := hX.frozen 2
    have hxlt := hX.lt
    obtain ⟨y0, y1, y2⟩ := cells3 hY
    have yf0 := hY.frozen 0
    have yf1 := hY.frozen 1
    have yf2 := hY.frozen 2
    have hylt := hY.lt
    clear hX hY
    go_wp2
    obtain ⟨e0, e1, e2, e3⟩ := HE.out _ rfl
    exact bodyPost_ret (v := .agg #[.int .i64 (z2 - 1), .string x.name_, .slice A2 x.args_.length c2]) (by simp [results, Try.results36, go_sem, e0, e1, e2]) rfl e3
  · have h0' : (z == 0) = false := by simpa using h0
    by_cases h1 : z = 1
    · subst h1
      have hp1 := Whole.new w3 9 (nameWords.map Value.string).toArray
      have hbp : Below w3.heap.size w3 (w3.alloc (.cells (nameWords.map Value.string).toArray 9)) := (Below.refl _ _).alloc (Nat.le_refl _) _
      have HP := Lib.hid hp1
      have HBP := Lib.hid (HB3.out.grow hbp)
      clear hp1 hbp
      go_wp2_with fail
      refine (drawPick B g w3.heap.size 5 nameWords _ HBP.out.cur HP.out (by decide) (by decide) (by omega)).mono ?_
      rintro e w4 ⟨v, rfl, ⟨s, hsm, rfl⟩, hc4, hb4⟩
      have hss := nameWords_short hsm
      have HE0 := Lib.hid (HBP.out.draw hg hc4 hb4)
      have HE := Lib.hid ((HE0.out.setS s).fin_ (N := 100) hgl (by have := HW0.out; omega) (by have := HSZ.out; omega) (by rw [TypeX.tame]; exact ⟨HTM.out, hss, tm3⟩))
      clear hc4 hb4 hsm
      have hX := HE0.out.rx
      have hY := HE0.out.ry
      obtain ⟨r0, r1, r2⟩ := cells3 hX
      have rf0 := hX.frozen 0
      have rf1 := hX.frozen 1
      have rf2 := hX.frozen 2
      have hxlt := hX.lt
      obtain ⟨y0, y1, y2⟩ := cells3 hY
      have yf0 := hY.frozen 0
      have yf1 := hY.frozen 1
      have yf2 := hY.frozen 2
      have hylt := hY.lt
      clear hX hY
      go_wp2
      obtain ⟨e0, e1, e2, e3⟩ := HE.out _ rfl
      exact bodyPost_ret (v := .agg #[.int .i64 x.kind_, .string s, .slice A2 x.args_.length c2]) (by simp [results, Try.results36, go_sem, e0, e1, e2]) rfl e3
    · have h1' : (z == 1) = false := by simpa using h1
      by_cases h2 : z = 2
      · subst h2
        have hnl := HB3.out.len
        have hll := sizeL_length x.args_
        have HBX := Lib.hid (HB3.out.grow ((Below.refl w3.heap.size w3).drew))
        have HG3 : Hid (∀ b, (((G b ∨ b = w.heap.size) ∨ b = w2.heap.size) ∨ (Value.slice A2 x.args_.length c2).ownBlock = some b) → b < w3.drew.heap.size) := Lib.hid fun b h => by
          have := HBX.out.ry.lt
          have hw := HW0.out
          rcases h with ((h | h) | h) | h
          · have := HGX.out b (.inl h); omega
          · omega
          · omega
          · exact (HBX.out.top.own_lt h).2
        obtain ⟨i0, hi, hz0', hz1', hz2'⟩ := info_parts infoTy
        obtain ⟨y0, y1, y2⟩ := cells3 HB3.out.ry
        have yf2 := HB3.out.ry.frozen 2
        have hylt := HB3.out.ry.lt
        go_wp2
        go_region_law (first
          | (refine step_append_lies _ (by rfl) _ _ _ (by rfl) (w.alloc (.cells zeroT 26)).heap.size 26 i0 (.agg #[.int .i64 0, .string ByteArray.empty, .slice none 0 0]) 3 48 Try.underlying24 hi hz0' hz1' hz2' rfl (by decide) (.slice A2 x.args_.length c2) x.args_.length us (by rfl) HO.out
               ⟨w6.heap.size, 0, none⟩ 3 3 [.int .i64 2, .string ⟨#[105, 110, 116]⟩, .slice A4 0 c4, .int .i64 2, .string ⟨#[98, 111, 111, 108]⟩, .slice A5 0 c5, .int .i64 2, .string ⟨#[105, 110, 116]⟩, .slice A6 0 c6] (by rfl) (by rfl)
               (World.news_of_block (cs := #[.int .i64 2, .string ⟨#[105, 110, 116]⟩, .slice A4 0 c4, .int .i64 2, .string ⟨#[98, 111, 111, 108]⟩, .slice A5 0 c5, .int .i64 2, .string ⟨#[105, 110, 116]⟩, .slice A6 0 c6]) (t := 26) (fr := (0, 0)) (heap_alloc_new w6 _)) (by simp [Value.oneCell'])
               (by decide) (by have := HSZ.out; unfold maxLen; omega) (by have := HSZ.out; omega) (by have := HW0.out; simp; omega) (w6.heap.size + 1) (by simp) ?_
             intro gg cap w8 hown8 hgrow8 hat8 hlt8
             obtain ⟨hX8, hY8, hset8⟩ := HBX.out.push (by have := HW0.out; omega) HE6.out (ys := [.mk 2 ⟨#[105, 110, 116]⟩ [], .mk 2 ⟨#[98, 111, 111, 108]⟩ [], .mk 2 ⟨#[105, 110, 116]⟩ []]) ⟨A4, c4, _, rfl, HR1.out, A5, c5, _, rfl, HR2.out, A6, c6, [], rfl, HR3.out, rfl⟩ hown8 rfl hgrow8 hat8
             have HSET := Lib.hid (hset8 _ rfl)
             have HX8 := Lib.hid hX8
             have HY8 := Lib.hid hY8
             have y2 := (cells3 hY8).2.2
             have yf2 := hY8.frozen 2
             have hylt8 := hY8.lt
             clear hset8 hgrow8 hat8 hown8 hX8 hY8)
          | (go_simp
             go_at_call 59
             first
               | (have HR2' := HR2
                  clear HR2'
                  refine (intC' (fun b => ((G b ∨ b = w.heap.size) ∨ b = w2.heap.size) ∨ (Value.slice A2 x.args_.length c2).ownBlock = some b) _ HGC.out).mono ?_
                  rintro e w6 ⟨⟨A6, c6, rfl, hr⟩, hb6⟩
                  have HR1 := Lib.hid (HR1.out.nog hb6)
                  have HR2 := Lib.hid (HR2.out.nog hb6)
                  have HR3 := Lib.hid hr
                  have HBX := Lib.hid (HBX.out.grow hb6)
                  have hs6 := hb6.size
                  have y2 := (cells3 HBX.out.ry).2.2
                  have yf2 := HBX.out.ry.frozen 2
                  have hylt6 := HBX.out.ry.lt
                  obtain ⟨us, ho, he⟩ := HBX.out.top
                  have HO := Lib.hid (ho.alloc (.cells #[.int .i64 2, .string ⟨#[105, 110, 116]⟩, .slice A4 0 c4, .int .i64 2, .string ⟨#[98, 111, 111, 108]⟩, .slice A5 0 c5, .int .i64 2, .string ⟨#[105, 110, 116]⟩, .slice A6 0 c6] 26))
                  have HE6 := Lib.hid he
                  clear hr hb6 ho he)
               | (refine (intC' (fun b => ((G b ∨ b = w.heap.size) ∨ b = w2.heap.size) ∨ (Value.slice A2 x.args_.length c2).ownBlock = some b) _ HG3.out).mono ?_
                  rintro e w4 ⟨⟨A4, c4, rfl, hr⟩, hb4⟩
                  have HR1 := Lib.hid hr
                  have HBX := Lib.hid (HBX.out.grow hb4)
                  have hs4 := hb4.size
                  simp only [World.size_drew] at hs4
                  have HGC : Hid (∀ b, (((G b ∨ b = w.heap.size) ∨ b = w2.heap.size) ∨ (Value.slice A2 x.args_.length c2).ownBlock = some b) → b < w4.heap.size) := Lib.hid fun b h => Nat.lt_of_lt_of_le (HG3.out b h) hb4.size
                  have y2 := (cells3 HBX.out.ry).2.2
                  have yf2 := HBX.out.ry.frozen 2
                  have hylt4 := HBX.out.ry.lt
                  clear hr hb4))
          | (go_simp
             go_at_call 60
             refine (boolC' (fun b => ((G b ∨ b = w.heap.size) ∨ b = w2.heap.size) ∨ (Value.slice A2 x.args_.length c2).ownBlock = some b) _ HGC.out).mono ?_
             rintro e w5 ⟨⟨A5, c5, rfl, hr⟩, hb5⟩
             have HR1 := Lib.hid (HR1.out.nog hb5)
             have HR2 := Lib.hid hr
             have HBX := Lib.hid (HBX.out.grow hb5)
             have hs5 := hb5.size
             have HGC : Hid (∀ b, (((G b ∨ b = w.heap.size) ∨ b = w2.heap.size) ∨ (Value.slice A2 x.args_.length c2).ownBlock = some b) → b < w5.heap.size) := Lib.hid fun b h => Nat.lt_of_lt_of_le (HGC.out b h) hb5.size
             have y2 := (cells3 HBX.out.ry).2.2
             have yf2 := HBX.out.ry.frozen 2
             have hylt5 := HBX.out.ry.lt
             clear hr hb5))
        all_goals (
          have HE := Lib.hid (HSET.out.fin_ (N := 100) hgl (by have := HW0.out; omega) (by rw [sizeL_append]; have := HSZ.out; simp only [TypeX.sizeL, TypeX.size]; omega) (by rw [TypeX.tame]; exact ⟨HTM.out, tm2, tameL_append _ _ tm3 (by simp only [TypeX.tameL, TypeX.tame]; decide)⟩))
          have hX := HX8.out
          have hY := HY8.out
          obtain ⟨r0, r1, r2⟩ := cells3 hX
          have rf0 := hX.frozen 0
          have rf1 := hX.frozen 1
          have rf2 := hX.frozen 2
          have hxlt := hX.lt
          obtain ⟨y0, y1, y2⟩ := cells3 hY
          have yf0 := hY.frozen 0
          have yf1 := hY.frozen 1
          have yf2 := hY.frozen 2
          have hylt := hY.lt
          clear hX hY
          go_wp2
          obtain ⟨e0, e1, e2, e3⟩ := HE.out _ rfl
          exact bodyPost_ret (v := .agg #[.int .i64 x.kind_, .string x.name_, .slice (some ⟨gg, 0, none⟩) (x.args_.length + 3) cap]) (by simp [results, Try.results36, go_sem, e0, e1, e2]) rfl e3)
      · have h2' : (z == 2) = false := by simpa using h2
        by_cases h3 : z = 3
        · subst h3
          go_wp2
          go_loopw [4] (fun iv wr => ∃ (k : Nat) (K : Int) (S : ByteArray) (A : Option Addr) (n c : Nat) (l : List TypeX), k ≤ 6 ∧ iv = .int .i64 k ∧ BoxT G B g w.heap.size w2.heap.size w (w.alloc (.cells zeroT 26)) wr K S A n c l ∧ TypeX.sizeL l ≤ 16 + k ∧ (TypeX.mk K S l).tame) (fun iv _ => 6 - (Go.RowKit.intOf iv).toNat)
          case atStart => exact ⟨0, _, _, _, _, _, _, Nat.zero_le _, rfl, HB3.out, HSZ.out, by rw [TypeX.tame]; exact ⟨HTM.out, tm2, tm3⟩⟩
          case round =>
            obtain ⟨k, K, S, A, n, c, l, hk, rfl, hbx, hsl, htm⟩ := hrel
            have HE0 := Lib.hid hbx
            by_cases hlt : k < 6
            · obtain ⟨A', c', e', hrow⟩ := hbx.top.rowX (fun b hb h => by
                rcases h with (h | h) | h
                · have := (hbx.top.own_lt hb).1; have := HW0.out; have := HGX.out b (.inl h); omega
                · have := (hbx.top.own_lt hb).1; have := HW0.out; omega
                · exact hbx.neY (h ▸ hb))
              injection e' with e1 e2 e3
              subst e1 e3
              have hn := hbx.len
              subst hn
              have hGw : ∀ b, ((G b ∨ b = w.heap.size) ∨ b = w2.heap.size) → b < wr.heap.size := fun b h => by
                have := hbx.ry.lt
                rcases h with (h | h) | h
                · have := HGX.out b (.inl h); have := HW0.out; omega
                · omega
                · omega
              have HROW := Lib.hid (row_one (x := .mk K S l) hrow hGw)
              have hbr : Below wr.heap.size wr (wr.alloc (.cells #[.int .i64 K, .string S, .slice A l.length c] 26)) := (Below.refl _ _).alloc (Nat.le_refl _) _
              have HBR := Lib.hid (hbx.grow hbr)
              have HGW := Lib.hid hGw
              clear hbr hGw hrow hbx
              have hX := HE0.out.rx
              have hY := HE0.out.ry
              obtain ⟨r0, r1, r2⟩ := cells3 hX
              have rf0 := hX.frozen 0
              have rf1 := hX.frozen 1
              have rf2 := hX.frozen 2
              have hxlt := hX.lt
              obtain ⟨y0, y1, y2⟩ := cells3 hY
              have yf0 := hY.frozen 0
              have yf1 := hY.frozen 1
              have yf2 := hY.frozen 2
              have hylt := hY.lt
              clear hX hY
              go_wp2_with fail
              refine (conC (fun b => (G b ∨ b = w.heap.size) ∨ b = w2.heap.size) ⟨#[108, 105, 115, 116]⟩ (some ⟨wr.heap.size, 0, none⟩) 1 [.mk K S l] _ (by simp) HROW.out).mono ?_
              rintro e w5 ⟨⟨V, rfl, ht⟩, hb5⟩
              obtain ⟨A5, c5, rfl⟩ := ht.shape
              clear r0 r1 r2 rf0 rf1 rf2 y0 y1 y2 yf0 yf1 yf2
              have hB5 := HBR.out.grow hb5
              have hX := hB5.rx
              have hY := hB5.ry
              obtain ⟨y0, y1, y2⟩ := cells3 hY
              have yf0 := hY.frozen 0
              have yf1 := hY.frozen 1
              have yf2 := hY.frozen 2
              have hylt5 := hY.lt
              have hset := hB5.set (k2 := 2) (s2 := ⟨#[108, 105, 115, 116]⟩) (A2 := A5) (n2 := 1) (c2 := c5) (l2 := [.mk K S l]) (((But.set_ w2.heap.size w5 0 (.int .i64 2)).trans (But.set_ _ _ 1 (.string ⟨#[108, 105, 115, 116]⟩))).trans (But.set_ _ _ 2 (.slice A5 1 c5))) (by simpa using ((hY.set_ 0 (.int .i64 2)).set_ 1 (.string ⟨#[108, 105, 115, 116]⟩)).set_ 2 (.slice A5 1 c5)) rfl
                (ht.wide (by have := HW0.out; simp; omega)) (ht.ne (by simp; omega)) (ht.ne (by simp; omega))
              have HSET := Lib.hid hset
              clear hset hX hY hB5 ht hb5
              go_wp2
              go_roundw
              case rel => exact ⟨k + 1, _, _, _, _, _, _, by omega, by go_num, HSET.out, by rw [TypeX.sizeL, TypeX.sizeL, TypeX.size]; omega, tame1 (by decide) (by decide) htm⟩
              case measure => simp [Go.RowKit.intOf]; omega
            · have hk6 : k = 6 := by omega
              subst hk6
              have HE := Lib.hid (hbx.fin_ (N := 100) hgl (by have := HW0.out; omega) (by omega) htm)
              clear hbx
              have hX := HE0.out.rx
              have hY := HE0.out.ry
              obtain ⟨r0, r1, r2⟩ := cells3 hX
              have rf0 := hX.frozen 0
              have rf1 := hX.frozen 1
              have rf2 := hX.frozen 2
              have hxlt := hX.lt
              obtain ⟨y0, y1, y2⟩ := cells3 hY
              have yf0 := hY.frozen 0
              have yf1 := hY.frozen 1
              have yf2 := hY.frozen 2
              have hylt := hY.lt
              clear hX hY
              go_wp2
              obtain ⟨e0, e1, e2, e3⟩ := HE.out _ rfl
              exact bodyPost_ret (v := .agg #[.int .i64 K, .string S, .slice A n c]) (by simp [results, Try.results36, go_sem, e0, e1, e2]) rfl e3
        · have h3' : (z == 3) = false := by simpa using h3
          have HE0 := HB3
          have HE := Lib.hid (HB3.out.fin_ (N := 100) hgl (by have := HW0.out; omega) (by have := HSZ.out; omega) (by rw [TypeX.tame]; exact ⟨HTM.out, tm2, tm3⟩))
          have hX := HE0.out.rx
          have hY := HE0.out.ry
          obtain ⟨r0, r1, r2⟩ := cells3 hX
          have rf0 := hX.frozen 0
          have rf1 := hX.frozen 1
          have rf2 := hX.frozen 2
          have hxlt := hX.lt
          obtain ⟨y0, y1, y2⟩ := cells3 hY
          have yf0 := hY.frozen 0
          have yf1 := hY.frozen 1
          have yf2 := hY.frozen 2
          have hylt := hY.lt
          clear hX hY
          go_wp2
          obtain ⟨e0, e1, e2, e3⟩ := HE.out _ rfl
          exact bodyPost_ret (v := .agg #[.int .i64 x.kind_, .string x.name_, .slice A2 x.args_.length c2]) (by simp [results, Try.results36, go_sem, e0, e1, e2]) rfl e3
end Go.Proofs.Ytenjlgcdbnddjaa

/-!  The draws of chapter 4: DrawIsValidType; and what the law on a type's variables speaks of. -/
namespace Go.Proofs.Ytenjlgcdbnddjaa
open Go.RowKit Go.Lib

mutual
/-- The names of a type's variables, as they stand. -/
def TypeX.names : TypeX → List ByteArray
  | .mk k s l => (if k = 1 then [s] else []) ++ TypeX.namesL l
def TypeX.namesL : List TypeX → List ByteArray
  | [] => []
  | x :: r => x.names ++ TypeX.namesL r
end
mutual
theorem TypeX.vars_names : ∀ (x : TypeX) (acc : List ByteArray), x.vars acc = uniF acc x.names
  | .mk k s l, acc => by
    rw [TypeX.vars, TypeX.names, uniF_append, TypeX.varsL_names l]
    split <;> rfl
theorem TypeX.varsL_names : ∀ (l : List TypeX) (acc : List ByteArray), TypeX.varsL acc l = uniF acc (TypeX.namesL l)
  | [], acc => by rw [TypeX.varsL, TypeX.namesL]; rfl
  | x :: r, acc => by rw [TypeX.varsL, TypeX.namesL, uniF_append, TypeX.vars_names x, TypeX.varsL_names r]
end
mutual
theorem TypeX.names_cnt : ∀ (x : TypeX) (u : ByteArray), u ∈ x.names → 1 ≤ x.cntV u
  | .mk k s l, u, h => by
    rw [TypeX.names, List.mem_append] at h
    rw [TypeX.cntV]
    rcases h with h | h
    · split at h
      · rename_i hk
        simp at h
        subst h hk
        simp [TypeX.isV]
      · simp at h
    · have := TypeX.namesL_cnt l u h; omega
theorem TypeX.namesL_cnt : ∀ (l : List TypeX) (u : ByteArray), u ∈ TypeX.namesL l → 1 ≤ TypeX.cntVL u l
  | [], u, h => by rw [TypeX.namesL] at h; simp at h
  | x :: r, u, h => by
    rw [TypeX.namesL, List.mem_append] at h
    rw [TypeX.cntVL]
    rcases h with h | h
    · have := TypeX.names_cnt x u h; omega
    · have := TypeX.namesL_cnt r u h; omega
end
mutual
theorem TypeX.cnt_size : ∀ (x : TypeX) (u : ByteArray), x.cntV u ≤ x.size
  | .mk k s l, u => by
    have := TypeX.cntL_size l u
    rw [TypeX.cntV, TypeX.size]
    have h : TypeX.isV u k s ≤ 1 := by unfold TypeX.isV; split <;> omega
    omega
theorem TypeX.cntL_size : ∀ (l : List TypeX) (u : ByteArray), TypeX.cntVL u l ≤ TypeX.sizeL l
  | [], u => by rw [TypeX.cntVL, TypeX.sizeL]; omega
  | x :: r, u => by
    have := TypeX.cnt_size x u
    have := TypeX.cntL_size r u
    rw [TypeX.cntVL, TypeX.sizeL]; omega
end
mutual
theorem TypeX.tame_names : ∀ (x : TypeX), x.tame → ∀ u ∈ x.names, u.size ≤ 100
  | .mk k s l, h, u, hu => by
    rw [TypeX.tame] at h
    rw [TypeX.names, List.mem_append] at hu
    rcases hu with hu | hu
    · split at hu
      · simp at hu; subst hu; exact h.2.1
      · simp at hu
    · exact TypeX.tameL_names l h.2.2 u hu
theorem TypeX.tameL_names : ∀ (l : List TypeX), TypeX.tameL l → ∀ u ∈ TypeX.namesL l, u.size ≤ 100
  | [], h, u, hu => by rw [TypeX.namesL] at hu; simp at hu
  | x :: r, h, u, hu => by
    rw [TypeX.tameL] at h
    rw [TypeX.namesL, List.mem_append] at hu
    rcases hu with hu | hu
    · exact TypeX.tame_names x h.1 u hu
    · exact TypeX.tameL_names r h.2 u hu
end
mutual
theorem TypeX.names_len : ∀ (x : TypeX), x.names.length ≤ x.size
  | .mk k s l => by
    have := TypeX.namesL_len l
    rw [TypeX.names, TypeX.size, List.length_append]
    split <;> simp <;> omega
theorem TypeX.namesL_len : ∀ (l : List TypeX), (TypeX.namesL l).length ≤ TypeX.sizeL l
  | [] => by rw [TypeX.namesL, TypeX.sizeL]; simp
  | x :: r => by
    have := TypeX.names_len x
    have := TypeX.namesL_len r
    rw [TypeX.namesL, TypeX.sizeL, List.length_append]; omega
end

/-- A type drawn for a law. -/
def DrawnTy (w : World) (e : Ending) (w' : World) : Prop := ∃ (x : TypeX) (A : Option Addr) (c : Nat), e = .returned (.agg #[.int .i64 x.kind_, .string x.name_, .slice A x.args_.length c]) ∧ TypeRow w' (Und w'.heap.size) A c x.args_ ∧ x.size ≤ 100 ∧ x.tame ∧ Below w.heap.size w w'
set_option maxRecDepth 100000 in
set_option maxHeartbeats 1000000 in
theorem drawValidTy (A : Option Addr) (n c : Nat) (w : World) (hA : BytesAt w w.heap.size A n) (hn : n ≤ 140737488355328) :
    Calls Try.prog 12 #[.slice A n c] w (DrawnTy w) := by
  have hbX : Below w.heap.size w (w.alloc (.cells zeroT 26)) := (Below.refl _ _).alloc (Nat.le_refl _) _
  have HXX := Lib.hid (Whole.new w 26 zeroT)
  have HAA := Lib.hid ((hA.below hbX).mono_ hbX.size)
  have HBB := Lib.hid hbX
  have HW0 : Hid ((w.alloc (.cells zeroT 26)).heap.size = w.heap.size + 1) := Lib.hid (by simp)
  clear hA hbX
  go_enter Try.func12, Try.ntmps12
  go_wp2_with fail
  refine (drawNew A n c _ HAA.out hn).mono ?_
  rintro e w1 ⟨g, rfl, hc, hb⟩
  have hX1 := whole_keep HXX.out hb
  have hb1 := HBB.out.trans (hb.mono HBB.out.size)
  have hown := hc.own
  have hw0 := HW0.out
  have hgl := hc.lt
  have hxl := hX1.lt
  have HC := Lib.hid hc
  have HX1 := Lib.hid hX1
  have HB1 := Lib.hid hb1
  clear hc hb hX1 hb1
  go_wp2_with fail
  refine (bentC (fun b => b = g ∨ b = w.heap.size) _ g w1 (fun b h => by rcases h with h | h <;> omega) (.inl rfl) HC.out).mono ?_
  rintro e w2 ⟨x, ⟨V, rfl, ht⟩, hxs, hxt, -, hb2⟩
  obtain ⟨A2, c2, rfl⟩ := ht.shape
  obtain ⟨A2', c2', e2, hr2⟩ := ht.row (fun b h => by rcases h with h | h <;> omega)
  injection e2 with e2 _ e3
  subst e2 e3
  have hX2 := whole_but HX1.out hb2 (by omega)
  have hbb : Below w.heap.size w w2 := HB1.out.trans (hb2.to_below (by omega) HB1.out.size)
  have hend := tyEnd (w := w) (k := x.kind_) (s := x.name_) (A := A2) (n := x.args_.length) (cc := c2) hX2 hbb
  obtain ⟨r0, r1, r2⟩ := cells3 hX2
  have rf0 := hX2.frozen 0
  have rf1 := hX2.frozen 1
  have rf2 := hX2.frozen 2
  have hlt := hX2.lt
  have HE := Lib.hid hend
  have HR2 := Lib.hid hr2
  clear hend hr2 ht hX2 hb2 hbb
  go_wp2
  obtain ⟨e0, e1, e2, hbut, hb4⟩ := HE.out _ rfl
  exact bodyPost_ret (v := .agg #[.int .i64 x.kind_, .string x.name_, .slice A2 x.args_.length c2]) (by simp [results, Try.results12, go_sem, e0, e1, e2]) rfl
    ⟨x, A2, c2, rfl, (HR2.out.nogBut (.inr rfl) hbut).frame (fun _ h => h.1) fun _ _ _ => rfl, hxs, hxt, hb4⟩
end Go.Proofs.Ytenjlgcdbnddjaa

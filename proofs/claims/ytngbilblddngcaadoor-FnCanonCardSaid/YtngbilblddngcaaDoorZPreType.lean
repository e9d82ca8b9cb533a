/- The iterator impl.preorder over types: for every loop body that keeps the iterator's memory. -/
import Derived.Test.YtngbilblddngcaaDoorQ2
import Derived.Test.YtngbilblddngcaaDoorQ1
import Derived.RangeFuncBox
import Derived.RangeFuncLeaves
import Derived.Shelf.Abstract
import Derived.OwnWalkIn
import Derived.TacticsInMore
import Derived.LoopIn
import Derived.Sort.LoopGhostIn
namespace Go.Proofs.YtngbilblddngcaaDoor
open Go.RowKit Go.Shelf Go.Lib
attribute [local go_sem] Oper.semAt_some

/-- What comes: a level, a part, where its own list lies. -/
abbrev TypeIt := Nat × TypeX × Option Addr × Nat
def TypeIt.key (x : TypeIt) : Nat × TypeX := (x.1, x.2.1)
def TypeIt.enc (x : TypeIt) : Array Value := #[.int .i64 (x.1 : Nat), .agg #[.int .i64 x.2.1.kind_, .string x.2.1.name_, .slice x.2.2.1 x.2.1.args_.length x.2.2.2]]

/-- The list at A: its elements lie below n₀ or in block b0; what they lead to lies below n₀. -/
def TopType (w : World) (n₀ b0 : Nat) (A : Option Addr) (l : List TypeX) : Prop :=
  ∀ (j : Nat) (hj : j < l.length), ∃ (b o : Nat) (A2 : Option Addr) (c2 : Nat), A = some ⟨b, o, none⟩ ∧ (b < n₀ ∨ b = b0) ∧
    w.cell? ⟨b, o + j * 3, none⟩ = some (.int .i64 l[j].kind_) ∧ w.cell? ⟨b, o + j * 3 + 1, none⟩ = some (.string l[j].name_) ∧ w.cell? ⟨b, o + j * 3 + 2, none⟩ = some (.slice A2 l[j].args_.length c2) ∧ TypeRow w (Und n₀) A2 c2 l[j].args_
theorem TopType.frame {w w' : World} {n₀ b0 : Nat} {A : Option Addr} {l : List TypeX} (h : TopType w n₀ b0 A l) (hk : ∀ b, b < n₀ ∨ b = b0 → w'.heap[b]? = w.heap[b]?) : TopType w' n₀ b0 A l := by
  intro j hj
  obtain ⟨b, o, A2, c2, hA, hb, h0, h1, h2, hr⟩ := h j hj
  have hc : ∀ b i, (b < n₀ ∨ b = b0) → w'.cell? ⟨b, i, none⟩ = w.cell? ⟨b, i, none⟩ := fun b i h => World.cell?_of_block (a := ⟨b, i, none⟩) (hk b h)
  exact ⟨b, o, A2, c2, hA, hb, (hc _ _ hb).trans h0, (hc _ _ hb).trans h1, (hc _ _ hb).trans h2, hr.frame (fun _ h => h) (fun b i h => hc b i (.inl h))⟩
theorem TopType.of_row {w : World} {n₀ b0 : Nat} {A : Option Addr} {c : Nat} {l : List TypeX} (h : TypeRow w (Und n₀) A c l) : TopType w n₀ b0 A l := by
  intro j hj
  obtain ⟨b, o, A2, c2, hA, hP, h0, h1, h2, k⟩ := h.at_ hj
  exact ⟨b, o, A2, c2, hA, .inl hP, h0, h1, h2, k⟩
theorem TopType.tail {w : World} {n₀ b0 b o : Nat} {x : TypeX} {l : List TypeX} (h : TopType w n₀ b0 (some ⟨b, o, none⟩) (x :: l)) : TopType w n₀ b0 (some ⟨b, o + 3, none⟩) l := by
  intro j hj
  obtain ⟨b', o', A2, c2, hA, hb, h0, h1, h2, k⟩ := h (j + 1) (by simpa using hj)
  injection hA with hA
  injection hA with e1 e2
  subst e1 e2
  have e : o + (j + 1) * 3 = o + 3 + j * 3 := by omega
  rw [e] at h0 h1 h2
  exact ⟨b, o + 3, A2, c2, rfl, hb, h0, h1, h2, k⟩
theorem TopType.nil (w : World) (n₀ b0 : Nat) (A : Option Addr) : TopType w n₀ b0 A [] := fun j hj => absurd hj (Nat.not_lt_zero j)

/-- The stack's slices, the top one last. -/
def TopsType (w : World) (n₀ b0 : Nat) : List (List TypeX) → List Value → Prop
  | [], vs => vs = []
  | l :: r, vs => ∃ (vs0 : List Value) (A : Option Addr) (c : Nat), vs = vs0 ++ [.slice A l.length c] ∧ l.length ≤ c ∧ c ≤ 9223372036854775807 ∧ TopType w n₀ b0 A l ∧ TopsType w n₀ b0 r vs0
theorem TopsType.length {w : World} {n₀ b0 : Nat} : ∀ {rs : List (List TypeX)} {vs : List Value}, TopsType w n₀ b0 rs vs → vs.length = rs.length
  | [], vs, h => by rw [TopsType] at h; rw [h]; rfl
  | l :: r, vs, h => by
    obtain ⟨vs0, A, c, rfl, _, _, _, h2⟩ := h
    rw [List.length_append, h2.length]; rfl
theorem TopsType.frame {w w' : World} {n₀ b0 : Nat} (hk : ∀ b, b < n₀ ∨ b = b0 → w'.heap[b]? = w.heap[b]?) : ∀ {rs : List (List TypeX)} {vs : List Value}, TopsType w n₀ b0 rs vs → TopsType w' n₀ b0 rs vs
  | [], vs, h => h
  | l :: r, vs, h => by
    obtain ⟨vs0, A, c, rfl, h1, h2, h3, h4⟩ := h
    exact ⟨vs0, A, c, rfl, h1, h2, h3.frame hk, h4.frame hk⟩

/-- The iterator between two steps: its stack rv, in blocks of M. -/
structure PreTypeSt (J : (Nat → Prop) → List TypeIt → World → Prop) (w : World) (n₀ b0 : Nat) (Rd : Nat → Prop) (M : Nat → Prop) (pre : List TypeIt) (rs : List (List TypeX)) (vs : List Value) (rv : Value) (wr : World) : Prop where
  j : J M pre wr
  own : wr.ownsRow (b0 + 1) 24 1 rv rs.length vs
  mown : ∀ b, rv.ownBlock = some b → M b
  m0 : M b0
  tops : TopsType wr n₀ b0 rs vs
  below : Below n₀ w wr
  rd : ∀ b, Rd b → b < w.heap.size → wr.heap[b]? = w.heap[b]?
  lt : ∀ b, M b → b < wr.heap.size
  size : b0 < wr.heap.size
section
variable {J : (Nat → Prop) → List TypeIt → World → Prop} {w : World} {n₀ b0 : Nat} {Rd M : Nat → Prop} {pre : List TypeIt} {rs : List (List TypeX)} {vs : List Value} {rv : Value} {wr : World}
theorem PreTypeSt.grow (HJ : ∀ M s A B row, J M s A → A.grownBy B row → (∀ r, row = some r → M r) → J (fun b => M b ∨ (A.heap.size ≤ b ∧ b < B.heap.size)) s B) (hnb : n₀ ≤ b0) (hwb : w.heap.size ≤ b0)
    (h : PreTypeSt J w n₀ b0 Rd M pre rs vs rv wr) {w2 : World} (hb : Below wr.heap.size wr w2) : PreTypeSt J w n₀ b0 Rd (fun b => M b ∨ (wr.heap.size ≤ b ∧ b < w2.heap.size)) pre rs vs rv w2 where
  j := HJ _ _ _ _ none h.j (grown_none hb) (fun _ e => by cases e)
  own := own_same h.own fun b hv => hb.block b (h.own.lt b hv).2
  mown := fun b hb' => .inl (h.mown b hb')
  m0 := .inl h.m0
  tops := h.tops.frame fun b hb' => hb.block b (by have := h.size; omega)
  below := h.below.trans (hb.mono (by have := h.size; omega))
  rd := fun b hr hlt => (hb.block b (by have := h.size; omega)).trans (h.rd b hr hlt)
  lt := fun b hb' => by rcases hb' with h' | h'; · exact Nat.lt_of_lt_of_le (h.lt b h') hb.size
                        · exact h'.2
  size := Nat.lt_of_lt_of_le h.size hb.size
theorem PreTypeSt.round (hnb : n₀ ≤ b0) (hwb : w.heap.size ≤ b0) (h : PreTypeSt J w n₀ b0 Rd M pre rs vs rv wr) {w2 : World} {y : TypeIt} (hk : KeepsM n₀ (fun b => M b ∨ Rd b) wr w2) (hj : J M (pre ++ [y]) w2) : PreTypeSt J w n₀ b0 Rd M (pre ++ [y]) rs vs rv w2 where
  j := hj
  own := own_same h.own fun b hv => hk.own b (.inl (h.mown b hv))
  mown := h.mown
  m0 := h.m0
  tops := h.tops.frame fun b hb' => by rcases hb' with h' | h'; · exact hk.below.block b h'
                                       · subst h'; exact hk.own _ (.inl h.m0)
  below := h.below.trans hk.below
  rd := fun b hr hlt => (hk.own b (.inr hr)).trans (h.rd b hr hlt)
  lt := fun b hb => Nat.lt_of_lt_of_le (h.lt b hb) hk.below.size
  size := Nat.lt_of_lt_of_le h.size hk.below.size
theorem PreTypeSt.store (HJ : ∀ M s A B row, J M s A → A.grownBy B row → (∀ r, row = some r → M r) → J (fun b => M b ∨ (A.heap.size ≤ b ∧ b < B.heap.size)) s B) (hnb : n₀ ≤ b0) (hwb : w.heap.size ≤ b0)
    {y : TypeX} {l : List TypeX} {vs0 : List Value} {v : Value} {g cap : Nat} (h : PreTypeSt J w n₀ b0 Rd M pre ((y :: l) :: rs) (vs0 ++ [v]) (.slice (some ⟨g, 0, none⟩) (rs.length + 1) cap) wr) (h0 : TopsType wr n₀ b0 rs vs0)
    {A3 : Option Addr} {c3 : Nat} (hl : l.length ≤ c3) (hc : c3 ≤ 9223372036854775807) (hT : TopType wr n₀ b0 A3 l) :
    PreTypeSt J w n₀ b0 Rd (fun b => M b ∨ (wr.heap.size ≤ b ∧ b < (wr.setCell ⟨g, rs.length, none⟩ (.slice A3 l.length c3)).heap.size)) pre (l :: rs) (vs0 ++ [.slice A3 l.length c3]) (.slice (some ⟨g, 0, none⟩) (rs.length + 1) cap) (wr.setCell ⟨g, rs.length, none⟩ (.slice A3 l.length c3)) := by
  have hg : b0 + 1 ≤ g := (h.own.lt g rfl).1
  have hfar : ∀ b, b ≠ g → (wr.setCell ⟨g, rs.length, none⟩ (.slice A3 l.length c3)).heap[b]? = wr.heap[b]? := fun b hb => Below.heap_setCell wr _ _ b hb
  have hst := World.ownsRow.stored h.own rs.length (.slice A3 l.length c3)
  refine ⟨HJ _ _ _ _ (some g) h.j (grownBy_setCell'' wr g rs.length _) (fun r e => by cases e; exact h.mown g rfl), ?_, fun b hb => .inl (h.mown b hb), .inl h.m0, ?_, h.below.setCell (p := ⟨g, rs.length, none⟩) (by simp; omega) _, fun b hr hlt => (hfar b (by omega)).trans (h.rd b hr hlt), fun b hb => ?_, by simpa using h.size⟩
  · have e : (vs0 ++ [v]).set rs.length (.slice A3 l.length c3) = vs0 ++ [.slice A3 l.length c3] := by
      rw [List.set_append_right _ _ (by rw [h0.length]; exact Nat.le_refl _), h0.length, Nat.sub_self]; rfl
    rw [← e]; exact hst.1
  · exact ⟨vs0, A3, c3, rfl, hl, hc, hT.frame (fun b hb => hfar b (by omega)), h0.frame fun b hb => hfar b (by omega)⟩
  · rcases hb with h' | h'
    · simpa using h.lt b h'
    · exact h'.2
theorem PreTypeSt.push (HJ : ∀ M s A B row, J M s A → A.grownBy B row → (∀ r, row = some r → M r) → J (fun b => M b ∨ (A.heap.size ≤ b ∧ b < B.heap.size)) s B) (hnb : n₀ ≤ b0) (hwb : w.heap.size ≤ b0)
    (h : PreTypeSt J w n₀ b0 Rd M pre rs vs rv wr) {w2 : World} {v' : Value} {l : List TypeX} {A : Option Addr} {c : Nat} (hg : wr.grownBy w2 rv.ownBlock) (hown : w2.ownsRow (b0 + 1) 24 1 v' (rs.length + 1) (vs ++ [.slice A l.length c]))
    (hv : v'.ownBlock = rv.ownBlock ∨ v'.ownBlock = some wr.heap.size) (hl : l.length ≤ c) (hc : c ≤ 9223372036854775807) (hT : TopType wr n₀ b0 A l) :
    PreTypeSt J w n₀ b0 Rd (fun b => M b ∨ (wr.heap.size ≤ b ∧ b < w2.heap.size)) pre (l :: rs) (vs ++ [.slice A l.length c]) v' w2 := by
  have hs := h.size
  have hfar : ∀ b, b ≤ b0 → w2.heap[b]? = wr.heap[b]? := fun b hb => hg.block b (by omega) (fun e => by have := (h.own.lt b e.symm).1; omega)
  refine ⟨HJ _ _ _ _ _ h.j hg h.mown, hown, fun b hb => ?_, .inl h.m0, ⟨vs, A, c, rfl, hl, hc, hT.frame (fun b hb => hfar b (by omega)), h.tops.frame fun b hb => hfar b (by omega)⟩,
    h.below.grown hg (by omega) (fun k e => by have := (h.own.lt k e).1; omega), fun b hr hlt => (hfar b (by omega)).trans (h.rd b hr hlt), fun b hb => ?_, Nat.lt_of_lt_of_le hs hg.size⟩
  · rcases hv with hv | hv
    · exact .inl (h.mown b (hv ▸ hb))
    · rw [hv] at hb; injection hb with hb; subst hb
      exact .inr ⟨Nat.le_refl _, (hown.lt _ hv).2⟩
  · rcases hb with h' | h'
    · exact Nat.lt_of_lt_of_le (h.lt b h') hg.size
    · exact h'.2
end

theorem infoRow : (Tryd.prog.info? 24).map (fun i => (i.zero, i.size, i.bytes)) = some (some (.slice none 0 0), 1, 24) := by kernel_rfl

set_option maxRecDepth 100000 in
set_option maxHeartbeats 2000000 in
theorem implArgs (k : Int) (s : ByteArray) (A : Option Addr) (n c : Nat) (w : World) :
    Calls Tryd.prog 60 #[.agg #[.int .i64 k, .string s, .slice A n c]] w fun e w' => e = .returned (.slice A n c) ∧ Below w.heap.size w w' := by
  go_enter Tryd.func60, Tryd.ntmps60
  go_wp2
  go_ret
  exact ⟨rfl, (Below.refl _ _).alloc (Nat.le_refl _) _⟩

set_option maxRecDepth 100000 in
set_option maxHeartbeats 4000000 in
theorem preType_seq (x : TypeX) (A : Option Addr) (c Br Bp n₀ : Nat) (Rd : Nat → Prop) (w : World) (hRp : Rd Bp) (hBr : Br < w.heap.size) (hBp : Bp < w.heap.size)
    (hwr : Whole w Br 26 #[.int .i64 x.kind_, .string x.name_, .slice A x.args_.length c]) (hwp : w.cell? ⟨Bp, 0, none⟩ = some (.func (.func 60) #[] #[]))
    (hn : n₀ ≤ w.heap.size) (hx : TypeRow w (Und n₀) A c x.args_) (hsz : (x.walk 0).length ≤ 4294967296) :
    SeqM Fence.wide 3 Tryd.prog 82 #[.pointer (some ⟨Br, 0, none⟩), .pointer (some ⟨Bp, 0, none⟩)] TypeIt.enc
      (fun pre y => (∃ rest, x.walk 0 = (pre ++ [y]).map TypeIt.key ++ rest) ∧ TypeRow w (Und n₀) y.2.2.1 y.2.2.2 y.2.1.args_) (fun xs => xs.map TypeIt.key = x.walk 0) n₀ Rd w := by
  intro l J Jx W hW hJ hY h0
  obtain ⟨i0, hi, hz0, hz1, hz2⟩ := info_parts infoRow
  have hwr' := hwr.below hW hBr
  have c0 : W.cell? ⟨Br, 0, none⟩ = some (.int .i64 x.kind_) := by rw [hwr'.cell]; rfl
  have c1 : W.cell? ⟨Br, 1, none⟩ = some (.string x.name_) := by rw [hwr'.cell]; rfl
  have c2 : W.cell? ⟨Br, 2, none⟩ = some (.slice A x.args_.length c) := by rw [hwr'.cell]; rfl
  have HY := Lib.hid hY
  have HJ := Lib.hid hJ
  clear hY hJ hwr'
  refine callsIn_of_wp Tryd.func82 rfl trivial ?_ rfl
  simp only [Tryd.ntmps82, List.size_toArray, List.length_cons, List.length_nil, Nat.reduceAdd, Nat.reduceSub, Array.replicate_succ, Array.replicate_zero, List.push_toArray, List.append_toArray, List.nil_append, List.cons_append]
  gi_wp2
  have hb0 : Below W.heap.size W ((W.alloc (.cells #[.int .i64 x.kind_, .string x.name_, .slice A x.args_.length c] 26)).alloc (.cells #[.slice (some ⟨W.heap.size, 0, none⟩) 1 1] 24)) := ((Below.refl _ _).alloc (Nat.le_refl _) _).alloc (by simp) _
  obtain ⟨W0, hW0⟩ : ∃ W0, (W.alloc (.cells #[.int .i64 x.kind_, .string x.name_, .slice A x.args_.length c] 26)).alloc (.cells #[.slice (some ⟨W.heap.size, 0, none⟩) 1 1] 24) = W0 := ⟨_, rfl⟩
  have hs0 : W0.heap.size = W.heap.size + 2 := by rw [← hW0]; simp
  have hown0 := World.ownsRow_lit (base := W.heap.size + 1) (size := 1) (e := 24) (W.alloc (.cells #[.int .i64 x.kind_, .string x.name_, .slice A x.args_.length c] 26)) #[.slice (some ⟨W.heap.size, 0, none⟩) 1 1] 1 (by simp) (by decide) rfl
  rw [World.size_alloc] at hown0
  have hwh0 : Whole W0 W.heap.size 26 #[.int .i64 x.kind_, .string x.name_, .slice A x.args_.length c] := by
    rw [← hW0]; exact (Whole.new W _ _).below ((Below.refl (W.heap.size + 1) _).alloc (by simp) _) (by omega)
  rw [hW0] at hown0 hb0 ⊢
  have hJ0 := HJ.out _ _ _ _ none h0 (grown_none hb0) (fun _ e => by cases e)
  have hx0 : TypeRow W0 (Und n₀) A c x.args_ := hx.frame (fun _ h => h) (fun b o hP => by have hlt : b < w.heap.size := Nat.lt_of_lt_of_le hP hn; rw [hb0.cell (p := ⟨b, o, none⟩) (Nat.lt_of_lt_of_le hlt hW.size)]; exact hW.cell (p := ⟨b, o, none⟩) hlt)
  have hT0 : TopType W0 n₀ W.heap.size (some ⟨W.heap.size, 0, none⟩) [x] := by
    intro j hj
    obtain rfl : j = 0 := by simpa using hj
    exact ⟨W.heap.size, 0, A, c, rfl, .inr rfl, by rw [hwh0.cell]; rfl, by rw [hwh0.cell]; rfl, by rw [hwh0.cell]; rfl, hx0⟩
  have hTs0 : TopsType W0 n₀ W.heap.size [[x]] [.slice (some ⟨W.heap.size, 0, none⟩) 1 1] := ⟨[], _, 1, rfl, by simp, by omega, hT0, rfl⟩
  have hRb : ∀ b, Rd b → b < w.heap.size → W0.heap[b]? = w.heap[b]? := fun b _ h => (hb0.block b (Nat.lt_of_lt_of_le h hW.size)).trans (hW.block b h)
  have hbl0 : Below n₀ w W0 := (hW.mono hn).trans (hb0.mono (by have := hW.size; omega))
  have HB := Lib.hid hRb
  have HO := Lib.hid hown0
  have HT := Lib.hid hTs0
  have HS := Lib.hid hs0
  have HW := Lib.hid hwr
  have HP := Lib.hid hwp
  clear hW0 hRb hown0 hTs0 hs0 c0 c1 c2 hx0 hT0 hwh0 hx hwr hwp
  have hnb : n₀ ≤ W.heap.size := Nat.le_trans hn hW.size
  have hwb := hW.size
  gi_loopg [4] (2 * (x.walk 0).length + 1) (fun gk rv wr => ∃ (M : Nat → Prop) (pre : List TypeIt) (rs : List (List TypeX)) (vs : List Value), PreTypeSt J w n₀ W.heap.size Rd M pre rs vs rv wr ∧
    pre.map TypeIt.key ++ todoType rs = x.walk 0 ∧ gk = 2 * (todoType rs).length + rs.length ∧ rs.length ≤ pre.length + 1)
  case atStart =>
    have hs0 := HS.out
    refine ⟨_, [], [[x]], _, ⟨hJ0, HO.out, fun b hb => .inr ?_, .inr ⟨Nat.le_refl _, by omega⟩, HT.out, hbl0, HB.out, fun b hb => ?_, by omega⟩, by rw [todoType_start]; rfl, by rw [todoType_start]; rfl, by simp⟩
    · simp [Value.ownBlock] at hb; omega
    · rcases hb with hb | hb
      · exact hb.elim
      · exact hb.2
  case round =>
    clear HB HO HT HS hJ0 hbl0 hb0 h0
    obtain ⟨M, pre, rs, vs, hst, hpre, rfl, hlen⟩ := hrel
    cases rs with
    | nil =>
      obtain ⟨A1, c1, rfl⟩ := own_nil hst.own
      have hfin : pre.map TypeIt.key = x.walk 0 := by rw [← hpre, todoType, List.append_nil]
      have HF := Lib.hid hfin
      have HST := Lib.hid hst
      clear hpre hfin hst hlen
      gi_wp2
      go_end0
      exact ⟨⟨_, rfl⟩, .inl ⟨M, pre, HF.out, HST.out.j⟩⟩
    | cons l' rs =>
      obtain ⟨vs0, A1, c1, rfl, hlc, hcm, hT, hts0⟩ := hst.tops
      have hvl := hts0.length
      have hown := hst.own
      rw [List.length_cons] at hown hlen
      obtain ⟨g, cap, rfl⟩ := own_some hown
      obtain ⟨hown0, hcell, hcap, hcm2, hBg, hgw⟩ := own_pop hown (by rw [hvl, Nat.mul_one]) rfl
      have hc0 : wr.cell? ⟨g, rs.length, none⟩ = some (.slice A1 l'.length c1) := by have := hcell 0 (by decide); rw [Nat.mul_one, Nat.add_zero] at this; exact this
      have hfr := hown.frozenAt rs.length
      have hwl : pre.length + (todoType (l' :: rs)).length ≤ 4294967296 := by
        have := congrArg List.length hpre; rw [List.length_append, List.length_map] at this; omega
      have hrl : rs.length ≤ 4294967296 := by omega
      unfold maxLen at hcm2
      cases l' with
      | nil =>
        rw [todoType_pop] at hpre
        have hme : 2 * (todoType rs).length + rs.length < 2 * (todoType ([] :: rs)).length + ([] :: rs).length := by rw [todoType_pop, List.length_cons]; omega
        have hst1 : PreTypeSt J w n₀ W.heap.size Rd M pre rs vs0 (.slice (some ⟨g, 0, none⟩) rs.length cap) wr := ⟨hst.j, hown0, fun b hb => hst.mown b (by simpa [Value.ownBlock] using hb), hst.m0, hts0, hst.below, hst.rd, hst.lt, hst.size⟩
        have HME := Lib.hid hme
        have HPR := Lib.hid hpre
        have HST := Lib.hid hst1
        have hc0' : wr.cell? ⟨g, rs.length, none⟩ = some (.slice A1 0 c1) := hc0
        clear hme hpre hown0 hown hcell hT hts0 hvl hwl hc0 hst hst1
        gi_wp2
        gi_roundg (2 * (todoType rs).length + rs.length)
        case measure => exact HME.out
        case rel => exact ⟨M, pre, rs, vs0, HST.out, HPR.out, rfl, by omega⟩
      | cons y ys =>
        obtain ⟨b, o, A2, c2, rfl, hb, q0, q1, q2, hr⟩ := hT 0 (by simp)
        rw [Nat.zero_mul, Nat.add_zero] at q0 q1 q2
        have q0' : wr.cell? ⟨b, o, none⟩ = some (.int .i64 y.kind_) := q0
        have q1' : wr.cell? ⟨b, o + 1, none⟩ = some (.string y.name_) := q1
        have q2' : wr.cell? ⟨b, o + 2, none⟩ = some (.slice A2 y.args_.length c2) := q2
        have hr' : TypeRow wr (Und n₀) A2 c2 y.args_ := hr
        have hrc := hr'.cap
        have hlc' : ys.length + 1 ≤ c1 := hlc
        have hc0' : wr.cell? ⟨g, rs.length, none⟩ = some (.slice (some ⟨b, o, none⟩) (ys.length + 1) c1) := hc0
        have hme : 2 * (todoType (y.args_ :: ys :: rs)).length + (y.args_ :: ys :: rs).length < 2 * (todoType ((y :: ys) :: rs)).length + ((y :: ys) :: rs).length := by
          rw [todoType_step, List.length_cons, List.length_cons, List.length_cons, List.length_cons]; omega
        rw [todoType_step] at hpre
        have hpre2 : (pre ++ [(rs.length, y, A2, c2)]).map TypeIt.key ++ todoType (y.args_ :: ys :: rs) = x.walk 0 := by rw [← hpre, List.map_append, List.append_assoc]; rfl
        have hrw : TypeRow w (Und n₀) A2 c2 y.args_ := hr'.frame (fun _ h => h) (fun b i hP => (World.cell?_of_block (w := w) (w' := wr) (a := ⟨b, i, none⟩) (hst.below.block b hP)).symm)
        -- WHAT STANDS BEHIND THE STORE AND THE NEW VARIABLE, whatever the rest's address
        have key : ∀ (A3 : Option Addr) (c3 : Nat), ys.length ≤ c3 → c3 ≤ 9223372036854775807 → TopType wr n₀ W.heap.size A3 ys →
            ∃ (M3 : Nat → Prop), PreTypeSt J w n₀ W.heap.size Rd M3 pre (ys :: rs) (vs0 ++ [.slice A3 ys.length c3]) (.slice (some ⟨g, 0, none⟩) (rs.length + 1) cap)
              ((wr.setCell ⟨g, rs.length, none⟩ (.slice A3 ys.length c3)).alloc (.cells #[.int .i64 y.kind_, .string y.name_, .slice A2 y.args_.length c2] 26)) ∧ M3 wr.heap.size ∧ Whole ((wr.setCell ⟨g, rs.length, none⟩ (.slice A3 ys.length c3)).alloc (.cells #[.int .i64 y.kind_, .string y.name_, .slice A2 y.args_.length c2] 26)) wr.heap.size 26 #[.int .i64 y.kind_, .string y.name_, .slice A2 y.args_.length c2] := fun A3 c3 h1 h2 h3 => by
          have hs := PreTypeSt.store HJ.out hnb hwb hst hts0 h1 h2 h3
          refine ⟨_, PreTypeSt.grow HJ.out hnb hwb hs ((Below.refl _ _).alloc (Nat.le_refl _) _), .inr ⟨by simp, by simp⟩, ?_⟩
          have h := Whole.new (wr.setCell ⟨g, rs.length, none⟩ (.slice A3 ys.length c3)) 26 #[.int .i64 y.kind_, .string y.name_, .slice A2 y.args_.length c2]
          simpa using h
        have HKEY := Lib.hid key
        have HPR := Lib.hid hpre2
        have HRW := Lib.hid hrw
        have HT := Lib.hid hT
        have HME := Lib.hid hme
        have hpl : pre.length ≤ 4294967296 := by omega
        clear hpre hown hown0 hts0 hT hvl hr' hcell hst hwl q0 q1 q2 hr hlc hc0 hpre2 hrw hme key
        by_cases hcc : c1 = 1
        · subst hcc
          have hl0 : ys.length = 0 := by omega
          obtain rfl : ys = [] := List.eq_nil_of_length_eq_zero hl0
          obtain ⟨M3, hst3, hM3, hbx⟩ := HKEY.out (some ⟨b, o, none⟩) 0 (Nat.le_refl _) (by omega) (TopType.nil _ _ _ _)
          clear hl0
          obtain ⟨fn, tmps, assign, body, hy, hR⟩ := HY.out M3 pre (rs.length, y, A2, c2) _ hst3.j ⟨⟨_, HPR.out.symm⟩, HRW.out⟩
          simp only [TypeIt.enc, List.length_nil] at hy
          have HST := Lib.hid hst3
          have HBX := Lib.hid hbx
          have HM3 := Lib.hid hM3
          clear hst3 hbx hM3
          gi_wp2
          refine hR.mono ?_
          rintro e W4 (⟨rfl, hJ4, hk4⟩ | ⟨rfl, hJx4⟩)
          · have hst4 := PreTypeSt.round hnb hwb HST.out hk4 hJ4
            have hbx4 : Whole W4 wr.heap.size 26 #[.int .i64 y.kind_, .string y.name_, .slice A2 y.args_.length c2] := (hk4.own _ (.inl HM3.out)).trans HBX.out
            have hbl4 := hbx4.lt
            have d0 : W4.cell? ⟨wr.heap.size, 0, none⟩ = some (.int .i64 y.kind_) := by rw [hbx4.cell]; rfl
            have d1 : W4.cell? ⟨wr.heap.size, 1, none⟩ = some (.string y.name_) := by rw [hbx4.cell]; rfl
            have d2 : W4.cell? ⟨wr.heap.size, 2, none⟩ = some (.slice A2 y.args_.length c2) := by rw [hbx4.cell]; rfl
            have dp : W4.cell? ⟨Bp, 0, none⟩ = some (.func (.func 60) #[] #[]) := (World.cell?_of_block (w := w) (w' := W4) (a := ⟨Bp, 0, none⟩) (hst4.rd Bp hRp hBp)).trans HP.out
            have HST4 := Lib.hid hst4
            have HK4 := Lib.hid hk4
            clear hst4 hbx4 hJ4 hk4 hy hR hc0' q0' q1' q2'
            gi_wp2_with fail
            refine ⟨trivial, ?_⟩
            refine (callsIn_wide.2 (implArgs _ _ _ _ _ _)).mono ?_
            rintro e W5 ⟨rfl, hb5⟩
            have hst5 := PreTypeSt.grow HJ.out hnb hwb HST4.out hb5
            have hst6 := PreTypeSt.grow HJ.out hnb hwb hst5 ((Below.refl _ _).alloc (Nat.le_refl _) (.cells #[.slice A2 y.args_.length c2] 24))
            have hown6 := hst6.own
            have hs6 := hst6.size
            have ht6 : TopType (W5.alloc (.cells #[.slice A2 y.args_.length c2] 24)) n₀ W.heap.size A2 y.args_ := TopType.of_row (HRW.out.frame (fun _ h => h) (fun b i hP => World.cell?_of_block (a := ⟨b, i, none⟩) (hst6.below.block b hP)))
            have HST6 := Lib.hid hst6
            have HO6 := Lib.hid hown6
            have HT6 := Lib.hid ht6
            clear hst5 hst6 hb5 hown6 ht6 d0 d1 d2 dp
            gi_wp2_with (gi_at_builtin; refine wpListIn_append_at _ rfl _ _ 117 rfl (W.heap.size + 1) 24 i0 (.slice none 0 0) 1 24 Tryd.underlying117 hi hz0 hz1 hz2 rfl (by decide) _ _ _ rfl HO6.out ⟨W5.heap.size, 0, none⟩ 1 1 [.slice A2 y.args_.length c2] rfl rfl (cell_one_new _ _ _) (one_slice _ _ _) (by unfold maxLen; simp only [List.length_cons]; omega) (by simp only [List.length_cons]; omega) (by omega) ?_)
            intro v' W7 hown7 hgrow7 hv7
            have hst7 := PreTypeSt.push HJ.out hnb hwb HST6.out hgrow7 (by rw [List.append_assoc]; exact hown7) (hv7.imp_right (fun h => h.trans (by simp))) hrc.1 hrc.2 HT6.out
            have HST7 := Lib.hid hst7
            clear hst7 hown7 hgrow7 hv7 hs6
            gi_wp2
            gi_roundg (2 * (todoType (y.args_ :: [] :: rs)).length + (y.args_ :: [] :: rs).length)
            case measure => exact HME.out
            case rel => exact ⟨_, _, _, _, HST7.out, HPR.out, rfl, by simp only [List.length_append, List.length_cons, List.length_nil]; omega⟩
          · gi_wp2
            refine bodyPost_ret (results_none rfl _ _ _) rfl ?_
            exact ⟨⟨_, rfl⟩, .inr ⟨_, hJx4⟩⟩
        · have hcc' : 1 < c1 := by omega
          clear hcc
          obtain ⟨M3, hst3, hM3, hbx⟩ := HKEY.out (some ⟨b, o + 3, none⟩) (c1 - 1) (by omega) (by omega) HT.out.tail
          obtain ⟨fn, tmps, assign, body, hy, hR⟩ := HY.out M3 pre (rs.length, y, A2, c2) _ hst3.j ⟨⟨_, HPR.out.symm⟩, HRW.out⟩
          simp only [TypeIt.enc] at hy
          have HST := Lib.hid hst3
          have HBX := Lib.hid hbx
          have HM3 := Lib.hid hM3
          clear hst3 hbx hM3
          gi_wp2
          refine hR.mono ?_
          rintro e W4 (⟨rfl, hJ4, hk4⟩ | ⟨rfl, hJx4⟩)
          · have hst4 := PreTypeSt.round hnb hwb HST.out hk4 hJ4
            have hbx4 : Whole W4 wr.heap.size 26 #[.int .i64 y.kind_, .string y.name_, .slice A2 y.args_.length c2] := (hk4.own _ (.inl HM3.out)).trans HBX.out
            have hbl4 := hbx4.lt
            have d0 : W4.cell? ⟨wr.heap.size, 0, none⟩ = some (.int .i64 y.kind_) := by rw [hbx4.cell]; rfl
            have d1 : W4.cell? ⟨wr.heap.size, 1, none⟩ = some (.string y.name_) := by rw [hbx4.cell]; rfl
            have d2 : W4.cell? ⟨wr.heap.size, 2, none⟩ = some (.slice A2 y.args_.length c2) := by rw [hbx4.cell]; rfl
            have dp : W4.cell? ⟨Bp, 0, none⟩ = some (.func (.func 60) #[] #[]) := (World.cell?_of_block (w := w) (w' := W4) (a := ⟨Bp, 0, none⟩) (hst4.rd Bp hRp hBp)).trans HP.out
            have HST4 := Lib.hid hst4
            have HK4 := Lib.hid hk4
            clear hst4 hbx4 hJ4 hk4 hy hR hc0' q0' q1' q2'
            gi_wp2_with fail
            refine ⟨trivial, ?_⟩
            refine (callsIn_wide.2 (implArgs _ _ _ _ _ _)).mono ?_
            rintro e W5 ⟨rfl, hb5⟩
            have hst5 := PreTypeSt.grow HJ.out hnb hwb HST4.out hb5
            have hst6 := PreTypeSt.grow HJ.out hnb hwb hst5 ((Below.refl _ _).alloc (Nat.le_refl _) (.cells #[.slice A2 y.args_.length c2] 24))
            have hown6 := hst6.own
            have hs6 := hst6.size
            have ht6 : TopType (W5.alloc (.cells #[.slice A2 y.args_.length c2] 24)) n₀ W.heap.size A2 y.args_ := TopType.of_row (HRW.out.frame (fun _ h => h) (fun b i hP => World.cell?_of_block (a := ⟨b, i, none⟩) (hst6.below.block b hP)))
            have HST6 := Lib.hid hst6
            have HO6 := Lib.hid hown6
            have HT6 := Lib.hid ht6
            clear hst5 hst6 hb5 hown6 ht6 d0 d1 d2 dp
            gi_wp2_with (gi_at_builtin; refine wpListIn_append_at _ rfl _ _ 117 rfl (W.heap.size + 1) 24 i0 (.slice none 0 0) 1 24 Tryd.underlying117 hi hz0 hz1 hz2 rfl (by decide) _ _ _ rfl HO6.out ⟨W5.heap.size, 0, none⟩ 1 1 [.slice A2 y.args_.length c2] rfl rfl (cell_one_new _ _ _) (one_slice _ _ _) (by unfold maxLen; simp only [List.length_cons]; omega) (by simp only [List.length_cons]; omega) (by omega) ?_)
            intro v' W7 hown7 hgrow7 hv7
            have hst7 := PreTypeSt.push HJ.out hnb hwb HST6.out hgrow7 (by rw [List.append_assoc]; exact hown7) (hv7.imp_right (fun h => h.trans (by simp))) hrc.1 hrc.2 HT6.out
            have HST7 := Lib.hid hst7
            clear hst7 hown7 hgrow7 hv7 hs6
            gi_wp2
            gi_roundg (2 * (todoType (y.args_ :: ys :: rs)).length + (y.args_ :: ys :: rs).length)
            case measure => exact HME.out
            case rel => exact ⟨_, _, _, _, HST7.out, HPR.out, rfl, by simp only [List.length_append, List.length_cons, List.length_nil]; omega⟩
          · gi_wp2
            refine bodyPost_ret (results_none rfl _ _ _) rfl ?_
            exact ⟨⟨_, rfl⟩, .inr ⟨_, hJx4⟩⟩
end Go.Proofs.YtngbilblddngcaaDoor

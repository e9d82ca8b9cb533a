/- Rows of types as their cells: ElemsT; an append of many. (TyEqI's first half: no function of the program.) -/
import Derived.Test.YtbcfeoobhemdcaaQ1
import Derived.Test.YtbcfeoobhemdcaaZTySize
import Derived.Test.YtbcfeoobhemdcaaZLawT
import Derived.Deep.LoopGhost
import Derived.Deep.CutRange
import Derived.RegionTactic
import Derived.Lib.QuietBelow
import Derived.BigQuiet
namespace Go.Proofs.Ytbcfeoobhemdcaa
open Go.RowKit Go.Lib

theorem wpList_append_any {P : Program} {w : World} {ops : Array Oper} {rest : List Oper} {o : Oper} {a : Act} {Q : Exit → Act → World → Prop} (hgd : o.guard = none) (s x : Operand) (t : TypeId)
    (ho : o.op = .call { callee := .builtin .append, args := #[s, x], argTypes := #[t, t] })
    (base : Nat) (e : TypeId) (i : TypeInfo) (z : Value) (size bytes : Nat) (ht : P.underlying t = some (.slice e)) (hi : P.info? e = some i) (hz : i.zero = some z)
    (hsize : i.size = size) (hby : i.bytes = bytes) (hzs : z.cells.size = size) (hsz : 0 < size)
    (v : Value) (n : Nat) (xs : List Value) (hs : a.eval s = v) (hown : w.ownsRow base e size v n xs)
    (A : Option Addr) (m c : Nat) (news : List Value) (hx : a.eval x = .slice A m c) (hl : news.length = m * size)
    (hA : m = 0 ∨ ∃ ad, A = some ad ∧ ∀ (j : Nat) (u : Value), news[j]? = some u → w.cell? (ad.add j) = some u) (h1 : ∀ u ∈ news, u.oneCell' = true)
    (h63 : n + m ≤ maxLen) (hbytes : (n + m) * bytes ≤ 140737488355328) (hbase : base ≤ w.heap.size) (H : Nat) (hH : w.heap.size = H)
    (h : ∀ v' w', w'.ownsRow base e size v' (n + m) (xs ++ news) → w.grownBy w' v.ownBlock → (v'.ownBlock = v.ownBlock ∨ v'.ownBlock = some H) → wpList P ops Q rest (a.put o.dst v') w') : wpList P ops Q (o :: rest) a w :=
  wpList_plain hgd fun _ hK => wp_append_any s x t ho base e i z size bytes ht hi hz hsize hby hzs hsz v n xs hs hown A m c news hx hl hA h1 h63 hbytes hbase H hH fun v' w' h2 h3 h4 => hK _ _ (h v' w' h2 h3 h4)

/-- These cells are those types, one after another; what they lead to lies in P. -/
def ElemsT (w : World) (P : Nat → Prop) : List TypeX → List Value → Prop
  | [], vs => vs = []
  | x :: r, vs => ∃ (A : Option Addr) (c : Nat) (rest : List Value), vs = .int .i64 x.kind_ :: .string x.name_ :: .slice A x.args_.length c :: rest ∧ TypeRow w P A c x.args_ ∧ ElemsT w P r rest
theorem ElemsT.length {w : World} {P : Nat → Prop} : ∀ {l : List TypeX} {vs : List Value}, ElemsT w P l vs → vs.length = l.length * 3
  | [], vs, h => by rw [ElemsT] at h; subst h; rfl
  | x :: r, vs, h => by
    obtain ⟨A, c, rest, rfl, _, h2⟩ := h
    simp only [List.length_cons, h2.length]; omega
theorem ElemsT.last {w : World} {P : Nat → Prop} : ∀ {l : List TypeX} {x : TypeX} {vs : List Value}, ElemsT w P (l ++ [x]) vs → ∃ vs0 A c, vs = vs0 ++ [.int .i64 x.kind_, .string x.name_, .slice A x.args_.length c] ∧ ElemsT w P l vs0 ∧ TypeRow w P A c x.args_
  | [], x, vs, h => by
    obtain ⟨A', c', rest, rfl, h1, h2⟩ := h
    rw [ElemsT] at h2; subst h2
    exact ⟨[], A', c', rfl, rfl, h1⟩
  | y :: r, x, vs, h => by
    obtain ⟨A', c', rest, rfl, h1, h2⟩ := h
    obtain ⟨vs0, A, c, rfl, h3, h4⟩ := ElemsT.last (l := r) h2
    exact ⟨_ :: _ :: _ :: vs0, A, c, rfl, ⟨A', c', vs0, rfl, h1, h3⟩, h4⟩
theorem ElemsT.append {w : World} {P : Nat → Prop} : ∀ {l : List TypeX} {vs : List Value}, ElemsT w P l vs → ∀ {m : List TypeX} {us : List Value}, ElemsT w P m us → ElemsT w P (l ++ m) (vs ++ us)
  | [], vs, h, m, us, hm => by rw [ElemsT] at h; subst h; exact hm
  | y :: r, vs, h, m, us, hm => by
    obtain ⟨A', c', rest, rfl, h1, h2⟩ := h
    exact ⟨A', c', rest ++ us, rfl, h1, h2.append hm⟩
theorem ElemsT.of_rows {w : World} {P : Nat → Prop} : ∀ {l : List TypeX} {vs : List Value}, RdVE w P 3 (TypeX.rows l) vs → ElemsT w P l vs ∧ ∀ u ∈ vs, u.oneCell' = true
  | [], vs, h => by rw [TypeX.rows, RdVE] at h; subst h; exact ⟨rfl, by simp⟩
  | x :: r, vs, h => by
    rw [TypeX.rows, RdVE] at h
    obtain ⟨v1, v2, rfl, _, h1, h2⟩ := h
    obtain ⟨h3, h4⟩ := ElemsT.of_rows h2
    rw [TypeX.cells_eq] at h1
    simp only [RdVs] at h1
    obtain ⟨u0, _, rfl, g0, u1, _, rfl, g1, u2, _, rfl, g2, rfl⟩ := h1
    rw [RdV_pl] at g0 g1
    subst g0 g1
    obtain ⟨A, c, rfl, k2⟩ := TypeRow.of_read g2
    refine ⟨⟨A, c, v2, rfl, k2, h3⟩, fun u hu => ?_⟩
    simp at hu
    rcases hu with rfl | rfl | rfl | hu
    · rfl
    · rfl
    · rfl
    · exact h4 u hu
theorem TypeRow.cells {w : World} {P : Nat → Prop} {A : Option Addr} {c : Nat} {l : List TypeX} (h : TypeRow w P A c l) :
    ∃ us : List Value, ElemsT w P l us ∧ us.length = l.length * 3 ∧ (∀ u ∈ us, u.oneCell' = true) ∧ (l.length = 0 ∨ ∃ b o, A = some ⟨b, o, none⟩ ∧ P b ∧ ∀ (j : Nat) (u : Value), us[j]? = some u → w.cell? ⟨b, o + j, none⟩ = some u) := by
  obtain ⟨A', c', e, _, _, h⟩ := RdV_row.1 h
  injection e with e1 _ _
  subst e1
  rcases h with h | ⟨b, o, hA, hP, vs, hE, hc⟩
  · have hl : l = [] := by rw [TypeX.rows_map] at h; simpa using h
    subst hl
    exact ⟨[], rfl, rfl, by simp, .inl rfl⟩
  · obtain ⟨h1, h2⟩ := ElemsT.of_rows hE
    exact ⟨vs, h1, h1.length, h2, .inr ⟨b, o, hA, hP, hc⟩⟩
theorem sizeL_snoc : ∀ (l : List TypeX) (x : TypeX), TypeX.sizeL (l ++ [x]) = TypeX.sizeL l + x.size
  | [], x => by simp [TypeX.sizeL]
  | y :: r, x => by rw [List.cons_append, TypeX.sizeL, TypeX.sizeL, sizeL_snoc r x]; omega
theorem sizeL_append : ∀ (l m : List TypeX), TypeX.sizeL (l ++ m) = TypeX.sizeL l + TypeX.sizeL m
  | [], m => by simp [TypeX.sizeL]
  | y :: r, m => by rw [List.cons_append, TypeX.sizeL, TypeX.sizeL, sizeL_append r m]; omega
theorem sizeL_length : ∀ (l : List TypeX), l.length ≤ TypeX.sizeL l
  | [] => Nat.zero_le _
  | x :: r => by have := sizeL_length r; have := TypeX.size_eq x; rw [TypeX.sizeL, List.length_cons]; omega
/-- The same cells, in a world that has grown. -/
theorem cells_inT {w w' : World} {B : Nat} {A : Option Addr} {n : Nat} {us : List Value} (hb : Below B w w') (h : n = 0 ∨ ∃ b o, A = some ⟨b, o, none⟩ ∧ Und B b ∧ ∀ (j : Nat) (u : Value), us[j]? = some u → w.cell? ⟨b, o + j, none⟩ = some u) :
    n = 0 ∨ ∃ ad, A = some ad ∧ ∀ (j : Nat) (u : Value), us[j]? = some u → w'.cell? (ad.add j) = some u := by
  rcases h with h | ⟨b, o, rfl, hP, h3⟩
  · exact .inl h
  · refine .inr ⟨_, rfl, fun j u hj => ?_⟩
    rw [Go.WideShapes.add_plain]
    exact (hb.cell (p := ⟨b, o + j, none⟩) hP).trans (h3 j u hj)
theorem pop_eqT {ls ms : List TypeX} {p q : TypeX} {Q : Prop} (h : Q ↔ ls ++ [p] = ms ++ [q]) (hl : ls.length = ms.length) : (p.kind_ = q.kind_ → p.name_ = q.name_ → p.args_.length = q.args_.length → (Q ↔ ls ++ p.args_ = ms ++ q.args_)) ∧ (p.kind_ ≠ q.kind_ ∨ p.name_ ≠ q.name_ ∨ p.args_.length ≠ q.args_.length → ¬ Q) := by
  cases p with | mk k a l => cases q with | mk k' b m =>
  constructor
  · intro hk ha hn
    rw [h]
    simp only [TypeX.kind_, TypeX.name_, TypeX.args_] at hk ha hn ⊢
    subst hk ha
    constructor
    · intro e
      obtain ⟨e1, e2⟩ := List.append_inj e hl
      simp at e2
      rw [e1, e2]
    · intro e
      obtain ⟨e1, e2⟩ := List.append_inj e hl
      rw [e1, e2]
  · intro hne hq
    obtain ⟨_, e2⟩ := List.append_inj (h.1 hq) hl
    simp at e2
    rcases hne with h | h | h
    · exact h e2.1
    · exact h e2.2.1
    · exact h (by simp only [TypeX.args_]; rw [e2.2.2])
theorem two_boxesT {w : World} {T : TypeId} (ca cb : Array Value) :
    Whole (((w.alloc (.cells ca T)).alloc (.cells cb T)).drew) w.heap.size T ca ∧ Whole (((w.alloc (.cells ca T)).alloc (.cells cb T)).drew) (w.heap.size + 1) T cb := by
  constructor
  · exact ((Whole.new w T ca).below ((Below.refl _ _).alloc (Nat.le_refl _) _) (by simp) : Whole ((w.alloc (.cells ca T)).alloc (.cells cb T)) w.heap.size T ca)
  · have h := Whole.new (w.alloc (.cells ca T)) T cb
    rw [World.size_alloc] at h
    exact h
theorem two_rowsT {w : World} {T : TypeId} {B : Nat} (a b c a' b' c' : Value) (hB : B ≤ w.heap.size) :
    (((w.alloc (.cells #[a, b, c] T)).alloc (.cells #[a', b', c'] T)).drew).ownsRow B T 3 (.slice (some ⟨w.heap.size, 0, none⟩) 1 1) 1 [a, b, c] ∧ (((w.alloc (.cells #[a, b, c] T)).alloc (.cells #[a', b', c'] T)).drew).ownsRow B T 3 (.slice (some ⟨w.heap.size + 1, 0, none⟩) 1 1) 1 [a', b', c'] := by
  constructor
  · exact ((World.ownsRow_lit w #[a, b, c] 1 hB (by decide) rfl).alloc _ : ((w.alloc (.cells #[a, b, c] T)).alloc (.cells #[a', b', c'] T)).ownsRow B T 3 (.slice (some ⟨w.heap.size, 0, none⟩) 1 1) 1 [a, b, c])
  · have h := World.ownsRow_lit (base := B) (size := 3) (e := T) (w.alloc (.cells #[a, b, c] T)) #[a', b', c'] 1 (by simp; omega) (by decide) rfl
    rw [World.size_alloc] at h
    exact h

theorem infoTy : (Try.prog.info? 35).map (fun i => (i.zero, i.size, i.bytes)) = some (some (.agg #[.int .i64 0, .string ByteArray.empty, .slice none 0 0]), 3, 48) := by kernel_rfl

end Go.Proofs.Ytbcfeoobhemdcaa

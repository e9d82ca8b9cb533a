/- Values as plain data: cells, and slices with what they lead to; how they lie in memory, read or owned. -/
import Derived.Test.YtbnfdjhcakimhaaQ1
import Derived.Lib.Hide
namespace Go.Proofs.Ytbnfdjhcakimhaa
open Go.RowKit

/-- What a cell holds: a plain value, or a slice: its elements, each the data of its k cells; e: the elements' type. -/
inductive DV where
  | pl (u : Value)
  | row (e : TypeId) (k : Nat) (xs : List (List DV))

mutual
def DV.nodes : DV → Nat
  | .pl _ => 0
  | .row _ _ xs => DV.nodesE xs
def DV.nodesL : List DV → Nat
  | [] => 0
  | d :: r => d.nodes + DV.nodesL r
def DV.nodesE : List (List DV) → Nat
  | [] => 0
  | x :: r => 1 + DV.nodesL x + DV.nodesE r
end
def uwt : Value → Nat
  | .string s => s.size
  | _ => 0
mutual
/-- What the laws' guard counts. -/
def DV.wt : DV → Nat
  | .pl u => uwt u
  | .row _ _ xs => DV.wtE xs
def DV.wtL : List DV → Nat
  | [] => 0
  | d :: r => d.wt + DV.wtL r
def DV.wtE : List (List DV) → Nat
  | [] => 0
  | x :: r => 1 + DV.wtL x + DV.wtE r
end

mutual
/-- The value v is this; the rows that it leads to lie in blocks of P. -/
def RdV (w : World) (P : Nat → Prop) : DV → Value → Prop
  | .pl u, v => v = u
  | .row _ k xs, v => ∃ A cap, v = .slice A xs.length cap ∧ xs.length ≤ cap ∧ cap ≤ 9223372036854775807 ∧
      (xs = [] ∨ ∃ b o, A = some ⟨b, o, none⟩ ∧ P b ∧ ∃ vs, RdVE w P k xs vs ∧ ∀ i v, vs[i]? = some v → w.cell? ⟨b, o + i, none⟩ = some v)
def RdVs (w : World) (P : Nat → Prop) : List DV → List Value → Prop
  | [], vs => vs = []
  | d :: r, vs => ∃ v vs', vs = v :: vs' ∧ RdV w P d v ∧ RdVs w P r vs'
def RdVE (w : World) (P : Nat → Prop) (k : Nat) : List (List DV) → List Value → Prop
  | [], vs => vs = []
  | x :: r, vs => ∃ v1 v2, vs = v1 ++ v2 ∧ x.length = k ∧ RdVs w P x v1 ∧ RdVE w P k r v2
end
theorem RdV_pl {w : World} {P : Nat → Prop} {u v : Value} : RdV w P (.pl u) v ↔ v = u := by rw [RdV]
theorem RdV_row {w : World} {P : Nat → Prop} {e : TypeId} {k : Nat} {xs : List (List DV)} {v : Value} : RdV w P (.row e k xs) v ↔ ∃ A cap, v = .slice A xs.length cap ∧ xs.length ≤ cap ∧ cap ≤ 9223372036854775807 ∧
      (xs = [] ∨ ∃ b o, A = some ⟨b, o, none⟩ ∧ P b ∧ ∃ vs, RdVE w P k xs vs ∧ ∀ i v, vs[i]? = some v → w.cell? ⟨b, o + i, none⟩ = some v) := by rw [RdV]
theorem RdV_e {w : World} {P : Nat → Prop} {e e' : TypeId} {k : Nat} {xs : List (List DV)} {v : Value} (h : RdV w P (.row e k xs) v) : RdV w P (.row e' k xs) v := by rw [RdV] at h ⊢; exact h
theorem RdVs_length {w : World} {P : Nat → Prop} : ∀ {ds : List DV} {vs : List Value}, RdVs w P ds vs → vs.length = ds.length
  | [], vs, h => by rw [RdVs] at h; rw [h]; rfl
  | d :: r, vs, h => by
    rw [RdVs] at h
    obtain ⟨v, vs', rfl, _, h2⟩ := h
    rw [List.length_cons, List.length_cons, RdVs_length h2]
theorem RdVE_length {w : World} {P : Nat → Prop} {k : Nat} : ∀ {xs : List (List DV)} {vs : List Value}, RdVE w P k xs vs → vs.length = xs.length * k
  | [], vs, h => by rw [RdVE] at h; rw [h]; simp
  | x :: r, vs, h => by
    rw [RdVE] at h
    obtain ⟨v1, v2, rfl, hk, h1, h2⟩ := h
    rw [List.length_append, RdVs_length h1, RdVE_length h2, hk, List.length_cons, Nat.add_mul]; omega
theorem RdVE_at {w : World} {P : Nat → Prop} {k : Nat} : ∀ {xs : List (List DV)} {vs : List Value}, RdVE w P k xs vs → ∀ (j : Nat) (h : j < xs.length), ∃ ws, RdVs w P xs[j] ws ∧ xs[j].length = k ∧ ∀ i v, ws[i]? = some v → vs[j * k + i]? = some v
  | x :: r, vs, h, 0, _ => by
    rw [RdVE] at h
    obtain ⟨v1, v2, rfl, hk, h1, h2⟩ := h
    refine ⟨v1, h1, hk, fun i v hi => ?_⟩
    rw [Nat.zero_mul, Nat.zero_add, List.getElem?_append_left]
    · exact hi
    · exact (List.getElem?_eq_some_iff.1 hi).1
  | x :: r, vs, h, j + 1, hj => by
    rw [RdVE] at h
    obtain ⟨v1, v2, rfl, hk, h1, h2⟩ := h
    obtain ⟨ws, h3, h4, h5⟩ := RdVE_at h2 j (by simpa using hj)
    refine ⟨ws, by simpa using h3, by simpa using h4, fun i v hi => ?_⟩
    have hl : v1.length = k := by rw [RdVs_length h1, hk]
    rw [List.getElem?_append_right (by rw [hl, Nat.add_mul]; omega), hl, show (j + 1) * k + i - k = j * k + i by rw [Nat.add_mul]; omega]
    exact h5 i v hi
/-- Where there is an element at j: where it lies, and what it is. -/
theorem RdV.at_ {w : World} {P : Nat → Prop} {e : TypeId} {k : Nat} {xs : List (List DV)} {A : Option Addr} {n cap : Nat} (h : RdV w P (.row e k xs) (.slice A n cap)) {j : Nat} (hj : j < xs.length) :
    ∃ b o ws, A = some ⟨b, o, none⟩ ∧ P b ∧ RdVs w P xs[j] ws ∧ ∀ i v, ws[i]? = some v → w.cell? ⟨b, o + j * k + i, none⟩ = some v := by
  rw [RdV] at h
  obtain ⟨A', cap', hv, _, _, h⟩ := h
  injection hv with hA _ _
  subst hA
  rcases h with h | ⟨b, o, hA, hP, vs, hE, hc⟩
  · subst h; simp at hj
  · obtain ⟨ws, h1, _, h3⟩ := RdVE_at hE j hj
    exact ⟨b, o, ws, hA, hP, h1, fun i v hi => by rw [Nat.add_assoc]; exact hc _ _ (h3 i v hi)⟩
theorem RdV.shape {w : World} {P : Nat → Prop} {e : TypeId} {k : Nat} {xs : List (List DV)} {v : Value} (h : RdV w P (.row e k xs) v) : ∃ A cap, v = .slice A xs.length cap ∧ xs.length ≤ cap ∧ cap ≤ 9223372036854775807 := by
  rw [RdV] at h
  obtain ⟨A, cap, hv, h1, h2, _⟩ := h
  exact ⟨A, cap, hv, h1, h2⟩

mutual
theorem RdV_frame {w w' : World} {P Q : Nat → Prop} (hPQ : ∀ b, P b → Q b) (hk : ∀ b o, P b → w'.cell? ⟨b, o, none⟩ = w.cell? ⟨b, o, none⟩) : ∀ (d : DV) {v : Value}, RdV w P d v → RdV w' Q d v
  | .pl u, v, h => by rw [RdV] at h ⊢; exact h
  | .row e k xs, v, h => by
    rw [RdV] at h ⊢
    obtain ⟨A, cap, hv, h1, h2, h⟩ := h
    refine ⟨A, cap, hv, h1, h2, ?_⟩
    rcases h with h | ⟨b, o, hA, hP, vs, hE, hc⟩
    · exact .inl h
    · exact .inr ⟨b, o, hA, hPQ b hP, vs, RdVE_frame hPQ hk xs hE, fun i v hi => (hk b _ hP).trans (hc i v hi)⟩
theorem RdVs_frame {w w' : World} {P Q : Nat → Prop} (hPQ : ∀ b, P b → Q b) (hk : ∀ b o, P b → w'.cell? ⟨b, o, none⟩ = w.cell? ⟨b, o, none⟩) : ∀ (ds : List DV) {vs : List Value}, RdVs w P ds vs → RdVs w' Q ds vs
  | [], vs, h => by rw [RdVs] at h ⊢; exact h
  | d :: r, vs, h => by
    rw [RdVs] at h ⊢
    obtain ⟨v, vs', rfl, h1, h2⟩ := h
    exact ⟨v, vs', rfl, RdV_frame hPQ hk d h1, RdVs_frame hPQ hk r h2⟩
theorem RdVE_frame {w w' : World} {P Q : Nat → Prop} (hPQ : ∀ b, P b → Q b) (hk : ∀ b o, P b → w'.cell? ⟨b, o, none⟩ = w.cell? ⟨b, o, none⟩) {k : Nat} : ∀ (xs : List (List DV)) {vs : List Value}, RdVE w P k xs vs → RdVE w' Q k xs vs
  | [], vs, h => by rw [RdVE] at h ⊢; exact h
  | x :: r, vs, h => by
    rw [RdVE] at h ⊢
    obtain ⟨v1, v2, rfl, hk1, h1, h2⟩ := h
    exact ⟨v1, v2, rfl, hk1, RdVs_frame hPQ hk x h1, RdVE_frame hPQ hk r h2⟩
end
/-- Below a block number. -/
def Und (B : Nat) (b : Nat) : Prop := b < B
theorem RdV.grow {w w' : World} {d : DV} {v : Value} (h : RdV w (Und w.heap.size) d v) (hb : Below w.heap.size w w') : RdV w' (Und w'.heap.size) d v :=
  RdV_frame (fun _ h => Nat.lt_of_lt_of_le h hb.size) (fun b o hP => hb.cell (p := ⟨b, o, none⟩) hP) d h
theorem RdVs.grow {w w' : World} {d : List DV} {v : List Value} (h : RdVs w (Und w.heap.size) d v) (hb : Below w.heap.size w w') : RdVs w' (Und w'.heap.size) d v :=
  RdVs_frame (fun _ h => Nat.lt_of_lt_of_le h hb.size) (fun b o hP => hb.cell (p := ⟨b, o, none⟩) hP) d h

mutual
/-- The value v is this; its rows, all the call's own, lie in just the blocks bs. -/
def OwV (w : World) (B : Nat) : DV → Value → List Nat → Prop
  | .pl u, v, bs => v = u ∧ bs = []
  | .row e k xs, v, bs => ∃ (vs : List Value) (bs' : List Nat), w.ownsRow B e k v xs.length vs ∧ OwVE w B k xs vs bs' ∧ bs = v.ownBlock.toList ++ bs'
def OwVs (w : World) (B : Nat) : List DV → List Value → List Nat → Prop
  | [], vs, bs => vs = [] ∧ bs = []
  | d :: r, vs, bs => ∃ (v : Value) (vs' : List Value) (b1 b2 : List Nat), vs = v :: vs' ∧ bs = b1 ++ b2 ∧ OwV w B d v b1 ∧ OwVs w B r vs' b2
def OwVE (w : World) (B : Nat) (k : Nat) : List (List DV) → List Value → List Nat → Prop
  | [], vs, bs => vs = [] ∧ bs = []
  | x :: r, vs, bs => ∃ (v1 v2 : List Value) (b1 b2 : List Nat), vs = v1 ++ v2 ∧ bs = b1 ++ b2 ∧ x.length = k ∧ OwVs w B x v1 b1 ∧ OwVE w B k r v2 b2
end
theorem OwVs_length {w : World} {B : Nat} : ∀ {ds : List DV} {vs : List Value} {bs : List Nat}, OwVs w B ds vs bs → vs.length = ds.length
  | [], vs, bs, h => by rw [OwVs] at h; rw [h.1]; rfl
  | d :: r, vs, bs, h => by
    rw [OwVs] at h
    obtain ⟨v, vs', b1, b2, rfl, _, _, h2⟩ := h
    rw [List.length_cons, List.length_cons, OwVs_length h2]
theorem OwVE_length {w : World} {B k : Nat} : ∀ {xs : List (List DV)} {vs : List Value} {bs : List Nat}, OwVE w B k xs vs bs → vs.length = xs.length * k
  | [], vs, bs, h => by rw [OwVE] at h; rw [h.1]; simp
  | x :: r, vs, bs, h => by
    rw [OwVE] at h
    obtain ⟨v1, v2, b1, b2, rfl, _, hk, h1, h2⟩ := h
    rw [List.length_append, OwVs_length h1, OwVE_length h2, hk, List.length_cons, Nat.add_mul]; omega
mutual
theorem OwV_frame {w w' : World} {B : Nat} : ∀ (d : DV) {v : Value} {bs : List Nat}, (∀ b ∈ bs, w'.heap[b]? = w.heap[b]?) → OwV w B d v bs → OwV w' B d v bs
  | .pl u, v, bs, _, h => by rw [OwV] at h ⊢; exact h
  | .row e k xs, v, bs, hb, h => by
    rw [OwV] at h ⊢
    obtain ⟨vs, bs', h1, h2, rfl⟩ := h
    exact ⟨vs, bs', own_same h1 fun b hv => hb b (by rw [hv]; simp), OwVE_frame xs (fun b hm => hb b (List.mem_append_right _ hm)) h2, rfl⟩
theorem OwVs_frame {w w' : World} {B : Nat} : ∀ (ds : List DV) {vs : List Value} {bs : List Nat}, (∀ b ∈ bs, w'.heap[b]? = w.heap[b]?) → OwVs w B ds vs bs → OwVs w' B ds vs bs
  | [], vs, bs, _, h => by rw [OwVs] at h ⊢; exact h
  | d :: r, vs, bs, hb, h => by
    rw [OwVs] at h ⊢
    obtain ⟨v, vs', b1, b2, rfl, rfl, h1, h2⟩ := h
    exact ⟨v, vs', b1, b2, rfl, rfl, OwV_frame d (fun b hm => hb b (List.mem_append_left _ hm)) h1, OwVs_frame r (fun b hm => hb b (List.mem_append_right _ hm)) h2⟩
theorem OwVE_frame {w w' : World} {B k : Nat} : ∀ (xs : List (List DV)) {vs : List Value} {bs : List Nat}, (∀ b ∈ bs, w'.heap[b]? = w.heap[b]?) → OwVE w B k xs vs bs → OwVE w' B k xs vs bs
  | [], vs, bs, _, h => by rw [OwVE] at h ⊢; exact h
  | x :: r, vs, bs, hb, h => by
    rw [OwVE] at h ⊢
    obtain ⟨v1, v2, b1, b2, rfl, rfl, hk, h1, h2⟩ := h
    exact ⟨v1, v2, b1, b2, rfl, rfl, hk, OwVs_frame x (fun b hm => hb b (List.mem_append_left _ hm)) h1, OwVE_frame r (fun b hm => hb b (List.mem_append_right _ hm)) h2⟩
end
mutual
/-- Its blocks are from B on, and are there. -/
theorem OwV_lt {w : World} {B : Nat} : ∀ (d : DV) {v : Value} {bs : List Nat}, OwV w B d v bs → ∀ b ∈ bs, B ≤ b ∧ b < w.heap.size
  | .pl u, v, bs, h => by rw [OwV] at h; rw [h.2]; simp
  | .row e k xs, v, bs, h => by
    rw [OwV] at h
    obtain ⟨vs, bs', h1, h2, rfl⟩ := h
    intro b hb
    rcases List.mem_append.1 hb with hb | hb
    · exact h1.lt b (by simpa using hb)
    · exact OwVE_lt xs h2 b hb
theorem OwVs_lt {w : World} {B : Nat} : ∀ (ds : List DV) {vs : List Value} {bs : List Nat}, OwVs w B ds vs bs → ∀ b ∈ bs, B ≤ b ∧ b < w.heap.size
  | [], vs, bs, h => by rw [OwVs] at h; rw [h.2]; simp
  | d :: r, vs, bs, h => by
    rw [OwVs] at h
    obtain ⟨v, vs', b1, b2, rfl, rfl, h1, h2⟩ := h
    intro b hb
    rcases List.mem_append.1 hb with hb | hb
    · exact OwV_lt d h1 b hb
    · exact OwVs_lt r h2 b hb
theorem OwVE_lt {w : World} {B k : Nat} : ∀ (xs : List (List DV)) {vs : List Value} {bs : List Nat}, OwVE w B k xs vs bs → ∀ b ∈ bs, B ≤ b ∧ b < w.heap.size
  | [], vs, bs, h => by rw [OwVE] at h; rw [h.2]; simp
  | x :: r, vs, bs, h => by
    rw [OwVE] at h
    obtain ⟨v1, v2, b1, b2, rfl, rfl, hk, h1, h2⟩ := h
    intro b hb
    rcases List.mem_append.1 hb with hb | hb
    · exact OwVs_lt x h1 b hb
    · exact OwVE_lt r h2 b hb
end
mutual
/-- What is owned from B on is owned from further down on. -/
theorem OwV_wide {w : World} {B B' : Nat} (hB : B' ≤ B) : ∀ (d : DV) {v : Value} {bs : List Nat}, OwV w B d v bs → OwV w B' d v bs
  | .pl u, v, bs, h => by rw [OwV] at h ⊢; exact h
  | .row e k xs, v, bs, h => by
    rw [OwV] at h ⊢
    obtain ⟨vs, bs', h1, h2, rfl⟩ := h
    refine ⟨vs, bs', ⟨h1.1, ?_⟩, OwVE_wide hB xs h2, rfl⟩
    rcases h1.2 with hn | ⟨g, cap, cur, rfl, hbg, rest⟩
    · exact .inl hn
    · exact .inr ⟨g, cap, cur, rfl, by omega, rest⟩
theorem OwVs_wide {w : World} {B B' : Nat} (hB : B' ≤ B) : ∀ (ds : List DV) {vs : List Value} {bs : List Nat}, OwVs w B ds vs bs → OwVs w B' ds vs bs
  | [], vs, bs, h => by rw [OwVs] at h ⊢; exact h
  | d :: r, vs, bs, h => by
    rw [OwVs] at h ⊢
    obtain ⟨v, vs', b1, b2, rfl, rfl, h1, h2⟩ := h
    exact ⟨v, vs', b1, b2, rfl, rfl, OwV_wide hB d h1, OwVs_wide hB r h2⟩
theorem OwVE_wide {w : World} {B B' : Nat} (hB : B' ≤ B) {k : Nat} : ∀ (xs : List (List DV)) {vs : List Value} {bs : List Nat}, OwVE w B k xs vs bs → OwVE w B' k xs vs bs
  | [], vs, bs, h => by rw [OwVE] at h ⊢; exact h
  | x :: r, vs, bs, h => by
    rw [OwVE] at h ⊢
    obtain ⟨v1, v2, b1, b2, rfl, rfl, hk, h1, h2⟩ := h
    exact ⟨v1, v2, b1, b2, rfl, rfl, hk, OwVs_wide hB x h1, OwVE_wide hB r h2⟩
end
mutual
/-- What is owned reads as what it is. -/
theorem OwV_read {w : World} {B : Nat} {P : Nat → Prop} : ∀ (d : DV) {v : Value} {bs : List Nat}, (∀ b ∈ bs, P b) → OwV w B d v bs → RdV w P d v
  | .pl u, v, bs, _, h => by rw [OwV] at h; rw [RdV]; exact h.1
  | .row e k xs, v, bs, hP, h => by
    rw [OwV] at h
    rw [RdV]
    obtain ⟨vs, bs', h1, h2, rfl⟩ := h
    have hE := OwVE_read xs (fun b hm => hP b (List.mem_append_right _ hm)) h2
    rcases h1.2 with ⟨rfl, hn⟩ | ⟨g, cap, cur, rfl, hbg, hg, hnc, hcm, rest⟩
    · exact ⟨none, 0, by rw [hn], by omega, by omega, .inl (List.eq_nil_of_length_eq_zero hn)⟩
    · refine ⟨_, cap, rfl, hnc, by unfold maxLen at hcm; omega, .inr ⟨g, 0, rfl, hP g (by simp [Value.ownBlock]), vs, hE, fun i v hi => ?_⟩⟩
      have hil : i < xs.length * k := by rw [← h1.1]; exact (List.getElem?_eq_some_iff.1 hi).1
      rw [Nat.zero_add, World.ownsRow.cellAt h1 i hil]
      exact hi
theorem OwVs_read {w : World} {B : Nat} {P : Nat → Prop} : ∀ (ds : List DV) {vs : List Value} {bs : List Nat}, (∀ b ∈ bs, P b) → OwVs w B ds vs bs → RdVs w P ds vs
  | [], vs, bs, _, h => by rw [OwVs] at h; rw [RdVs]; exact h.1
  | d :: r, vs, bs, hP, h => by
    rw [OwVs] at h
    rw [RdVs]
    obtain ⟨v, vs', b1, b2, rfl, rfl, h1, h2⟩ := h
    exact ⟨v, vs', rfl, OwV_read d (fun b hm => hP b (List.mem_append_left _ hm)) h1, OwVs_read r (fun b hm => hP b (List.mem_append_right _ hm)) h2⟩
theorem OwVE_read {w : World} {B k : Nat} {P : Nat → Prop} : ∀ (xs : List (List DV)) {vs : List Value} {bs : List Nat}, (∀ b ∈ bs, P b) → OwVE w B k xs vs bs → RdVE w P k xs vs
  | [], vs, bs, _, h => by rw [OwVE] at h; rw [RdVE]; exact h.1
  | x :: r, vs, bs, hP, h => by
    rw [OwVE] at h
    rw [RdVE]
    obtain ⟨v1, v2, b1, b2, rfl, rfl, hk, h1, h2⟩ := h
    exact ⟨v1, v2, rfl, hk, OwVs_read x (fun b hm => hP b (List.mem_append_left _ hm)) h1, OwVE_read r (fun b hm => hP b (List.mem_append_right _ hm)) h2⟩
end
theorem OwV_below {w w' : World} {B : Nat} {d : DV} {v : Value} {bs : List Nat} (h : OwV w B d v bs) (hb : Below w.heap.size w w') : OwV w' B d v bs := OwV_frame d (fun b hm => hb.block b (OwV_lt d h b hm).2) h
theorem OwVs_below {w w' : World} {B : Nat} {d : List DV} {v : List Value} {bs : List Nat} (h : OwVs w B d v bs) (hb : Below w.heap.size w w') : OwVs w' B d v bs := OwVs_frame d (fun b hm => hb.block b (OwVs_lt d h b hm).2) h
theorem OwVs_app {w : World} {B : Nat} : ∀ {ds : List DV} {vs : List Value} {bs : List Nat}, OwVs w B ds vs bs → ∀ {ds' : List DV} {vs' : List Value} {bs' : List Nat}, OwVs w B ds' vs' bs' → OwVs w B (ds ++ ds') (vs ++ vs') (bs ++ bs')
  | [], vs, bs, h, _, _, _, h' => by
    rw [OwVs] at h
    obtain ⟨rfl, rfl⟩ := h
    exact h'
  | d :: r, vs, bs, h, _, _, _, h' => by
    rw [OwVs] at h
    obtain ⟨v, vs', b1, b2, rfl, rfl, h1, h2⟩ := h
    rw [List.cons_append, OwVs]
    exact ⟨v, _, b1, _, rfl, by rw [List.append_assoc], h1, OwVs_app h2 h'⟩
theorem OwVE_snoc {w : World} {B k : Nat} : ∀ {xs : List (List DV)} {vs : List Value} {bs : List Nat}, OwVE w B k xs vs bs → ∀ {x : List DV} {v : List Value} {bx : List Nat}, x.length = k → OwVs w B x v bx → OwVE w B k (xs ++ [x]) (vs ++ v) (bs ++ bx)
  | [], vs, bs, h, x, v, bx, hk, hx => by
    rw [OwVE] at h
    obtain ⟨rfl, rfl⟩ := h
    rw [List.nil_append, OwVE]
    exact ⟨v, [], bx, [], by simp, by simp, hk, hx, by rw [OwVE]; exact ⟨rfl, rfl⟩⟩
  | y :: r, vs, bs, h, x, v, bx, hk, hx => by
    rw [OwVE] at h
    obtain ⟨v1, v2, b1, b2, rfl, rfl, hk1, h1, h2⟩ := h
    rw [List.cons_append, OwVE]
    exact ⟨v1, _, b1, _, by rw [List.append_assoc], by rw [List.append_assoc], hk1, h1, OwVE_snoc h2 hk hx⟩
theorem OwV_nil (w : World) (B : Nat) (e : TypeId) (k : Nat) : OwV w B (.row e k []) (.slice none 0 0) [] := by
  rw [OwV]
  exact ⟨[], [], World.ownsRow_nil _ _ _ _, by rw [OwVE]; exact ⟨rfl, rfl⟩, rfl⟩

/-- A STRUCT in memory of its own, by value. -/
def MadeV (d : List DV) (w : World) (e : Ending) (w' : World) : Prop :=
  ∃ (vs : List Value) (bs : List Nat), e = .returned (.agg vs.toArray) ∧ OwVs w' w.heap.size d vs bs ∧ bs.Nodup ∧ Below w.heap.size w w'
/-- A SLICE in memory of its own. -/
def MadeR (d : DV) (w : World) (e : Ending) (w' : World) : Prop :=
  ∃ (v : Value) (bs : List Nat), e = .returned v ∧ OwV w' w.heap.size d v bs ∧ bs.Nodup ∧ Below w.heap.size w w'
end Go.Proofs.Ytbnfdjhcakimhaa

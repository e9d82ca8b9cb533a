/- Structs and rows under way: what has been laid so far is owned. -/
import Derived.Test.YtbnfdjhcakimhaaZDv
import Derived.Test.YtbnfdjhcakimhaaProg
import Derived.Laws.MakeOwn
import Derived.Laws.ResultCell
namespace Go.Proofs.Ytbnfdjhcakimhaa
open Go.RowKit Go.Lib

theorem calls_gen {P : Program} {f : Nat} {args : Array Value} {W : World} {R : Ending → World → Prop} (Q : World → Prop) (hQ : Q W) (h : ∀ W', Q W' → Calls P f args W' R) : Calls P f args W R := h W hQ
theorem Whole.far {w : World} {g : Nat} {t : TypeId} {cs : Array Value} (h : Whole w g t cs) {b : Nat} (hne : g ≠ b) (i : Nat) (v : Value) : Whole (w.setCell ⟨b, i, none⟩ v) g t cs := by
  unfold Whole at h ⊢
  rw [Below.heap_setCell _ _ _ _ (by exact hne)]
  exact h
theorem OwVs_set {w : World} {B : Nat} {ds : List DV} {vs : List Value} {bs : List Nat} (h : OwVs w B ds vs bs) {g : Nat} (hg : g < B) (i : Nat) (v : Value) : OwVs (w.setCell ⟨g, i, none⟩ v) B ds vs bs :=
  OwVs_frame ds (fun b hb => Below.heap_setCell _ _ _ _ (by have := (OwVs_lt ds h b hb).1; exact (show b ≠ g by omega))) h
theorem OwVs_plain {w : World} {B : Nat} {ds : List DV} {vs : List Value} {bs : List Nat} (h : OwVs w B ds vs bs) (u : Value) : OwVs w B (ds ++ [.pl u]) (vs ++ [u]) bs := by
  have h2 : OwVs w B [.pl u] [u] [] := by rw [OwVs]; exact ⟨u, [], [], [], rfl, rfl, by rw [OwV]; exact ⟨rfl, rfl⟩, by rw [OwVs]; exact ⟨rfl, rfl⟩⟩
  have h3 := OwVs_app h h2
  rwa [List.append_nil] at h3
theorem OwVs_start (w : World) (B : Nat) : OwVs w B [] [] [] := by rw [OwVs]; exact ⟨rfl, rfl⟩
theorem OwVs_struct {W W' : World} {B : Nat} {ds ds2 : List DV} {vs vs2 : List Value} {bs b2 : List Nat} (h : OwVs W B ds vs bs) (hn : bs.Nodup) (hb : Below W.heap.size W W') (h2 : OwVs W' W.heap.size ds2 vs2 b2) (hn2 : b2.Nodup) (hB : B ≤ W.heap.size) :
    OwVs W' B (ds ++ ds2) (vs ++ vs2) (bs ++ b2) ∧ (bs ++ b2).Nodup := by
  refine ⟨OwVs_app (OwVs_below h hb) (OwVs_wide hB ds2 h2), ?_⟩
  rw [List.nodup_append]
  refine ⟨hn, hn2, fun a ha c hc e => ?_⟩
  have h3 := (OwVs_lt ds h a ha).2
  have h4 := (OwVs_lt ds2 h2 c hc).1
  omega
theorem OwVs_row {W W' : World} {B : Nat} {ds : List DV} {d : DV} {vs : List Value} {v : Value} {bs b2 : List Nat} (h : OwVs W B ds vs bs) (hn : bs.Nodup) (hb : Below W.heap.size W W') (h2 : OwV W' W.heap.size d v b2) (hn2 : b2.Nodup) (hB : B ≤ W.heap.size) :
    OwVs W' B (ds ++ [d]) (vs ++ [v]) (bs ++ b2) ∧ (bs ++ b2).Nodup :=
  OwVs_struct h hn hb (by rw [OwVs]; exact ⟨v, [], b2, [], rfl, by rw [List.append_nil], h2, by rw [OwVs]; exact ⟨rfl, rfl⟩⟩) hn2 hB

theorem OwV_shape {w : World} {B k n : Nat} {e : TypeId} {xs : List (List DV)} {v : Value} {bs : List Nat} (h : OwV w B (.row e k xs) v bs) (hn : xs.length = n) : ∃ A c, v = .slice A n c := by
  rw [OwV] at h
  obtain ⟨vs, bs', h1, _, _⟩ := h
  rw [hn] at h1
  rcases h1.2 with ⟨rfl, h0⟩ | ⟨g, cap, cur, rfl, _⟩
  · exact ⟨none, 0, by rw [h0]⟩
  · exact ⟨_, cap, rfl⟩

/-- Cells set one after another. -/
def setAt (cs : Array Value) (o : Nat) : List Value → Array Value
  | [] => cs
  | v :: r => setAt (cs.setIfInBounds o v) (o + 1) r
theorem setAt_size : ∀ (vs : List Value) (cs : Array Value) (o : Nat), (setAt cs o vs).size = cs.size
  | [], _, _ => rfl
  | v :: r, cs, o => by rw [setAt, setAt_size r]; simp
theorem setAt_take : ∀ (vs : List Value) (cs : Array Value) (o : Nat), o + vs.length ≤ cs.size → (setAt cs o vs).toList.take (o + vs.length) = cs.toList.take o ++ vs
  | [], cs, o, _ => by simp [setAt]
  | v :: r, cs, o, h => by
    rw [List.length_cons] at h
    have h1 := setAt_take r (cs.setIfInBounds o v) (o + 1) (by simp; omega)
    rw [setAt, List.length_cons, show o + (r.length + 1) = o + 1 + r.length by omega, h1]
    have h2 : (cs.setIfInBounds o v).toList.take (o + 1) = cs.toList.take o ++ [v] := by
      rw [Array.toList_setIfInBounds, List.take_succ_eq_append_getElem (by simp; omega), List.take_set_of_le (Nat.le_refl _)]
      simp
    rw [h2, List.append_assoc]
    rfl
theorem Whole.own {w : World} {g n K : Nat} {t : TypeId} {cs : Array Value} (h : Whole w g t cs) (hs : cs.size = n * K) (hn : n ≤ maxLen) : w.ownsRow g t K (.slice (some ⟨g, 0, none⟩) n n) n cs.toList :=
  ⟨by simpa using hs, .inr ⟨g, n, cs, rfl, Nat.le_refl _, h, Nat.le_refl _, hn, hs, List.take_of_length_le (by simp [hs])⟩⟩
/-- A row that has been filled. -/
theorem OwV_filled {w : World} {g n K : Nat} {t : TypeId} {cs : Array Value} {xs : List (List DV)} {bs : List Nat} (h : Whole w g t cs) (hs : cs.size = n * K) (hn : n ≤ maxLen) (hx : xs.length = n) (hE : OwVE w (g + 1) K xs cs.toList bs) (hnd : bs.Nodup) :
    OwV w g (.row t K xs) (.slice (some ⟨g, 0, none⟩) n n) (g :: bs) ∧ (g :: bs).Nodup := by
  refine ⟨?_, List.nodup_cons.2 ⟨fun hm => by have := (OwVE_lt xs hE g hm).1; omega, hnd⟩⟩
  rw [OwV]
  exact ⟨cs.toList, bs, by rw [hx]; exact h.own hs hn, OwVE_wide (Nat.le_succ g) xs hE, rfl⟩
/-- One element more of a row that is being filled. -/
theorem OwVE_fill {wr w1 w2 : World} {g K k : Nat} {cs : Array Value} {xs : List (List DV)} {x : List DV} {vs : List Value} {bs b2 : List Nat} (hE : OwVE wr (g + 1) K xs (cs.toList.take (k * K)) bs) (hn : bs.Nodup) (hb1 : Below wr.heap.size wr w1) (hg : g < wr.heap.size)
    (hx : OwVs w1 wr.heap.size x vs b2) (hn2 : b2.Nodup) (hk : x.length = K) (hcs : k * K + K ≤ cs.size) (h2 : ∀ b, b ≠ g → w2.heap[b]? = w1.heap[b]?) :
    OwVE w2 (g + 1) K (xs ++ [x]) ((setAt cs (k * K) vs).toList.take ((k + 1) * K)) (bs ++ b2) ∧ (bs ++ b2).Nodup := by
  have hv := OwVs_length hx
  have e : (setAt cs (k * K) vs).toList.take ((k + 1) * K) = cs.toList.take (k * K) ++ vs := by
    have := setAt_take vs cs (k * K) (by omega)
    rw [hv, hk] at this
    rw [Nat.add_mul, Nat.one_mul]
    exact this
  rw [e]
  refine ⟨OwVE_snoc (OwVE_frame xs (fun b hm => ?_) hE) hk (OwVs_frame x (fun b hm => h2 b ?_) (OwVs_wide (by omega) x hx)), ?_⟩
  · have := OwVE_lt xs hE b hm
    rw [h2 b (by omega)]
    exact hb1.block b this.2
  · have := (OwVs_lt x hx b hm).1
    omega
  · rw [List.nodup_append]
    refine ⟨hn, hn2, fun a ha c hc e => ?_⟩
    have h3 := (OwVE_lt xs hE a ha).2
    have h4 := (OwVs_lt x hx c hc).1
    omega
end Go.Proofs.Ytbnfdjhcakimhaa

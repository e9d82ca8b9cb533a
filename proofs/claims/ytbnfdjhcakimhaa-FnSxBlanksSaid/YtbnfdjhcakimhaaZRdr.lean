/- The program's reader as it lies in memory. -/
import Derived.Test.YtbnfdjhcakimhaaZOw
import Derived.Test.YtbnfdjhcakimhaaZMachP
import Derived.Test.YtbnfdjhcakimhaaQ1
namespace Go.Proofs.Ytbnfdjhcakimhaa
open Go.RowKit Go.Lib

/-- The reader at G: a row of lists, its own row and all of theirs apart, from B on. -/
structure Rdr (w : World) (G B : Nat) (S : St) (vo : Value) (vs : List Value) (bs : List Nat) : Prop where
  cells : Whole w G 46 #[vo, .int .i64 S.z]
  row : w.ownsRow B 24 1 vo (S.ini.length + 1) vs
  levs : Levs w B (S.ini.reverse ++ [S.top]) vs bs
  nodup : (vo.ownBlock.toList ++ bs).Nodup
  inB : ∀ b ∈ vo.ownBlock.toList ++ bs, B ≤ b ∧ b < w.heap.size
/-- What a call of a method keeps. -/
structure Kept (G B : Nat) (w w' : World) : Prop where
  os : w'.os = w.os
  tape : w'.tape = w.tape
  output : w'.output = w.output
  size : w.heap.size ≤ w'.heap.size
  low : ∀ b, b < w.heap.size → b ≠ G → b < B → w'.heap[b]? = w.heap[b]?
  iter : ∀ (b : Nat) (s : ByteArray) (p : Nat), w.heap[b]? = some (Obj.stringIter s p) → w'.heap[b]? = w.heap[b]?
theorem Kept.refl (G B : Nat) (w : World) : Kept G B w w := ⟨rfl, rfl, rfl, Nat.le_refl _, fun _ _ _ _ => rfl, fun _ _ _ _ => rfl⟩
theorem Kept.trans {G B : Nat} {a b c : World} (h : Kept G B a b) (k : Kept G B b c) : Kept G B a c :=
  ⟨k.os.trans h.os, k.tape.trans h.tape, k.output.trans h.output, Nat.le_trans h.size k.size, fun i h1 h2 h3 => (k.low i (Nat.lt_of_lt_of_le h1 h.size) h2 h3).trans (h.low i h1 h2 h3),
    fun i s p hi => (k.iter i s p ((h.iter i s p hi).trans hi)).trans (h.iter i s p hi)⟩
theorem Kept.of_below {G B : Nat} {w w' : World} (h : Below w.heap.size w w') : Kept G B w w' :=
  ⟨h.os, h.tape, h.output, h.size, fun b hb _ _ => h.block b hb, fun b _ _ hb => h.block b (Array.getElem?_eq_some_iff.1 hb).1⟩
theorem owned_cells {w : World} {B size n : Nat} {e : TypeId} {v : Value} {xs : List Value} (h : w.ownsRow B e size v n xs) {g : Nat} (hg : v.ownBlock = some g) : ∃ cur, w.heap[g]? = some (.cells cur e (0, 0)) := by
  rcases h.2 with ⟨rfl, _⟩ | ⟨g', cap, cur, rfl, _, hc, _⟩
  · simp [Value.ownBlock] at hg
  · have : g' = g := by simpa [Value.ownBlock] using hg
    subst this
    exact ⟨cur, hc⟩

mutual
theorem OwX_cells {w : World} {B : Nat} : ∀ (x : SX) {v0 v1 : Value} {bs : List Nat}, OwX w B x v0 v1 bs → ∀ b ∈ bs, ∃ cur, w.heap[b]? = some (.cells cur 26 (0, 0))
  | .mk a l, v0, v1, bs, h, b, hb => by
    rw [OwX] at h
    obtain ⟨h0, xs, bs', h1, h2, rfl⟩ := h
    rcases List.mem_append.1 hb with h | h
    · refine owned_cells h1 ?_
      cases hv : v1.ownBlock with
      | none => rw [hv] at h; simp at h
      | some c => rw [hv] at h; simp at h; rw [h]
    · exact OwE_cells l h2 b h
theorem OwE_cells {w : World} {B : Nat} : ∀ (l : List SX) {xs : List Value} {bs : List Nat}, OwE w B l xs bs → ∀ b ∈ bs, ∃ cur, w.heap[b]? = some (.cells cur 26 (0, 0))
  | [], xs, bs, h, b, hb => by rw [OwE] at h; rw [h.2] at hb; simp at hb
  | x :: r, xs, bs, h, b, hb => by
    rw [OwE] at h
    obtain ⟨v0, v1, xs', b1, b2, rfl, rfl, h1, h2⟩ := h
    rcases List.mem_append.1 hb with h | h
    · exact OwX_cells x h1 b h
    · exact OwE_cells r h2 b h
end
theorem Levs.cells {w : World} {B : Nat} : ∀ {st : List (List SX)} {vs : List Value} {bs : List Nat}, Levs w B st vs bs → ∀ b ∈ bs, ∃ cur, w.heap[b]? = some (.cells cur 26 (0, 0))
  | [], vs, bs, h, b, hb => by rw [h.2] at hb; simp at hb
  | t :: r, vs, bs, h, b, hb => by
    obtain ⟨v, vs', b1, b2, rfl, rfl, h1, h2⟩ := h
    rcases List.mem_append.1 hb with h | h
    · exact OwX_cells _ h1 b h
    · exact h2.cells b h
theorem not_reader {w : World} {G b : Nat} {cs cur : Array Value} {t : TypeId} (hw : Whole w G 46 cs) (h : w.heap[b]? = some (.cells cur t (0, 0))) (ht : t ≠ 46) : b ≠ G := by
  rintro rfl
  unfold Whole at hw
  rw [hw] at h
  injection h with h
  injection h with _ h
  exact ht h.symm
theorem Rdr.ne {w : World} {G B : Nat} {S : St} {vo : Value} {vs : List Value} {bs : List Nat} (h : Rdr w G B S vo vs bs) : ∀ b ∈ vo.ownBlock.toList ++ bs, b ≠ G := by
  intro b hb
  rcases List.mem_append.1 hb with h1 | h1
  · obtain ⟨cur, hc⟩ := owned_cells h.row (g := b) (by
      cases hv : vo.ownBlock with
      | none => rw [hv] at h1; simp at h1
      | some c => rw [hv] at h1; simp at h1; rw [h1])
    exact not_reader h.cells hc (by decide)
  · obtain ⟨cur, hc⟩ := h.levs.cells b h1
    exact not_reader h.cells hc (by decide)
/-- One expression more in the innermost list. -/
theorem rdr_add {w w8 : World} {G B : Nat} {S : St} {vo v v' : Value} {vs0 : List Value} {b0 bt bx : List Nat} {x : SX} {v1 : Value} {g' : Nat}
    (hcells : Whole w8 G 46 #[vo, .int .i64 (S.z + 1 : Nat)]) (hrow : w8.ownsRow B 24 1 vo (S.ini.length + 1) (vs0 ++ [v']))
    (hlev : Levs w B S.ini.reverse vs0 b0) (htop : OwX w B (.mk ByteArray.empty S.top) (.string ByteArray.empty) v bt) (hx : OwX w B x (.string x.atom) v1 bx)
    (hnd : (vo.ownBlock.toList ++ (b0 ++ bt) ++ bx).Nodup) (hin : ∀ b ∈ vo.ownBlock.toList ++ (b0 ++ bt) ++ bx, B ≤ b ∧ b < w.heap.size) (hG : ∀ b ∈ vo.ownBlock.toList ++ (b0 ++ bt) ++ bx, b ≠ G)
    (hv' : ∀ xs, w.ownsRow B 26 2 v S.top.length xs → w8.ownsRow B 26 2 v' (S.top.length + 1) (xs ++ [.string x.atom, v1]))
    (hkeep : ∀ b, b < w.heap.size → b ≠ G → vo.ownBlock ≠ some b → v.ownBlock ≠ some b → w8.heap[b]? = w.heap[b]?)
    (hblk : v'.ownBlock = v.ownBlock ∨ v'.ownBlock = some g') (hg' : w.heap.size ≤ g' ∧ g' < w8.heap.size) :
    ∃ bs', Rdr w8 G B ⟨S.ini, S.top ++ [x], S.z + 1⟩ vo (vs0 ++ [v']) bs' := by
  rw [OwX] at htop
  obtain ⟨-, xs, bt', hown, hel, rfl⟩ := htop
  have hown8 := hv' xs hown
  rw [List.nodup_append, List.nodup_append, List.nodup_append, List.nodup_append] at hnd
  obtain ⟨⟨n1, ⟨n2, ⟨n3, n4, n5⟩, n6⟩, n7⟩, n8, n9⟩ := hnd
  have in1 : ∀ b ∈ vo.ownBlock.toList, B ≤ b ∧ b < w.heap.size := fun b hb => hin b (by simp [hb])
  have in2 : ∀ b ∈ b0, B ≤ b ∧ b < w.heap.size := fun b hb => hin b (by simp [hb])
  have in3 : ∀ b ∈ v.ownBlock.toList, B ≤ b ∧ b < w.heap.size := fun b hb => hin b (by simp [hb])
  have in4 : ∀ b ∈ bt', B ≤ b ∧ b < w.heap.size := fun b hb => hin b (by simp [hb])
  have in5 : ∀ b ∈ bx, B ≤ b ∧ b < w.heap.size := fun b hb => hin b (by simp [hb])
  have same : ∀ b, (B ≤ b ∧ b < w.heap.size) → b ≠ G → b ∉ vo.ownBlock.toList → b ∉ v.ownBlock.toList → w8.heap[b]? = w.heap[b]? := fun b hb h0 h1 h2 =>
    hkeep b hb.2 h0 (fun e => h1 (by rw [e]; simp)) (fun e => h2 (by rw [e]; simp))
  have f0 : ∀ b ∈ b0, w8.heap[b]? = w.heap[b]? := fun b hb => same b (in2 b hb) (hG b (by simp [hb])) (fun h => n7 b h b (by simp [hb]) rfl) (fun h => n6 b hb b (by simp [h]) rfl)
  have f1 : ∀ b ∈ bt', w8.heap[b]? = w.heap[b]? := fun b hb => same b (in4 b hb) (hG b (by simp [hb])) (fun h => n7 b h b (by simp [hb]) rfl) (fun h => n5 b h b hb rfl)
  have f2 : ∀ b ∈ bx, w8.heap[b]? = w.heap[b]? := fun b hb => same b (in5 b hb) (hG b (by simp [hb])) (fun h => n9 b (by simp [h]) b hb rfl) (fun h => n9 b (by simp [h]) b hb rfl)
  have hlt8 := hown8.lt
  have hnew : ∀ b ∈ v'.ownBlock.toList, b ∈ v.ownBlock.toList ∨ b = g' := fun b hb => by
    rcases hblk with h | h
    · rw [h] at hb; exact .inl hb
    · rw [h] at hb; simp at hb; exact .inr hb
  have hlow : ∀ b ∈ v'.ownBlock.toList, ∀ (l : List Nat), (∀ c ∈ l, c < w.heap.size) → (∀ c ∈ v.ownBlock.toList, c ∉ l) → b ∉ l := fun b hb l hl hn hm => by
    rcases hnew b hb with h | h
    · exact hn b h hm
    · have := hl b hm; omega
  refine ⟨b0 ++ (v'.ownBlock.toList ++ (bt' ++ bx)), hcells, hrow, ?_, ?_, ?_⟩
  · refine (hlev.frame f0).snoc ?_
    rw [OwX]
    exact ⟨rfl, _, _, by rw [List.length_append]; exact hown8, OwE_snoc (OwE_frame _ f1 hel) (OwX_frame _ f2 hx), rfl⟩
  · rw [List.nodup_append, List.nodup_append, List.nodup_append, List.nodup_append]
    refine ⟨n1, ⟨n2, ⟨?_, ⟨n4, n8, fun a ha b hb e => n9 a (by simp [ha]) b hb e⟩, ?_⟩, ?_⟩, ?_⟩
    · cases v'.ownBlock <;> simp
    · intro a ha b hb e
      subst e
      refine hlow a ha (bt' ++ bx) ?_ ?_ hb
      · intro c hc
        rcases List.mem_append.1 hc with h | h
        · exact (in4 c h).2
        · exact (in5 c h).2
      · intro c hc hm
        rcases List.mem_append.1 hm with h | h
        · exact n5 c hc c h rfl
        · exact n9 c (by simp [hc]) c h rfl
    · intro a ha b hb e
      subst e
      rcases List.mem_append.1 hb with h | h
      · exact hlow a h b0 (fun c hc => (in2 c hc).2) (fun c hc hm => n6 c hm c (by simp [hc]) rfl) ha
      · rcases List.mem_append.1 h with h | h
        · exact n6 a ha a (by simp [h]) rfl
        · exact n9 a (by simp [ha]) a h rfl
    · intro a ha b hb e
      subst e
      rcases List.mem_append.1 hb with h | h
      · exact n7 a ha a (by simp [h]) rfl
      · rcases List.mem_append.1 h with h | h
        · exact hlow a h vo.ownBlock.toList (fun c hc => (in1 c hc).2) (fun c hc hm => n7 c hm c (by simp [hc]) rfl) ha
        · rcases List.mem_append.1 h with h | h
          · exact n7 a ha a (by simp [h]) rfl
          · exact n9 a (by simp [ha]) a h rfl
  · intro b hb
    rcases List.mem_append.1 hb with h | h
    · have := in1 b h; omega
    · rcases List.mem_append.1 h with h | h
      · have := in2 b h; omega
      · rcases List.mem_append.1 h with h | h
        · have he : v'.ownBlock = some b := by
            cases hv : v'.ownBlock with
            | none => rw [hv] at h; simp at h
            | some c => rw [hv] at h; simp at h; rw [h]
          exact hlt8 b he
        · rcases List.mem_append.1 h with h | h
          · have := in4 b h; omega
          · have := in5 b h; omega
end Go.Proofs.Ytbnfdjhcakimhaa

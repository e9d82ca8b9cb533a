/- Texts that the claims share, joined. -/
import Derived.Test.YtbcfeoobhemdcaaQ1
import Derived.Test.YtbcfeoobhemdcaaQ2
import Derived.Deep.RegionLaw
import Derived.Deep.AppendLies
import Derived.RegionTactic
import Derived.Deep.CutRange
namespace Go.Proofs.Ytbcfeoobhemdcaa
open Go.RowKit Go.Lib

/-- The reader at G: a row of lists, its own row and all of theirs apart, from B on. -/
structure Rdr (w : World) (G B : Nat) (S : St) (vo : Value) (vs : List Value) (bs : List Nat) : Prop where
  cells : Whole w G 70 #[vo, .int .i64 S.z]
  row : w.ownsRow B 24 1 vo (S.ini.length + 1) vs
  levs : Levs w B (S.ini.reverse ++ [S.top]) vs bs
  nodup : (vo.ownBlock.toList ++ bs).Nodup
  inB : ∀ b ∈ vo.ownBlock.toList ++ bs, B ≤ b ∧ b < w.heap.size
/-- What a call of a method keeps. -/
structure Kept (G B : Nat) (w w' : World) : Prop where
  os : w'.os = w.os
  tape : w'.tape = w.tape
  output : w'.output = w.output
  size : w.heap.size ≤ w'.heap.size
  low : ∀ b, b < w.heap.size → b ≠ G → b < B → w'.heap[b]? = w.heap[b]?
  iter : ∀ (b : Nat) (s : ByteArray) (p : Nat), w.heap[b]? = some (Obj.stringIter s p) → w'.heap[b]? = w.heap[b]?
theorem Kept.refl (G B : Nat) (w : World) : Kept G B w w := ⟨rfl, rfl, rfl, Nat.le_refl _, fun _ _ _ _ => rfl, fun _ _ _ _ => rfl⟩
theorem Kept.trans {G B : Nat} {a b c : World} (h : Kept G B a b) (k : Kept G B b c) : Kept G B a c :=
  ⟨k.os.trans h.os, k.tape.trans h.tape, k.output.trans h.output, Nat.le_trans h.size k.size, fun i h1 h2 h3 => (k.low i (Nat.lt_of_lt_of_le h1 h.size) h2 h3).trans (h.low i h1 h2 h3),
    fun i s p hi => (k.iter i s p ((h.iter i s p hi).trans hi)).trans (h.iter i s p hi)⟩
theorem Kept.of_below {G B : Nat} {w w' : World} (h : Below w.heap.size w w') : Kept G B w w' :=
  ⟨h.os, h.tape, h.output, h.size, fun b hb _ _ => h.block b hb, fun b _ _ hb => h.block b (Array.getElem?_eq_some_iff.1 hb).1⟩
theorem owned_cells {w : World} {B size n : Nat} {e : TypeId} {v : Value} {xs : List Value} (h : w.ownsRow B e size v n xs) {g : Nat} (hg : v.ownBlock = some g) : ∃ cur, w.heap[g]? = some (.cells cur e (0, 0)) := by
  rcases h.2 with ⟨rfl, _⟩ | ⟨g', cap, cur, rfl, _, hc, _⟩
  · simp [Value.ownBlock] at hg
  · have : g' = g := by simpa [Value.ownBlock] using hg
    subst this
    exact ⟨cur, hc⟩

mutual
theorem OwX_cells {w : World} {B : Nat} : ∀ (x : SX) {v0 v1 : Value} {bs : List Nat}, OwX w B x v0 v1 bs → ∀ b ∈ bs, ∃ cur, w.heap[b]? = some (.cells cur 26 (0, 0))
  | .mk a l, v0, v1, bs, h, b, hb => by
    rw [OwX] at h
    obtain ⟨h0, xs, bs', h1, h2, rfl⟩ := h
    rcases List.mem_append.1 hb with h | h
    · refine owned_cells h1 ?_
      cases hv : v1.ownBlock with
      | none => rw [hv] at h; simp at h
      | some c => rw [hv] at h; simp at h; rw [h]
    · exact OwE_cells l h2 b h
theorem OwE_cells {w : World} {B : Nat} : ∀ (l : List SX) {xs : List Value} {bs : List Nat}, OwE w B l xs bs → ∀ b ∈ bs, ∃ cur, w.heap[b]? = some (.cells cur 26 (0, 0))
  | [], xs, bs, h, b, hb => by rw [OwE] at h; rw [h.2] at hb; simp at hb
  | x :: r, xs, bs, h, b, hb => by
    rw [OwE] at h
    obtain ⟨v0, v1, xs', b1, b2, rfl, rfl, h1, h2⟩ := h
    rcases List.mem_append.1 hb with h | h
    · exact OwX_cells x h1 b h
    · exact OwE_cells r h2 b h
end
theorem Levs.cells {w : World} {B : Nat} : ∀ {st : List (List SX)} {vs : List Value} {bs : List Nat}, Levs w B st vs bs → ∀ b ∈ bs, ∃ cur, w.heap[b]? = some (.cells cur 26 (0, 0))
  | [], vs, bs, h, b, hb => by rw [h.2] at hb; simp at hb
  | t :: r, vs, bs, h, b, hb => by
    obtain ⟨v, vs', b1, b2, rfl, rfl, h1, h2⟩ := h
    rcases List.mem_append.1 hb with h | h
    · exact OwX_cells _ h1 b h
    · exact h2.cells b h
theorem not_reader {w : World} {G b : Nat} {cs cur : Array Value} {t : TypeId} (hw : Whole w G 70 cs) (h : w.heap[b]? = some (.cells cur t (0, 0))) (ht : t ≠ 70) : b ≠ G := by
  rintro rfl
  unfold Whole at hw
  rw [hw] at h
  injection h with h
  injection h with _ h
  exact ht h.symm
theorem Rdr.ne {w : World} {G B : Nat} {S : St} {vo : Value} {vs : List Value} {bs : List Nat} (h : Rdr w G B S vo vs bs) : ∀ b ∈ vo.ownBlock.toList ++ bs, b ≠ G := by
  intro b hb
  rcases List.mem_append.1 hb with h1 | h1
  · obtain ⟨cur, hc⟩ := owned_cells h.row (g := b) (by
      cases hv : vo.ownBlock with
      | none => rw [hv] at h1; simp at h1
      | some c => rw [hv] at h1; simp at h1; rw [h1])
    exact not_reader h.cells hc (by decide)
  · obtain ⟨cur, hc⟩ := h.levs.cells b h1
    exact not_reader h.cells hc (by decide)
/-- One expression more in the innermost list. -/
theorem rdr_add {w w8 : World} {G B : Nat} {S : St} {vo v v' : Value} {vs0 : List Value} {b0 bt bx : List Nat} {x : SX} {v1 : Value} {g' : Nat}
    (hcells : Whole w8 G 70 #[vo, .int .i64 (S.z + 1 : Nat)]) (hrow : w8.ownsRow B 24 1 vo (S.ini.length + 1) (vs0 ++ [v']))
    (hlev : Levs w B S.ini.reverse vs0 b0) (htop : OwX w B (.mk ByteArray.empty S.top) (.string ByteArray.empty) v bt) (hx : OwX w B x (.string x.atom) v1 bx)
    (hnd : (vo.ownBlock.toList ++ (b0 ++ bt) ++ bx).Nodup) (hin : ∀ b ∈ vo.ownBlock.toList ++ (b0 ++ bt) ++ bx, B ≤ b ∧ b < w.heap.size) (hG : ∀ b ∈ vo.ownBlock.toList ++ (b0 ++ bt) ++ bx, b ≠ G)
    (hv' : ∀ xs, w.ownsRow B 26 2 v S.top.length xs → w8.ownsRow B 26 2 v' (S.top.length + 1) (xs ++ [.string x.atom, v1]))
    (hkeep : ∀ b, b < w.heap.size → b ≠ G → vo.ownBlock ≠ some b → v.ownBlock ≠ some b → w8.heap[b]? = w.heap[b]?)
    (hblk : v'.ownBlock = v.ownBlock ∨ v'.ownBlock = some g') (hg' : w.heap.size ≤ g' ∧ g' < w8.heap.size) :
    ∃ bs', Rdr w8 G B ⟨S.ini, S.top ++ [x], S.z + 1⟩ vo (vs0 ++ [v']) bs' := by
  rw [OwX] at htop
  obtain ⟨-, xs, bt', hown, hel, rfl⟩ := htop
  have hown8 := hv' xs hown
  rw [List.nodup_append, List.nodup_append, List.nodup_append, List.nodup_append] at hnd
  obtain ⟨⟨n1, ⟨n2, ⟨n3, n4, n5⟩, n6⟩, n7⟩, n8, n9⟩ := hnd
  have in1 : ∀ b ∈ vo.ownBlock.toList, B ≤ b ∧ b < w.heap.size := fun b hb => hin b (by simp [hb])
  have in2 : ∀ b ∈ b0, B ≤ b ∧ b < w.heap.size := fun b hb => hin b (by simp [hb])
  have in3 : ∀ b ∈ v.ownBlock.toList, B ≤ b ∧ b < w.heap.size := fun b hb => hin b (by simp [hb])
  have in4 : ∀ b ∈ bt', B ≤ b ∧ b < w.heap.size := fun b hb => hin b (by simp [hb])
  have in5 : ∀ b ∈ bx, B ≤ b ∧ b < w.heap.size := fun b hb => hin b (by simp [hb])
  have same : ∀ b, (B ≤ b ∧ b < w.heap.size) → b ≠ G → b ∉ vo.ownBlock.toList → b ∉ v.ownBlock.toList → w8.heap[b]? = w.heap[b]? := fun b hb h0 h1 h2 =>
    hkeep b hb.2 h0 (fun e => h1 (by rw [e]; simp)) (fun e => h2 (by rw [e]; simp))
  have f0 : ∀ b ∈ b0, w8.heap[b]? = w.heap[b]? := fun b hb => same b (in2 b hb) (hG b (by simp [hb])) (fun h => n7 b h b (by simp [hb]) rfl) (fun h => n6 b hb b (by simp [h]) rfl)
  have f1 : ∀ b ∈ bt', w8.heap[b]? = w.heap[b]? := fun b hb => same b (in4 b hb) (hG b (by simp [hb])) (fun h => n7 b h b (by simp [hb]) rfl) (fun h => n5 b h b hb rfl)
  have f2 : ∀ b ∈ bx, w8.heap[b]? = w.heap[b]? := fun b hb => same b (in5 b hb) (hG b (by simp [hb])) (fun h => n9 b (by simp [h]) b hb rfl) (fun h => n9 b (by simp [h]) b hb rfl)
  have hlt8 := hown8.lt
  have hnew : ∀ b ∈ v'.ownBlock.toList, b ∈ v.ownBlock.toList ∨ b = g' := fun b hb => by
    rcases hblk with h | h
    · rw [h] at hb; exact .inl hb
    · rw [h] at hb; simp at hb; exact .inr hb
  have hlow : ∀ b ∈ v'.ownBlock.toList, ∀ (l : List Nat), (∀ c ∈ l, c < w.heap.size) → (∀ c ∈ v.ownBlock.toList, c ∉ l) → b ∉ l := fun b hb l hl hn hm => by
    rcases hnew b hb with h | h
    · exact hn b h hm
    · have := hl b hm; omega
  refine ⟨b0 ++ (v'.ownBlock.toList ++ (bt' ++ bx)), hcells, hrow, ?_, ?_, ?_⟩
  · refine (hlev.frame f0).snoc ?_
    rw [OwX]
    exact ⟨rfl, _, _, by rw [List.length_append]; exact hown8, OwE_snoc (OwE_frame _ f1 hel) (OwX_frame _ f2 hx), rfl⟩
  · rw [List.nodup_append, List.nodup_append, List.nodup_append, List.nodup_append]
    refine ⟨n1, ⟨n2, ⟨?_, ⟨n4, n8, fun a ha b hb e => n9 a (by simp [ha]) b hb e⟩, ?_⟩, ?_⟩, ?_⟩
    · cases v'.ownBlock <;> simp
    · intro a ha b hb e
      subst e
      refine hlow a ha (bt' ++ bx) ?_ ?_ hb
      · intro c hc
        rcases List.mem_append.1 hc with h | h
        · exact (in4 c h).2
        · exact (in5 c h).2
      · intro c hc hm
        rcases List.mem_append.1 hm with h | h
        · exact n5 c hc c h rfl
        · exact n9 c (by simp [hc]) c h rfl
    · intro a ha b hb e
      subst e
      rcases List.mem_append.1 hb with h | h
      · exact hlow a h b0 (fun c hc => (in2 c hc).2) (fun c hc hm => n6 c hm c (by simp [hc]) rfl) ha
      · rcases List.mem_append.1 h with h | h
        · exact n6 a ha a (by simp [h]) rfl
        · exact n9 a (by simp [ha]) a h rfl
    · intro a ha b hb e
      subst e
      rcases List.mem_append.1 hb with h | h
      · exact n7 a ha a (by simp [h]) rfl
      · rcases List.mem_append.1 h with h | h
        · exact hlow a h vo.ownBlock.toList (fun c hc => (in1 c hc).2) (fun c hc hm => n7 c hm c (by simp [hc]) rfl) ha
        · rcases List.mem_append.1 h with h | h
          · exact n7 a ha a (by simp [h]) rfl
          · exact n9 a (by simp [ha]) a h rfl
  · intro b hb
    rcases List.mem_append.1 hb with h | h
    · have := in1 b h; omega
    · rcases List.mem_append.1 h with h | h
      · have := in2 b h; omega
      · rcases List.mem_append.1 h with h | h
        · have he : v'.ownBlock = some b := by
            cases hv : v'.ownBlock with
            | none => rw [hv] at h; simp at h
            | some c => rw [hv] at h; simp at h; rw [h]
          exact hlt8 b he
        · rcases List.mem_append.1 h with h | h
          · have := in4 b h; omega
          · have := in5 b h; omega
end Go.Proofs.Ytbcfeoobhemdcaa
namespace Go.Proofs.Ytbcfeoobhemdcaa
open Go.RowKit Go.Lib

/-- What 'add' leaves. -/
def Added (G B : Nat) (S : St) (x : SX) (w : World) (e : Ending) (w' : World) : Prop :=
  Kept G B w w' ∧ match addS x S with
    | some S' => e = .returned (.bool true) ∧ ∃ vo vs bs, Rdr w' G B S' vo vs bs
    | none => e = .returned (.bool false)

/-- What the last operations leave of what was there. -/
theorem behind_append {w2 w7 : World} {v : Value} {o : Obj} {G ob last n cap : Nat} {z : Int} {vs0 : List Value} {B g' cap' m : Nat} {xs news : List Value}
    (hgrow : (w2.alloc o).grownBy w7 v.ownBlock) (hcells : Whole w2 G 70 #[.slice (some ⟨ob, 0, none⟩) n cap, .int .i64 z]) (hrow : w2.ownsRow B 24 1 (.slice (some ⟨ob, 0, none⟩) n cap) n (vs0 ++ [v]))
    (hl : vs0.length = last) (hn : n = last + 1) (hGv : v.ownBlock ≠ some G) (hov : v.ownBlock ≠ some ob)
    (hown : w7.ownsRow B 26 2 (.slice (some ⟨g', 0, none⟩) m cap') m (xs ++ news)) :
    Whole w7 G 70 #[.slice (some ⟨ob, 0, none⟩) n cap, .int .i64 z] ∧ w7.ownsRow B 24 1 (.slice (some ⟨ob, 0, none⟩) n cap) n (vs0 ++ [v]) ∧ w7.cell? ⟨G, 0, none⟩ = some (.slice (some ⟨ob, 0, none⟩) n cap) ∧ w7.cell? ⟨G, 1, none⟩ = some (.int .i64 z) ∧
      w7.cell? ⟨ob, last, none⟩ = some v ∧ w7.frozen? ⟨ob, last, none⟩ = false ∧ g' < w7.heap.size := by
  have hob := (hrow.lt ob rfl).2
  have hG := hcells.lt
  have h7G : Whole w7 G 70 #[.slice (some ⟨ob, 0, none⟩) n cap, .int .i64 z] := (hgrow.block G (by simp; omega) (Ne.symm hGv)).trans ((Below.heap_alloc _ _ _ hG).trans hcells)
  have h7o : w7.ownsRow B 24 1 (.slice (some ⟨ob, 0, none⟩) n cap) n (vs0 ++ [v]) := own_same hrow fun b hb => by
    have : b = ob := by simpa [Value.ownBlock] using hb.symm
    subst this
    exact (hgrow.block b (by simp; omega) (Ne.symm hov)).trans (Below.heap_alloc _ _ _ hob)
  refine ⟨h7G, h7o, by rw [h7G.cell]; rfl, by rw [h7G.cell]; rfl, ?_, h7o.frozenAt last, (hown.lt g' rfl).2⟩
  rw [World.ownsRow.cellAt h7o last (by omega), ← hl]
  simp

theorem keptAlloc' {w : World} {h : Nat} {t : TypeId} {cs : Array Value} (hw : Whole w h t cs) (o : Obj) : Whole (w.alloc o) h t cs := hw.below ((Below.refl w.heap.size w).alloc (Nat.le_refl _) o) hw.lt
theorem news_at {w1 w2 : World} {o : Obj} {t : TypeId} {a b : Value} (hh : w2.heap = ((w1.alloc o).alloc (.cells #[a, b] t)).heap) : ∀ (j : Nat) (u : Value), [a, b][j]? = some u → w2.cell? ((⟨w1.heap.size + 1, 0, none⟩ : Addr).add j) = some u := by
  intro j u hj
  have h := news_sx (w1.alloc o) t a b j u hj
  rw [World.size_alloc] at h
  rw [← h]
  simp only [World.cell?, hh]
theorem one_pair {a b : Value} (ha : a.oneCell' = true) (hb : b.oneCell' = true) : ∀ u ∈ [a, b], u.oneCell' = true := by
  intro u hu
  simp at hu
  rcases hu with rfl | rfl <;> assumption

theorem own_unique {w : World} {B size n : Nat} {e : TypeId} {v : Value} {xs ys : List Value} (h : w.ownsRow B e size v n xs) (k : w.ownsRow B e size v n ys) : xs = ys := by
  rcases h.2 with ⟨rfl, h0⟩ | ⟨g, cap, cur, rfl, _, hg, _, _, _, ht⟩
  · subst h0
    have h1 := h.1
    have k1 := k.1
    rw [Nat.zero_mul] at h1 k1
    rw [List.eq_nil_of_length_eq_zero h1, List.eq_nil_of_length_eq_zero k1]
  · rcases k.2 with ⟨hv, _⟩ | ⟨g', cap', cur', hv, _, hg', _, _, _, ht'⟩
    · simp at hv
    · simp only [Value.slice.injEq, Option.some.injEq, Addr.mk.injEq, and_true, true_and] at hv
      obtain ⟨rfl, rfl⟩ := hv
      rw [hg] at hg'
      injection hg' with hg'
      injection hg' with hg'
      subst hg'
      rw [← ht, ← ht']
/-- What the end of 'add' comes to. -/
theorem add_end {w w8 : World} {G B ob cap n1 c1 : Nat} {A1 : Option Addr} {S : St} {v v' : Value} {vs0 : List Value} {b0 bt bx : List Nat} {x : SX}
    (hcw : Whole w G 70 #[.slice (some ⟨ob, 0, none⟩) (S.ini.length + 1) cap, .int .i64 S.z]) (hrw : w.ownsRow B 24 1 (.slice (some ⟨ob, 0, none⟩) (S.ini.length + 1) cap) (S.ini.length + 1) (vs0 ++ [v]))
    (hlev : Levs w B S.ini.reverse vs0 b0) (htop : OwX w B (.mk ByteArray.empty S.top) (.string ByteArray.empty) v bt) (hx : OwX w B x (.string x.atom) (.slice A1 n1 c1) bx)
    (hnd : ((Value.slice (some ⟨ob, 0, none⟩) (S.ini.length + 1) cap).ownBlock.toList ++ (b0 ++ bt) ++ bx).Nodup) (hin : ∀ b ∈ bx, B ≤ b ∧ b < w.heap.size) (hin1 : ∀ b ∈ (Value.slice (some ⟨ob, 0, none⟩) (S.ini.length + 1) cap).ownBlock.toList ++ (b0 ++ bt), B ≤ b ∧ b < w.heap.size) (hG : ∀ b ∈ (Value.slice (some ⟨ob, 0, none⟩) (S.ini.length + 1) cap).ownBlock.toList ++ (b0 ++ bt) ++ bx, b ≠ G)
    (hos : w8.os = w.os) (htape : w8.tape = w.tape) (hout : w8.output = w.output) (hsz : w.heap.size + 1 ≤ w8.heap.size)
    (hcells : Whole w8 G 70 #[.slice (some ⟨ob, 0, none⟩) (S.ini.length + 1) cap, .int .i64 ((S.z : Int) + 1)]) (hrow : w8.ownsRow B 24 1 (.slice (some ⟨ob, 0, none⟩) (S.ini.length + 1) cap) (S.ini.length + 1) (vs0 ++ [v']))
    {xs0 : List Value} (hxs : w.ownsRow B 26 2 v S.top.length xs0) (hv0 : w8.ownsRow B 26 2 v' (S.top.length + 1) (xs0 ++ [.string x.atom, .slice A1 n1 c1]))
    (hkeep : ∀ b, b < w.heap.size → b ≠ G → b ≠ ob → v.ownBlock ≠ some b → w8.heap[b]? = w.heap[b]?)
    (hblk0 : v'.ownBlock = v.ownBlock ∨ ∃ g', v'.ownBlock = some g' ∧ w.heap.size ≤ g' ∧ g' < w8.heap.size) :
    Added G B S x w (.returned (.bool (decide ((S.z : Int) + 1 ≤ 900)))) w8 := by
  have htop' := htop
  rw [OwX] at htop'
  obtain ⟨-, xs, bt', hownv, -, -⟩ := htop'
  have hvB := hownv.lt
  have hobB := hrw.lt ob rfl
  have hv' : ∀ xs, w.ownsRow B 26 2 v S.top.length xs → w8.ownsRow B 26 2 v' (S.top.length + 1) (xs ++ [.string x.atom, .slice A1 n1 c1]) := fun xs h => by
    rw [own_unique h hxs]; exact hv0
  obtain ⟨g', hblk, hg'⟩ : ∃ g', (v'.ownBlock = v.ownBlock ∨ v'.ownBlock = some g') ∧ w.heap.size ≤ g' ∧ g' < w8.heap.size := by
    rcases hblk0 with h | ⟨g', h1, h2⟩
    · exact ⟨w.heap.size, .inl h, Nat.le_refl _, by omega⟩
    · exact ⟨g', .inr h1, h2⟩
  refine ⟨⟨hos, htape, hout, by omega, fun b h1 h2 h3 => hkeep b h1 h2 (by omega) (fun e => by have := (hvB b e).1; omega), fun b s q hb => ?_⟩, ?_⟩
  · refine hkeep b (Array.getElem?_eq_some_iff.1 hb).1 ?_ ?_ ?_
    · rintro rfl
      unfold Whole at hcw
      rw [hb] at hcw; cases hcw
    · rintro rfl
      obtain ⟨cur, hc⟩ := owned_cells hrw rfl
      rw [hb] at hc; cases hc
    · intro e
      obtain ⟨cur, hc⟩ := owned_cells hownv e
      rw [hb] at hc; cases hc
  · obtain ⟨ini, top, z⟩ := S
    simp only at *
    rw [addS]
    by_cases hz : z + 1 ≤ 900
    · rw [if_pos hz, decide_eq_true (by omega)]
      refine ⟨rfl, ?_⟩
      obtain ⟨bs', h⟩ := rdr_add (S := ⟨ini, top, z⟩) (w := w) (w8 := w8) (G := G) (B := B) (vo := .slice (some ⟨ob, 0, none⟩) (ini.length + 1) cap) (by simpa using hcells) hrow hlev htop hx hnd (fun b hb => by
        rcases List.mem_append.1 hb with h | h
        · exact hin1 b h
        · exact hin b h) hG hv' (fun b h1 h2 h3 h4 => hkeep b h1 h2 (fun e => h3 (by simp [Value.ownBlock, e])) h4) hblk hg'
      exact ⟨_, _, _, h⟩
    · rw [if_neg hz, decide_eq_false (by omega)]

/-- Behind the append and the store of the row's new slice. -/
theorem add_set {w w1 w7 : World} {o1 o2 : Obj} {G B ob cap g' cap' : Nat} {S : St} {v : Value} {vs0 xs news : List Value} {z' : Int}
    (hs1 : w1.heap.size = w.heap.size + 1) (hk1 : ∀ b, b < w.heap.size → b ≠ G → w1.heap[b]? = w.heap[b]?) (hos1 : w1.os = w.os ∧ w1.tape = w.tape ∧ w1.output = w.output)
    (hg : ((w1.alloc o1).alloc o2).grownBy w7 v.ownBlock) (hob : B ≤ ob ∧ ob < w.heap.size) (hGo : ob ≠ G)
    (b1 : Whole w7 G 70 #[.slice (some ⟨ob, 0, none⟩) (S.ini.length + 1) cap, .int .i64 z']) (b2 : w7.ownsRow B 24 1 (.slice (some ⟨ob, 0, none⟩) (S.ini.length + 1) cap) (S.ini.length + 1) (vs0 ++ [v])) (hvl : vs0.length = S.ini.length)
    (b7 : w7.ownsRow B 26 2 (.slice (some ⟨g', 0, none⟩) (S.top.length + 1) cap') (S.top.length + 1) (xs ++ news)) (hat : v.ownBlock = some g' ∨ g' = w1.heap.size + 2) (hov : v.ownBlock ≠ some ob) (hGv : v.ownBlock ≠ some G) (hGlt : G < w.heap.size) :
    ∃ w8, w8 = w7.setCell ⟨ob, S.ini.length, none⟩ (.slice (some ⟨g', 0, none⟩) (S.top.length + 1) cap') ∧ w8.os = w.os ∧ w8.tape = w.tape ∧ w8.output = w.output ∧ w.heap.size + 3 ≤ w8.heap.size ∧
      Whole w8 G 70 #[.slice (some ⟨ob, 0, none⟩) (S.ini.length + 1) cap, .int .i64 z'] ∧ w8.ownsRow B 24 1 (.slice (some ⟨ob, 0, none⟩) (S.ini.length + 1) cap) (S.ini.length + 1) (vs0 ++ [.slice (some ⟨g', 0, none⟩) (S.top.length + 1) cap']) ∧
      w8.ownsRow B 26 2 (.slice (some ⟨g', 0, none⟩) (S.top.length + 1) cap') (S.top.length + 1) (xs ++ news) ∧ (∀ b, b < w.heap.size → b ≠ G → b ≠ ob → v.ownBlock ≠ some b → w8.heap[b]? = w.heap[b]?) ∧ g' ≠ ob ∧ g' ≠ G ∧ (v.ownBlock = some g' ∨ w.heap.size ≤ g') ∧ g' < w8.heap.size := by
  have hsz7 : w.heap.size + 3 ≤ w7.heap.size := by have := hg.size; simp at this; omega
  have hne : g' ≠ ob := by
    rcases hat with h | h
    · rintro rfl; exact hov h
    · omega
  have hneG : g' ≠ G := by
    rcases hat with h | h
    · rintro rfl; exact hGv h
    · omega
  refine ⟨_, rfl, by exact hg.os.trans hos1.1, by exact hg.tape.trans hos1.2.1, by exact hg.output.trans hos1.2.2, by simpa using hsz7, ?_, ?_, ?_, ?_, hne, hneG, ?_, ?_⟩
  · exact (Below.heap_setCell _ _ _ _ (by exact Ne.symm hGo)).trans b1
  · have h := (b2.stored S.ini.length (.slice (some ⟨g', 0, none⟩) (S.top.length + 1) cap')).1
    rw [List.set_append_right _ _ (by omega), hvl, Nat.sub_self] at h
    simpa using h
  · exact own_same b7 fun b hb => by
      have : b = g' := by simpa [Value.ownBlock] using hb.symm
      subst this
      exact Below.heap_setCell _ _ _ _ (by exact hne)
  · intro b h1 h2 h3 h4
    rw [Below.heap_setCell _ _ _ _ (by exact h3), hg.block b (by simp; omega) (Ne.symm h4), Below.heap_alloc _ _ _ (by simp; omega), Below.heap_alloc _ _ _ (by omega)]
    exact hk1 b h1 h2
  · rcases hat with h | h
    · exact .inl h
    · exact .inr (by omega)
  · have := (b7.lt g' rfl).2
    simpa using this

/-- .. and of the element itself, laid as zero first. -/
theorem add_fill {w w8 : World} {G B ob cap g' cap' : Nat} {S : St} {v a b u0 u1 v' : Value} {vs0 xs : List Value} {z' : Int}
    (hcells : Whole w8 G 70 #[.slice (some ⟨ob, 0, none⟩) (S.ini.length + 1) cap, .int .i64 z']) (hrow : w8.ownsRow B 24 1 (.slice (some ⟨ob, 0, none⟩) (S.ini.length + 1) cap) (S.ini.length + 1) (vs0 ++ [v']))
    (hown : w8.ownsRow B 26 2 (.slice (some ⟨g', 0, none⟩) (S.top.length + 1) cap') (S.top.length + 1) (xs ++ [u0, u1])) (hxl : xs.length = S.top.length * 2)
    (hkeep : ∀ b, b < w.heap.size → b ≠ G → b ≠ ob → v.ownBlock ≠ some b → w8.heap[b]? = w.heap[b]?) (h1 : g' ≠ ob) (h2 : g' ≠ G) (h3 : v.ownBlock = some g' ∨ w.heap.size ≤ g') :
    ∃ w9, w9 = (w8.setCell ⟨g', S.top.length * 2, none⟩ a).setCell ⟨g', S.top.length * 2 + 1, none⟩ b ∧ w9.os = w8.os ∧ w9.tape = w8.tape ∧ w9.output = w8.output ∧ w9.heap.size = w8.heap.size ∧
      Whole w9 G 70 #[.slice (some ⟨ob, 0, none⟩) (S.ini.length + 1) cap, .int .i64 z'] ∧ w9.ownsRow B 24 1 (.slice (some ⟨ob, 0, none⟩) (S.ini.length + 1) cap) (S.ini.length + 1) (vs0 ++ [v']) ∧
      w9.ownsRow B 26 2 (.slice (some ⟨g', 0, none⟩) (S.top.length + 1) cap') (S.top.length + 1) (xs ++ [a, b]) ∧ (∀ b, b < w.heap.size → b ≠ G → b ≠ ob → v.ownBlock ≠ some b → w9.heap[b]? = w.heap[b]?) := by
  have far : ∀ k, k ≠ g' → ((w8.setCell ⟨g', S.top.length * 2, none⟩ a).setCell ⟨g', S.top.length * 2 + 1, none⟩ b).heap[k]? = w8.heap[k]? := fun k hk => by
    rw [Below.heap_setCell _ _ _ _ (by exact hk), Below.heap_setCell _ _ _ _ (by exact hk)]
  refine ⟨_, rfl, rfl, rfl, rfl, by simp, (far G (Ne.symm h2)).trans hcells, ?_, ?_, ?_⟩
  · exact own_same hrow fun k hk => by
      have : k = ob := by simpa [Value.ownBlock] using hk.symm
      subst this
      exact far k (Ne.symm h1)
  · have k1 := (hown.stored (S.top.length * 2) a).1
    have k2 := (k1.stored (S.top.length * 2 + 1) b).1
    have e : ((xs ++ [u0, u1]).set (S.top.length * 2) a).set (S.top.length * 2 + 1) b = xs ++ [a, b] := by
      rw [List.set_append_right _ _ (by omega), List.set_append_right _ _ (by omega), hxl]
      simp
    rw [e] at k2
    exact k2
  · intro k k1 k2 k3 k4
    rw [far k (fun e => by
      rcases h3 with h | h
      · exact k4 (by rw [h, e])
      · omega)]
    exact hkeep k k1 k2 k3 k4
/-- What stands where the two ways of the append meet. -/
def AddMid (w : World) (G B ob cap : Nat) (S : St) (v : Value) (vs0 xs : List Value) (a : ByteArray) (A1 : Option Addr) (n1 c1 : Nat) (wc : World) : Prop :=
  ∃ v', wc.os = w.os ∧ wc.tape = w.tape ∧ wc.output = w.output ∧ w.heap.size + 1 ≤ wc.heap.size ∧ Whole wc G 70 #[.slice (some ⟨ob, 0, none⟩) (S.ini.length + 1) cap, .int .i64 ((S.z : Int) + 1)] ∧
    wc.ownsRow B 24 1 (.slice (some ⟨ob, 0, none⟩) (S.ini.length + 1) cap) (S.ini.length + 1) (vs0 ++ [v']) ∧ wc.ownsRow B 26 2 v' (S.top.length + 1) (xs ++ [.string a, .slice A1 n1 c1]) ∧
    (∀ b, b < w.heap.size → b ≠ G → b ≠ ob → v.ownBlock ≠ some b → wc.heap[b]? = w.heap[b]?) ∧ (v'.ownBlock = v.ownBlock ∨ ∃ g', v'.ownBlock = some g' ∧ w.heap.size ≤ g' ∧ g' < wc.heap.size)
theorem mid_set {w w1 w7 : World} {o1 o2 : Obj} {G B ob cap g' cap' n1 c1 : Nat} {S : St} {v : Value} {vs0 xs : List Value} {a : ByteArray} {A1 : Option Addr}
    (hs1 : w1.heap.size = w.heap.size + 1) (hk1 : ∀ b, b < w.heap.size → b ≠ G → w1.heap[b]? = w.heap[b]?) (hos1 : w1.os = w.os ∧ w1.tape = w.tape ∧ w1.output = w.output)
    (hg : ((w1.alloc o1).alloc o2).grownBy w7 v.ownBlock) (hob : B ≤ ob ∧ ob < w.heap.size) (hGo : ob ≠ G)
    (b1 : Whole w7 G 70 #[.slice (some ⟨ob, 0, none⟩) (S.ini.length + 1) cap, .int .i64 ((S.z : Int) + 1)]) (b2 : w7.ownsRow B 24 1 (.slice (some ⟨ob, 0, none⟩) (S.ini.length + 1) cap) (S.ini.length + 1) (vs0 ++ [v])) (hvl : vs0.length = S.ini.length)
    (b7 : w7.ownsRow B 26 2 (.slice (some ⟨g', 0, none⟩) (S.top.length + 1) cap') (S.top.length + 1) (xs ++ [.string a, .slice A1 n1 c1])) (hat : v.ownBlock = some g' ∨ g' = w1.heap.size + 2) (hov : v.ownBlock ≠ some ob) (hGv : v.ownBlock ≠ some G) (hGlt : G < w.heap.size) :
    AddMid w G B ob cap S v vs0 xs a A1 n1 c1 (w7.setCell ⟨ob, S.ini.length, none⟩ (.slice (some ⟨g', 0, none⟩) (S.top.length + 1) cap')) := by
  obtain ⟨w8, hw8, s1, s2, s3, s4, s5, s6, s7, s8, s9, t9, s10, s11⟩ := add_set hs1 hk1 hos1 hg hob hGo b1 b2 hvl b7 hat hov hGv hGlt
  rw [← hw8]
  refine ⟨_, s1, s2, s3, by omega, s5, s6, s7, s8, ?_⟩
  rcases s10 with h | h
  · exact .inl h.symm
  · exact .inr ⟨g', rfl, h, s11⟩
theorem mid_fill {w w1 w7 : World} {o1 o2 : Obj} {G B ob cap g' cap' n1 c1 : Nat} {S : St} {v u0 u1 : Value} {vs0 xs : List Value} {a : ByteArray} {A1 : Option Addr}
    (hs1 : w1.heap.size = w.heap.size + 1) (hk1 : ∀ b, b < w.heap.size → b ≠ G → w1.heap[b]? = w.heap[b]?) (hos1 : w1.os = w.os ∧ w1.tape = w.tape ∧ w1.output = w.output)
    (hg : ((w1.alloc o1).alloc o2).grownBy w7 v.ownBlock) (hob : B ≤ ob ∧ ob < w.heap.size) (hGo : ob ≠ G)
    (b1 : Whole w7 G 70 #[.slice (some ⟨ob, 0, none⟩) (S.ini.length + 1) cap, .int .i64 ((S.z : Int) + 1)]) (b2 : w7.ownsRow B 24 1 (.slice (some ⟨ob, 0, none⟩) (S.ini.length + 1) cap) (S.ini.length + 1) (vs0 ++ [v])) (hvl : vs0.length = S.ini.length)
    (b7 : w7.ownsRow B 26 2 (.slice (some ⟨g', 0, none⟩) (S.top.length + 1) cap') (S.top.length + 1) (xs ++ [u0, u1])) (hxl : xs.length = S.top.length * 2) (hat : v.ownBlock = some g' ∨ g' = w1.heap.size + 2) (hov : v.ownBlock ≠ some ob) (hGv : v.ownBlock ≠ some G) (hGlt : G < w.heap.size) :
    AddMid w G B ob cap S v vs0 xs a A1 n1 c1 (((w7.setCell ⟨ob, S.ini.length, none⟩ (.slice (some ⟨g', 0, none⟩) (S.top.length + 1) cap')).setCell ⟨g', S.top.length * 2, none⟩ (.string a)).setCell ⟨g', S.top.length * 2 + 1, none⟩ (.slice A1 n1 c1)) := by
  obtain ⟨w8, hw8, s1, s2, s3, s4, s5, s6, s7, s8, s9, t9, s10, s11⟩ := add_set hs1 hk1 hos1 hg hob hGo b1 b2 hvl b7 hat hov hGv hGlt
  rw [← hw8]
  obtain ⟨w9, hw9, r1, r2, r3, r4, r5, r6, r7, r8⟩ := add_fill (w := w) (a := .string a) (b := .slice A1 n1 c1) s5 s6 s7 hxl s8 s9 t9 s10
  rw [← hw9]
  refine ⟨_, r1.trans s1, r2.trans s2, r3.trans s3, by omega, r5, r6, r7, r8, ?_⟩
  rcases s10 with h | h
  · exact .inl h.symm
  · exact .inr ⟨g', rfl, h, by omega⟩
end Go.Proofs.Ytbcfeoobhemdcaa
namespace Go.Proofs.Ytbcfeoobhemdcaa
open Go.RowKit Go.Lib

set_option maxRecDepth 100000 in
set_option maxHeartbeats 4000000 in
theorem addX (G B : Nat) (S : St) (vo : Value) (vs bs bx : List Nat) (vs' : List Value) (x : SX) (v1 : Value) (w : World) (_hvs : vs = bs) (hR : Rdr w G B S vo vs' bs) (hx : OwX w B x (.string x.atom) v1 bx)
    (hnd : (vo.ownBlock.toList ++ bs ++ bx).Nodup) (hin : ∀ b ∈ bx, B ≤ b ∧ b < w.heap.size) (hGx : ∀ b ∈ bx, b ≠ G) (hz : S.z ≤ 900) (ht : S.top.length ≤ 900) (hi : S.ini.length ≤ 14) :
    Calls Try.prog 114 #[.pointer (some ⟨G, 0, none⟩), .agg #[.string x.atom, v1]] w (Added G B S x w) := by
  obtain ⟨i0, hi0, hz0, hz1, hz2⟩ := info_parts infoSx
  have hRne := hR.ne
  obtain ⟨hcells, hrow, hlevs, hn1, hin1⟩ := hR
  obtain ⟨vs0, v, b0, bt, rfl, rfl, hlev0, htop⟩ := hlevs.last
  obtain ⟨ob, cap, rfl⟩ := own_some hrow
  have hvl : vs0.length = S.ini.length := by rw [hlev0.length, List.length_reverse]
  have hvoG : (ob : Nat) ≠ G := hRne ob (by simp [Value.ownBlock])
  have hG : ∀ b ∈ (Value.slice (some ⟨ob, 0, none⟩) (S.ini.length + 1) cap).ownBlock.toList ++ (b0 ++ bt) ++ bx, b ≠ G := fun b hb => by
    rcases List.mem_append.1 hb with h | h
    · exact hRne b h
    · exact hGx b h
  have htop' := htop
  rw [OwX] at htop'
  obtain ⟨-, xs, bt', hownv, -, hbt⟩ := htop'
  have hvB := hownv.lt
  have hob := hrow.lt ob rfl
  have hov : v.ownBlock ≠ some ob := by
    intro e
    rw [hbt, e] at hn1
    simp [Value.ownBlock] at hn1
  have hGv : v.ownBlock ≠ some G := fun e => hRne G (by rw [hbt, e]; simp) rfl
  obtain ⟨Av, cv, rfl⟩ := own_nil hownv
  obtain ⟨A1, c1, -, rfl⟩ := OwX_form hx
  have hGlt := hcells.lt
  have gc0 : w.cell? ⟨G, 0, none⟩ = some (.slice (some ⟨ob, 0, none⟩) (S.ini.length + 1) cap) := by rw [hcells.cell]; rfl
  have gc1 : w.cell? ⟨G, 1, none⟩ = some (.int .i64 S.z) := by rw [hcells.cell]; rfl
  have gf1 : w.frozen? ⟨G, 1, none⟩ = false := hcells.frozen 1
  obtain ⟨w1, hw1⟩ : ∃ w1, w1 = (w.setCell ⟨G, 1, none⟩ (.int .i64 ((S.z : Int) + 1))).alloc (.cells #[.string x.atom, .slice A1 x.list.length c1] 26) := ⟨_, rfl⟩
  have hsz1 : w1.heap.size = w.heap.size + 1 := by rw [hw1]; simp
  have k1 : ∀ b, b < w.heap.size → b ≠ G → w1.heap[b]? = w.heap[b]? := fun b hb hne => by
    rw [hw1, Below.heap_alloc _ _ _ (by simpa using hb)]
    exact Below.heap_setCell _ _ _ _ (by exact hne)
  have cG1 : Whole w1 G 70 #[.slice (some ⟨ob, 0, none⟩) (S.ini.length + 1) cap, .int .i64 ((S.z : Int) + 1)] := by
    have h := keptAlloc' (hcells.set_ 1 (.int .i64 ((S.z : Int) + 1))) (.cells #[.string x.atom, .slice A1 x.list.length c1] 26)
    rw [hw1]
    simpa using h
  have box1 : Whole w1 w.heap.size 26 #[.string x.atom, .slice A1 x.list.length c1] := by
    have h := Whole.new (w.setCell ⟨G, 1, none⟩ (.int .i64 ((S.z : Int) + 1))) 26 #[.string x.atom, .slice A1 x.list.length c1]
    rw [hw1]
    simpa using h
  have row1 := own_same (w' := w1) hrow fun b hb => by
    have : b = ob := by simpa [Value.ownBlock] using hb.symm
    subst this
    exact k1 b hob.2 hvoG
  have own1 := own_same (w' := w1) hownv fun b hb => k1 b (hvB b hb).2 (fun e => hGv (by rw [← e]; exact hb))
  have e0 : w1.cell? ⟨G, 0, none⟩ = some (.slice (some ⟨ob, 0, none⟩) (S.ini.length + 1) cap) := by rw [cG1.cell]; rfl
  have e1 : w1.cell? ⟨G, 1, none⟩ = some (.int .i64 ((S.z : Int) + 1)) := by rw [cG1.cell]; rfl
  have x0 : w1.cell? ⟨w.heap.size, 0, none⟩ = some (.string x.atom) := by rw [box1.cell]; rfl
  have x1 : w1.cell? ⟨w.heap.size, 1, none⟩ = some (.slice A1 x.list.length c1) := by rw [box1.cell]; rfl
  have v0 : w1.cell? ⟨ob, S.ini.length, none⟩ = some (.slice Av S.top.length cv) := by
    rw [World.ownsRow.cellAt row1 _ (by omega), ← hvl]
    simp
  have vf0 : w1.frozen? ⟨ob, S.ini.length, none⟩ = false := row1.frozenAt _
  have hG1 : G < w1.heap.size := by omega
  have hob1 : ob < w1.heap.size := by omega
  have hbx1 : w.heap.size < w1.heap.size := by omega
  have hi0' : (0 : Int) ≤ S.ini.length := by omega
  have hi1' : (S.ini.length : Int) < (S.ini.length : Int) + 1 := by omega
  have hB1 : B ≤ w1.heap.size := by omega
  have HW1 := Lib.hid hw1
  have HS1 := Lib.hid hsz1
  have HK1 := Lib.hid k1
  have HC1 := Lib.hid cG1
  have HR1 := Lib.hid row1
  have HO1 := Lib.hid own1
  have HV := Lib.hid hlev0
  have HT := Lib.hid htop
  have HX := Lib.hid hx
  have HND := Lib.hid hnd
  have HGN := Lib.hid hG
  have HCW := Lib.hid hcells
  have HRW := Lib.hid hrow
  have HOS := Lib.hid (show w1.os = w.os ∧ w1.tape = w.tape ∧ w1.output = w.output by rw [hw1]; exact ⟨rfl, rfl, rfl⟩)
  have HOW := Lib.hid hownv
  have HXL := Lib.hid (show xs.length = S.top.length * 2 from hownv.1)
  have HIN := Lib.hid hin
  have HIN1 := Lib.hid hin1
  have HVB := Lib.hid hvB
  have HVL := Lib.hid hvl
  have HOV := Lib.hid hov
  have HGV := Lib.hid hGv
  clear hRne hG hGx hw1 hsz1 k1 cG1 row1 own1 hlev0 htop hx hnd hin hin1 hvB hvl hov hGv hcells hrow hlevs hn1 hownv hbt box1
  go_enter Try.func114, Try.ntmps114
  go_wp2
  rw [← HW1.out]
  clear gc0 gc1 gf1
  go_region
  · go_upto_if 20 with (fail)
    go_cut [] from 21 to 49 (fun wc => AddMid w G B ob cap S (.slice Av S.top.length cv) vs0 xs x.atom A1 x.list.length c1 wc)
    case first =>
      go_wp2
      go_region_law
        ((refine step_append_lies _ (by rfl) _ _ _ (by rfl) B 26 i0 _ 2 40 Try.underlying24 hi0 hz0 hz1 hz2 rfl (by omega) (.slice Av S.top.length cv) S.top.length xs (by rfl)
              (own_same ((HO1.out.alloc (.cells #[.bool false] 4)).alloc (.cells #[.string x.atom, .slice A1 x.list.length c1] 26)) fun _ _ => rfl) ⟨w1.heap.size + 1, 0, none⟩ 1 1 [.string x.atom, .slice A1 x.list.length c1] (by rfl) (by rfl) (news_at (o := .cells #[.bool false] 4) (t := 26) rfl) (one_pair rfl rfl) (by omega)
              (by unfold maxLen; omega) (by omega) (by simp; omega) (w1.heap.size + 2) (by simp) ?_
          intro g' cap' w7 hown7 hgrow7 hat7 hlt7
          have hg7 : ((w1.alloc (.cells #[.bool false] 4)).alloc (.cells #[.string x.atom, .slice A1 x.list.length c1] 26)).grownBy w7 (Value.slice Av S.top.length cv).ownBlock := ⟨hgrow7.os, hgrow7.tape, hgrow7.output, hgrow7.size, hgrow7.block⟩
          obtain ⟨b1, b2, b3, b4, b5, b6, b7⟩ := behind_append hg7 (keptAlloc' HC1.out _) (HR1.out.alloc _) HVL.out rfl HGV.out HOV.out hown7
          have B1 := Lib.hid b1
          have B2 := Lib.hid b2
          have B7 := Lib.hid hown7
          have BG := Lib.hid hg7
          clear b1 b2 hown7 hg7 hgrow7))
      all_goals go_wp2
      all_goals (
        go_meet
        case rel => exact mid_set HS1.out HK1.out HOS.out BG.out hob hvoG B1.out B2.out HVL.out B7.out hat7 HOV.out HGV.out hGlt)
    case rest =>
      obtain ⟨v', s1, s2, s3, s4, s5, s6, s7, s8, s9⟩ := hcut
      have e1' : wc.cell? ⟨G, 1, none⟩ = some (.int .i64 ((S.z : Int) + 1)) := by rw [s5.cell]; rfl
      have hfin := add_end HCW.out HRW.out HV.out HT.out HX.out HND.out HIN.out HIN1.out HGN.out s1 s2 s3 s4 s5 s6 HOW.out s7 s8 s9
      have HFIN := Lib.hid hfin
      clear hfin s1 s2 s3 s4 s5 s6 s7 s8 s9 e0 e1 x0 x1 v0 vf0
      go_wp2
      go_ret
      exact HFIN.out
  · go_upto_if 20 with (fail)
    go_cut [] from 21 to 49 (fun wc => AddMid w G B ob cap S (.slice Av S.top.length cv) vs0 xs x.atom A1 x.list.length c1 wc)
    case first =>
      go_wp2
      go_region_law
        ((refine step_append_lies _ (by rfl) _ _ _ (by rfl) B 26 i0 _ 2 40 Try.underlying24 hi0 hz0 hz1 hz2 rfl (by omega) (.slice Av S.top.length cv) S.top.length xs (by rfl)
              (own_same ((HO1.out.alloc (.cells #[.bool true] 4)).alloc (.cells #[.string ⟨#[]⟩, .slice none 0 0] 26)) fun _ _ => rfl) ⟨w1.heap.size + 1, 0, none⟩ 1 1 [.string ⟨#[]⟩, .slice none 0 0] (by rfl) (by rfl) (news_at (o := .cells #[.bool true] 4) (t := 26) rfl) (one_pair rfl rfl) (by omega)
              (by unfold maxLen; omega) (by omega) (by simp; omega) (w1.heap.size + 2) (by simp) ?_
          intro g' cap' w7 hown7 hgrow7 hat7 hlt7
          have hg7 : ((w1.alloc (.cells #[.bool true] 4)).alloc (.cells #[.string ⟨#[]⟩, .slice none 0 0] 26)).grownBy w7 (Value.slice Av S.top.length cv).ownBlock := ⟨hgrow7.os, hgrow7.tape, hgrow7.output, hgrow7.size, hgrow7.block⟩
          obtain ⟨b1, b2, b3, b4, b5, b6, b7⟩ := behind_append hg7 (keptAlloc' HC1.out _) (HR1.out.alloc _) HVL.out rfl HGV.out HOV.out hown7
          have B1 := Lib.hid b1
          have B2 := Lib.hid b2
          have B7 := Lib.hid hown7
          have BG := Lib.hid hg7
          have z0 : w7.cell? ⟨g', S.top.length * 2, none⟩ = some (.string ⟨#[]⟩) := by rw [World.ownsRow.cellAt hown7 _ (by omega), List.getElem?_append_right (by have := HXL.out; omega), HXL.out, Nat.sub_self]; rfl
          have z1 : w7.cell? ⟨g', S.top.length * 2 + 1, none⟩ = some (.slice none 0 0) := by rw [World.ownsRow.cellAt hown7 _ (by omega), List.getElem?_append_right (by have := HXL.out; omega), HXL.out, Nat.add_sub_cancel_left]; rfl
          have zf0 : w7.frozen? ⟨g', S.top.length * 2, none⟩ = false := hown7.frozenAt _
          have zf1 : w7.frozen? ⟨g', S.top.length * 2 + 1, none⟩ = false := hown7.frozenAt _
          have zne : ¬ g' = ob := by
            rcases hat7 with h | h
            · rintro rfl; exact HOV.out h
            · omega
          clear b1 b2 hown7 hg7 hgrow7))
      all_goals go_wp2
      all_goals (
        go_meet
        case rel => exact mid_fill HS1.out HK1.out HOS.out BG.out hob hvoG B1.out B2.out HVL.out B7.out HXL.out hat7 HOV.out HGV.out hGlt)
    case rest =>
      obtain ⟨v', s1, s2, s3, s4, s5, s6, s7, s8, s9⟩ := hcut
      have e1' : wc.cell? ⟨G, 1, none⟩ = some (.int .i64 ((S.z : Int) + 1)) := by rw [s5.cell]; rfl
      have hfin := add_end HCW.out HRW.out HV.out HT.out HX.out HND.out HIN.out HIN1.out HGN.out s1 s2 s3 s4 s5 s6 HOW.out s7 s8 s9
      have HFIN := Lib.hid hfin
      clear hfin s1 s2 s3 s4 s5 s6 s7 s8 s9 e0 e1 x0 x1 v0 vf0
      go_wp2
      go_ret
      exact HFIN.out
end Go.Proofs.Ytbcfeoobhemdcaa

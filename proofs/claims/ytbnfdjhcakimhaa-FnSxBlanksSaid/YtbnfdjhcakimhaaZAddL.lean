/- The program's reader: one expression more: what is laid ahead of the walk. -/
import Derived.Test.YtbnfdjhcakimhaaZRdr
import Derived.Deep.RegionLaw
import Derived.Deep.AppendLies
import Derived.RegionTactic
namespace Go.Proofs.Ytbnfdjhcakimhaa
open Go.RowKit Go.Lib

/-- What 'add' leaves. -/
def Added (G B : Nat) (S : St) (x : SX) (w : World) (e : Ending) (w' : World) : Prop :=
  Kept G B w w' ∧ match addS x S with
    | some S' => e = .returned (.bool true) ∧ ∃ vo vs bs, Rdr w' G B S' vo vs bs
    | none => e = .returned (.bool false)

/-- What the last operations leave of what was there. -/
theorem behind_append {w2 w7 : World} {v : Value} {o : Obj} {G ob last n cap : Nat} {z : Int} {vs0 : List Value} {B g' cap' m : Nat} {xs news : List Value}
    (hgrow : (w2.alloc o).grownBy w7 v.ownBlock) (hcells : Whole w2 G 46 #[.slice (some ⟨ob, 0, none⟩) n cap, .int .i64 z]) (hrow : w2.ownsRow B 24 1 (.slice (some ⟨ob, 0, none⟩) n cap) n (vs0 ++ [v]))
    (hl : vs0.length = last) (hn : n = last + 1) (hGv : v.ownBlock ≠ some G) (hov : v.ownBlock ≠ some ob)
    (hown : w7.ownsRow B 26 2 (.slice (some ⟨g', 0, none⟩) m cap') m (xs ++ news)) :
    Whole w7 G 46 #[.slice (some ⟨ob, 0, none⟩) n cap, .int .i64 z] ∧ w7.ownsRow B 24 1 (.slice (some ⟨ob, 0, none⟩) n cap) n (vs0 ++ [v]) ∧ w7.cell? ⟨G, 0, none⟩ = some (.slice (some ⟨ob, 0, none⟩) n cap) ∧ w7.cell? ⟨G, 1, none⟩ = some (.int .i64 z) ∧
      w7.cell? ⟨ob, last, none⟩ = some v ∧ w7.frozen? ⟨ob, last, none⟩ = false ∧ g' < w7.heap.size := by
  have hob := (hrow.lt ob rfl).2
  have hG := hcells.lt
  have h7G : Whole w7 G 46 #[.slice (some ⟨ob, 0, none⟩) n cap, .int .i64 z] := (hgrow.block G (by simp; omega) (Ne.symm hGv)).trans ((Below.heap_alloc _ _ _ hG).trans hcells)
  have h7o : w7.ownsRow B 24 1 (.slice (some ⟨ob, 0, none⟩) n cap) n (vs0 ++ [v]) := own_same hrow fun b hb => by
    have : b = ob := by simpa [Value.ownBlock] using hb.symm
    subst this
    exact (hgrow.block b (by simp; omega) (Ne.symm hov)).trans (Below.heap_alloc _ _ _ hob)
  refine ⟨h7G, h7o, by rw [h7G.cell]; rfl, by rw [h7G.cell]; rfl, ?_, h7o.frozenAt last, (hown.lt g' rfl).2⟩
  rw [World.ownsRow.cellAt h7o last (by omega), ← hl]
  simp

theorem keptAlloc' {w : World} {h : Nat} {t : TypeId} {cs : Array Value} (hw : Whole w h t cs) (o : Obj) : Whole (w.alloc o) h t cs := hw.below ((Below.refl w.heap.size w).alloc (Nat.le_refl _) o) hw.lt
theorem news_at {w1 w2 : World} {o : Obj} {t : TypeId} {a b : Value} (hh : w2.heap = ((w1.alloc o).alloc (.cells #[a, b] t)).heap) : ∀ (j : Nat) (u : Value), [a, b][j]? = some u → w2.cell? ((⟨w1.heap.size + 1, 0, none⟩ : Addr).add j) = some u := by
  intro j u hj
  have h := news_sx (w1.alloc o) t a b j u hj
  rw [World.size_alloc] at h
  rw [← h]
  simp only [World.cell?, hh]
theorem one_pair {a b : Value} (ha : a.oneCell' = true) (hb : b.oneCell' = true) : ∀ u ∈ [a, b], u.oneCell' = true := by
  intro u hu
  simp at hu
  rcases hu with rfl | rfl <;> assumption

theorem own_unique {w : World} {B size n : Nat} {e : TypeId} {v : Value} {xs ys : List Value} (h : w.ownsRow B e size v n xs) (k : w.ownsRow B e size v n ys) : xs = ys := by
  rcases h.2 with ⟨rfl, h0⟩ | ⟨g, cap, cur, rfl, _, hg, _, _, _, ht⟩
  · subst h0
    have h1 := h.1
    have k1 := k.1
    rw [Nat.zero_mul] at h1 k1
    rw [List.eq_nil_of_length_eq_zero h1, List.eq_nil_of_length_eq_zero k1]
  · rcases k.2 with ⟨hv, _⟩ | ⟨g', cap', cur', hv, _, hg', _, _, _, ht'⟩
    · simp at hv
    · simp only [Value.slice.injEq, Option.some.injEq, Addr.mk.injEq, and_true, true_and] at hv
      obtain ⟨rfl, rfl⟩ := hv
      rw [hg] at hg'
      injection hg' with hg'
      injection hg' with hg'
      subst hg'
      rw [← ht, ← ht']
/-- What the end of 'add' comes to. -/
theorem add_end {w w8 : World} {G B ob cap n1 c1 : Nat} {A1 : Option Addr} {S : St} {v v' : Value} {vs0 : List Value} {b0 bt bx : List Nat} {x : SX}
    (hcw : Whole w G 46 #[.slice (some ⟨ob, 0, none⟩) (S.ini.length + 1) cap, .int .i64 S.z]) (hrw : w.ownsRow B 24 1 (.slice (some ⟨ob, 0, none⟩) (S.ini.length + 1) cap) (S.ini.length + 1) (vs0 ++ [v]))
    (hlev : Levs w B S.ini.reverse vs0 b0) (htop : OwX w B (.mk ByteArray.empty S.top) (.string ByteArray.empty) v bt) (hx : OwX w B x (.string x.atom) (.slice A1 n1 c1) bx)
    (hnd : ((Value.slice (some ⟨ob, 0, none⟩) (S.ini.length + 1) cap).ownBlock.toList ++ (b0 ++ bt) ++ bx).Nodup) (hin : ∀ b ∈ bx, B ≤ b ∧ b < w.heap.size) (hin1 : ∀ b ∈ (Value.slice (some ⟨ob, 0, none⟩) (S.ini.length + 1) cap).ownBlock.toList ++ (b0 ++ bt), B ≤ b ∧ b < w.heap.size) (hG : ∀ b ∈ (Value.slice (some ⟨ob, 0, none⟩) (S.ini.length + 1) cap).ownBlock.toList ++ (b0 ++ bt) ++ bx, b ≠ G)
    (hos : w8.os = w.os) (htape : w8.tape = w.tape) (hout : w8.output = w.output) (hsz : w.heap.size + 1 ≤ w8.heap.size)
    (hcells : Whole w8 G 46 #[.slice (some ⟨ob, 0, none⟩) (S.ini.length + 1) cap, .int .i64 ((S.z : Int) + 1)]) (hrow : w8.ownsRow B 24 1 (.slice (some ⟨ob, 0, none⟩) (S.ini.length + 1) cap) (S.ini.length + 1) (vs0 ++ [v']))
    {xs0 : List Value} (hxs : w.ownsRow B 26 2 v S.top.length xs0) (hv0 : w8.ownsRow B 26 2 v' (S.top.length + 1) (xs0 ++ [.string x.atom, .slice A1 n1 c1]))
    (hkeep : ∀ b, b < w.heap.size → b ≠ G → b ≠ ob → v.ownBlock ≠ some b → w8.heap[b]? = w.heap[b]?)
    (hblk0 : v'.ownBlock = v.ownBlock ∨ ∃ g', v'.ownBlock = some g' ∧ w.heap.size ≤ g' ∧ g' < w8.heap.size) :
    Added G B S x w (.returned (.bool (decide ((S.z : Int) + 1 ≤ 900)))) w8 := by
  have htop' := htop
  rw [OwX] at htop'
  obtain ⟨-, xs, bt', hownv, -, -⟩ := htop'
  have hvB := hownv.lt
  have hobB := hrw.lt ob rfl
  have hv' : ∀ xs, w.ownsRow B 26 2 v S.top.length xs → w8.ownsRow B 26 2 v' (S.top.length + 1) (xs ++ [.string x.atom, .slice A1 n1 c1]) := fun xs h => by
    rw [own_unique h hxs]; exact hv0
  obtain ⟨g', hblk, hg'⟩ : ∃ g', (v'.ownBlock = v.ownBlock ∨ v'.ownBlock = some g') ∧ w.heap.size ≤ g' ∧ g' < w8.heap.size := by
    rcases hblk0 with h | ⟨g', h1, h2⟩
    · exact ⟨w.heap.size, .inl h, Nat.le_refl _, by omega⟩
    · exact ⟨g', .inr h1, h2⟩
  refine ⟨⟨hos, htape, hout, by omega, fun b h1 h2 h3 => hkeep b h1 h2 (by omega) (fun e => by have := (hvB b e).1; omega), fun b s q hb => ?_⟩, ?_⟩
  · refine hkeep b (Array.getElem?_eq_some_iff.1 hb).1 ?_ ?_ ?_
    · rintro rfl
      unfold Whole at hcw
      rw [hb] at hcw; cases hcw
    · rintro rfl
      obtain ⟨cur, hc⟩ := owned_cells hrw rfl
      rw [hb] at hc; cases hc
    · intro e
      obtain ⟨cur, hc⟩ := owned_cells hownv e
      rw [hb] at hc; cases hc
  · obtain ⟨ini, top, z⟩ := S
    simp only at *
    rw [addS]
    by_cases hz : z + 1 ≤ 900
    · rw [if_pos hz, decide_eq_true (by omega)]
      refine ⟨rfl, ?_⟩
      obtain ⟨bs', h⟩ := rdr_add (S := ⟨ini, top, z⟩) (w := w) (w8 := w8) (G := G) (B := B) (vo := .slice (some ⟨ob, 0, none⟩) (ini.length + 1) cap) (by simpa using hcells) hrow hlev htop hx hnd (fun b hb => by
        rcases List.mem_append.1 hb with h | h
        · exact hin1 b h
        · exact hin b h) hG hv' (fun b h1 h2 h3 h4 => hkeep b h1 h2 (fun e => h3 (by simp [Value.ownBlock, e])) h4) hblk hg'
      exact ⟨_, _, _, h⟩
    · rw [if_neg hz, decide_eq_false (by omega)]

/-- Behind the append and the store of the row's new slice. -/
theorem add_set {w w1 w7 : World} {o1 o2 : Obj} {G B ob cap g' cap' : Nat} {S : St} {v : Value} {vs0 xs news : List Value} {z' : Int}
    (hs1 : w1.heap.size = w.heap.size + 1) (hk1 : ∀ b, b < w.heap.size → b ≠ G → w1.heap[b]? = w.heap[b]?) (hos1 : w1.os = w.os ∧ w1.tape = w.tape ∧ w1.output = w.output)
    (hg : ((w1.alloc o1).alloc o2).grownBy w7 v.ownBlock) (hob : B ≤ ob ∧ ob < w.heap.size) (hGo : ob ≠ G)
    (b1 : Whole w7 G 46 #[.slice (some ⟨ob, 0, none⟩) (S.ini.length + 1) cap, .int .i64 z']) (b2 : w7.ownsRow B 24 1 (.slice (some ⟨ob, 0, none⟩) (S.ini.length + 1) cap) (S.ini.length + 1) (vs0 ++ [v])) (hvl : vs0.length = S.ini.length)
    (b7 : w7.ownsRow B 26 2 (.slice (some ⟨g', 0, none⟩) (S.top.length + 1) cap') (S.top.length + 1) (xs ++ news)) (hat : v.ownBlock = some g' ∨ g' = w1.heap.size + 2) (hov : v.ownBlock ≠ some ob) (hGv : v.ownBlock ≠ some G) (hGlt : G < w.heap.size) :
    ∃ w8, w8 = w7.setCell ⟨ob, S.ini.length, none⟩ (.slice (some ⟨g', 0, none⟩) (S.top.length + 1) cap') ∧ w8.os = w.os ∧ w8.tape = w.tape ∧ w8.output = w.output ∧ w.heap.size + 3 ≤ w8.heap.size ∧
      Whole w8 G 46 #[.slice (some ⟨ob, 0, none⟩) (S.ini.length + 1) cap, .int .i64 z'] ∧ w8.ownsRow B 24 1 (.slice (some ⟨ob, 0, none⟩) (S.ini.length + 1) cap) (S.ini.length + 1) (vs0 ++ [.slice (some ⟨g', 0, none⟩) (S.top.length + 1) cap']) ∧
      w8.ownsRow B 26 2 (.slice (some ⟨g', 0, none⟩) (S.top.length + 1) cap') (S.top.length + 1) (xs ++ news) ∧ (∀ b, b < w.heap.size → b ≠ G → b ≠ ob → v.ownBlock ≠ some b → w8.heap[b]? = w.heap[b]?) ∧ g' ≠ ob ∧ g' ≠ G ∧ (v.ownBlock = some g' ∨ w.heap.size ≤ g') ∧ g' < w8.heap.size := by
  have hsz7 : w.heap.size + 3 ≤ w7.heap.size := by have := hg.size; simp at this; omega
  have hne : g' ≠ ob := by
    rcases hat with h | h
    · rintro rfl; exact hov h
    · omega
  have hneG : g' ≠ G := by
    rcases hat with h | h
    · rintro rfl; exact hGv h
    · omega
  refine ⟨_, rfl, by exact hg.os.trans hos1.1, by exact hg.tape.trans hos1.2.1, by exact hg.output.trans hos1.2.2, by simpa using hsz7, ?_, ?_, ?_, ?_, hne, hneG, ?_, ?_⟩
  · exact (Below.heap_setCell _ _ _ _ (by exact Ne.symm hGo)).trans b1
  · have h := (b2.stored S.ini.length (.slice (some ⟨g', 0, none⟩) (S.top.length + 1) cap')).1
    rw [List.set_append_right _ _ (by omega), hvl, Nat.sub_self] at h
    simpa using h
  · exact own_same b7 fun b hb => by
      have : b = g' := by simpa [Value.ownBlock] using hb.symm
      subst this
      exact Below.heap_setCell _ _ _ _ (by exact hne)
  · intro b h1 h2 h3 h4
    rw [Below.heap_setCell _ _ _ _ (by exact h3), hg.block b (by simp; omega) (Ne.symm h4), Below.heap_alloc _ _ _ (by simp; omega), Below.heap_alloc _ _ _ (by omega)]
    exact hk1 b h1 h2
  · rcases hat with h | h
    · exact .inl h
    · exact .inr (by omega)
  · have := (b7.lt g' rfl).2
    simpa using this

/-- .. and of the element itself, laid as zero first. -/
theorem add_fill {w w8 : World} {G B ob cap g' cap' : Nat} {S : St} {v a b u0 u1 v' : Value} {vs0 xs : List Value} {z' : Int}
    (hcells : Whole w8 G 46 #[.slice (some ⟨ob, 0, none⟩) (S.ini.length + 1) cap, .int .i64 z']) (hrow : w8.ownsRow B 24 1 (.slice (some ⟨ob, 0, none⟩) (S.ini.length + 1) cap) (S.ini.length + 1) (vs0 ++ [v']))
    (hown : w8.ownsRow B 26 2 (.slice (some ⟨g', 0, none⟩) (S.top.length + 1) cap') (S.top.length + 1) (xs ++ [u0, u1])) (hxl : xs.length = S.top.length * 2)
    (hkeep : ∀ b, b < w.heap.size → b ≠ G → b ≠ ob → v.ownBlock ≠ some b → w8.heap[b]? = w.heap[b]?) (h1 : g' ≠ ob) (h2 : g' ≠ G) (h3 : v.ownBlock = some g' ∨ w.heap.size ≤ g') :
    ∃ w9, w9 = (w8.setCell ⟨g', S.top.length * 2, none⟩ a).setCell ⟨g', S.top.length * 2 + 1, none⟩ b ∧ w9.os = w8.os ∧ w9.tape = w8.tape ∧ w9.output = w8.output ∧ w9.heap.size = w8.heap.size ∧
      Whole w9 G 46 #[.slice (some ⟨ob, 0, none⟩) (S.ini.length + 1) cap, .int .i64 z'] ∧ w9.ownsRow B 24 1 (.slice (some ⟨ob, 0, none⟩) (S.ini.length + 1) cap) (S.ini.length + 1) (vs0 ++ [v']) ∧
      w9.ownsRow B 26 2 (.slice (some ⟨g', 0, none⟩) (S.top.length + 1) cap') (S.top.length + 1) (xs ++ [a, b]) ∧ (∀ b, b < w.heap.size → b ≠ G → b ≠ ob → v.ownBlock ≠ some b → w9.heap[b]? = w.heap[b]?) := by
  have far : ∀ k, k ≠ g' → ((w8.setCell ⟨g', S.top.length * 2, none⟩ a).setCell ⟨g', S.top.length * 2 + 1, none⟩ b).heap[k]? = w8.heap[k]? := fun k hk => by
    rw [Below.heap_setCell _ _ _ _ (by exact hk), Below.heap_setCell _ _ _ _ (by exact hk)]
  refine ⟨_, rfl, rfl, rfl, rfl, by simp, (far G (Ne.symm h2)).trans hcells, ?_, ?_, ?_⟩
  · exact own_same hrow fun k hk => by
      have : k = ob := by simpa [Value.ownBlock] using hk.symm
      subst this
      exact far k (Ne.symm h1)
  · have k1 := (hown.stored (S.top.length * 2) a).1
    have k2 := (k1.stored (S.top.length * 2 + 1) b).1
    have e : ((xs ++ [u0, u1]).set (S.top.length * 2) a).set (S.top.length * 2 + 1) b = xs ++ [a, b] := by
      rw [List.set_append_right _ _ (by omega), List.set_append_right _ _ (by omega), hxl]
      simp
    rw [e] at k2
    exact k2
  · intro k k1 k2 k3 k4
    rw [far k (fun e => by
      rcases h3 with h | h
      · exact k4 (by rw [h, e])
      · omega)]
    exact hkeep k k1 k2 k3 k4
/-- What stands where the two ways of the append meet. -/
def AddMid (w : World) (G B ob cap : Nat) (S : St) (v : Value) (vs0 xs : List Value) (a : ByteArray) (A1 : Option Addr) (n1 c1 : Nat) (wc : World) : Prop :=
  ∃ v', wc.os = w.os ∧ wc.tape = w.tape ∧ wc.output = w.output ∧ w.heap.size + 1 ≤ wc.heap.size ∧ Whole wc G 46 #[.slice (some ⟨ob, 0, none⟩) (S.ini.length + 1) cap, .int .i64 ((S.z : Int) + 1)] ∧
    wc.ownsRow B 24 1 (.slice (some ⟨ob, 0, none⟩) (S.ini.length + 1) cap) (S.ini.length + 1) (vs0 ++ [v']) ∧ wc.ownsRow B 26 2 v' (S.top.length + 1) (xs ++ [.string a, .slice A1 n1 c1]) ∧
    (∀ b, b < w.heap.size → b ≠ G → b ≠ ob → v.ownBlock ≠ some b → wc.heap[b]? = w.heap[b]?) ∧ (v'.ownBlock = v.ownBlock ∨ ∃ g', v'.ownBlock = some g' ∧ w.heap.size ≤ g' ∧ g' < wc.heap.size)
theorem mid_set {w w1 w7 : World} {o1 o2 : Obj} {G B ob cap g' cap' n1 c1 : Nat} {S : St} {v : Value} {vs0 xs : List Value} {a : ByteArray} {A1 : Option Addr}
    (hs1 : w1.heap.size = w.heap.size + 1) (hk1 : ∀ b, b < w.heap.size → b ≠ G → w1.heap[b]? = w.heap[b]?) (hos1 : w1.os = w.os ∧ w1.tape = w.tape ∧ w1.output = w.output)
    (hg : ((w1.alloc o1).alloc o2).grownBy w7 v.ownBlock) (hob : B ≤ ob ∧ ob < w.heap.size) (hGo : ob ≠ G)
    (b1 : Whole w7 G 46 #[.slice (some ⟨ob, 0, none⟩) (S.ini.length + 1) cap, .int .i64 ((S.z : Int) + 1)]) (b2 : w7.ownsRow B 24 1 (.slice (some ⟨ob, 0, none⟩) (S.ini.length + 1) cap) (S.ini.length + 1) (vs0 ++ [v])) (hvl : vs0.length = S.ini.length)
    (b7 : w7.ownsRow B 26 2 (.slice (some ⟨g', 0, none⟩) (S.top.length + 1) cap') (S.top.length + 1) (xs ++ [.string a, .slice A1 n1 c1])) (hat : v.ownBlock = some g' ∨ g' = w1.heap.size + 2) (hov : v.ownBlock ≠ some ob) (hGv : v.ownBlock ≠ some G) (hGlt : G < w.heap.size) :
    AddMid w G B ob cap S v vs0 xs a A1 n1 c1 (w7.setCell ⟨ob, S.ini.length, none⟩ (.slice (some ⟨g', 0, none⟩) (S.top.length + 1) cap')) := by
  obtain ⟨w8, hw8, s1, s2, s3, s4, s5, s6, s7, s8, s9, t9, s10, s11⟩ := add_set hs1 hk1 hos1 hg hob hGo b1 b2 hvl b7 hat hov hGv hGlt
  rw [← hw8]
  refine ⟨_, s1, s2, s3, by omega, s5, s6, s7, s8, ?_⟩
  rcases s10 with h | h
  · exact .inl h.symm
  · exact .inr ⟨g', rfl, h, s11⟩
theorem mid_fill {w w1 w7 : World} {o1 o2 : Obj} {G B ob cap g' cap' n1 c1 : Nat} {S : St} {v u0 u1 : Value} {vs0 xs : List Value} {a : ByteArray} {A1 : Option Addr}
    (hs1 : w1.heap.size = w.heap.size + 1) (hk1 : ∀ b, b < w.heap.size → b ≠ G → w1.heap[b]? = w.heap[b]?) (hos1 : w1.os = w.os ∧ w1.tape = w.tape ∧ w1.output = w.output)
    (hg : ((w1.alloc o1).alloc o2).grownBy w7 v.ownBlock) (hob : B ≤ ob ∧ ob < w.heap.size) (hGo : ob ≠ G)
    (b1 : Whole w7 G 46 #[.slice (some ⟨ob, 0, none⟩) (S.ini.length + 1) cap, .int .i64 ((S.z : Int) + 1)]) (b2 : w7.ownsRow B 24 1 (.slice (some ⟨ob, 0, none⟩) (S.ini.length + 1) cap) (S.ini.length + 1) (vs0 ++ [v])) (hvl : vs0.length = S.ini.length)
    (b7 : w7.ownsRow B 26 2 (.slice (some ⟨g', 0, none⟩) (S.top.length + 1) cap') (S.top.length + 1) (xs ++ [u0, u1])) (hxl : xs.length = S.top.length * 2) (hat : v.ownBlock = some g' ∨ g' = w1.heap.size + 2) (hov : v.ownBlock ≠ some ob) (hGv : v.ownBlock ≠ some G) (hGlt : G < w.heap.size) :
    AddMid w G B ob cap S v vs0 xs a A1 n1 c1 (((w7.setCell ⟨ob, S.ini.length, none⟩ (.slice (some ⟨g', 0, none⟩) (S.top.length + 1) cap')).setCell ⟨g', S.top.length * 2, none⟩ (.string a)).setCell ⟨g', S.top.length * 2 + 1, none⟩ (.slice A1 n1 c1)) := by
  obtain ⟨w8, hw8, s1, s2, s3, s4, s5, s6, s7, s8, s9, t9, s10, s11⟩ := add_set hs1 hk1 hos1 hg hob hGo b1 b2 hvl b7 hat hov hGv hGlt
  rw [← hw8]
  obtain ⟨w9, hw9, r1, r2, r3, r4, r5, r6, r7, r8⟩ := add_fill (w := w) (a := .string a) (b := .slice A1 n1 c1) s5 s6 s7 hxl s8 s9 t9 s10
  rw [← hw9]
  refine ⟨_, r1.trans s1, r2.trans s2, r3.trans s3, by omega, r5, r6, r7, r8, ?_⟩
  rcases s10 with h | h
  · exact .inl h.symm
  · exact .inr ⟨g', rfl, h, by omega⟩
end Go.Proofs.Ytbnfdjhcakimhaa

/- The iterator impl.preorder over impl.Type: the parts of what comes are told by a function value that may turn memory of the caller's own. -/
import Derived.Test.YtpffmcofajlkgaaZPreType
import Derived.Test.YtpffmcofajlkgaaZSeqU
namespace Go.Proofs.Ytpffmcofajlkgaa
open Go.RowKit Go.Shelf Go.Lib
attribute [local go_sem] Oper.semAt_some

/-- The list at A: its elements lie in P or R; what they lead to lies in P. -/
def TopTyU (w : World) (P R : Nat → Prop) (A : Option Addr) (l : List TypeX) : Prop :=
  ∀ (j : Nat) (hj : j < l.length), ∃ (b o : Nat) (A2 : Option Addr) (c2 : Nat), A = some ⟨b, o, none⟩ ∧ (P b ∨ R b) ∧ w.cell? ⟨b, o + j * 3, none⟩ = some (.int .i64 l[j].kind_) ∧ w.cell? ⟨b, o + j * 3 + 1, none⟩ = some (.string l[j].name_) ∧ w.cell? ⟨b, o + j * 3 + 2, none⟩ = some (.slice A2 l[j].args_.length c2) ∧ TypeRow w P A2 c2 l[j].args_
theorem TopTyU.frame {w w' : World} {P R R' : Nat → Prop} {A : Option Addr} {l : List TypeX} (h : TopTyU w P R A l) (hR : ∀ b, R b → R' b) (hk : ∀ b, P b ∨ R b → w'.heap[b]? = w.heap[b]?) : TopTyU w' P R' A l := by
  intro j hj
  obtain ⟨b, o, A2, c2, hA, hb, h0, h1, h2, hr⟩ := h j hj
  have hc : ∀ b i, P b ∨ R b → w'.cell? ⟨b, i, none⟩ = w.cell? ⟨b, i, none⟩ := fun b i h => World.cell?_of_block (a := ⟨b, i, none⟩) (hk b h)
  exact ⟨b, o, A2, c2, hA, hb.imp_right (hR b), (hc _ _ hb).trans h0, (hc _ _ hb).trans h1, (hc _ _ hb).trans h2, hr.frame (fun _ h => h) (fun b i h => hc b i (.inl h))⟩
theorem TopTyU.of_row {w : World} {P R : Nat → Prop} {A : Option Addr} {c : Nat} {l : List TypeX} (h : TypeRow w P A c l) : TopTyU w P R A l := by
  intro j hj
  obtain ⟨b, o, A2, c2, hA, hP, h0, h1, h2, k⟩ := h.at_ hj
  exact ⟨b, o, A2, c2, hA, .inl hP, h0, h1, h2, k⟩
theorem TopTyU.tail {w : World} {P R : Nat → Prop} {b o : Nat} {x : TypeX} {l : List TypeX} (h : TopTyU w P R (some ⟨b, o, none⟩) (x :: l)) : TopTyU w P R (some ⟨b, o + 3, none⟩) l := by
  intro j hj
  obtain ⟨b', o', A2, c2, hA, hb, h0, h1, h2, k0⟩ := h (j + 1) (by simpa using hj)
  injection hA with hA
  injection hA with e1 e2
  subst e1 e2
  have e : o + (j + 1) * 3 = o + 3 + j * 3 := by omega
  rw [e] at h0 h1 h2
  exact ⟨b, o + 3, A2, c2, rfl, hb, h0, h1, h2, k0⟩
theorem TopTyU.nil (w : World) (P R : Nat → Prop) (A : Option Addr) : TopTyU w P R A [] := fun j hj => absurd hj (Nat.not_lt_zero j)
/-- The stack's slices, the top one last. -/
def TopsTyU (w : World) (P R : Nat → Prop) : List (List TypeX) → List Value → Prop
  | [], vs => vs = []
  | l :: r, vs => ∃ (vs0 : List Value) (A : Option Addr) (c : Nat), vs = vs0 ++ [.slice A l.length c] ∧ l.length ≤ c ∧ c ≤ 9223372036854775807 ∧ TopTyU w P R A l ∧ TopsTyU w P R r vs0
theorem TopsTyU.length {w : World} {P R : Nat → Prop} : ∀ {rs : List (List TypeX)} {vs : List Value}, TopsTyU w P R rs vs → vs.length = rs.length
  | [], vs, h => by rw [TopsTyU] at h; rw [h]; rfl
  | l :: r, vs, h => by
    obtain ⟨vs0, A, c, rfl, _, _, _, h2⟩ := h
    rw [List.length_append, h2.length]; rfl
theorem TopsTyU.frame {w w' : World} {P R R' : Nat → Prop} (hR : ∀ b, R b → R' b) (hk : ∀ b, P b ∨ R b → w'.heap[b]? = w.heap[b]?) : ∀ {rs : List (List TypeX)} {vs : List Value}, TopsTyU w P R rs vs → TopsTyU w' P R' rs vs
  | [], vs, h => h
  | l :: r, vs, h => by
    obtain ⟨vs0, A, c, rfl, h1, h2, h3, h4⟩ := h
    exact ⟨vs0, A, c, rfl, h1, h2, h3.frame hR hk, h4.frame hR hk⟩

/-- The state: how much is still to come, the stack, and what has come whose parts are wanted. -/
abbrev StType := Nat × List (List TypeX) × Option TypeIt
def okType (w : World) (P : Nat → Prop) (s : StType) (y : TypeIt) : Prop := ∃ (n : Nat) (l : List TypeX) (r : List (List TypeX)), s = (n, (y.2.1 :: l) :: r, none) ∧ y.1 = r.length ∧ TypeRow w P y.2.2.1 y.2.2.2 y.2.1.args_
def nxType (s : StType) (y : TypeIt) (s1 : StType) : Prop := ∃ (n : Nat) (l : List TypeX) (r : List (List TypeX)), s = (n, (y.2.1 :: l) :: r, none) ∧ s1 = (n, l :: r, some y)
def popType (s s' : StType) : Prop := ∃ (n : Nat) (r : List (List TypeX)), s = (n, [] :: r, none) ∧ s' = (n, r, none)
def finType (s : StType) : Prop := ∃ n : Nat, s = (n, [], none)
def bdType (s : StType) : Prop := s.2.1.length ≤ 8589934592
def pstType (P : Nat → Prop) (s1 : StType) (y : TypeIt) (s2 : StType) (_H : Nat) (e : Ending) (W' : World) : Prop := ∃ (n : Nat) (rs : List (List TypeX)) (n' : Nat) (xs : List TypeX) (A : Option Addr) (c : Nat), s1 = (n, rs, some y) ∧ s2 = (n', xs :: rs, none) ∧ n' + 1 ≤ n ∧ e = .returned (.slice A xs.length c) ∧ TypeRow W' P A c xs

/-- The iterator between two steps: its stack rv, in blocks of M; the rows that it points to lie in P or R, none of them the stack's own. -/
structure PreTyU (J : (Nat → Prop) → StType → World → Prop) (w : World) (P : Nat → Prop) (b0 : Nat) (Rd : Nat → Prop) (M R : Nat → Prop) (s : StType) (rs : List (List TypeX)) (vs : List Value) (rv : Value) (wr : World) : Prop where
  j : J M s wr
  own : wr.ownsRow (b0 + 1) 24 1 rv rs.length vs
  mown : ∀ b, rv.ownBlock = some b → M b
  rm : ∀ b, R b → M b
  rown : ∀ b, rv.ownBlock = some b → ¬ R b
  tops : TopsTyU wr P R rs vs
  rd : ∀ b, Rd b → wr.heap[b]? = w.heap[b]?
  lt : ∀ b, M b → b0 ≤ b ∧ b < wr.heap.size
  size : b0 < wr.heap.size
section
variable {J : (Nat → Prop) → StType → World → Prop} {w : World} {P : Nat → Prop} {b0 : Nat} {Rd M R : Nat → Prop} {s : StType} {rs : List (List TypeX)} {vs : List Value} {rv : Value} {wr : World}
theorem PreTyU.grow (HJ : ∀ M s A B row, J M s A → A.grownBy B row → (∀ r, row = some r → M r) → J (fun b => M b ∨ (A.heap.size ≤ b ∧ b < B.heap.size)) s B) (hwb : w.heap.size ≤ b0) (hP : ∀ b, P b → b < w.heap.size) (hR : ∀ b, Rd b → b < w.heap.size)
    (h : PreTyU J w P b0 Rd M R s rs vs rv wr) {w2 : World} (hb : Below wr.heap.size wr w2) : PreTyU J w P b0 Rd (fun b => M b ∨ (wr.heap.size ≤ b ∧ b < w2.heap.size)) R s rs vs rv w2 where
  j := HJ _ _ _ _ none h.j (grown_none hb) (fun _ e => by cases e)
  own := own_same h.own fun b hv => hb.block b (h.own.lt b hv).2
  mown := fun b hb' => .inl (h.mown b hb')
  rm := fun b hb' => .inl (h.rm b hb')
  rown := h.rown
  tops := h.tops.frame (fun _ h => h) fun b hb' => hb.block b (by
    have := h.size
    rcases hb' with h' | h'
    · have := hP b h'; omega
    · exact (h.lt b (h.rm b h')).2)
  rd := fun b hr => (hb.block b (by have := h.size; have := hR b hr; omega)).trans (h.rd b hr)
  lt := fun b hb' => by
    have := h.size
    rcases hb' with h' | h'
    · exact ⟨(h.lt b h').1, Nat.lt_of_lt_of_le (h.lt b h').2 hb.size⟩
    · exact ⟨by omega, h'.2⟩
  size := Nat.lt_of_lt_of_le h.size hb.size
theorem PreTyU.round (hPR : ∀ b, P b → Rd b) (h : PreTyU J w P b0 Rd M R s rs vs rv wr) {w2 : World} {s2 : StType} (hk : KeepsM 0 (fun b => M b ∨ Rd b) wr w2) (hj : J M s2 w2) : PreTyU J w P b0 Rd M R s2 rs vs rv w2 where
  j := hj
  own := own_same h.own fun b hv => hk.own b (.inl (h.mown b hv))
  mown := h.mown
  rm := h.rm
  rown := h.rown
  tops := h.tops.frame (fun _ h => h) fun b hb' => by
    rcases hb' with h' | h'
    · exact hk.own _ (.inr (hPR b h'))
    · exact hk.own _ (.inl (h.rm b h'))
  rd := fun b hr => (hk.own b (.inr hr)).trans (h.rd b hr)
  lt := fun b hb => ⟨(h.lt b hb).1, Nat.lt_of_lt_of_le (h.lt b hb).2 hk.below.size⟩
  size := Nat.lt_of_lt_of_le h.size hk.below.size
/-- The parts' function has been asked. -/
theorem PreTyU.parts {Mst : Nat → Prop} (hwb : w.heap.size ≤ b0) (hMst : ∀ b, Mst b → b < w.heap.size) (hRM : ∀ b, Rd b → b < w.heap.size ∧ ¬ Mst b) (hPR : ∀ b, P b → Rd b)
    (h : PreTyU J w P b0 Rd M R s rs vs rv wr) {w2 : World} {s2 : StType} (hk : KeptM Mst wr.heap.size wr w2) (hj : J (fun b => M b ∨ (wr.heap.size ≤ b ∧ b < w2.heap.size)) s2 w2) : PreTyU J w P b0 Rd (fun b => M b ∨ (wr.heap.size ≤ b ∧ b < w2.heap.size)) R s2 rs vs rv w2 := by
  have hs := h.size
  have hM : ∀ b, M b → w2.heap[b]? = wr.heap[b]? := fun b hb => hk.block b (h.lt b hb).2 fun hm => by have := hMst b hm; have := (h.lt b hb).1; omega
  have hR : ∀ b, Rd b → w2.heap[b]? = wr.heap[b]? := fun b hb => hk.block b (by have := (hRM b hb).1; omega) (hRM b hb).2
  exact
  { j := hj
    own := own_same h.own fun b hv => hM b (h.mown b hv)
    mown := fun b hb' => .inl (h.mown b hb')
    rm := fun b hb' => .inl (h.rm b hb')
    rown := h.rown
    tops := h.tops.frame (fun _ h => h) fun b hb' => by
      rcases hb' with h' | h'
      · exact hR b (hPR b h')
      · exact hM b (h.rm b h')
    rd := fun b hr => (hR b hr).trans (h.rd b hr)
    lt := fun b hb' => by
      rcases hb' with h' | h'
      · exact ⟨(h.lt b h').1, Nat.lt_of_lt_of_le (h.lt b h').2 hk.size⟩
      · exact ⟨by omega, h'.2⟩
    size := Nat.lt_of_lt_of_le h.size hk.size }
theorem PreTyU.store (HJ : ∀ M s A B row, J M s A → A.grownBy B row → (∀ r, row = some r → M r) → J (fun b => M b ∨ (A.heap.size ≤ b ∧ b < B.heap.size)) s B) (hwb : w.heap.size ≤ b0) (hP : ∀ b, P b → b < w.heap.size) (hRl : ∀ b, Rd b → b < w.heap.size)
    {y : TypeX} {l : List TypeX} {vs0 : List Value} {v : Value} {g cap : Nat} (h : PreTyU J w P b0 Rd M R s ((y :: l) :: rs) (vs0 ++ [v]) (.slice (some ⟨g, 0, none⟩) (rs.length + 1) cap) wr) (h0 : TopsTyU wr P R rs vs0)
    {A3 : Option Addr} {c3 : Nat} (hl : l.length ≤ c3) (hc : c3 ≤ 9223372036854775807) (hT : TopTyU wr P R A3 l) :
    PreTyU J w P b0 Rd (fun b => M b ∨ (wr.heap.size ≤ b ∧ b < (wr.setCell ⟨g, rs.length, none⟩ (.slice A3 l.length c3)).heap.size)) R s (l :: rs) (vs0 ++ [.slice A3 l.length c3]) (.slice (some ⟨g, 0, none⟩) (rs.length + 1) cap) (wr.setCell ⟨g, rs.length, none⟩ (.slice A3 l.length c3)) := by
  have hg : b0 + 1 ≤ g := (h.own.lt g rfl).1
  have hgR : ¬ R g := h.rown g rfl
  have hfar : ∀ b, b ≠ g → (wr.setCell ⟨g, rs.length, none⟩ (.slice A3 l.length c3)).heap[b]? = wr.heap[b]? := fun b hb => Below.heap_setCell wr _ _ b hb
  have hfr : ∀ b, P b ∨ R b → (wr.setCell ⟨g, rs.length, none⟩ (.slice A3 l.length c3)).heap[b]? = wr.heap[b]? := fun b hb => hfar b (by
    rcases hb with h' | h'
    · have := hP b h'; omega
    · intro e; exact hgR (e ▸ h'))
  have hst := World.ownsRow.stored h.own rs.length (.slice A3 l.length c3)
  refine ⟨HJ _ _ _ _ (some g) h.j (grownBy_setCell'' wr g rs.length _) (fun r e => by cases e; exact h.mown g rfl), ?_, fun b hb => .inl (h.mown b hb), fun b hb => .inl (h.rm b hb), fun b hb => h.rown b hb, ?_, fun b hr => (hfar b (by have := hRl b hr; omega)).trans (h.rd b hr), fun b hb => ?_, by simpa using h.size⟩
  · have e : (vs0 ++ [v]).set rs.length (.slice A3 l.length c3) = vs0 ++ [.slice A3 l.length c3] := by
      rw [List.set_append_right _ _ (by rw [h0.length]; exact Nat.le_refl _), h0.length, Nat.sub_self]; rfl
    rw [← e]; exact hst.1
  · exact ⟨vs0, A3, c3, rfl, hl, hc, hT.frame (fun _ h => h) hfr, h0.frame (fun _ h => h) hfr⟩
  · have := h.size
    rcases hb with h' | h'
    · exact ⟨(h.lt b h').1, by simpa using (h.lt b h').2⟩
    · exact ⟨by omega, h'.2⟩
theorem PreTyU.push (HJ : ∀ M s A B row, J M s A → A.grownBy B row → (∀ r, row = some r → M r) → J (fun b => M b ∨ (A.heap.size ≤ b ∧ b < B.heap.size)) s B) (hwb : w.heap.size ≤ b0) (hP : ∀ b, P b → b < w.heap.size) (hRl : ∀ b, Rd b → b < w.heap.size)
    (h : PreTyU J w P b0 Rd M R s rs vs rv wr) {w2 : World} {v' : Value} {l : List TypeX} {A : Option Addr} {c : Nat} {R' : Nat → Prop} (hRR : ∀ b, R b → R' b) (hRM : ∀ b, R' b → M b) (hRv : ∀ b, rv.ownBlock = some b → ¬ R' b)
    (hg : wr.grownBy w2 rv.ownBlock) (hown : w2.ownsRow (b0 + 1) 24 1 v' (rs.length + 1) (vs ++ [.slice A l.length c]))
    (hv : v'.ownBlock = rv.ownBlock ∨ v'.ownBlock = some wr.heap.size) (hl : l.length ≤ c) (hc : c ≤ 9223372036854775807) (hT : TopTyU wr P R' A l) :
    PreTyU J w P b0 Rd (fun b => M b ∨ (wr.heap.size ≤ b ∧ b < w2.heap.size)) R' s (l :: rs) (vs ++ [.slice A l.length c]) v' w2 := by
  have hs := h.size
  have hfar : ∀ b, P b ∨ R' b → w2.heap[b]? = wr.heap[b]? := fun b hb => by
    rcases hb with h' | h'
    · have := hP b h'
      exact hg.block b (by omega) (fun e => by have := (h.own.lt b e.symm).1; omega)
    · exact hg.block b (h.lt b (hRM b h')).2 (fun e => hRv b e.symm h')
  refine ⟨HJ _ _ _ _ _ h.j hg h.mown, hown, fun b hb => ?_, fun b hb => .inl (hRM b hb), fun b hb => ?_, ⟨vs, A, c, rfl, hl, hc, hT.frame (fun _ h => h) hfar, (h.tops.frame hRR (fun _ _ => rfl)).frame (fun _ h => h) hfar⟩,
    fun b hr => (hg.block b (by have := hRl b hr; omega) (fun e => by have := (h.own.lt b e.symm).1; have := hRl b hr; omega)).trans (h.rd b hr), fun b hb => ?_, Nat.lt_of_lt_of_le hs hg.size⟩
  · rcases hv with hv | hv
    · exact .inl (h.mown b (hv ▸ hb))
    · rw [hv] at hb; injection hb with hb; subst hb
      exact .inr ⟨Nat.le_refl _, (hown.lt _ hv).2⟩
  · rcases hv with hv | hv
    · exact hRv b (hv ▸ hb)
    · rw [hv] at hb; injection hb with hb; subst hb
      intro hr
      have := (h.lt _ (hRM _ hr)).2
      omega
  · rcases hb with h' | h'
    · exact ⟨(h.lt b h').1, Nat.lt_of_lt_of_le (h.lt b h').2 hg.size⟩
    · exact ⟨by omega, h'.2⟩
end

set_option maxRecDepth 100000 in
set_option maxHeartbeats 4000000 in
theorem preUType_seq (x : TypeX) (A : Option Addr) (c : Nat) (Br Bp n0 : Nat) (P Mst Rd : Nat → Prop) (pf : FuncId) (fs : Array Value) (epf : ∀ (args : Array Value) (w : World), (callFunc pf args).run Try.prog w = .ok (.enter pf args) w) (w : World) (hRp : Rd Bp) (hPR : ∀ b, P b → Rd b) (hRM : ∀ b, Rd b → b < w.heap.size ∧ ¬ Mst b) (hMst : ∀ b, Mst b → b < w.heap.size) (hBr : Br < w.heap.size)
    (hwr : Whole w Br 26 #[.int .i64 x.kind_, .string x.name_, .slice A x.args_.length c]) (hwp : w.cell? ⟨Bp, 0, none⟩ = some (.func (.func pf) fs #[])) (hx : TypeRow w P A c x.args_) :
    SeqU Fence.wide 3 Try.prog 85 #[.pointer (some ⟨Br, 0, none⟩), .pointer (some ⟨Bp, 0, none⟩)] TypeIt.enc
      (okType w P) nxType popType finType bdType pf (fun y => fs ++ #[.agg #[.int .i64 y.2.1.kind_, .string y.2.1.name_, .slice y.2.2.1 y.2.1.args_.length y.2.2.2]]) (pstType P) Mst Rd (n0, [[x]], none) w := by
  intro l J Jx W hW hJ hPop hBd hY hPt h0
  obtain ⟨i0, hi, hz0, hz1, hz2⟩ := info_parts infoRow
  have hPlt : ∀ b, P b → b < w.heap.size := fun b h => (hRM b (hPR b h)).1
  have hRlt : ∀ b, Rd b → b < w.heap.size := fun b h => (hRM b h).1
  have hwr' := hwr.below hW hBr
  obtain ⟨c0, c1, c2⟩ := cells3 hwr'
  have HY := Lib.hid hY
  have HJ := Lib.hid hJ
  have HPOP := Lib.hid hPop
  have hBD := Lib.hid hBd
  have HPT := Lib.hid hPt
  clear hY hJ hwr' hPop hBd hPt
  refine callsIn_of_wp Try.func85 rfl trivial ?_ rfl
  simp only [Try.ntmps85, List.size_toArray, List.length_cons, List.length_nil, Nat.reduceAdd, Nat.reduceSub, Array.replicate_succ, Array.replicate_zero, List.push_toArray, List.append_toArray, List.nil_append, List.cons_append]
  gi_wp2
  have hb0 : Below W.heap.size W ((W.alloc (.cells #[.int .i64 x.kind_, .string x.name_, .slice A x.args_.length c] 26)).alloc (.cells #[.slice (some ⟨W.heap.size, 0, none⟩) 1 1] 24)) := ((Below.refl _ _).alloc (Nat.le_refl _) _).alloc (by simp) _
  obtain ⟨W0, hW0⟩ : ∃ W0, (W.alloc (.cells #[.int .i64 x.kind_, .string x.name_, .slice A x.args_.length c] 26)).alloc (.cells #[.slice (some ⟨W.heap.size, 0, none⟩) 1 1] 24) = W0 := ⟨_, rfl⟩
  have hs0 : W0.heap.size = W.heap.size + 2 := by rw [← hW0]; simp
  have hown0 := World.ownsRow_lit (base := W.heap.size + 1) (size := 1) (e := 24) (W.alloc (.cells #[.int .i64 x.kind_, .string x.name_, .slice A x.args_.length c] 26)) #[.slice (some ⟨W.heap.size, 0, none⟩) 1 1] 1 (by simp) (by decide) rfl
  rw [World.size_alloc] at hown0
  have hwh0 : Whole W0 W.heap.size 26 #[.int .i64 x.kind_, .string x.name_, .slice A x.args_.length c] := by
    rw [← hW0]; exact (Whole.new W _ _).below ((Below.refl (W.heap.size + 1) _).alloc (by simp) _) (by omega)
  rw [hW0] at hown0 hb0 ⊢
  have hJ0 := HJ.out _ _ _ _ none h0 (grown_none hb0) (fun _ e => by cases e)
  have hfx : ∀ b o, P b → W0.cell? ⟨b, o, none⟩ = w.cell? ⟨b, o, none⟩ := fun b o hP => by
    have hlt := hPlt b hP
    rw [hb0.cell (p := ⟨b, o, none⟩) (Nat.lt_of_lt_of_le hlt hW.size)]; exact hW.cell (p := ⟨b, o, none⟩) hlt
  have hT0 : TopTyU W0 P (fun b => b = W.heap.size) (some ⟨W.heap.size, 0, none⟩) [x] := by
    intro j hj
    obtain rfl : j = 0 := by simpa using hj
    obtain ⟨d0, d1, d2⟩ := cells3 hwh0
    exact ⟨W.heap.size, 0, A, c, rfl, .inr rfl, d0, d1, d2, hx.frame (fun _ h => h) hfx⟩
  have hTs0 : TopsTyU W0 P (fun b => b = W.heap.size) [[x]] [.slice (some ⟨W.heap.size, 0, none⟩) 1 1] := ⟨[], _, 1, rfl, by simp, by omega, hT0, rfl⟩
  have hRb : ∀ b, Rd b → W0.heap[b]? = w.heap[b]? := fun b h => (hb0.block b (Nat.lt_of_lt_of_le (hRlt b h) hW.size)).trans (hW.block b (hRlt b h))
  have HB := Lib.hid hRb
  have HO := Lib.hid hown0
  have HT := Lib.hid hTs0
  have HS := Lib.hid hs0
  have HP := Lib.hid hwp
  clear hW0 hRb hown0 hTs0 hs0 c0 c1 c2 hfx hT0 hwh0 hx hwr hwp
  have hwb := hW.size
  gi_loopg [4] (2 * n0 + 1) (fun gk rv wr => ∃ (M R : Nat → Prop) (n : Nat) (rs : List (List TypeX)) (vs : List Value), PreTyU J w P W.heap.size Rd M R (n, rs, none) rs vs rv wr ∧ gk = 2 * n + rs.length)
  case atStart =>
    have hs0 := HS.out
    refine ⟨_, fun b => b = W.heap.size, n0, [[x]], _, ⟨hJ0, HO.out, fun b hb => .inr ?_, fun b hb => .inr ?_, fun b hb => ?_, HT.out, HB.out, fun b hb => ?_, by omega⟩, rfl⟩
    · simp [Value.ownBlock] at hb; omega
    · omega
    · simp [Value.ownBlock] at hb; omega
    · rcases hb with hb | hb
      · exact hb.elim
      · omega
  case round =>
    clear HB HO HT HS hJ0 hb0 h0
    obtain ⟨M, R, n, rs, vs, hst, rfl⟩ := hrel
    have hlv : rs.length ≤ 8589934592 := hBD.out _ _ _ hst.j
    cases rs with
    | nil =>
      obtain ⟨A1, c1, rfl⟩ := own_nil hst.own
      have HST := Lib.hid hst
      clear hst
      gi_wp2
      go_end0
      exact ⟨⟨_, rfl⟩, .inl ⟨M, _, ⟨n, rfl⟩, HST.out.j⟩⟩
    | cons l' rs =>
      obtain ⟨vs0, A1, c1, rfl, hlc, hcm, hT, hts0⟩ := hst.tops
      have hvl := hts0.length
      have hown := hst.own
      rw [List.length_cons] at hown hlv
      obtain ⟨g, cap, rfl⟩ := own_some hown
      obtain ⟨hown0, hcell, hcap, hcm2, hBg, hgw⟩ := own_pop hown (by rw [hvl, Nat.mul_one]) rfl
      have hc0 : wr.cell? ⟨g, rs.length, none⟩ = some (.slice A1 l'.length c1) := by have := hcell 0 (by decide); rw [Nat.mul_one, Nat.add_zero] at this; exact this
      have hfr := hown.frozenAt rs.length
      have hrl : rs.length ≤ 8589934592 := by omega
      unfold maxLen at hcm2
      cases l' with
      | nil =>
        have hst1 : PreTyU J w P W.heap.size Rd M R (n, rs, none) rs vs0 (.slice (some ⟨g, 0, none⟩) rs.length cap) wr := ⟨HPOP.out _ _ _ _ hst.j ⟨_, _, rfl, rfl⟩, hown0, fun b hb => hst.mown b (by simpa [Value.ownBlock] using hb), hst.rm, fun b hb => hst.rown b (by simpa [Value.ownBlock] using hb), hts0, hst.rd, hst.lt, hst.size⟩
        have HST := Lib.hid hst1
        have hc0' : wr.cell? ⟨g, rs.length, none⟩ = some (.slice A1 0 c1) := hc0
        clear hown0 hown hcell hT hts0 hvl hc0 hst hst1
        gi_wp2
        gi_roundg (2 * n + rs.length)
        case measure => simp only [List.length_cons]; omega
        case rel => exact ⟨M, R, n, rs, vs0, HST.out, rfl⟩
      | cons y ys =>
        obtain ⟨b, o, A2, c2, rfl, hb, q0, q1, q2, hr⟩ := hT 0 (by simp)
        simp only [Nat.zero_mul, Nat.add_zero, List.getElem_cons_zero] at q0 q1 q2 hr
        have hlc' : ys.length + 1 ≤ c1 := hlc
        have hc0' : wr.cell? ⟨g, rs.length, none⟩ = some (.slice (some ⟨b, o, none⟩) (ys.length + 1) c1) := hc0
        have hfw : ∀ b i, P b → w.cell? ⟨b, i, none⟩ = wr.cell? ⟨b, i, none⟩ := fun b i hP => (World.cell?_of_block (w := w) (w' := wr) (a := ⟨b, i, none⟩) (hst.rd b (hPR b hP))).symm
        have hrw : TypeRow w P A2 c2 y.args_ := hr.frame (fun _ h => h) hfw
        -- WHAT STANDS BEHIND THE STORE AND THE NEW VARIABLE, whatever the rest's address
        have key : ∀ (A3 : Option Addr) (c3 : Nat), ys.length ≤ c3 → c3 ≤ 9223372036854775807 → TopTyU wr P R A3 ys →
            ∃ (M3 : Nat → Prop), PreTyU J w P W.heap.size Rd M3 R (n, (y :: ys) :: rs, none) (ys :: rs) (vs0 ++ [.slice A3 ys.length c3]) (.slice (some ⟨g, 0, none⟩) (rs.length + 1) cap)
              ((wr.setCell ⟨g, rs.length, none⟩ (.slice A3 ys.length c3)).alloc (.cells #[.int .i64 y.kind_, .string y.name_, .slice A2 y.args_.length c2] 26)) ∧ M3 wr.heap.size ∧ Whole ((wr.setCell ⟨g, rs.length, none⟩ (.slice A3 ys.length c3)).alloc (.cells #[.int .i64 y.kind_, .string y.name_, .slice A2 y.args_.length c2] 26)) wr.heap.size 26 #[.int .i64 y.kind_, .string y.name_, .slice A2 y.args_.length c2] := fun A3 c3 h1 h2 h3 => by
          have hs := PreTyU.store HJ.out hwb hPlt hRlt hst hts0 h1 h2 h3
          refine ⟨_, PreTyU.grow HJ.out hwb hPlt hRlt hs ((Below.refl _ _).alloc (Nat.le_refl _) _), .inr ⟨by simp, by simp⟩, ?_⟩
          have h := Whole.new (wr.setCell ⟨g, rs.length, none⟩ (.slice A3 ys.length c3)) 26 #[.int .i64 y.kind_, .string y.name_, .slice A2 y.args_.length c2]
          simpa using h
        have HKEY := Lib.hid key
        have HRW := Lib.hid hrw
        have HT := Lib.hid hT
        clear hown hown0 hts0 hT hvl hcell hst hr hlc hc0 hrw key hfw
        by_cases hcc : c1 = 1
        · subst hcc
          have hl0 : ys.length = 0 := by omega
          obtain rfl : ys = [] := List.eq_nil_of_length_eq_zero hl0
          clear hl0
          obtain ⟨M3, hst3, hM3, hbx⟩ := HKEY.out (some ⟨b, o, none⟩) 0 (Nat.le_refl _) (by omega) (TopTyU.nil _ _ _ _)
          obtain ⟨fn, tmps, assign, body, hy, hR⟩ := HY.out M3 _ (rs.length, y, A2, c2) _ hst3.j ⟨_, _, _, rfl, rfl, HRW.out⟩
          simp only [TypeIt.enc, List.length_nil] at hy
          have HST := Lib.hid hst3
          have HBX := Lib.hid hbx
          have HM3 := Lib.hid hM3
          clear hst3 hbx hM3
          gi_wp2
          refine hR.mono ?_
          rintro e W4 (⟨rfl, ⟨s4, hnx4, hJ4⟩, hk4⟩ | ⟨rfl, hJx4⟩)
          · have hst4 := PreTyU.round hPR HST.out hk4 hJ4
            have hbx4 : Whole W4 wr.heap.size 26 #[.int .i64 y.kind_, .string y.name_, .slice A2 y.args_.length c2] := (hk4.own _ (.inl HM3.out)).trans HBX.out
            have hbl4 := hbx4.lt
            obtain ⟨d0, d1, d2⟩ := cells3 hbx4
            have dp : W4.cell? ⟨Bp, 0, none⟩ = some (.func (.func pf) fs #[]) := (World.cell?_of_block (w := w) (w' := W4) (a := ⟨Bp, 0, none⟩) (hst4.rd Bp hRp)).trans HP.out
            have hcall := HPT.out M3 _ (rs.length, y, A2, c2) s4 W4 ⟨_, _, _, rfl, rfl, HRW.out⟩ hnx4 hst4.j
            obtain ⟨n1, l1, r1, e1, e2⟩ := hnx4
            injection e1 with e1 e3
            injection e3 with e3 _
            injection e3 with e3 e4
            injection e3 with _ e3
            subst e1 e3 e4
            have hgl : g < W4.heap.size := (hst4.own.lt g rfl).2
            have hs4 := hst4.size
            have HST4 := Lib.hid hst4
            have HC4 := Lib.hid hcall
            have HE2 := Lib.hid e2
            clear hst4 hbx4 hJ4 hk4 hy hR hc0' q0 q1 q2 hcall e2
            gi_wp2_with fail
            refine ⟨trivial, ?_⟩
            refine (callsIn_wide.2 HC4.out).mono ?_
            rintro e W5 ⟨s5, ⟨n5, rs5, n5', xs, A5, c5, f1, rfl, hn5, rfl, hrow5⟩, hkm5, hJ5⟩
            rw [HE2.out] at f1
            injection f1 with f1 f2
            injection f2 with f2 _
            subst f1 f2
            have hst5 := PreTyU.parts hwb hMst hRM hPR HST4.out hkm5 hJ5
            have hst6 := PreTyU.grow HJ.out hwb hPlt hRlt hst5 ((Below.refl _ _).alloc (Nat.le_refl _) (.cells #[.slice A5 xs.length c5] 24))
            have hown6 := hst6.own
            have hs5 := hkm5.size
            have hs6 := hst6.size
            have hbd6 : xs.length ≤ c5 ∧ c5 ≤ 9223372036854775807 := ⟨hrow5.cap.1, hrow5.cap.2⟩
            have hlv6 : rs.length + 2 ≤ 8589934592 := hBD.out _ _ _ hst6.j
            have ht6 : TopTyU (W5.alloc (.cells #[.slice A5 xs.length c5] 24)) P (fun b => R b ∨ (W4.heap.size ≤ b ∧ b < W5.heap.size)) A5 xs := (TopTyU.of_row hrow5).frame (fun b h => .inr h) (fun b h => Below.heap_alloc _ _ _ (by
              rcases h with h | h
              · have := hPlt b h; omega
              · exact h.2))
            have hr6 : ∀ b, R b ∨ (W4.heap.size ≤ b ∧ b < W5.heap.size) → (M3 b ∨ (W4.heap.size ≤ b ∧ b < W5.heap.size)) ∨ (W5.heap.size ≤ b ∧ b < (W5.alloc (.cells #[.slice A5 xs.length c5] 24)).heap.size) := fun b h => h.elim (fun h => .inl (.inl (HST4.out.rm b h))) (fun h => .inl (.inr h))
            have hg6 : ∀ b, (Value.slice (some ⟨g, 0, none⟩) (rs.length + 1) cap).ownBlock = some b → ¬ (R b ∨ (W4.heap.size ≤ b ∧ b < W5.heap.size)) := fun b hb h => by
              have hgb : g = b := by simpa [Value.ownBlock] using hb
              subst hgb
              rcases h with h | h
              · exact HST4.out.rown g rfl h
              · omega
            have HST6 := Lib.hid hst6
            have HO6 := Lib.hid hown6
            have HT6 := Lib.hid ht6
            have HR6 := Lib.hid hr6
            have HG6 := Lib.hid hg6
            clear hst5 hst6 hown6 ht6 hr6 hg6 d0 d1 d2 dp HC4 hkm5 hJ5 hrow5
            gi_wp2_with (gi_at_builtin; refine wpListIn_append_at _ rfl _ _ 124 rfl (W.heap.size + 1) 24 i0 (.slice none 0 0) 1 24 Try.underlying124 hi hz0 hz1 hz2 rfl (by decide) _ _ _ rfl HO6.out ⟨W5.heap.size, 0, none⟩ 1 1 [.slice A5 xs.length c5] rfl rfl (cell_one_new _ _ _) (one_slice _ _ _) (by unfold maxLen; simp only [List.length_cons]; omega) (by simp only [List.length_cons]; omega) (by omega) ?_)
            intro v' W7 hown7 hgrow7 hv7
            have hst7 := PreTyU.push HJ.out hwb hPlt hRlt HST6.out (R' := fun b => R b ∨ (W4.heap.size ≤ b ∧ b < W5.heap.size)) (fun b h => .inl h) HR6.out HG6.out hgrow7 (by rw [List.append_assoc]; exact hown7) (hv7.imp_right (fun h => h.trans (by simp))) hbd6.1 hbd6.2 HT6.out
            have HST7 := Lib.hid hst7
            clear hst7 hown7 hgrow7 hv7 hs6
            gi_wp2
            gi_roundg (2 * n5' + (xs :: [] :: rs).length)
            case measure => simp only [List.length_cons]; omega
            case rel => exact ⟨_, _, n5', _, _, HST7.out, rfl⟩
          · gi_wp2
            refine bodyPost_ret (results_none rfl _ _ _) rfl ?_
            exact ⟨⟨_, rfl⟩, .inr hJx4⟩
        · have hcc' : 1 < c1 := by omega
          clear hcc
          obtain ⟨M3, hst3, hM3, hbx⟩ := HKEY.out (some ⟨b, o + 3, none⟩) (c1 - 1) (by omega) (by omega) HT.out.tail
          obtain ⟨fn, tmps, assign, body, hy, hR⟩ := HY.out M3 _ (rs.length, y, A2, c2) _ hst3.j ⟨_, _, _, rfl, rfl, HRW.out⟩
          simp only [TypeIt.enc] at hy
          have HST := Lib.hid hst3
          have HBX := Lib.hid hbx
          have HM3 := Lib.hid hM3
          clear hst3 hbx hM3
          gi_wp2
          refine hR.mono ?_
          rintro e W4 (⟨rfl, ⟨s4, hnx4, hJ4⟩, hk4⟩ | ⟨rfl, hJx4⟩)
          · have hst4 := PreTyU.round hPR HST.out hk4 hJ4
            have hbx4 : Whole W4 wr.heap.size 26 #[.int .i64 y.kind_, .string y.name_, .slice A2 y.args_.length c2] := (hk4.own _ (.inl HM3.out)).trans HBX.out
            have hbl4 := hbx4.lt
            obtain ⟨d0, d1, d2⟩ := cells3 hbx4
            have dp : W4.cell? ⟨Bp, 0, none⟩ = some (.func (.func pf) fs #[]) := (World.cell?_of_block (w := w) (w' := W4) (a := ⟨Bp, 0, none⟩) (hst4.rd Bp hRp)).trans HP.out
            have hcall := HPT.out M3 _ (rs.length, y, A2, c2) s4 W4 ⟨_, _, _, rfl, rfl, HRW.out⟩ hnx4 hst4.j
            obtain ⟨n1, l1, r1, e1, e2⟩ := hnx4
            injection e1 with e1 e3
            injection e3 with e3 _
            injection e3 with e3 e4
            injection e3 with _ e3
            subst e1 e3 e4
            have hgl : g < W4.heap.size := (hst4.own.lt g rfl).2
            have hs4 := hst4.size
            have HST4 := Lib.hid hst4
            have HC4 := Lib.hid hcall
            have HE2 := Lib.hid e2
            clear hst4 hbx4 hJ4 hk4 hy hR hc0' q0 q1 q2 hcall e2
            gi_wp2_with fail
            refine ⟨trivial, ?_⟩
            refine (callsIn_wide.2 HC4.out).mono ?_
            rintro e W5 ⟨s5, ⟨n5, rs5, n5', xs, A5, c5, f1, rfl, hn5, rfl, hrow5⟩, hkm5, hJ5⟩
            rw [HE2.out] at f1
            injection f1 with f1 f2
            injection f2 with f2 _
            subst f1 f2
            have hst5 := PreTyU.parts hwb hMst hRM hPR HST4.out hkm5 hJ5
            have hst6 := PreTyU.grow HJ.out hwb hPlt hRlt hst5 ((Below.refl _ _).alloc (Nat.le_refl _) (.cells #[.slice A5 xs.length c5] 24))
            have hown6 := hst6.own
            have hs5 := hkm5.size
            have hs6 := hst6.size
            have hbd6 : xs.length ≤ c5 ∧ c5 ≤ 9223372036854775807 := ⟨hrow5.cap.1, hrow5.cap.2⟩
            have hlv6 : rs.length + 2 ≤ 8589934592 := hBD.out _ _ _ hst6.j
            have ht6 : TopTyU (W5.alloc (.cells #[.slice A5 xs.length c5] 24)) P (fun b => R b ∨ (W4.heap.size ≤ b ∧ b < W5.heap.size)) A5 xs := (TopTyU.of_row hrow5).frame (fun b h => .inr h) (fun b h => Below.heap_alloc _ _ _ (by
              rcases h with h | h
              · have := hPlt b h; omega
              · exact h.2))
            have hr6 : ∀ b, R b ∨ (W4.heap.size ≤ b ∧ b < W5.heap.size) → (M3 b ∨ (W4.heap.size ≤ b ∧ b < W5.heap.size)) ∨ (W5.heap.size ≤ b ∧ b < (W5.alloc (.cells #[.slice A5 xs.length c5] 24)).heap.size) := fun b h => h.elim (fun h => .inl (.inl (HST4.out.rm b h))) (fun h => .inl (.inr h))
            have hg6 : ∀ b, (Value.slice (some ⟨g, 0, none⟩) (rs.length + 1) cap).ownBlock = some b → ¬ (R b ∨ (W4.heap.size ≤ b ∧ b < W5.heap.size)) := fun b hb h => by
              have hgb : g = b := by simpa [Value.ownBlock] using hb
              subst hgb
              rcases h with h | h
              · exact HST4.out.rown g rfl h
              · omega
            have HST6 := Lib.hid hst6
            have HO6 := Lib.hid hown6
            have HT6 := Lib.hid ht6
            have HR6 := Lib.hid hr6
            have HG6 := Lib.hid hg6
            clear hst5 hst6 hown6 ht6 hr6 hg6 d0 d1 d2 dp HC4 hkm5 hJ5 hrow5
            gi_wp2_with (gi_at_builtin; refine wpListIn_append_at _ rfl _ _ 124 rfl (W.heap.size + 1) 24 i0 (.slice none 0 0) 1 24 Try.underlying124 hi hz0 hz1 hz2 rfl (by decide) _ _ _ rfl HO6.out ⟨W5.heap.size, 0, none⟩ 1 1 [.slice A5 xs.length c5] rfl rfl (cell_one_new _ _ _) (one_slice _ _ _) (by unfold maxLen; simp only [List.length_cons]; omega) (by simp only [List.length_cons]; omega) (by omega) ?_)
            intro v' W7 hown7 hgrow7 hv7
            have hst7 := PreTyU.push HJ.out hwb hPlt hRlt HST6.out (R' := fun b => R b ∨ (W4.heap.size ≤ b ∧ b < W5.heap.size)) (fun b h => .inl h) HR6.out HG6.out hgrow7 (by rw [List.append_assoc]; exact hown7) (hv7.imp_right (fun h => h.trans (by simp))) hbd6.1 hbd6.2 HT6.out
            have HST7 := Lib.hid hst7
            clear hst7 hown7 hgrow7 hv7 hs6
            gi_wp2
            gi_roundg (2 * n5' + (xs :: ys :: rs).length)
            case measure => simp only [List.length_cons]; omega
            case rel => exact ⟨_, _, n5', _, _, HST7.out, rfl⟩
          · gi_wp2
            refine bodyPost_ret (results_none rfl _ _ _) rfl ?_
            exact ⟨⟨_, rfl⟩, .inr hJx4⟩
end Go.Proofs.Ytpffmcofajlkgaa

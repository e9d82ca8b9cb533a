/- (*matcher).match: a loop over the pairs; a deferred function that undoes what has been bound. -/
import Derived.Test.YtngbilblddngcaaDoorZPrePair
import Derived.Test.YtngbilblddngcaaDoorZMatRoots
import Derived.DefersIn
import Derived.Test.YtngbilblddngcaaDoorQ2
namespace Go.Proofs.YtngbilblddngcaaDoor
open Go.RowKit Go.Shelf Go.Lib
attribute [local go_sem] Oper.semAt_some

/-- The list of a match that has been made: a row of the call's own; what it leads to lies below n₀. -/
def ShareAt (base n₀ : Nat) (acc : List BindingX) (V : Value) (w : World) : Prop := ∃ vs, w.ownsRow base 58 4 V acc.length vs ∧ RdVE w (Und n₀) 4 (BindingX.rows acc) vs
/-- What match leaves. -/
def MatchOut (n₀ Bm : Nat) (o : Option (List BindingX)) (w : World) (e : Ending) (w' : World) : Prop :=
  e = .returned (.bool o.isSome) ∧ (∃ mv V, Whole w' Bm 64 #[mv, V] ∧ ShareAt (Bm + 1) n₀ (o.getD []) V w') ∧ Below n₀ w w'

theorem deferKeeps (Bo Bx : Nat) (n : Nat) (u : FrameMode) (w : World) (ho : w.cell? ⟨Bo, 0, none⟩ = some (.bool true)) :
    CallsDIn Fence.wide n Tryd.prog 61 #[.pointer (some ⟨Bo, 0, none⟩), .pointer (some ⟨Bx, 0, none⟩)] u w fun e u' w' => u' = u ∧ e = .returned (.tuple #[]) ∧ w' = w := by
  refine callsDIn_of_wp Tryd.func61 rfl trivial ?_ rfl
  simp only [Tryd.ntmps61, List.size_toArray, List.length_cons, List.length_nil, Nat.reduceAdd, Nat.reduceSub, Array.replicate_succ, Array.replicate_zero, List.push_toArray, List.append_toArray, List.nil_append, List.cons_append]
  gi_wp2
  go_end0
  exact ⟨rfl, rfl⟩
theorem deferUndoes (Bo Bx Bm : Nat) (n : Nat) (u : FrameMode) (w : World) (a b : Value) (ho : w.cell? ⟨Bo, 0, none⟩ = some (.bool false)) (hx : w.cell? ⟨Bx, 0, none⟩ = some (.pointer (some ⟨Bm, 0, none⟩))) (hm : Whole w Bm 64 #[a, b]) :
    CallsDIn Fence.wide n Tryd.prog 61 #[.pointer (some ⟨Bo, 0, none⟩), .pointer (some ⟨Bx, 0, none⟩)] u w fun e u' w' => u' = u ∧ e = .returned (.tuple #[]) ∧ w' = (w.setCell ⟨Bm, 0, none⟩ (.map none)).setCell ⟨Bm, 1, none⟩ (.slice none 0 0) := by
  have c0 : w.cell? ⟨Bm, 0, none⟩ = some a := by rw [hm.cell]; rfl
  have c1 : w.cell? ⟨Bm, 1, none⟩ = some b := by rw [hm.cell]; rfl
  have f0 := hm.frozen 0
  have f1 := hm.frozen 1
  have hlt := hm.lt
  refine callsDIn_of_wp Tryd.func61 rfl trivial ?_ rfl
  simp only [Tryd.ntmps61, List.size_toArray, List.length_cons, List.length_nil, Nat.reduceAdd, Nat.reduceSub, Array.replicate_succ, Array.replicate_zero, List.push_toArray, List.append_toArray, List.nil_append, List.cons_append]
  gi_wp2
  go_end0
  exact ⟨rfl, rfl⟩

set_option maxRecDepth 100000 in
set_option maxHeartbeats 2000000 in
theorem implPrePair (p t : TypeX) (A C : Option Addr) (a c g : Nat) (w : World) :
    Calls Tryd.prog 62 #[.agg #[.int .i64 p.kind_, .string p.name_, .slice A p.args_.length a, .int .i64 t.kind_, .string t.name_, .slice C t.args_.length c], .func (.func g) #[] #[]] w fun e w' =>
      e = .returned (.func (.func 74) #[] #[.pointer (some ⟨w.heap.size, 0, none⟩), .pointer (some ⟨w.heap.size + 1, 0, none⟩)]) ∧
      w' = (w.alloc (.cells #[.int .i64 p.kind_, .string p.name_, .slice A p.args_.length a, .int .i64 t.kind_, .string t.name_, .slice C t.args_.length c] 87)).alloc (.cells #[.func (.func g) #[] #[]] 88) := by
  go_enter Tryd.func62, Tryd.ntmps62
  go_wp2
  go_ret
  exact ⟨rfl, rfl⟩

/-- WHAT HOLDS BETWEEN two rounds. -/
def MatInv (base n₀ Bm mb Bx Bo : Nat) (w : World) (M : Nat → Prop) (pre : List PairIt) (W : World) : Prop :=
  (∃ acc V vs, stepsP (pre.map PairIt.key) [] = some acc ∧ MatSt base n₀ Bm mb acc V vs W ∧ ∀ b, V.ownBlock = some b → ¬ M b) ∧ Boxed W Bx 82 (.pointer (some ⟨Bm, 0, none⟩)) ∧ Boxed W Bo 4 (.bool false) ∧ Below n₀ w W
/-- What holds where the loop has been left. -/
def MatStop (n₀ Bm Bx Bo : Nat) (p t : TypeX) (w : World) (c : Code) (_pre : List PairIt) (W : World) : Prop :=
  c = .ret ∧ p.mat t [] = none ∧ (∃ a b, Whole W Bm 64 #[a, b]) ∧ Boxed W Bx 82 (.pointer (some ⟨Bm, 0, none⟩)) ∧ Boxed W Bo 4 (.bool false) ∧ Below n₀ w W
theorem matInv_own {base n₀ Bm mb Bx Bo : Nat} {w : World} (hn : n₀ ≤ w.heap.size) (h0 : n₀ ≤ base) (h1 : Bm < base) (h2 : mb < base) (h3 : Bx < base) (h4 : Bo < base) : OwnM base (MatInv base n₀ Bm mb Bx Bo w) := by
  rintro M M' s A A' row ⟨⟨acc, V, vs, k1, k2, k3⟩, hx, ho, hb⟩ hg hrow hM
  refine ⟨⟨acc, V, vs, k1, k2.keep fun b hb' => hg.block b ?_ (fun e => ?_), fun b hv hm => ?_⟩, hx.kept hg (fun e => by have := (hrow _ e.symm).1; omega), ho.kept hg (fun e => by have := (hrow _ e.symm).1; omega), hb.grown hg (by have := hb.size; omega) (fun k e => by have := (hrow k e).1; omega)⟩
  · rcases hb' with h' | rfl | rfl | h'
    · have := hb.size; omega
    · exact k2.whole.lt
    · exact k2.lt
    · exact (k2.own.lt b h').2
  · have hr := hrow b e.symm
    rcases hb' with h' | rfl | rfl | h'
    · omega
    · omega
    · omega
    · rcases hr.2 with h | ⟨o, ho', hc⟩
      · exact k3 b h' h
      · rcases k2.own.2 with ⟨rfl, _⟩ | ⟨g, cap, cur, rfl, _, hgb, _⟩
        · cases h'
        · have e2 : g = b := by simpa [Value.ownBlock] using h'
          rw [← e2, hgb] at ho'; cases ho'; cases hc
  · rcases hM b hm with h | h
    · exact k3 b hv h
    · have := (k2.own.lt b hv).2; omega
theorem matStop_own {base n₀ Bm Bx Bo : Nat} {p t : TypeX} {w : World} (hn : n₀ ≤ w.heap.size) (h0 : n₀ ≤ base) (h1 : Bm < base) (h3 : Bx < base) (h4 : Bo < base) (c : Code) : OwnFrom base (MatStop n₀ Bm Bx Bo p t w c) := by
  rintro s A A' row ⟨e1, e2, ⟨a, b, hw⟩, hx, ho, hb⟩ hg hr
  exact ⟨e1, e2, ⟨a, b, (hg.block Bm hw.lt (fun e => by have := (hr _ e.symm).1; omega)).trans hw⟩, hx.kept hg (fun e => by have := (hr _ e.symm).1; omega), ho.kept hg (fun e => by have := (hr _ e.symm).1; omega), hb.grown hg (by have := hb.size; omega) (fun k e => by have := (hr k e).1; omega)⟩
theorem matInv_good {base n₀ Bm mb Bx Bo : Nat} {w : World} (M : Nat → Prop) (pre : List PairIt) (x : PairIt) (W : World) (h : MatInv base n₀ Bm mb Bx Bo w M (pre ++ [x]) W) : GoodP x.p x.t := by
  obtain ⟨⟨acc, V, vs, h, _⟩, _⟩ := h
  rw [List.map_append, stepsP_app, List.map_cons, List.map_nil] at h
  cases hs : stepsP (pre.map PairIt.key) [] with
  | none => rw [hs] at h; cases h
  | some a1 =>
    rw [hs, Option.bind_some, stepsP_one] at h
    exact stepP_good h
/-- All that was there stays, but for a few blocks. -/
theorem keepsM_butV {n₀ : Nat} {M : Nat → Prop} {bs : List Nat} {W W' : World} (h : ButV bs W W') (hn : n₀ ≤ W.heap.size) (h0 : ∀ b ∈ bs, n₀ ≤ b) (hM : ∀ b, M b → b < W.heap.size ∧ b ∉ bs) : KeepsM n₀ M W W' := ⟨h.below hn h0, fun b hb => h.block b (hM b hb).1 (hM b hb).2⟩
theorem keepsFrom_butV {B : Nat} {bs : List Nat} {W W' : World} (h : ButV bs W W') (h0 : ∀ b ∈ bs, b < B ∨ ∃ o, W.heap[b]? = some o ∧ o.isCells = true) : KeepsFrom B W W' := ⟨h.size, fun k o hk ho hc => (h.block k (Array.getElem?_eq_some_iff.1 ho).1 (fun hm => by
  rcases h0 k hm with h | ⟨o', h1, h2⟩
  · omega
  · rw [ho] at h1; cases h1; rw [hc] at h2; cases h2)).trans ho⟩
theorem own_cells {w : World} {B size n : Nat} {e : TypeId} {v : Value} {xs : List Value} (h : w.ownsRow B e size v n xs) {b : Nat} (hb : v.ownBlock = some b) : ∃ o, w.heap[b]? = some o ∧ o.isCells = true := by
  rcases h.2 with ⟨rfl, _⟩ | ⟨g, cap, cur, rfl, _, hgb, _⟩
  · cases hb
  · have e2 : g = b := by simpa [Value.ownBlock] using hb
    subst e2
    exact ⟨_, hgb, rfl⟩
theorem implRoots (p t : TypeX) (A C : Option Addr) (a c base n₀ Bm mb : Nat) (acc : List BindingX) (V : Value) (vs : List Value) (w : World) (hnB : n₀ ≤ Bm) (hBm : Bm < mb) (hmb : mb < base) (hbw : base ≤ w.heap.size) (hal : acc.length ≤ 4294967296) (hsz : ∀ b ∈ acc, b.type_.size ≤ 4294967296) (ht : TypeRow w (Und n₀) C c t.args_) (hm : MatSt base n₀ Bm mb acc V vs w) :
    Calls Tryd.prog 64 #[.pointer (some ⟨Bm, 0, none⟩), .agg #[.int .i64 p.kind_, .string p.name_, .slice A p.args_.length a, .int .i64 t.kind_, .string t.name_, .slice C t.args_.length c]] w (RootsOut base n₀ Bm mb (stepP (p, t) acc) acc V w) := by
  by_cases hk : p.kind_ = 1
  · cases hl : lookX p.name_ acc with
    | some y =>
      have hy : y.size ≤ 4294967296 := by
        have : ∃ b ∈ acc, b.type_ = y := by
          clear hm hsz hal
          induction acc with
          | nil => simp [lookX] at hl
          | cons b r ih =>
            rw [lookX] at hl
            by_cases hb : (b.var_.data.toList == p.name_.data.toList) = true
            · rw [if_pos hb] at hl; injection hl with hl; exact ⟨b, List.mem_cons_self, hl⟩
            · rw [if_neg hb] at hl
              obtain ⟨b', h1, h2⟩ := ih hl
              exact ⟨b', List.mem_cons_of_mem _ h1, h2⟩
        obtain ⟨b, h1, rfl⟩ := this
        exact hsz b h1
      exact rootsMet p t A C a c base n₀ Bm mb acc V vs w (by omega) hk y hl hy ht hm
    | none => exact rootsNew p t A C a c base n₀ Bm mb acc V vs w hnB hBm hmb hbw hk hl hal ht hm
  · exact rootsElse p t A C a c base n₀ Bm mb acc V vs w (by omega) hk hm

set_option maxRecDepth 100000 in
set_option maxHeartbeats 4000000 in
theorem implMatchM (p t : TypeX) (A C : Option Addr) (a c n₀ Bm : Nat) (w : World) (hn : n₀ ≤ Bm) (hB : Bm < w.heap.size) (hp32 : p.size ≤ 4294967296) (ht32 : t.size ≤ 4294967296)
    (hm : Whole w Bm 64 #[.map none, .slice none 0 0]) (hp : TypeRow w (Und n₀) A a p.args_) (ht : TypeRow w (Und n₀) C c t.args_) :
    Calls Tryd.prog 43 #[.pointer (some ⟨Bm, 0, none⟩), .agg #[.int .i64 p.kind_, .string p.name_, .slice A p.args_.length a], .agg #[.int .i64 t.kind_, .string t.name_, .slice C t.args_.length c]] w (MatchOut n₀ Bm (p.mat t []) w) := by
  have hmf : ∀ (fn : Fn) (first cap : Array Value) (w : World), (Instr.makeFunc fn first cap).run Tryd.prog w = .ok (.func fn first cap) w := fun _ _ _ _ => rfl
  have hmm := @run_makeMap Tryd.prog
  have hbE : Below w.heap.size w (((((w.alloc (.cells #[.pointer (some ⟨Bm, 0, none⟩)] 82)).alloc (.cells #[.int .i64 p.kind_, .string p.name_, .slice A p.args_.length a] 26)).alloc (.cells #[.int .i64 t.kind_, .string t.name_, .slice C t.args_.length c] 26)).alloc (.cells #[.bool false] 4)).alloc (.map #[] 0)) := (((((Below.refl w.heap.size w).alloc (Nat.le_refl _) _).alloc (by simp) _).alloc (by simp; omega) _).alloc (by simp; omega) _).alloc (by simp; omega) _
  have hm0 : Whole (((((w.alloc (.cells #[.pointer (some ⟨Bm, 0, none⟩)] 82)).alloc (.cells #[.int .i64 p.kind_, .string p.name_, .slice A p.args_.length a] 26)).alloc (.cells #[.int .i64 t.kind_, .string t.name_, .slice C t.args_.length c] 26)).alloc (.cells #[.bool false] 4)).alloc (.map #[] 0)) Bm 64 #[.map none, .slice none 0 0] := hm.below hbE hB
  have c0 : World.cell? (((((w.alloc (.cells #[.pointer (some ⟨Bm, 0, none⟩)] 82)).alloc (.cells #[.int .i64 p.kind_, .string p.name_, .slice A p.args_.length a] 26)).alloc (.cells #[.int .i64 t.kind_, .string t.name_, .slice C t.args_.length c] 26)).alloc (.cells #[.bool false] 4)).alloc (.map #[] 0)) ⟨Bm, 0, none⟩ = some (.map none) := by rw [hm0.cell]; rfl
  have f0 := hm0.frozen 0
  obtain ⟨W0, hW0⟩ : ∃ W0, World.setCell (((((w.alloc (.cells #[.pointer (some ⟨Bm, 0, none⟩)] 82)).alloc (.cells #[.int .i64 p.kind_, .string p.name_, .slice A p.args_.length a] 26)).alloc (.cells #[.int .i64 t.kind_, .string t.name_, .slice C t.args_.length c] 26)).alloc (.cells #[.bool false] 4)).alloc (.map #[] 0)) ⟨Bm, 0, none⟩ (.map (some (w.heap.size + 1 + 1 + 1 + 1))) = W0 := ⟨_, rfl⟩
  have hs0 : W0.heap.size = w.heap.size + 5 := by rw [← hW0]; simp
  have hbn : Below n₀ w W0 := by rw [← hW0]; exact (hbE.mono (by omega)).setCell (p := ⟨Bm, 0, none⟩) hn _
  have hfar : ∀ b, b ≠ Bm → W0.heap[b]? = ((((((w.alloc (.cells #[.pointer (some ⟨Bm, 0, none⟩)] 82)).alloc (.cells #[.int .i64 p.kind_, .string p.name_, .slice A p.args_.length a] 26)).alloc (.cells #[.int .i64 t.kind_, .string t.name_, .slice C t.args_.length c] 26)).alloc (.cells #[.bool false] 4)).alloc (.map #[] 0)) : World).heap[b]? := fun b hb => by rw [← hW0]; exact Below.heap_setCell _ _ _ b hb
  have hwh0 : Whole W0 Bm 64 #[.map (some (w.heap.size + 1 + 1 + 1 + 1)), .slice none 0 0] := by rw [← hW0]; exact hm0.set_ 0 _
  have hsE0 : ((((w.alloc (.cells #[.pointer (some ⟨Bm, 0, none⟩)] 82)).alloc (.cells #[.int .i64 p.kind_, .string p.name_, .slice A p.args_.length a] 26)).alloc (.cells #[.int .i64 t.kind_, .string t.name_, .slice C t.args_.length c] 26)).alloc (.cells #[.bool false] 4)).heap.size = w.heap.size + 1 + 1 + 1 + 1 := by simp
  have hmap0 : MapAt W0 (w.heap.size + 1 + 1 + 1 + 1) [] := by
    have h := MapAt.made ((((w.alloc (.cells #[.pointer (some ⟨Bm, 0, none⟩)] 82)).alloc (.cells #[.int .i64 p.kind_, .string p.name_, .slice A p.args_.length a] 26)).alloc (.cells #[.int .i64 t.kind_, .string t.name_, .slice C t.args_.length c] 26)).alloc (.cells #[.bool false] 4))
    rw [hsE0] at h
    exact h.same (hfar _ (by omega))
  have hbx0 : Boxed W0 w.heap.size 82 (.pointer (some ⟨Bm, 0, none⟩)) := by
    have h := Boxed.new w 82 (.pointer (some ⟨Bm, 0, none⟩))
    exact (hfar _ (by omega)).trans (((((h.alloc _).alloc _).alloc _).alloc _))
  have hbo0 : Boxed W0 (w.heap.size + 1 + 1 + 1) 4 (.bool false) := by
    have h := Boxed.new ((((w.alloc (.cells #[.pointer (some ⟨Bm, 0, none⟩)] 82)).alloc (.cells #[.int .i64 p.kind_, .string p.name_, .slice A p.args_.length a] 26)).alloc (.cells #[.int .i64 t.kind_, .string t.name_, .slice C t.args_.length c] 26))) 4 (.bool false)
    simp only [World.size_alloc] at h
    exact (hfar _ (by omega)).trans (h.alloc _)
  have hcl : ∀ b o, Und n₀ b → W0.cell? ⟨b, o, none⟩ = w.cell? ⟨b, o, none⟩ := fun b o h => World.cell?_of_block (a := ⟨b, o, none⟩) (hbn.block b h)
  have hp0 : TypeRow W0 (Und n₀) A a p.args_ := hp.frame (fun _ h => h) hcl
  have ht0 : TypeRow W0 (Und n₀) C c t.args_ := ht.frame (fun _ h => h) hcl
  have HW0 := Lib.hid hW0
  have HBN := Lib.hid hbn
  have HWH := Lib.hid hwh0
  have HMAP := Lib.hid hmap0
  have HBX := Lib.hid hbx0
  have HBO := Lib.hid hbo0
  have HP := Lib.hid hp0
  have HT := Lib.hid ht0
  clear hbE hm0 hW0 hbn hfar hwh0 hsE0 hmap0 hbx0 hbo0 hcl hp0 ht0 hm hp ht
  refine callsIn_wide.1 (callsIn_of_wp_marks (n := 4) Tryd.func43 rfl trivial ?_ rfl)
  simp only [Tryd.ntmps43, List.size_toArray, List.length_cons, List.length_nil, Nat.reduceAdd, Nat.reduceSub, Array.replicate_succ, Array.replicate_zero, List.push_toArray, List.append_toArray, List.nil_append, List.cons_append]
  gi_wp2_with fail
  refine ⟨trivial, ?_⟩
  refine (callsIn_wide.2 (implPrePair p t A C a c _ _)).mono ?_
  rintro e w' ⟨rfl, rfl⟩
  rw [HW0.out]
  obtain ⟨w1, hw1⟩ : ∃ w1, w1 = (W0.alloc (.cells #[.int .i64 p.kind_, .string p.name_, .slice A p.args_.length a, .int .i64 t.kind_, .string t.name_, .slice C t.args_.length c] 87)).alloc (.cells #[.func (.func 63) #[] #[]] 88) := ⟨_, rfl⟩
  rw [← hw1]
  have hb1 : Below W0.heap.size W0 w1 := by rw [hw1]; exact ((Below.refl _ _).alloc (Nat.le_refl _) _).alloc (by simp) _
  have hs1 : w1.heap.size = W0.heap.size + 2 := by rw [hw1]; simp
  have hr1 : Whole w1 W0.heap.size 87 #[.int .i64 p.kind_, .string p.name_, .slice A p.args_.length a, .int .i64 t.kind_, .string t.name_, .slice C t.args_.length c] := by rw [hw1]; exact (Whole.new W0 _ _).below ((Below.refl (W0.heap.size + 1) _).alloc (by simp) _) (by omega)
  have hf1 : w1.cell? ⟨W0.heap.size + 1, 0, none⟩ = some (.func (.func 63) #[] #[]) := by
    have h := Whole.new (W0.alloc (.cells #[.int .i64 p.kind_, .string p.name_, .slice A p.args_.length a, .int .i64 t.kind_, .string t.name_, .slice C t.args_.length c] 87)) 88 #[.func (.func 63) #[] #[]]
    rw [World.size_alloc] at h
    rw [hw1, h.cell]; rfl
  have hn0 : n₀ ≤ W0.heap.size := by omega
  have hcl1 : ∀ b o, Und n₀ b → w1.cell? ⟨b, o, none⟩ = W0.cell? ⟨b, o, none⟩ := fun b o h => hb1.cell (p := ⟨b, o, none⟩) (Nat.lt_of_lt_of_le (show b < n₀ from h) hn0)
  have hseq := prePair_seq p t A C a c W0.heap.size (W0.heap.size + 1) n₀ (fun b => W0.heap.size ≤ b ∧ b < W0.heap.size + 2) w1 (by constructor <;> omega) (by omega) (by omega) hr1 hf1 (by omega) (HP.out.frame (fun _ h => h) hcl1) (HT.out.frame (fun _ h => h) hcl1) hp32
  rw [hs0] at hseq
  have hbn1 : Below n₀ w w1 := HBN.out.trans (hb1.mono (by omega))
  have hms1 : MatSt w1.heap.size n₀ Bm (w.heap.size + 1 + 1 + 1 + 1) [] (.slice none 0 0) [] w1 :=
    ⟨(hb1.block _ (by omega)).trans HWH.out, ⟨[], HMAP.out.same (hb1.block _ (by omega)), rfl⟩, World.ownsRow_nil _ _ _ _, by rw [BindingX.rows_map, List.map_nil, RdVE]⟩
  have hinv1 : ∀ M : Nat → Prop, MatInv w1.heap.size n₀ Bm (w.heap.size + 1 + 1 + 1 + 1) w.heap.size (w.heap.size + 1 + 1 + 1) w M [] w1 := fun M => ⟨⟨[], _, [], rfl, hms1, fun b hb => by cases hb⟩, (hb1.block _ (by omega)).trans HBX.out, (hb1.block _ (by omega)).trans HBO.out, hbn1⟩
  have HSEQ := Lib.hid hseq
  have HINV := Lib.hid hinv1
  have HBN1 := Lib.hid hbn1
  clear hseq hw1 hr1 hf1 hcl1 hms1 hinv1 hbn1 HW0 HBN HWH HMAP HBX HBO HP HT c0 f0 hmf hmm
  gi_wp2
  have hI := matInv_own (base := w1.heap.size) (n₀ := n₀) (Bm := Bm) (mb := w.heap.size + 1 + 1 + 1 + 1) (Bx := w.heap.size) (Bo := w.heap.size + 1 + 1 + 1) (w := w) (by omega) (by omega) (by omega) (by omega) (by omega) (by omega)
  refine wpIn_rangeFunc_ownG rfl (by decide) (gf := 74) (lb := #[.pointer (some ⟨w.heap.size + 5, 0, none⟩), .pointer (some ⟨w.heap.size + 5 + 1, 0, none⟩)]) rfl trivial (enters_of Tryd.func74 (by kernel_rfl) rfl) HSEQ.out (fun b h => by omega) (Below.refl _ _) (by omega) (fun _ => rfl)
    (MatInv w1.heap.size n₀ Bm (w.heap.size + 1 + 1 + 1 + 1) w.heap.size (w.heap.size + 1 + 1 + 1) w) (MatStop n₀ Bm w.heap.size (w.heap.size + 1 + 1 + 1) p t w)
    hI matInv_good (matStop_own (by omega) (by omega) (by omega) (by omega) (by omega)) (fun M _ => HINV.out M)
    (fun y a' W => ∃ Bp, w1.heap.size ≤ Bp ∧ Whole W Bp 87 #[.int .i64 y.p.kind_, .string y.p.name_, .slice y.A y.p.args_.length y.a, .int .i64 y.t.kind_, .string y.t.name_, .slice y.C y.t.args_.length y.c] ∧ a' = { tmps := #[.pointer (some ⟨Bm, 0, none⟩), .agg #[.int .i64 p.kind_, .string p.name_, .slice A p.args_.length a], .agg #[.int .i64 t.kind_, .string t.name_, .slice C t.args_.length c], .pointer (some ⟨w.heap.size, 0, none⟩), .pointer (some ⟨w.heap.size + 1, 0, none⟩), .pointer (some ⟨w.heap.size + 1 + 1, 0, none⟩), .pointer (some ⟨w.heap.size + 1 + 1 + 1, 0, none⟩), undef, .pointer (some ⟨Bp, 0, none⟩), .pointer (some ⟨Bm, 0, none⟩), .map (some (w.heap.size + 1 + 1 + 1 + 1)), .pointer (some ⟨Bm, 0, none⟩), .pointer (some ⟨Bm, 0, none⟩), .func (.func 61) #[] #[.pointer (some ⟨w.heap.size + 1 + 1 + 1, 0, none⟩), .pointer (some ⟨w.heap.size, 0, none⟩)], .agg #[.int .i64 p.kind_, .string p.name_, .slice A p.args_.length a], .agg #[.int .i64 t.kind_, .string t.name_, .slice C t.args_.length c], .agg #[.int .i64 p.kind_, .string p.name_, .slice A p.args_.length a, .int .i64 t.kind_, .string t.name_, .slice C t.args_.length c], .func (.func 74) #[] #[.pointer (some ⟨w.heap.size + 5, 0, none⟩), .pointer (some ⟨w.heap.size + 5 + 1, 0, none⟩)], .int .i64 (y.lvl : Nat), .agg #[.int .i64 y.p.kind_, .string y.p.name_, .slice y.A y.p.args_.length y.a, .int .i64 y.t.kind_, .string y.t.name_, .slice y.C y.t.args_.length y.c], undef, undef, undef, undef], defers := [] })
    (fun y a' _ _ _ _ ⟨Bp, h1, h2, h3⟩ hg hr => ⟨Bp, h1, whole_kept h2 hg (fun r e => (hr r e).2), h3⟩) ?assign ?body ?done ?stop
  case assign =>
    intro l M pre y W K hM hMl hsW hI' _ hK
    simp only [PairIt.enc]
    gi_wp2
    exact hK _ _ ((KeepsOthers.alloc _ _).from _) (KeepsM.alloc (by omega) hMl _) (hI.alloc_ hI' hM) ⟨W.heap.size, by omega, Whole.new W _ _, by simp⟩
  case body =>
    rintro l M pre y a' W hM hMl hsW ⟨⟨acc, V, vs, hacc, hms, hvm⟩, hbx, hbo, hb⟩ ⟨Bp, hBp, hwp, rfl⟩ ⟨⟨rest, hrest⟩, hyA, hyC⟩
    have hall : stepsP (p.walkP 0 t) [] = p.mat t [] := stepsP_walk 0 p t []
    have hkey : stepsP ((pre ++ [y]).map PairIt.key) [] = stepP (y.p, y.t) acc := by
      rw [List.map_append, stepsP_app, hacc, Option.bind_some, List.map_cons, List.map_nil, stepsP_one]; rfl
    have hmem : ∀ q ∈ (pre ++ [y]).map PairIt.key, q ∈ p.walkP 0 t := fun q hq => by rw [hrest]; exact List.mem_append_left _ hq
    have hsml := stepsP_small (M := 4294967296) (l := pre.map PairIt.key) (acc := []) (a2 := acc) (fun b hb => by cases hb) (fun q hq => by
      have := walkP_small 0 p t q (hmem q (by rw [List.map_append]; exact List.mem_append_left _ hq)); omega) hacc
    have hlen : pre.length + 1 ≤ p.size := by
      have h1 := congrArg List.length hrest
      have h2 := walkP_length 0 p t
      rw [List.length_append, List.length_map, List.length_append, List.length_singleton] at h1
      omega
    have hal : acc.length ≤ 4294967296 := by have := hsml.2; rw [List.length_map, List.length_nil] at this; omega
    obtain ⟨o, ho⟩ : ∃ o, o = stepP (y.p, y.t) acc := ⟨_, rfl⟩
    rw [← ho] at hkey
    have hno : o = none → p.mat t [] = none := fun h => by rw [← hall, hrest, stepsP_app, hkey, h]; rfl
    have hycl : ∀ b o, Und n₀ b → W.cell? ⟨b, o, none⟩ = w1.cell? ⟨b, o, none⟩ := fun b o h => World.cell?_of_block (a := ⟨b, o, none⟩) ((hb.block b h).trans (HBN1.out.block b h).symm)
    have hroots := implRoots y.p y.t y.A y.C y.a y.c w1.heap.size n₀ Bm (w.heap.size + 1 + 1 + 1 + 1) acc V vs W hn (by omega) (by omega) (by omega) hal hsml.1 (hyC.frame (fun _ h => h) hycl) hms
    rw [← ho] at hroots
    obtain ⟨q0, q1, q2, q3, q4, q5⟩ := cells6 hwp
    have hcx := hbx.cell
    have hwpl := hwp.lt
    have HR := Lib.hid hroots
    have HKEY := Lib.hid hkey
    have HNO := Lib.hid hno
    have HMS := Lib.hid hms
    have HVM := Lib.hid hvm
    have HBX := Lib.hid hbx
    have HBO := Lib.hid hbo
    have HB := Lib.hid hb
    clear hrest hacc hall hkey hmem hsml hlen hal hno hycl hroots hms hvm hbx hbo hb hyA hyC ho hwp
    gi_wp2_with fail
    refine ⟨trivial, ?_⟩
    refine (CallsIn.inRound l (callsIn_wide.2 HR.out)).mono ?_
    rintro e W2 ⟨rfl, ⟨V2, vs2, hms2, hown2⟩, hbv⟩
    have hmem : ∀ b, b ∈ Bm :: (w.heap.size + 1 + 1 + 1 + 1) :: V.ownBlock.toList → b = Bm ∨ b = w.heap.size + 1 + 1 + 1 + 1 ∨ V.ownBlock = some b := fun b hb => by simpa using hb
    have hge : ∀ b, V.ownBlock = some b → w1.heap.size ≤ b := fun b hb => (HMS.out.own.lt b hb).1
    have hkm : KeepsM n₀ (fun b => M b ∨ w.heap.size + 5 ≤ b ∧ b < w.heap.size + 5 + 2) W W2 := keepsM_butV hbv (by omega) (fun b hb => by
      rcases hmem b hb with rfl | rfl | h
      · exact hn
      · omega
      · have := hge b h; omega) (fun b h => ⟨hMl b h, fun hb => by
      rcases hmem b hb with rfl | rfl | h'
      · rcases h with h | h
        · have := hM _ h; omega
        · omega
      · rcases h with h | h
        · have := hM _ h; omega
        · omega
      · rcases h with h | h
        · exact HVM.out b h' h
        · have := hge b h'; omega⟩)
    have hkf : KeepsFrom w1.heap.size W W2 := keepsFrom_butV hbv (fun b hb => by
      rcases hmem b hb with rfl | rfl | h
      · exact .inl (by omega)
      · exact .inl (by omega)
      · exact .inr (own_cells HMS.out.own h))
    have hbx2 : Boxed W2 w.heap.size 82 (.pointer (some ⟨Bm, 0, none⟩)) := (hbv.block _ HBX.out.lt (fun hb => by
      rcases hmem _ hb with h | h | h
      · omega
      · omega
      · have := hge _ h; omega)).trans HBX.out
    have hbo2 : Boxed W2 (w.heap.size + 1 + 1 + 1) 4 (.bool false) := (hbv.block _ HBO.out.lt (fun hb => by
      rcases hmem _ hb with h | h | h
      · omega
      · omega
      · have := hge _ h; omega)).trans HBO.out
    have hb2 : Below n₀ w W2 := HB.out.trans hkm.below
    have hco := hbo2.cell
    have hfo := hbo2.frozen
    have HMS2 := Lib.hid hms2
    have HO2 := Lib.hid hown2
    have HKM := Lib.hid hkm
    have HKF := Lib.hid hkf
    have HBX2 := Lib.hid hbx2
    have HBO2 := Lib.hid hbo2
    have HB2 := Lib.hid hb2
    clear hmem hms2 hown2 hbv hkm hkf hbx2 hbo2 hb2 q0 q1 q2 q3 q4 q5 hcx HR
    cases o with
    | some a2 =>
      gi_wp2
      refine ⟨HKF.out, HKM.out, ⟨a2, V2, vs2, HKEY.out, HMS2.out, fun b hb hm => ?_⟩, HBX2.out, HBO2.out, HB2.out⟩
      rcases HO2.out with h | ⟨g, h, hg⟩
      · exact HVM.out b (h ▸ hb) hm
      · rw [h] at hb; injection hb with hb; subst hb
        have := hMl _ (.inl hm); omega
    | none =>
      gi_wp2
      exact ⟨keepsFrom_set HKF.out, rfl, HNO.out trivial, ⟨_, _, HMS2.out.whole.far (by omega) _ _⟩, HBX2.out.other (by omega) _, HBO2.out.set _, HB2.out.setCell (p := ⟨w.heap.size + 1 + 1 + 1, 0, none⟩) (by simp; omega) _⟩
  case done =>
    rintro D M xs W hD hS ⟨⟨acc, V, vs, hacc, hms, hvm⟩, hbx, hbo, hb⟩ hK
    have hmat : p.mat t [] = some acc := by rw [← stepsP_walk 0 p t [], ← hS]; exact hacc
    have hDo : w.heap.size + 1 + 1 + 1 ≠ D := by omega
    have hDm : Bm ≠ D := by omega
    have hco := hbo.cell
    have hfo := hbo.frozen
    have hK' := (KeepsOthers.setCell W ⟨w.heap.size + 1 + 1 + 1, 0, none⟩ (.bool true)).same D _ hK rfl
    have hbo2 := boxed_putObj (o := .deferred none) (hbo.set (.bool true)) hDo
    have hwh : Whole ((W.setCell ⟨w.heap.size + 1 + 1 + 1, 0, none⟩ (.bool true)).putObj D (.deferred none)) Bm 64 #[.map (some (w.heap.size + 1 + 1 + 1 + 1)), V] := (World.putObj_heap_other hDm).trans (hms.whole.far (by omega) _ _)
    have hblk : ∀ b, b ≠ w.heap.size + 1 + 1 + 1 → b ≠ D → ((W.setCell ⟨w.heap.size + 1 + 1 + 1, 0, none⟩ (.bool true)).putObj D (.deferred none)).heap[b]? = W.heap[b]? := fun b h1 h2 => (World.putObj_heap_other h2).trans (Below.heap_setCell _ _ _ b h1)
    have hcl : ∀ b o, Und n₀ b → ((W.setCell ⟨w.heap.size + 1 + 1 + 1, 0, none⟩ (.bool true)).putObj D (.deferred none)).cell? ⟨b, o, none⟩ = W.cell? ⟨b, o, none⟩ := fun b o h => World.cell?_of_block (a := ⟨b, o, none⟩) (hblk b (by have : b < n₀ := h; omega) (by have : b < n₀ := h; omega))
    have hsh : ShareAt (Bm + 1) n₀ acc V ((W.setCell ⟨w.heap.size + 1 + 1 + 1, 0, none⟩ (.bool true)).putObj D (.deferred none)) := by
      refine ⟨vs, own_wide (own_same hms.own fun b hv => hblk b (by have := (hms.own.lt b hv).1; omega) (fun e => ?_)) (by omega), RdVE_frame (fun _ h => h) hcl _ hms.rd⟩
      obtain ⟨o, h1, h2⟩ := own_cells hms.own hv
      rw [e, hK] at h1
      cases h1; cases h2
    have hbb : Below n₀ w ((W.setCell ⟨w.heap.size + 1 + 1 + 1, 0, none⟩ (.bool true)).putObj D (.deferred none)) := below_putObj (hb.setCell (p := ⟨w.heap.size + 1 + 1 + 1, 0, none⟩) (by simp; omega) _) _ (by omega) (by omega)
    have hd := fun u => deferKeeps (w.heap.size + 1 + 1 + 1) w.heap.size 3 u _ hbo2.cell
    have HS := Lib.hid hsh
    have HWH := Lib.hid hwh
    have HMAT := Lib.hid hmat
    have HK := Lib.hid hK'
    have HBO := Lib.hid hbo2
    have HD := Lib.hid hd
    have HBB := Lib.hid hbb
    clear hS hacc hmat hms hvm hbx hbo hb hK hK' hbo2 hwh hblk hcl hsh hd hbb
    gi_wp2
    refine ⟨by simp, .inl ⟨_, _, rfl, run_takeDeferred HK.out, ?_⟩⟩
    refine ⟨by simp, .inr ⟨fun _ => by decide, _, _, 61, #[.pointer (some ⟨w.heap.size + 1 + 1 + 1, 0, none⟩), .pointer (some ⟨w.heap.size, 0, none⟩)], rfl, by simp [go_sem], fun _ _ => trivial, ?_⟩⟩
    refine (HD.out .returning).mono ?_
    rintro e u' w'' ⟨rfl, rfl, rfl⟩
    have hc5 := HBO.out.cell
    refine ⟨.bool true, ?_, by rw [HMAT.out]; rfl, ⟨_, V, HWH.out, by rw [HMAT.out]; exact HS.out⟩, HBB.out⟩
    simp [results, Tryd.f43, go_sem, hc5]
  case stop =>
    rintro D c' pre W hD ⟨rfl, hno, ⟨ma, mv, hwh⟩, hbx, hbo, hb⟩ hK
    have hDo : w.heap.size + 1 + 1 + 1 ≠ D := by omega
    have hDm : Bm ≠ D := by omega
    have hDx : w.heap.size ≠ D := by omega
    have hbo2 := boxed_putObj (o := .deferred none) hbo hDo
    have hbx2 := boxed_putObj (o := .deferred none) hbx hDx
    have hwh2 : Whole (W.putObj D (.deferred none)) Bm 64 #[ma, mv] := (World.putObj_heap_other hDm).trans hwh
    have hd := fun u => deferUndoes (w.heap.size + 1 + 1 + 1) w.heap.size Bm 3 u _ ma mv hbo2.cell hbx2.cell hwh2
    have hwh3 : Whole (((W.putObj D (.deferred none)).setCell ⟨Bm, 0, none⟩ (.map none)).setCell ⟨Bm, 1, none⟩ (.slice none 0 0)) Bm 64 #[.map none, .slice none 0 0] := (hwh2.set_ 0 _).set_ 1 _
    have hbo3 : Boxed (((W.putObj D (.deferred none)).setCell ⟨Bm, 0, none⟩ (.map none)).setCell ⟨Bm, 1, none⟩ (.slice none 0 0)) (w.heap.size + 1 + 1 + 1) 4 (.bool false) := boxed_far (boxed_far hbo2 (by omega)) (by omega)
    have hbb : Below n₀ w (((W.putObj D (.deferred none)).setCell ⟨Bm, 0, none⟩ (.map none)).setCell ⟨Bm, 1, none⟩ (.slice none 0 0)) := ((below_putObj hb _ (by omega) (by omega)).setCell (p := ⟨Bm, 0, none⟩) hn _).setCell (p := ⟨Bm, 1, none⟩) hn _
    have HNO := Lib.hid hno
    have HWH := Lib.hid hwh3
    have HBO := Lib.hid hbo3
    have HBB := Lib.hid hbb
    have HD := Lib.hid hd
    clear hno hwh hbx hbo hb hbo2 hbx2 hwh2 hwh3 hbo3 hbb hd
    gi_wp2
    refine ⟨by simp, .inl ⟨_, _, rfl, run_takeDeferred hK, ?_⟩⟩
    refine ⟨by simp, .inr ⟨fun _ => by decide, _, _, 61, #[.pointer (some ⟨w.heap.size + 1 + 1 + 1, 0, none⟩), .pointer (some ⟨w.heap.size, 0, none⟩)], rfl, by simp [go_sem], fun _ _ => trivial, ?_⟩⟩
    refine (HD.out .returning).mono ?_
    rintro e u' w'' ⟨rfl, rfl, rfl⟩
    have hc5 := HBO.out.cell
    refine ⟨.bool false, ?_, by rw [HNO.out]; rfl, ⟨_, .slice none 0 0, HWH.out, by rw [HNO.out]; exact ⟨[], World.ownsRow_nil _ _ _ _, by rw [Option.getD_none, BindingX.rows_map, List.map_nil, RdVE]⟩⟩, HBB.out⟩
    simp [results, Tryd.f43, go_sem, hc5]
end Go.Proofs.YtngbilblddngcaaDoor

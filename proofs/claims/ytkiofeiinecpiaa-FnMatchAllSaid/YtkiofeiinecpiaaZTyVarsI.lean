/- The program's TypeVariables. -/
import Derived.Test.YtkiofeiinecpiaaZTypesIn
import Derived.Test.YtkiofeiinecpiaaQ2
import Derived.Test.YtkiofeiinecpiaaZTyVars
import Derived.Test.YtkiofeiinecpiaaZTySizeI
import Derived.Test.YtkiofeiinecpiaaZTyValidI
import Derived.Test.YtkiofeiinecpiaaQ1
namespace Go.Proofs.Ytkiofeiinecpiaa
open Go.RowKit Go.Shelf Go.Lib
attribute [local go_sem] Oper.semAt_some

/-- The variables' names, as they come. -/
def varW : List (Nat × TypeX) → List ByteArray
  | [] => []
  | p :: r => if p.2.kind_ = 1 then p.2.name_ :: varW r else varW r
theorem varW_app : ∀ (a b : List (Nat × TypeX)), varW (a ++ b) = varW a ++ varW b
  | [], b => rfl
  | p :: r, b => by
    rw [List.cons_append, varW, varW, varW_app r b]
    split <;> rfl
theorem varW_len : ∀ (a : List (Nat × TypeX)), (varW a).length ≤ a.length
  | [] => Nat.le_refl _
  | p :: r => by
    have h := varW_len r
    rw [varW, List.length_cons]
    split
    · rw [List.length_cons]; omega
    · omega
theorem varW_mem {s : ByteArray} : ∀ {a : List (Nat × TypeX)}, s ∈ varW a → ∃ p ∈ a, s = p.2.name_
  | p :: r, h => by
    rw [varW] at h
    split at h
    · rcases List.mem_cons.1 h with rfl | h
      · exact ⟨p, List.mem_cons_self, rfl⟩
      · obtain ⟨q, hq, e⟩ := varW_mem h
        exact ⟨q, List.mem_cons_of_mem _ hq, e⟩
    · obtain ⟨q, hq, e⟩ := varW_mem h
      exact ⟨q, List.mem_cons_of_mem _ hq, e⟩
mutual
theorem TypeX.walk_vars (d : Nat) : ∀ (x : TypeX) (acc : List ByteArray), uniF acc (varW (x.walk d)) = x.vars acc
  | .mk a b c, acc => by
    rw [TypeX.walk, TypeX.vars, varW]
    show uniF acc (if a = 1 then b :: varW (TypeX.walkL (d + 1) c) else varW (TypeX.walkL (d + 1) c)) = _
    by_cases h : a = 1
    · rw [if_pos h, if_pos h, ← TypeX.walkL_vars (d + 1) c]; rfl
    · rw [if_neg h, if_neg h, ← TypeX.walkL_vars (d + 1) c]
theorem TypeX.walkL_vars (d : Nat) : ∀ (l : List TypeX) (acc : List ByteArray), uniF acc (varW (TypeX.walkL d l)) = TypeX.varsL acc l
  | [], acc => by rw [TypeX.walkL, TypeX.varsL]; rfl
  | x :: r, acc => by rw [TypeX.walkL, TypeX.varsL, varW_app, uniF_append, TypeX.walk_vars d x, TypeX.walkL_vars d r]
end
theorem ownBlock_ge {w : World} {B size n : Nat} {e : TypeId} {v : Value} {xs : List Value} (h : w.ownsRow B e size v n xs) {b : Nat} (hb : b < B) : some b ≠ v.ownBlock := fun e => by have := (h.lt b e.symm).1; omega

set_option maxRecDepth 100000 in
set_option maxHeartbeats 4000000 in
theorem implTyVarsI (x : TypeX) (v : Value) (w : World) (hok : DV.okL x.cells) (hsz : x.size ≤ 4294967296) (hv : TypeAt w (Und w.heap.size) x v) :
    Calls Try.prog 23 #[v] w (RowOf (x.vars []) w) := by
  obtain ⟨A, c, rfl, hx⟩ := hv
  have hx1 := hx
  obtain ⟨w0, hw0⟩ : ∃ w0, ((w.alloc (.cells #[.int .i64 x.kind_, .string x.name_, .slice A x.args_.length c] 26)).alloc (.cells #[.slice none 0 0] 35)) = w0 := ⟨_, rfl⟩
  have hb0 : Below w.heap.size w w0 := by rw [← hw0]; exact ((Below.refl _ _).alloc (Nat.le_refl _) _).alloc (by simp) _
  have hs0 : w0.heap.size = w.heap.size + 2 := by rw [← hw0]; simp
  have hseq := typesIn_seq x A c w.heap.size w0 (by omega) (hx.frame (fun _ h => h) fun b o hP => hb0.cell (p := ⟨b, o, none⟩) hP) (by rw [TypeX.walk_size]; exact hsz)
  have hbx1 : Boxed w0 (w.heap.size + 1) 35 (.slice none 0 0) := by
    rw [← hw0]
    have h := Boxed.new (w.alloc (.cells #[.int .i64 x.kind_, .string x.name_, .slice A x.args_.length c] 26)) 35 (.slice none 0 0)
    simp only [World.size_alloc] at h
    exact ((Below.refl (w.heap.size + 2) _).block _ (by omega)).trans h
  have HBX1 := Lib.hid hbx1
  have HSEQ := Lib.hid hseq
  have HW0 := Lib.hid hw0
  have HX := Lib.hid hx1
  clear hseq hw0 hx hx1 hbx1
  have HNM := Lib.hid (TypeX.walk_names 0 x hok)
  clear hok
  obtain ⟨i0, hi, hz0, hz1, hz2⟩ := info_parts infoString
  refine callsIn_wide.1 (callsIn_of_wp_marks (n := 4) Try.func23 rfl trivial ?_ rfl)
  simp only [Try.ntmps23, List.size_toArray, List.length_cons, List.length_nil, Nat.reduceAdd, Nat.reduceSub, Array.replicate_succ, Array.replicate_zero, List.push_toArray, List.append_toArray, List.nil_append, List.cons_append]
  gi_wp2_with fail
  refine ⟨trivial, ?_⟩
  refine (callsIn_wide.2 (implTypesIn _ _ _ _ _ _)).mono ?_
  rintro e w' ⟨rfl, rfl⟩
  rw [HW0.out]
  obtain ⟨w1, hw1⟩ : ∃ w1, w1 = typesInW w0 x.kind_ x.name_ A x.args_.length c := ⟨_, rfl⟩
  have hb1 : Below w0.heap.size w0 w1 := by rw [hw1]; exact typesInW_below _ _ _ _ _ _
  have hs1 : w1.heap.size = w0.heap.size + 3 := by rw [hw1]; exact typesInW_size _ _ _ _ _ _
  have hseq := HSEQ.out
  rw [← hw1] at hseq ⊢
  rw [hs0] at hseq
  have HSEQ1 := Lib.hid hseq
  have hbw1 : Below w.heap.size w w1 := hb0.trans (hb1.mono (by omega))
  have hby1 : Boxed w1 (w.heap.size + 1) 35 (.slice none 0 0) := (hb1.block _ (by omega)).trans HBX1.out
  have HBY1 := Lib.hid hby1
  clear hseq hw1 hby1
  gi_wp2
  have hsz1 : w1.heap.size = w.heap.size + 5 := by omega
  have hI : OwnM w1.heap.size (fun (M : Nat → Prop) (pre : List TypeIt) (W : World) => (∃ v, Boxed W (w.heap.size + 1) 35 v ∧ W.ownsRow w1.heap.size 9 1 v (varW (pre.map TypeIt.key)).length ((varW (pre.map TypeIt.key)).map Value.string) ∧ (∀ b, v.ownBlock = some b → ¬ M b) ∧ True) ∧ Below w.heap.size w W) :=
    OwnM.and (ownM_row w1.heap.size 35 9 1 (fun pre : List TypeIt => (varW (pre.map TypeIt.key)).length) (fun pre => (varW (pre.map TypeIt.key)).map Value.string) (fun _ _ => True) (by omega)) (ownM_below (by omega) (Nat.le_refl _))
  refine wpIn_rangeFunc_ownM rfl (by decide) (gf := 125) (lb := #[.pointer (some ⟨w.heap.size + 2 + 1, 0, none⟩), .pointer (some ⟨w.heap.size + 2 + 2, 0, none⟩)]) rfl trivial (enters_of Try.func125 (by kernel_rfl) rfl) HSEQ1.out (fun b h => by omega) (Below.refl _ _) (by omega) (fun _ => rfl)
    (fun M pre W => (∃ v, Boxed W (w.heap.size + 1) 35 v ∧ W.ownsRow w1.heap.size 9 1 v (varW (pre.map TypeIt.key)).length ((varW (pre.map TypeIt.key)).map Value.string) ∧ (∀ b, v.ownBlock = some b → ¬ M b) ∧ True) ∧ Below w.heap.size w W) (fun _ _ _ => False)
    hI (fun _ _ _ _ _ h _ _ => h) (fun M _ => ⟨⟨_, HBY1.out, World.ownsRow_nil _ _ _ _, (fun b hb => by cases hb), trivial⟩, hbw1⟩)
    (fun y a' W => ∃ Bp, w1.heap.size ≤ Bp ∧ Whole W Bp 26 #[.int .i64 y.2.1.kind_, .string y.2.1.name_, .slice y.2.2.1 y.2.1.args_.length y.2.2.2] ∧ a' = { tmps := #[.agg #[.int .i64 x.kind_, .string x.name_, .slice A x.args_.length c], .pointer (some ⟨w.heap.size, 0, none⟩), .slice none 0 0, .pointer (some ⟨w.heap.size + 1, 0, none⟩), undef, .pointer (some ⟨Bp, 0, none⟩), .agg #[.int .i64 x.kind_, .string x.name_, .slice A x.args_.length c], typesInV (w.heap.size + 2), .int .i64 (y.1 : Nat), .agg #[.int .i64 y.2.1.kind_, .string y.2.1.name_, .slice y.2.2.1 y.2.1.args_.length y.2.2.2], undef, undef, undef, undef, undef, undef, undef, undef, undef], defers := [] })
    (fun y a' _ _ _ _ ⟨Bp, h1, h2, h3⟩ hg hr => ⟨Bp, h1, whole_kept h2 hg (fun r e => (hr r e).2), h3⟩) ?assign ?body ?done ?stop
  case assign =>
    intro l M pre y W K hM hMl hsW hI' _ hK
    simp only [TypeIt.enc]
    gi_wp2
    exact hK _ _ ((KeepsOthers.alloc _ _).from _) (KeepsM.alloc (by omega) hMl _) (hI.alloc_ hI' hM) ⟨W.heap.size, by omega, Whole.new W _ _, by simp⟩
  case body =>
    rintro l M pre y a' W hM hMl hsW ⟨⟨v, hbx, hown, hvm, _⟩, hb⟩ ⟨Bp, hBp, hwp, rfl⟩ ⟨⟨rest, hrest⟩, _⟩
    have hlen : pre.length + 1 ≤ x.size := by
      have := congrArg List.length hrest
      rw [TypeX.walk_size, List.length_append, List.length_map, List.length_append, List.length_singleton] at this
      omega
    have hvl := varW_len (pre.map TypeIt.key)
    rw [List.length_map] at hvl
    have hcn : varW ((pre ++ [y]).map TypeIt.key) = varW (pre.map TypeIt.key) ++ (if y.2.1.kind_ = 1 then [y.2.1.name_] else []) := by
      rw [List.map_append, varW_app, List.map_cons, List.map_nil, varW, varW]; rfl
    obtain ⟨A1, n1, rfl⟩ := own_nil hown
    obtain ⟨t, ht⟩ : ∃ t, t = varW (pre.map TypeIt.key) := ⟨_, rfl⟩
    rw [← ht] at hbx hown hcn hvl hvm
    have q0 : W.cell? ⟨Bp, 0, none⟩ = some (.int .i64 y.2.1.kind_) := by rw [hwp.cell]; rfl
    have q1 : W.cell? ⟨Bp, 1, none⟩ = some (.string y.2.1.name_) := by rw [hwp.cell]; rfl
    have q2 : W.cell? ⟨Bp, 2, none⟩ = some (.slice y.2.2.1 y.2.1.args_.length y.2.2.2) := by rw [hwp.cell]; rfl
    have HCN := Lib.hid hcn
    have HVM := Lib.hid hvm
    clear hrest ht hcn hvm
    gi_wp2_with fail
    refine ⟨trivial, ?_⟩
    refine (CallsIn.inRound l (callsIn_wide.2 (implIsVar _ _ _ _ _ _))).mono ?_
    rintro e W2 ⟨rfl, hb2⟩
    have r0 : W2.cell? ⟨Bp, 0, none⟩ = some (.int .i64 y.2.1.kind_) := (hb2.cell (p := ⟨Bp, 0, none⟩) hwp.lt).trans (by rw [hwp.cell]; rfl)
    have r1 : W2.cell? ⟨Bp, 1, none⟩ = some (.string y.2.1.name_) := (hb2.cell (p := ⟨Bp, 1, none⟩) hwp.lt).trans (by rw [hwp.cell]; rfl)
    have r2 : W2.cell? ⟨Bp, 2, none⟩ = some (.slice y.2.2.1 y.2.1.args_.length y.2.2.2) := (hb2.cell (p := ⟨Bp, 2, none⟩) hwp.lt).trans (by rw [hwp.cell]; rfl)
    have hwpl := hwp.lt
    have hk2 : KeepsM w.heap.size (fun b => M b ∨ w.heap.size + 2 ≤ b ∧ b < w.heap.size + 2 + 3) W W2 := KeepsM.of_below hb2 (by omega) hMl
    have hkf2 : KeepsFrom w1.heap.size W W2 := KeepsFrom.of_below hb2
    have hb02 := hb.trans (hb2.mono (by omega))
    have hsW2 := hb2.size
    have hbx2 := boxed_below hbx hb2
    have hown2 := own_same hown fun b hv => hb2.block b (hown.lt b hv).2
    have hc := hbx2.cell
    have hf := hbx2.frozen
    have HBX := Lib.hid hbx2
    have HO := Lib.hid hown2
    have HK := Lib.hid hk2
    have HKF := Lib.hid hkf2
    clear q0 q1 q2 hbx hwp hk2 hkf2 hb2 hown hown2
    cases hk : (y.2.1.kind_ == 1) with
    | false =>
      have hk1 : ¬ y.2.1.kind_ = 1 := by intro h; rw [h] at hk; cases hk
      have HK1 := Lib.hid hk1
      clear hk1
      gi_wp2
      exact ⟨HKF.out, HK.out, ⟨_, HBX.out, by rw [HCN.out, if_neg HK1.out, List.append_nil]; exact HO.out, HVM.out, trivial⟩, hb02⟩
    | true =>
      have hk1 : y.2.1.kind_ = 1 := by simpa using hk
      have HK1 := Lib.hid hk1
      have hown3 := HO.out.alloc (.cells #[.string y.2.1.name_] 9)
      have HO3 := Lib.hid hown3
      have ht32 : t.length + 1 ≤ 4294967296 := by omega
      clear hk1 hk hown3
      gi_wp2_with (gi_at_builtin; refine wpListIn_append_at _ rfl _ _ 35 rfl w1.heap.size 9 i0 (.string ByteArray.empty) 1 16 Try.underlying35 hi hz0 hz1 hz2 rfl (by decide) _ _ _ rfl HO3.out ⟨W2.heap.size, 0, none⟩ 1 1 [.string y.2.1.name_] rfl rfl (cell_one_new _ _ _) (by simp [Value.oneCell']) (by unfold maxLen; omega) (by omega) (by simp; omega) ?_)
      intro v' W3 hown4 hgrow hv'
      have hB1 : w.heap.size + 1 < w1.heap.size := by omega
      have hbx3 : Boxed W3 (w.heap.size + 1) 35 (.slice A1 t.length n1) := (HBX.out.alloc _).kept hgrow (ownBlock_ge HO3.out hB1)
      have hrow : ∀ k, (Value.slice A1 t.length n1).ownBlock = some k → w.heap.size ≤ k ∧ ¬ (M k ∨ w.heap.size + 2 ≤ k ∧ k < w.heap.size + 2 + 3) := fun k hk => by
        have h1 := (HO.out.lt k hk).1
        exact ⟨by omega, fun h => h.elim (HVM.out k hk) (fun h => by omega)⟩
      have hMl2 : ∀ b, M b ∨ w.heap.size + 2 ≤ b ∧ b < w.heap.size + 2 + 3 → b < W2.heap.size := fun b h => Nat.lt_of_lt_of_le (hMl b h) hsW2
      have hkm := (HK.out.trans (KeepsM.alloc (by omega) hMl2 (.cells #[.string y.2.1.name_] 9))).trans (KeepsM.grown hgrow (by simp; omega) (fun b h => by have := hMl2 b h; simp; omega) hrow)
      have hkf := (keepsFrom_alloc HKF.out).trans ((KeepsOthers.of_grownBy hgrow (fun j o ej hj => by
        rcases HO3.out.2 with ⟨h, _⟩ | ⟨g, cap, cur, h, _, hgb, _⟩
        · rw [h] at ej; simp [Value.ownBlock] at ej
        · rw [h] at ej
          obtain rfl : g = j := by simpa [Value.ownBlock] using ej
          rw [hgb] at hj; cases hj; rfl)).from w1.heap.size)
      have hb3 := (hb02.alloc (by omega) (.cells #[.string y.2.1.name_] 9)).grown hgrow (by simp; omega) (fun k e => (hrow k e).1)
      have hvm3 : ∀ b, v'.ownBlock = some b → ¬ M b := fun b hb => by
        rcases hv' with h | h
        · exact HVM.out b (h ▸ hb)
        · intro hm
          rw [h] at hb
          injection hb with hb
          subst hb
          have := hMl2 _ (.inl hm)
          omega
      have hszz : w.heap.size + 2 + 3 = w1.heap.size := by omega
      rw [hszz] at hown4
      clear hszz
      obtain ⟨g, cap, rfl⟩ := ownsRow_succ hown4
      have hown5 := hown4.kept (grownBy_setCell' W3 (w.heap.size + 1) (.slice (some ⟨g, 0, none⟩) (t.length + 1) cap)) (.inr (ownBlock_ge hown4 hB1).symm)
      have hc3 := hbx3.cell
      have hf3 := hbx3.frozen
      have HBX3 := Lib.hid hbx3
      have HO5 := Lib.hid hown5
      have HKM := Lib.hid hkm
      have HKF3 := Lib.hid hkf
      have HB3 := Lib.hid hb3
      have HVM3 := Lib.hid hvm3
      clear hbx3 hown4 hown5 hgrow hv' hrow hkm hkf hb3 hvm3 hMl2
      gi_wp2
      refine ⟨keepsFrom_set HKF3.out, HKM.out.trans (KeepsM.setCell (by omega) (fun h => h.elim (fun h => by have := hM _ h; omega) (fun h => by omega)) _), ⟨_, HBX3.out.set _, ?_, HVM3.out, trivial⟩, HB3.out.setCell (p := ⟨w.heap.size + 1, 0, none⟩) (by simp) _⟩
      rw [HCN.out, if_pos HK1.out, List.length_append, List.map_append]
      exact HO5.out
  case done =>
    rintro D M xs W hD hS ⟨⟨v, hbx, hown, _, _⟩, hb⟩ hK
    have hvl : (varW (x.walk 0)).length ≤ 4294967296 := by
      have := varW_len (x.walk 0)
      rw [TypeX.walk_size] at this
      omega
    have hvs : uniF [] (varW (x.walk 0) ++ []) = x.vars [] := by rw [List.append_nil, TypeX.walk_vars]
    have hzs : ∀ s ∈ varW (x.walk 0) ++ [], s.size ≤ 9223372036854775807 := fun s hs => by
      rw [List.append_nil] at hs
      obtain ⟨p, hp, rfl⟩ := varW_mem hs
      exact (HNM.out p hp).1
    rw [hS] at hown
    obtain ⟨A1, c1, rfl, hst⟩ := strs_own hown
    have hc := hbx.cell
    have hDlt : D < W.heap.size := (Array.getElem?_eq_some_iff.1 hK).1
    have hu := implUnion A1 none c1 0 (varW (x.walk 0)) [] W hst (.inl rfl) hvl (by simp) hzs
    rw [hvs] at hu
    have HU := Lib.hid hu
    have HKD := Lib.hid hK
    clear hS hbx hown hst hu hvs hK
    gi_wp2_with fail
    refine ⟨trivial, ?_⟩
    refine (callsIn_wide.2 HU.out).mono ?_
    rintro e W2 ⟨V, rfl, hown2, hb2⟩
    have hK2 : W2.heap[D]? = some (.deferred (some [])) := (hb2.block D hDlt).trans HKD.out
    have hsW2 := hb2.size
    obtain ⟨A2, n2, rfl⟩ := own_nil hown2
    have HO2 := Lib.hid hown2
    clear hown2
    gi_wp2
    refine ⟨by simp, .inl ⟨_, _, rfl, run_takeDeferred hK2, ?_⟩⟩
    exact ⟨_, results_tmp rfl _ _ _, _, rfl, ownsRow_putObj (own_wide HO2.out (by have := hb.size; omega)) _ hK2 rfl, below_putObj (hb.trans (hb2.mono (by have := hb.size; omega))) _ (by omega) (by omega)⟩
  case stop =>
    rintro D c pre W _ h _
    exact h.elim
end Go.Proofs.Ytkiofeiinecpiaa

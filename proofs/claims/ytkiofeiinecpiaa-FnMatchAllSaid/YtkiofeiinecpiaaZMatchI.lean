/- The program's Match, MatchAll and Matches. -/
import Derived.Test.YtkiofeiinecpiaaZMatM
import Derived.Test.YtkiofeiinecpiaaZSpMatchA
import Derived.Deep.RegionHeld3
namespace Go.Proofs.Ytkiofeiinecpiaa
open Go.RowKit Go.Lib

/-- From the k-th on the bindings lie in these cells as they were shared. -/
def RestB (w : World) (n₀ k : Nat) (l : List BindingX) (cs : Array Value) : Prop := ∀ (j : Nat) (hj : j < l.length), k ≤ j → ∃ (A : Option Addr) (c : Nat),
  cs[j * 4]? = some (.string l[j].var_) ∧ cs[j * 4 + 1]? = some (.int .i64 l[j].type_.kind_) ∧ cs[j * 4 + 2]? = some (.string l[j].type_.name_) ∧ cs[j * 4 + 3]? = some (.slice A l[j].type_.args_.length c) ∧ TypeRow w (Und n₀) A c l[j].type_.args_
theorem RestB.of_read {w : World} {n₀ : Nat} {l : List BindingX} {vs : List Value} {cs : Array Value} (h : RdVE w (Und n₀) 4 (BindingX.rows l) vs) (hc : ∀ (i : Nat) (v : Value), vs[i]? = some v → cs[i]? = some v) : RestB w n₀ 0 l cs := by
  intro j hj _
  obtain ⟨ws, h1, -, h3⟩ := RdVE_at h j (by rw [BindingX.rows_length]; exact hj)
  rw [BindingX.rows_at l j hj, BindingX.cells_eq] at h1
  simp only [RdVs] at h1
  obtain ⟨v0, _, rfl, k0, v1, _, rfl, k1, v2, _, rfl, k2, v3, _, rfl, k3, rfl⟩ := h1
  rw [RdV_pl] at k0 k1 k2
  subst k0 k1 k2
  obtain ⟨A, c, rfl, _, _⟩ := k3.shape
  rw [TypeX.rows_length] at k3 h3
  exact ⟨A, c, hc _ _ (h3 0 _ rfl), hc _ _ (h3 1 _ rfl), hc _ _ (h3 2 _ rfl), hc _ _ (h3 3 _ rfl), k3⟩
theorem RestB.step {w : World} {n₀ k : Nat} {l : List BindingX} {cs : Array Value} (h : RestB w n₀ k l cs) (a b c : Value) : RestB w n₀ (k + 1) l (setAt cs (k * 4 + 1) [a, b, c]) := by
  intro j hj hjk
  obtain ⟨A, d, e0, e1, e2, e3, r⟩ := h j hj (by omega)
  have hm : (k + 1) * 4 ≤ j * 4 := Nat.mul_le_mul_right _ hjk
  have hf : ∀ i, (setAt cs (k * 4 + 1) [a, b, c])[j * 4 + i]? = cs[j * 4 + i]? := fun i => setAt_far _ cs _ _ (.inr (by simp; omega))
  exact ⟨A, d, (hf 0).trans e0, (hf 1).trans e1, (hf 2).trans e2, (hf 3).trans e3, r⟩
theorem setAt_tail {cs : Array Value} {o : Nat} {v : Value} (h : cs[o]? = some v) (r : List Value) : setAt cs o (v :: r) = setAt cs (o + 1) r := by
  rw [setAt]
  congr 1
  obtain ⟨hlt, rfl⟩ := Array.getElem?_eq_some_iff.1 h
  exact Array.ext (by simp) fun i h1 h2 => by
    rw [Array.getElem_setIfInBounds]
    split
    · rename_i he; subst he; rfl
    · rfl

set_option maxRecDepth 100000 in
set_option maxHeartbeats 4000000 in
/-- Matches: nothing is copied. -/
theorem implMatches (p t : TypeX) (A C : Option Addr) (a c : Nat) (w : World) (hp32 : p.size ≤ 4294967296) (ht32 : t.size ≤ 4294967296) (hp : TypeRow w (Und w.heap.size) A a p.args_) (ht : TypeRow w (Und w.heap.size) C c t.args_) :
    Calls Try.prog 20 #[.agg #[.int .i64 p.kind_, .string p.name_, .slice A p.args_.length a], .agg #[.int .i64 t.kind_, .string t.name_, .slice C t.args_.length c]] w fun e w' => e = .returned (.bool (p.mat t []).isSome) ∧ Below w.heap.size w w' := by
  obtain ⟨W, hW⟩ : ∃ W, W = ((w.alloc (.cells #[.int .i64 p.kind_, .string p.name_, .slice A p.args_.length a] 26)).alloc (.cells #[.int .i64 t.kind_, .string t.name_, .slice C t.args_.length c] 26)).alloc (.cells #[.map none, .slice none 0 0] 75) := ⟨_, rfl⟩
  have hb0 : Below w.heap.size w W := by rw [hW]; exact (((Below.refl _ _).alloc (Nat.le_refl _) _).alloc (by simp) _).alloc (by simp; omega) _
  have hs0 : W.heap.size = w.heap.size + 3 := by rw [hW]; simp
  have hm0 : Whole W (w.heap.size + 1 + 1) 75 #[.map none, .slice none 0 0] := by
    have h := Whole.new ((w.alloc (.cells #[.int .i64 p.kind_, .string p.name_, .slice A p.args_.length a] 26)).alloc (.cells #[.int .i64 t.kind_, .string t.name_, .slice C t.args_.length c] 26)) 75 #[.map none, .slice none 0 0]
    simp only [World.size_alloc] at h
    rw [hW]; exact h
  have hcl : ∀ b o, Und w.heap.size b → W.cell? ⟨b, o, none⟩ = w.cell? ⟨b, o, none⟩ := fun b o h => hb0.cell (p := ⟨b, o, none⟩) h
  have hcall := implMatchM p t A C a c w.heap.size (w.heap.size + 1 + 1) W (by omega) (by omega) hp32 ht32 hm0 (hp.frame (fun _ h => h) hcl) (ht.frame (fun _ h => h) hcl)
  have HC := Lib.hid hcall
  have HW := Lib.hid hW.symm
  have HB := Lib.hid hb0
  clear hp ht hW hb0 hm0 hcl hcall
  go_enter Try.func20, Try.ntmps20
  go_wp2_with fail
  rw [HW.out]
  refine HC.out.mono ?_
  rintro e w1 ⟨rfl, _, hb1⟩
  have hbb := HB.out.trans hb1
  clear hb1
  go_wp2
  go_ret
  exact ⟨rfl, hbb⟩

set_option maxRecDepth 100000 in
set_option maxHeartbeats 4000000 in
theorem implMatch (p t : TypeX) (A C : Option Addr) (a c : Nat) (w : World) (hp32 : p.size ≤ 4294967296) (ht32 : t.size ≤ 4294967296) (hp : TypeRow w (Und w.heap.size) A a p.args_) (ht : TypeRow w (Und w.heap.size) C c t.args_) :
    Calls Try.prog 17 #[.agg #[.int .i64 p.kind_, .string p.name_, .slice A p.args_.length a], .agg #[.int .i64 t.kind_, .string t.name_, .slice C t.args_.length c]] w (MadeBs ((p.mat t []).getD []) (p.mat t []).isSome w) := by
  obtain ⟨W, hW⟩ : ∃ W, W = ((w.alloc (.cells #[.int .i64 p.kind_, .string p.name_, .slice A p.args_.length a] 26)).alloc (.cells #[.int .i64 t.kind_, .string t.name_, .slice C t.args_.length c] 26)).alloc (.cells #[.map none, .slice none 0 0] 75) := ⟨_, rfl⟩
  have hb0 : Below w.heap.size w W := by rw [hW]; exact (((Below.refl _ _).alloc (Nat.le_refl _) _).alloc (by simp) _).alloc (by simp; omega) _
  have hs0 : W.heap.size = w.heap.size + 3 := by rw [hW]; simp
  have hm0 : Whole W (w.heap.size + 1 + 1) 75 #[.map none, .slice none 0 0] := by
    have h := Whole.new ((w.alloc (.cells #[.int .i64 p.kind_, .string p.name_, .slice A p.args_.length a] 26)).alloc (.cells #[.int .i64 t.kind_, .string t.name_, .slice C t.args_.length c] 26)) 75 #[.map none, .slice none 0 0]
    simp only [World.size_alloc] at h
    rw [hW]; exact h
  have hcl : ∀ b o, Und w.heap.size b → W.cell? ⟨b, o, none⟩ = w.cell? ⟨b, o, none⟩ := fun b o h => hb0.cell (p := ⟨b, o, none⟩) h
  have hcall := implMatchM p t A C a c w.heap.size (w.heap.size + 1 + 1) W (by omega) (by omega) hp32 ht32 hm0 (hp.frame (fun _ h => h) hcl) (ht.frame (fun _ h => h) hcl)
  obtain ⟨l, hl⟩ : ∃ l, l = (p.mat t []).getD [] := ⟨_, rfl⟩
  obtain ⟨ok, hok⟩ : ∃ ok, ok = (p.mat t []).isSome := ⟨_, rfl⟩
  have hsml : (∀ b ∈ l, b.type_.size ≤ 4294967296) ∧ l.length ≤ 4294967296 := by
    rw [hl]
    cases hm : p.mat t [] with
    | none => exact ⟨(fun b hb => by cases hb), by simp⟩
    | some a2 =>
      have h := TypeX.mat_small (M := 4294967296) p t [] a2 (fun b hb => by cases hb) ht32 hm
      exact ⟨h.1, by have := h.2; simp at this ⊢; omega⟩
  unfold MatchOut at hcall
  rw [← hl, ← hok] at hcall ⊢
  have HC := Lib.hid hcall
  have HW := Lib.hid hW.symm
  have HB := Lib.hid hb0
  have HSM := Lib.hid hsml.1
  have hlen := hsml.2
  clear hp ht hW hb0 hm0 hcl hcall hsml hl hok
  go_enter Try.func17, Try.ntmps17
  go_wp2_with fail
  rw [HW.out]
  refine HC.out.mono ?_
  rintro e wm ⟨rfl, ⟨mv, V, hwm, vs, hown, hrd⟩, hbm⟩
  have hbb := HB.out.trans hbm
  have hs1 := hbm.size
  obtain ⟨Av, cv, rfl⟩ := own_nil hown
  have m1 : wm.cell? ⟨w.heap.size + 1 + 1, 1, none⟩ = some (.slice Av l.length cv) := by rw [hwm.cell]; rfl
  have hwl := hwm.lt
  have HWM := Lib.hid hwm
  have HBB := Lib.hid hbb
  rcases hown.2 with ⟨hv, hn0⟩ | ⟨g, cap, cur, hv, hbg, hgb, hnc, hcm, hcs, htk⟩
  · obtain rfl : l = [] := List.eq_nil_of_length_eq_zero hn0
    simp only [Value.slice.injEq] at hv
    obtain ⟨rfl, _, rfl⟩ := hv
    have HBN := Lib.hid hbm
    clear hown hrd hbm hwm hbb HSM HC hn0
    simp only [List.length_nil] at m1 ⊢
    go_wp2
    go_loopw [16] (fun iv wr => iv = .int .i64 0 ∧ wr = wm) (fun _ _ => 0)
    case atStart => exact ⟨rfl, rfl⟩
    case round =>
      obtain ⟨rfl, rfl⟩ := hrel
      go_wp2
      go_ret2
      exact MadeBs.of ⟨[], [], World.ownsRow_nil _ _ _ _, by rw [BindingX.rows_map, List.map_nil, OwVE]; exact ⟨rfl, rfl⟩, List.nodup_nil⟩ HBB.out
  · simp only [Value.slice.injEq] at hv
    obtain ⟨rfl, _, rfl⟩ := hv
    have hgl : g < wm.heap.size := (Array.getElem?_eq_some_iff.1 hgb).1
    have hwg : Whole wm g 77 cur := hgb
    have hrest : RestB wm w.heap.size 0 l cur := RestB.of_read hrd (fun i v h => by
      rw [← htk, List.getElem?_take] at h
      split at h
      · rw [Array.getElem?_toList] at h; exact h
      · cases h)
    have hcap4 : l.length * 4 ≤ cur.size := by rw [hcs]; exact Nat.mul_le_mul_right _ hnc
    unfold maxLen at hcm
    have HWG := Lib.hid hwg
    have HREST := Lib.hid hrest
    clear hown hrd hbm hwm hbb HC hgb hwg hrest htk
    go_wp2
    go_loopw [16] (fun iv wr => ∃ (k : Nat) (cs : Array Value) (bs : List Nat), k ≤ l.length ∧ iv = .int .i64 k ∧ Whole wr g 77 cs ∧ cs.size = cur.size ∧ RestB wm w.heap.size k l cs ∧ OwVE wr (g + 1) 4 (BindingX.rows (l.take k)) (cs.toList.take (k * 4)) bs ∧ bs.Nodup ∧ Whole wr (w.heap.size + 1 + 1) 75 #[mv, .slice (some ⟨g, 0, none⟩) l.length cv] ∧ Below w.heap.size wm wr) (fun iv _ => l.length - (Go.RowKit.intOf iv).toNat)
    case atStart => exact ⟨0, cur, [], Nat.zero_le _, rfl, HWG.out, rfl, HREST.out, by rw [List.take_zero, BindingX.rows_map, List.map_nil, Nat.zero_mul, List.take_zero, OwVE]; exact ⟨rfl, rfl⟩, List.nodup_nil, HWM.out, Below.refl _ _⟩
    case round =>
      obtain ⟨k, cs, bs, hk, rfl, hwr, hcs2, hR, hE, hnd, hmr, hb⟩ := hrel
      clear m1 hwl
      have hbs := hb.size
      by_cases hlt : k < l.length
      · obtain ⟨A3, c3, e0, e1, e2, e3, hrow⟩ := hR k hlt (Nat.le_refl _)
        have hkt := HSM.out l[k] (List.getElem_mem hlt)
        obtain ⟨wb, hwb⟩ : ∃ wb, wb = wr.alloc (.cells #[.string l[k].var_, .int .i64 l[k].type_.kind_, .string l[k].type_.name_, .slice A3 l[k].type_.args_.length c3] 77) := ⟨_, rfl⟩
        have hbb : Below wr.heap.size wr wb := by rw [hwb]; exact (Below.refl _ _).alloc (Nat.le_refl _) _
        have hxb : Whole wb wr.heap.size 77 #[.string l[k].var_, .int .i64 l[k].type_.kind_, .string l[k].type_.name_, .slice A3 l[k].type_.args_.length c3] := by rw [hwb]; exact Whole.new _ _ _
        have hsb : wb.heap.size = wr.heap.size + 1 := by rw [hwb]; simp
        have hrb : TypeRow wb.drew (Und wb.drew.heap.size) A3 c3 l[k].type_.args_ := hrow.frame (fun b h => by have : b < w.heap.size := h; show b < wb.heap.size; omega) (fun b o h => ((hb.trans (hbb.mono (by omega))).cell (p := ⟨b, o, none⟩) (Nat.lt_of_lt_of_le (show b < w.heap.size from h) (by omega))))
        have hcall := implCopy l[k].type_ A3 c3 wb.drew hkt hrb
        have hk4 : (k + 1) * 4 ≤ l.length * 4 := Nat.mul_le_mul_right _ hlt
        have c0 : wr.cell? ⟨g, k * 4, none⟩ = some (.string l[k].var_) := by rw [hwr.cell]; exact e0
        have c1 : wr.cell? ⟨g, k * 4 + 1, none⟩ = some (.int .i64 l[k].type_.kind_) := by rw [hwr.cell]; exact e1
        have c2 : wr.cell? ⟨g, k * 4 + 2, none⟩ = some (.string l[k].type_.name_) := by rw [hwr.cell]; exact e2
        have c3' : wr.cell? ⟨g, k * 4 + 3, none⟩ = some (.slice A3 l[k].type_.args_.length c3) := by rw [hwr.cell]; exact e3
        have hstep := hR.step
        have hl1 := List.take_succ_eq_append_getElem hlt
        have hwl1 := hwr.lt
        have hml1 := hmr.lt
        have HC := Lib.hid hcall
        have HWB := Lib.hid hwb.symm
        have HE := Lib.hid hE
        have HE0 := Lib.hid e0
        have HND := Lib.hid hnd
        have HWR := Lib.hid hwr
        have HMR := Lib.hid hmr
        have HXB := Lib.hid hxb
        have HBB2 := Lib.hid hbb
        have HSTEP := Lib.hid hstep
        have HL1 := Lib.hid hl1
        clear hR hE hnd hwr hmr hxb hbb hrb hcall hwb hstep hl1 hrow e0 e1 e2 e3
        go_upto_region 6 with (fail)
        rw [HWB.out]
        clear c0 c1 c2 c3'
        obtain ⟨x0, x1, x2, x3⟩ : wb.cell? ⟨wr.heap.size, 0, none⟩ = some (.string l[k].var_) ∧ wb.cell? ⟨wr.heap.size, 1, none⟩ = some (.int .i64 l[k].type_.kind_) ∧ wb.cell? ⟨wr.heap.size, 2, none⟩ = some (.string l[k].type_.name_) ∧ wb.cell? ⟨wr.heap.size, 3, none⟩ = some (.slice A3 l[k].type_.args_.length c3) := by
          refine ⟨?_, ?_, ?_, ?_⟩ <;> rw [HXB.out.cell] <;> rfl
        have xl := HXB.out.lt
        have m1 : wb.cell? ⟨w.heap.size + 1 + 1, 1, none⟩ = some (.slice (some ⟨g, 0, none⟩) l.length cv) := by rw [(HMR.out.below HBB2.out hml1).cell]; rfl
        have ml : w.heap.size + 1 + 1 < wb.heap.size := by omega
        go_region_law (first
          | (go_simp
             go_at_call 64
             refine HC.out.mono ?_
             intro e w6 hm
             obtain ⟨vs6, bs6, A6, c6, rfl, rfl, hO6, hn6, hb6⟩ := madeT_get hm
             have hs6 : wb.heap.size ≤ w6.heap.size := hb6.size
             have hw6 : Whole w6 g 77 cs := (HWR.out.below HBB2.out hwl1).below (show Below wb.heap.size wb w6 from (Below.refl _ wb).drew.trans hb6) (by omega)
             have hm6 : Whole w6 (w.heap.size + 1 + 1) 75 #[mv, .slice (some ⟨g, 0, none⟩) l.length cv] := (HMR.out.below HBB2.out hml1).below (show Below wb.heap.size wb w6 from (Below.refl _ wb).drew.trans hb6) (by omega)
             have n1 : w6.cell? ⟨w.heap.size + 1 + 1, 1, none⟩ = some (.slice (some ⟨g, 0, none⟩) l.length cv) := by rw [hm6.cell]; rfl
             have ml6 : w.heap.size + 1 + 1 < w6.heap.size := by omega
             have gl6 : g < w6.heap.size := by omega
             obtain ⟨y1, d1⟩ : ∃ v, w6.cell? ⟨g, k * 4 + 1, none⟩ = some v := by rw [hw6.cell]; exact ⟨_, Array.getElem?_eq_getElem (by omega)⟩
             obtain ⟨y2, d2⟩ : ∃ v, w6.cell? ⟨g, k * 4 + 1 + 1, none⟩ = some v := by rw [hw6.cell]; exact ⟨_, Array.getElem?_eq_getElem (by omega)⟩
             obtain ⟨y3, d3⟩ : ∃ v, w6.cell? ⟨g, k * 4 + 1 + 2, none⟩ = some v := by rw [hw6.cell]; exact ⟨_, Array.getElem?_eq_getElem (by omega)⟩
             have f1 := hw6.frozen (k * 4 + 1)
             have f2 := hw6.frozen (k * 4 + 1 + 1)
             have f3 := hw6.frozen (k * 4 + 1 + 2)
             clear hm))
        all_goals (
          have hx6 : OwVs w6 wr.heap.size l[k].cells [.string l[k].var_, .int .i64 l[k].type_.kind_, .string l[k].type_.name_, .slice A6 l[k].type_.args_.length c6] bs6 := by
            have h := OwVs_wide (B' := wr.heap.size) (show wr.heap.size ≤ wb.drew.heap.size by show wr.heap.size ≤ wb.heap.size; omega) _ hO6
            rw [TypeX.cells_eq] at h
            rw [BindingX.cells_eq, OwVs]
            exact ⟨_, _, [], bs6, rfl, rfl, by rw [OwV]; exact ⟨rfl, rfl⟩, h⟩
          have hbw6 : Below wr.heap.size wr w6 := HBB2.out.trans ((show Below wb.heap.size wb w6 from (Below.refl _ wb).drew.trans hb6).mono (by omega))
          have hset : ∀ b, b ≠ g → ((((w6.setCell ⟨g, k * 4 + 1, none⟩ (.int .i64 l[k].type_.kind_)).setCell ⟨g, k * 4 + 1 + 1, none⟩ (.string l[k].type_.name_)).setCell ⟨g, k * 4 + 1 + 2, none⟩ (.slice A6 l[k].type_.args_.length c6)) : World).heap[b]? = w6.heap[b]? := fun b hne => by rw [Below.heap_setCell _ _ _ _ (by exact hne), Below.heap_setCell _ _ _ _ (by exact hne), Below.heap_setCell _ _ _ _ (by exact hne)]
          have hfill := OwVE_fill (K := 4) HE.out HND.out hbw6 hwl1 hx6 hn6 (BindingX.cells_length _) (by omega) hset
          rw [setAt_tail HE0.out, ← BindingX.rows_snoc, ← HL1.out] at hfill
          have hm8 : Whole (((w6.setCell ⟨g, k * 4 + 1, none⟩ (.int .i64 l[k].type_.kind_)).setCell ⟨g, k * 4 + 1 + 1, none⟩ (.string l[k].type_.name_)).setCell ⟨g, k * 4 + 1 + 2, none⟩ (.slice A6 l[k].type_.args_.length c6)) (w.heap.size + 1 + 1) 75 #[mv, .slice (some ⟨g, 0, none⟩) l.length cv] := (hset _ (by omega)).trans hm6
          have hb8 : Below w.heap.size wm (((w6.setCell ⟨g, k * 4 + 1, none⟩ (.int .i64 l[k].type_.kind_)).setCell ⟨g, k * 4 + 1 + 1, none⟩ (.string l[k].type_.name_)).setCell ⟨g, k * 4 + 1 + 2, none⟩ (.slice A6 l[k].type_.args_.length c6)) := (((hb.trans (hbw6.mono (by omega))).setCell (p := ⟨g, k * 4 + 1, none⟩) (by simp; omega) _).setCell (p := ⟨g, k * 4 + 1 + 1, none⟩) (by simp; omega) _).setCell (p := ⟨g, k * 4 + 1 + 2, none⟩) (by simp; omega) _
          have hw8 : Whole (((w6.setCell ⟨g, k * 4 + 1, none⟩ (.int .i64 l[k].type_.kind_)).setCell ⟨g, k * 4 + 1 + 1, none⟩ (.string l[k].type_.name_)).setCell ⟨g, k * 4 + 1 + 2, none⟩ (.slice A6 l[k].type_.args_.length c6)) g 77 (setAt cs (k * 4 + 1) [.int .i64 l[k].type_.kind_, .string l[k].type_.name_, .slice A6 l[k].type_.args_.length c6]) := ((hw6.set_ _ _).set_ _ _).set_ _ _
          have HF := Lib.hid hfill
          have HM8 := Lib.hid hm8
          have HB8 := Lib.hid hb8
          have HW8 := Lib.hid hw8
          clear hx6 hbw6 hset hfill hm8 hb8 hw8 hO6 hn6 hb6 hw6 hm6 d1 d2 d3 f1 f2 f3 n1 m1
          go_wp2
          go_roundw
          case rel => exact ⟨k + 1, _, _, by omega, by go_num, HW8.out, by rw [setAt_size]; exact hcs2, HSTEP.out _ _ _, HF.out.1, HF.out.2, HM8.out, HB8.out⟩
          case measure => simp [Go.RowKit.intOf]; omega)
      · obtain rfl : k = l.length := by omega
        rw [List.take_length] at hE
        have hfin : KeptAt w.heap.size l (.slice (some ⟨g, 0, none⟩) l.length cv) wr := by
          refine ⟨cs.toList.take (l.length * 4), bs, ⟨by simp; omega, .inr ⟨g, cv, cs, rfl, by omega, hwr, hnc, by unfold maxLen; omega, by omega, rfl⟩⟩, OwVE_wide (by omega) _ hE, ?_⟩
          simp only [Value.ownBlock, Option.toList_some]
          exact List.nodup_cons.2 ⟨fun hm => by have := (OwVE_lt _ hE g hm).1; omega, hnd⟩
        have HF := Lib.hid hfin
        have m1 : wr.cell? ⟨w.heap.size + 1 + 1, 1, none⟩ = some (.slice (some ⟨g, 0, none⟩) l.length cv) := by rw [hmr.cell]; rfl
        have hwl := hmr.lt
        clear hE hnd hfin hR hwr hmr
        go_wp2
        go_ret2
        exact MadeBs.of HF.out (HBB.out.trans hb)
end Go.Proofs.Ytkiofeiinecpiaa

/- The program's canonicalNumbers: the variables' numbers, as they come. -/
import Derived.Test.YtngbilblddngcaaDoorZCanName
import Derived.Test.YtngbilblddngcaaDoorZTypesIn
import Derived.Test.YtngbilblddngcaaDoorQ2
import Derived.Test.YtngbilblddngcaaDoorQ1
namespace Go.Proofs.YtngbilblddngcaaDoor
open Go.RowKit Go.Shelf Go.Lib
attribute [local go_sem] Oper.semAt_some

/-- The iterator leaves the map alone. -/
theorem ownM_mapS {β : Type} {B Bm : Nat} (f : β → List (ByteArray × Value)) (hm : Bm < B) : OwnM B (fun _ s W => MapS W Bm (f s)) :=
  fun _ _ _ A A' row h hg hr _ => h.same (hg.block Bm h.lt (fun e => by have := (hr Bm e.symm).1; omega))
theorem mapS_but {g b : Nat} {l : List (ByteArray × Value)} {w w' : World} (h : MapS w b l) (hb : But g w w') (hg : b ≠ g) : MapS w' b l := h.same (hb.block b h.lt hg)
theorem mapS_below {n b : Nat} {l : List (ByteArray × Value)} {w w' : World} (h : MapS w b l) (hb : Below n w w') (hn : b < n) : MapS w' b l := h.same (hb.block b hn)

theorem keepsM_but {n₀ g : Nat} {M : Nat → Prop} {W W' : World} (h : But g W W') (hn : n₀ ≤ W.heap.size) (h0 : n₀ ≤ g) (hM : ∀ b, M b → b < W.heap.size ∧ b ≠ g) : KeepsM n₀ M W W' :=
  ⟨h.to_below h0 hn, fun b hb => h.block b (hM b hb).1 (hM b hb).2⟩
theorem keepsFrom_but {B g : Nat} {W W' : World} (h : But g W W') (hg : g < B) : KeepsFrom B W W' := ⟨h.size, fun k o hk ho _ => (h.block k (Array.getElem?_eq_some_iff.1 ho).1 (by omega)).trans ho⟩

set_option maxRecDepth 100000 in
set_option maxHeartbeats 4000000 in
theorem implNumbers (l : List TypeX) (A : Option Addr) (c : Nat) (w : World) (hsz : TypeX.sizeL l ≤ 4294967200) (hv : TypeRow w (Und w.heap.size) A c l) :
    Calls Tryd.prog 46 #[.slice A l.length c] w fun e w' => e = .returned (.map (some w.heap.size)) ∧ MapS w' w.heap.size (numF 0 (varsOf l)) ∧ Below w.heap.size w w' ∧ w.heap.size < w'.heap.size := by
  obtain ⟨x, hxd⟩ : ∃ x, x = TypeX.mk 0 ⟨#[]⟩ l := ⟨_, rfl⟩
  have hxk : x.kind_ = 0 := by rw [hxd]; rfl
  have hxn : x.name_ = ⟨#[]⟩ := by rw [hxd]; rfl
  have hxa : x.args_ = l := by rw [hxd]; rfl
  have hxs : x.size ≤ 4294967296 := by rw [hxd, TypeX.size]; omega
  have hxv : varsOf l = uniF [] (varW (x.walk 0)) := by
    rw [hxd, TypeX.walk_vars, TypeX.vars, if_neg (by decide)]; rfl
  obtain ⟨w0, hw0⟩ : ∃ w0, ((w.alloc (.map #[] 0)).alloc (.cells #[.map (some w.heap.size)] 67)) = w0 := ⟨_, rfl⟩
  have hb0 : Below w.heap.size w w0 := by rw [← hw0]; exact ((Below.refl _ _).alloc (Nat.le_refl _) _).alloc (by simp) _
  have hs0 : w0.heap.size = w.heap.size + 2 := by rw [← hw0]; simp
  have hm0 : MapS w0 w.heap.size [] := by rw [← hw0]; exact (MapS.made w).same (Below.heap_alloc _ _ _ (by simp))
  have hx1 : TypeRow w0 (Und w.heap.size) A c x.args_ := by rw [hxa]; exact hv.frame (fun _ h => h) fun b o hP => hb0.cell (p := ⟨b, o, none⟩) hP
  have hseq := typesIn_seq x A c w.heap.size w0 (by omega) hx1 (by rw [TypeX.walk_size]; exact hxs)
  have hbx1 : Boxed w0 (w.heap.size + 1) 67 (.map (some w.heap.size)) := by
    rw [← hw0]
    have h := Boxed.new (w.alloc (.map #[] 0)) 67 (.map (some w.heap.size))
    rw [World.size_alloc] at h
    exact h
  have hmm := @run_makeMap Tryd.prog
  have HBX1 := Lib.hid hbx1
  rw [hxk, hxn, hxa] at hseq
  have HSEQ := Lib.hid hseq
  have HW0 := Lib.hid hw0
  have HM0 := Lib.hid hm0
  have HXV := Lib.hid hxv
  clear hseq hw0 hv hx1 hbx1 hm0 hxv hxd hsz hxk hxn hxa
  refine callsIn_wide.1 (callsIn_of_wp_marks (n := 4) Tryd.func46 rfl trivial ?_ rfl)
  simp only [Tryd.ntmps46, List.size_toArray, List.length_cons, List.length_nil, Nat.reduceAdd, Nat.reduceSub, Array.replicate_succ, Array.replicate_zero, List.push_toArray, List.append_toArray, List.nil_append, List.cons_append]
  gi_wp2_with fail
  refine ⟨trivial, ?_⟩
  refine (callsIn_wide.2 (implTypesIn _ _ _ _ _ _)).mono ?_
  rintro e w' ⟨rfl, rfl⟩
  rw [HW0.out]
  obtain ⟨w1, hw1⟩ : ∃ w1, w1 = typesInW w0 0 ⟨#[]⟩ A l.length c := ⟨_, rfl⟩
  have hb1 : Below w0.heap.size w0 w1 := by rw [hw1]; exact typesInW_below _ _ _ _ _ _
  have hs1 : w1.heap.size = w0.heap.size + 3 := by rw [hw1]; exact typesInW_size _ _ _ _ _ _
  have hseq := HSEQ.out
  rw [← hw1] at hseq ⊢
  rw [hs0] at hseq
  have HSEQ1 := Lib.hid hseq
  have hbw1 : Below w.heap.size w w1 := hb0.trans (hb1.mono (by omega))
  have hby1 : Boxed w1 (w.heap.size + 1) 67 (.map (some w.heap.size)) := (hb1.block _ (by omega)).trans HBX1.out
  have hmy1 : MapS w1 w.heap.size (numF 0 (uniF [] (varW [])) : List (ByteArray × Value)) := mapS_below HM0.out hb1 (by omega)
  have HBY1 := Lib.hid hby1
  have HMY1 := Lib.hid hmy1
  clear hseq hw1 hby1 hmy1
  gi_wp2
  have hsz1 : w1.heap.size = w.heap.size + 5 := by omega
  have hI : OwnM w1.heap.size (fun (M : Nat → Prop) (pre : List TypeIt) (W : World) => MapS W w.heap.size (numF 0 (uniF [] (varW (pre.map TypeIt.key)))) ∧ Boxed W (w.heap.size + 1) 67 (.map (some w.heap.size)) ∧ Below w.heap.size w W) :=
    OwnM.and (ownM_mapS (fun pre : List TypeIt => numF 0 (uniF [] (varW (pre.map TypeIt.key)))) (by omega)) (OwnM.and (ownM_boxed _ (fun _ => .map (some w.heap.size)) (by omega)) (ownM_below (by omega) (Nat.le_refl _)))
  refine wpIn_rangeFunc_ownM rfl (by decide) (gf := 82) (lb := #[.pointer (some ⟨w.heap.size + 2 + 1, 0, none⟩), .pointer (some ⟨w.heap.size + 2 + 2, 0, none⟩)]) rfl trivial (enters_of Tryd.func82 (by kernel_rfl) rfl) HSEQ1.out (fun b h => by omega) (Below.refl _ _) (by omega) (fun _ => rfl)
    (fun M pre W => MapS W w.heap.size (numF 0 (uniF [] (varW (pre.map TypeIt.key)))) ∧ Boxed W (w.heap.size + 1) 67 (.map (some w.heap.size)) ∧ Below w.heap.size w W) (fun _ _ _ => False)
    hI (fun _ _ _ _ _ h _ _ => h) (fun M _ => ⟨HMY1.out, HBY1.out, hbw1⟩)
    (fun y a' W => ∃ Bp, w1.heap.size ≤ Bp ∧ Whole W Bp 26 #[.int .i64 y.2.1.kind_, .string y.2.1.name_, .slice y.2.2.1 y.2.1.args_.length y.2.2.2] ∧ a' = { tmps := #[.slice A l.length c, undef, .map none, .pointer (some ⟨w.heap.size + 1, 0, none⟩), undef, .pointer (some ⟨Bp, 0, none⟩), .map (some w.heap.size), .slice A l.length c, .agg #[.int .i64 0, .string ⟨#[]⟩, .slice A l.length c], typesInV (w.heap.size + 2), .int .i64 (y.1 : Nat), .agg #[.int .i64 y.2.1.kind_, .string y.2.1.name_, .slice y.2.2.1 y.2.1.args_.length y.2.2.2], undef, undef, undef, undef, undef, undef, undef, undef, undef], defers := [] })
    (fun y a' _ _ _ _ ⟨Bp, h1, h2, h3⟩ hg hr => ⟨Bp, h1, whole_kept h2 hg (fun r e => (hr r e).2), h3⟩) ?assign ?body ?done ?stop
  case assign =>
    intro l' M pre y W K hM hMl hsW hI' _ hK
    simp only [TypeIt.enc]
    gi_wp2
    exact hK _ _ ((KeepsOthers.alloc _ _).from _) (KeepsM.alloc (by omega) hMl _) (hI.alloc_ hI' hM) ⟨W.heap.size, by omega, Whole.new W _ _, by simp⟩
  case body =>
    rintro l' M pre y a' W hM hMl hsW ⟨hmap, hbx, hb⟩ ⟨Bp, hBp, hwp, rfl⟩ ⟨⟨rest, hrest⟩, _⟩
    have hlen : pre.length + 1 ≤ x.size := by
      have := congrArg List.length hrest
      rw [TypeX.walk_size, List.length_append, List.length_map, List.length_append, List.length_singleton] at this
      omega
    have hcn : uniF [] (varW ((pre ++ [y]).map TypeIt.key)) = (if y.2.1.kind_ = 1 then addNew (uniF [] (varW (pre.map TypeIt.key))) y.2.1.name_ else uniF [] (varW (pre.map TypeIt.key))) := by
      rw [List.map_append, varW_app, List.map_cons, List.map_nil, uniF_append, varW, varW]
      show uniF _ (if y.2.1.kind_ = 1 then [y.2.1.name_] else []) = _
      split <;> rfl
    obtain ⟨t, ht⟩ : ∃ t, t = uniF [] (varW (pre.map TypeIt.key)) := ⟨_, rfl⟩
    rw [← ht] at hmap hcn
    have htl : t.length ≤ 4294967296 := by
      have h1 := uniF_len (varW (pre.map TypeIt.key)) []
      have h2 := varW_len (pre.map TypeIt.key)
      rw [List.length_map] at h2
      rw [← ht, List.length_nil] at h1
      omega
    have q0 : W.cell? ⟨Bp, 0, none⟩ = some (.int .i64 y.2.1.kind_) := by rw [hwp.cell]; rfl
    have q1 : W.cell? ⟨Bp, 1, none⟩ = some (.string y.2.1.name_) := by rw [hwp.cell]; rfl
    have q2 : W.cell? ⟨Bp, 2, none⟩ = some (.slice y.2.2.1 y.2.1.args_.length y.2.2.2) := by rw [hwp.cell]; rfl
    have HCN := Lib.hid hcn
    clear hrest ht hcn
    gi_wp2_with fail
    refine ⟨trivial, ?_⟩
    refine (CallsIn.inRound l' (callsIn_wide.2 (implIsVar _ _ _ _ _ _))).mono ?_
    rintro e W2 ⟨rfl, hb2⟩
    have r0 : W2.cell? ⟨Bp, 0, none⟩ = some (.int .i64 y.2.1.kind_) := (hb2.cell (p := ⟨Bp, 0, none⟩) hwp.lt).trans (by rw [hwp.cell]; rfl)
    have r1 : W2.cell? ⟨Bp, 1, none⟩ = some (.string y.2.1.name_) := (hb2.cell (p := ⟨Bp, 1, none⟩) hwp.lt).trans (by rw [hwp.cell]; rfl)
    have r2 : W2.cell? ⟨Bp, 2, none⟩ = some (.slice y.2.2.1 y.2.1.args_.length y.2.2.2) := (hb2.cell (p := ⟨Bp, 2, none⟩) hwp.lt).trans (by rw [hwp.cell]; rfl)
    have hwpl := hwp.lt
    have hk2 : KeepsM w.heap.size (fun b => M b ∨ w.heap.size + 2 ≤ b ∧ b < w.heap.size + 2 + 3) W W2 := KeepsM.of_below hb2 (by omega) hMl
    have hkf2 : KeepsFrom w1.heap.size W W2 := KeepsFrom.of_below hb2
    have hb02 := hb.trans (hb2.mono (by omega))
    have hsW2 := hb2.size
    have hbx2 := boxed_below hbx hb2
    have hmap2 := mapS_below hmap hb2 (by omega)
    have hc := hbx2.cell
    have HBX := Lib.hid hbx2
    have HMAP := Lib.hid hmap2
    have HK := Lib.hid hk2
    have HKF := Lib.hid hkf2
    clear q0 q1 q2 hbx hwp hk2 hkf2 hb2 hmap hmap2
    cases hk : (y.2.1.kind_ == 1) with
    | false =>
      have hk1 : ¬ y.2.1.kind_ = 1 := by intro h; rw [h] at hk; cases hk
      have HK1 := Lib.hid hk1
      clear hk1
      gi_wp2
      exact ⟨HKF.out, HK.out, by rw [HCN.out, if_neg HK1.out]; exact HMAP.out, HBX.out, hb02⟩
    | true =>
      have hk1 : y.2.1.kind_ = 1 := by simpa using hk
      have HK1 := Lib.hid hk1
      have hbind := implBindN w.heap.size t y.2.1.name_ W2 HMAP.out
      have HBIND := Lib.hid hbind
      have hlm := fun ty => run_len_map (P := Tryd.prog) HMAP.out.at_ Tryd.underlying67 ty
      rw [numF_length] at hlm
      clear hk1 hk hbind
      gi_wp2_with fail
      refine ⟨trivial, ?_⟩
      refine (CallsIn.inRound l' (callsIn_wide.2 HBIND.out)).mono ?_
      rintro e W3 ⟨rfl, hm3, hbut3⟩
      have hkm3 : KeepsM w.heap.size (fun b => M b ∨ w.heap.size + 2 ≤ b ∧ b < w.heap.size + 2 + 3) W2 W3 := keepsM_but hbut3 (by omega) (Nat.le_refl _) (fun b h => ⟨Nat.lt_of_lt_of_le (hMl b h) hsW2, by
        rcases h with h | h
        · have := hM b h; omega
        · omega⟩)
      have hkf3 : KeepsFrom w1.heap.size W2 W3 := keepsFrom_but hbut3 (by omega)
      have hbx3 : Boxed W3 (w.heap.size + 1) 67 (.map (some w.heap.size)) := (hbut3.block _ (by omega) (by omega)).trans HBX.out
      have hb3 : Below w.heap.size w W3 := hb02.trans (hbut3.to_below (Nat.le_refl _) (by omega))
      have HM3 := Lib.hid hm3
      have HKM := Lib.hid (HK.out.trans hkm3)
      have HKF3 := Lib.hid (HKF.out.trans hkf3)
      have HBX3 := Lib.hid hbx3
      clear hm3 hbut3 hkm3 hkf3 hbx3 r0 r1 r2 hc
      gi_wp2
      exact ⟨HKF3.out, HKM.out, by rw [HCN.out, if_pos HK1.out]; exact HM3.out, HBX3.out, hb3⟩
  case done =>
    rintro D M xs W hD hS ⟨hmap, hbx, hb⟩ hK
    have hDlt : D < W.heap.size := (Array.getElem?_eq_some_iff.1 hK).1
    rw [hS, ← HXV.out] at hmap
    have hc := hbx.cell
    have HKD := Lib.hid hK
    have HMAP := Lib.hid hmap
    clear hS hbx hmap hK
    gi_wp2
    refine ⟨by simp, .inl ⟨_, _, rfl, run_takeDeferred HKD.out, ?_⟩⟩
    refine ⟨_, results_tmp rfl _ _ _, rfl, HMAP.out.same ?_, below_putObj hb _ (by omega) (by omega), ?_⟩
    · exact World.putObj_heap_other (by omega)
    · simpa [World.putObj] using HMAP.out.lt
  case stop =>
    rintro D c pre W _ h _
    exact h.elim
end Go.Proofs.YtngbilblddngcaaDoor

/- (*unifier).occurs; the program's OccursIn. -/
import Derived.Test.YtpffmcofajlkgaaZUniK
import Derived.Test.YtpffmcofajlkgaaQ2
namespace Go.Proofs.Ytpffmcofajlkgaa
open Go.RowKit Go.Shelf Go.Lib
attribute [local go_sem] Oper.semAt_some

/-- The state of the search: none has been met. -/
def OccSt (acc : List BindingX) (v : ByteArray) (x : TypeX) (s : StType) : Prop := SizeSt acc (x.sub (subX acc)).size s ∧ (x.sub (subX acc)).cntV v = cntS acc v s.2.1 + (match s.2.2 with | none => 0 | some y => TypeX.cntVL v (y.2.1.sub (subX acc)).args_)
theorem OccSt.start (acc : List BindingX) (v : ByteArray) (x : TypeX) : OccSt acc v x ((x.sub (subX acc)).size, [[x]], none) := by
  refine ⟨SizeSt.start acc x, ?_⟩
  show _ = cntS acc v [[x]] + 0
  rw [cntS_head, cntS_nil]; simp [cntS]
theorem OccSt.pop {acc : List BindingX} {v : ByteArray} {x : TypeX} {s s' : StType} (h : OccSt acc v x s) (hp : popType s s') : OccSt acc v x s' := by
  refine ⟨h.1.pop hp, ?_⟩
  obtain ⟨n, r, rfl, rfl⟩ := hp
  have := h.2
  simp only [cntS_nil] at this
  exact this
theorem OccSt.next {acc : List BindingX} {v : ByteArray} {x r : TypeX} {s s' : StType} {y : TypeIt} (h : OccSt acc v x s) (hp : nxType s y s') (hr : ¬ BoundV acc r) (he : r.sub (subX acc) = y.2.1.sub (subX acc)) (hv : ¬ (r.kind_ = 1 ∧ r.name_ = v)) : OccSt acc v x s' := by
  refine ⟨h.1.next hp, ?_⟩
  obtain ⟨n, l, rs, rfl, rfl⟩ := hp
  have h2 := h.2
  simp only [cntS_head, open_cnt v hr he, TypeX.isV, if_neg hv] at h2
  have h3 : (y.2.1.sub (subX acc)).args_ = TypeX.subL (subX acc) r.args_ := by rw [← he, open_sub hr]; rfl
  simp only [h3]
  omega
theorem OccSt.yes {acc : List BindingX} {v : ByteArray} {x r : TypeX} {n : Nat} {l : List TypeX} {rs : List (List TypeX)} {z : TypeX} (h : OccSt acc v x (n, (z :: l) :: rs, none)) (hr : ¬ BoundV acc r) (he : r.sub (subX acc) = z.sub (subX acc)) (hv : r.kind_ = 1 ∧ r.name_ = v) : 0 < (x.sub (subX acc)).cntV v := by
  have h2 := h.2
  simp only [cntS_head, open_cnt v hr he, TypeX.isV, if_pos hv] at h2
  omega
theorem OccSt.part {acc : List BindingX} {v : ByteArray} {x : TypeX} {n : Nat} {rs : List (List TypeX)} {y : TypeIt} {r : TypeX} (h : OccSt acc v x (n, rs, some y)) (hr : ¬ BoundV acc r) (he : r.sub (subX acc) = y.2.1.sub (subX acc)) : OccSt acc v x (n - 1, r.args_ :: rs, none) := by
  refine ⟨(h.1.part hr he).1, ?_⟩
  have h2 := h.2
  have h3 : (y.2.1.sub (subX acc)).args_ = TypeX.subL (subX acc) r.args_ := by rw [← he, open_sub hr]; rfl
  simp only [h3] at h2
  simp only [cntS_cons]
  omega
theorem OccSt.fin_ {acc : List BindingX} {v : ByteArray} {x : TypeX} {s : StType} (h : OccSt acc v x s) (hf : finType s) : (x.sub (subX acc)).cntV v = 0 := by
  obtain ⟨n, rfl⟩ := hf
  have := h.2
  simpa [cntS] using this

set_option maxRecDepth 100000 in
set_option maxHeartbeats 8000000 in
theorem implOccurs (acc : List BindingX) (P : Nat → Prop) (Bu : Nat) (mo : Option Nat) (V : Value) (v : ByteArray) (t : TypeX) (A : Option Addr) (c : Nat) (w : World) (hu : ∃ σ, Tri σ acc ∧ UniAt P Bu mo V σ w) (hP : ∀ b, P b → b < w.heap.size ∧ mo ≠ some b) (hlen : acc.length ≤ 4294967296) (hsz : (t.sub (subX acc)).size ≤ 4294967296) (ht : TypeRow w P A c t.args_) :
    Calls Try.prog 28 #[.pointer (some ⟨Bu, 0, none⟩), .string v, .agg #[.int .i64 t.kind_, .string t.name_, .slice A t.args_.length c]] w fun e w' => e = .returned (.bool (decide (0 < (t.sub (subX acc)).cntV v))) ∧ UniK acc P Bu mo V w w' := by
  have hw : Bu < w.heap.size ∧ (∀ b, mo = some b → b < w.heap.size) ∧ ∀ b, P b → b < w.heap.size := by
    obtain ⟨σ, _, h2⟩ := hu
    exact ⟨h2.whole.lt, h2.map.lt, fun b h => (hP b h).1⟩
  obtain ⟨w0, hw0⟩ : ∃ w0, ((((w.alloc (.cells #[.pointer (some ⟨Bu, 0, none⟩)] 53)).alloc (.cells #[.string v] 9)).alloc (.cells #[.int .i64 t.kind_, .string t.name_, .slice A t.args_.length c] 26)).alloc (.cells #[.bool false] 4)) = w0 := ⟨_, rfl⟩
  have hb0 : Below w.heap.size w w0 := by rw [← hw0]; exact ((((Below.refl _ _).alloc (Nat.le_refl _) _).alloc (by simp) _).alloc (by simp; omega) _).alloc (by simp; omega) _
  have hs0 : w0.heap.size = w.heap.size + 4 := by rw [← hw0]; simp
  have hbu : Boxed w0 w.heap.size 53 (.pointer (some ⟨Bu, 0, none⟩)) := by
    rw [← hw0]
    exact ((((Below.refl (w.heap.size + 1) _).alloc (by simp) _).alloc (by simp) _).alloc (by simp) _).block _ (by omega) |>.trans (Boxed.new w _ _)
  have hbv : Boxed w0 (w.heap.size + 1) 9 (.string v) := by
    rw [← hw0]
    have h := Boxed.new (w.alloc (.cells #[.pointer (some ⟨Bu, 0, none⟩)] 53)) 9 (.string v)
    simp only [World.size_alloc] at h
    exact (((Below.refl (w.heap.size + 2) _).alloc (by simp) _).alloc (by simp) _).block _ (by omega) |>.trans h
  have hbt : Whole w0 (w.heap.size + 2) 26 #[.int .i64 t.kind_, .string t.name_, .slice A t.args_.length c] := by
    rw [← hw0]
    have h := Whole.new ((w.alloc (.cells #[.pointer (some ⟨Bu, 0, none⟩)] 53)).alloc (.cells #[.string v] 9)) 26 #[.int .i64 t.kind_, .string t.name_, .slice A t.args_.length c]
    simp only [World.size_alloc] at h
    exact ((Below.refl (w.heap.size + 3) _).alloc (by simp) _).block _ (by omega) |>.trans h
  have hbr : Boxed w0 (w.heap.size + 3) 4 (.bool false) := by
    rw [← hw0]
    have h := Boxed.new (((w.alloc (.cells #[.pointer (some ⟨Bu, 0, none⟩)] 53)).alloc (.cells #[.string v] 9)).alloc (.cells #[.int .i64 t.kind_, .string t.name_, .slice A t.args_.length c] 26)) 4 (.bool false)
    simp only [World.size_alloc] at h
    exact h
  have huk0 : UniK acc P Bu mo V w w0 := UniK.frame ⟨hu, KeptM.refl _ _ _⟩ hw hb0
  have HUK0 := Lib.hid huk0
  have HBU := Lib.hid hbu
  have HBV := Lib.hid hbv
  have HBT := Lib.hid hbt
  have HBR := Lib.hid hbr
  have HW0 := Lib.hid hw0
  have HT := Lib.hid ht
  have HP := Lib.hid hP
  have HW := Lib.hid hw
  have HU := Lib.hid hu
  have hmf := run_func
  clear hu hw hbu hbv hbt hbr hw0 ht hP huk0
  refine callsIn_wide.1 (callsIn_of_wp_marks (n := 4) Try.func28 rfl trivial ?_ rfl)
  simp only [Try.ntmps28, List.size_toArray, List.length_cons, List.length_nil, Nat.reduceAdd, Nat.reduceSub, Array.replicate_succ, Array.replicate_zero, List.push_toArray, List.append_toArray, List.nil_append, List.cons_append]
  gi_wp2_with fail
  refine ⟨trivial, ?_⟩
  refine (callsIn_wide.2 (implPreorderV _ _ _ _ _ _ _ _ _)).mono ?_
  rintro e w' ⟨rfl, rfl⟩
  rw [HW0.out]
  obtain ⟨w1, hw1⟩ : ∃ w1, w1 = (w0.alloc (.cells #[.int .i64 t.kind_, .string t.name_, .slice A t.args_.length c] 26)).alloc (.cells #[.func (.func 54) #[.pointer (some ⟨Bu, 0, none⟩)] #[]] 83) := ⟨_, rfl⟩
  rw [← hw1]
  have hb1 : Below w0.heap.size w0 w1 := by rw [hw1]; exact ((Below.refl _ _).alloc (Nat.le_refl _) _).alloc (by simp) _
  have hs1 : w1.heap.size = w0.heap.size + 2 := by rw [hw1]; simp
  have hr1 : Whole w1 w0.heap.size 26 #[.int .i64 t.kind_, .string t.name_, .slice A t.args_.length c] := by rw [hw1]; exact (Whole.new w0 _ _).below ((Below.refl (w0.heap.size + 1) _).alloc (by simp) _) (by omega)
  have hf1 : w1.cell? ⟨w0.heap.size + 1, 0, none⟩ = some (.func (.func 54) #[.pointer (some ⟨Bu, 0, none⟩)] #[]) := by
    have h := Whole.new (w0.alloc (.cells #[.int .i64 t.kind_, .string t.name_, .slice A t.args_.length c] 26)) 83 #[.func (.func 54) #[.pointer (some ⟨Bu, 0, none⟩)] #[]]
    rw [World.size_alloc] at h
    rw [hw1, h.cell]; rfl
  have huk1 := HUK0.out.frame HW.out (hb1.mono (by omega))
  have hwl := HW.out
  have hseq := preUType_seq t A c w0.heap.size (w0.heap.size + 1) (t.sub (subX acc)).size P (fun b => mo = some b) (fun b => P b ∨ (w0.heap.size ≤ b ∧ b < w0.heap.size + 2)) 54 #[.pointer (some ⟨Bu, 0, none⟩)] (enters_of Try.func54 (by kernel_rfl) rfl) w1 (.inr (by constructor <;> omega)) (fun b h => .inl h)
    (fun b h => ⟨by
      rcases h with h | h
      · have := (HP.out b h).1; omega
      · omega, fun e => by
      have := hwl.2.1 b e
      rcases h with h | h
      · exact (HP.out b h).2 e
      · omega⟩) (fun b h => by have := hwl.2.1 b h; omega) (by omega) hr1 hf1 (huk1.row HP.out HT.out)
  rw [hs0] at hseq
  have hbu1 : Boxed w1 w.heap.size 53 (.pointer (some ⟨Bu, 0, none⟩)) := (hb1.block _ (by omega)).trans HBU.out
  have hbv1 : Boxed w1 (w.heap.size + 1) 9 (.string v) := (hb1.block _ (by omega)).trans HBV.out
  have hbr1 : Boxed w1 (w.heap.size + 3) 4 (.bool false) := (hb1.block _ (by omega)).trans HBR.out
  have HSEQ := Lib.hid hseq
  have HUK1 := Lib.hid huk1
  have HBU1 := Lib.hid hbu1
  have HBV1 := Lib.hid hbv1
  have HBR1 := Lib.hid hbr1
  clear hseq huk1 hbu1 hbv1 hbr1 hw1 hr1 hf1 hmf HUK0 HBU HBV HBR HBT HW0
  gi_wp2
  have hsz1 : w1.heap.size = w.heap.size + 6 := by omega
  have hI : OwnM w1.heap.size (fun (M : Nat → Prop) (s : StType) (W : World) => OccSt acc v t s ∧ UniK acc P Bu mo V w W ∧ Boxed W w.heap.size 53 (.pointer (some ⟨Bu, 0, none⟩)) ∧ Boxed W (w.heap.size + 1) 9 (.string v) ∧ Boxed W (w.heap.size + 3) 4 (.bool false)) :=
    OwnM.and (ownM_pure _ (fun s : StType => OccSt acc v t s)) (OwnM.and (ownM_uni hwl (by omega)) (OwnM.and (ownM_boxed _ (fun _ : StType => .pointer (some ⟨Bu, 0, none⟩)) (by omega)) (OwnM.and (ownM_boxed _ (fun _ : StType => .string v) (by omega)) (ownM_boxed _ (fun _ : StType => .bool false) (by omega)))))
  refine wpIn_rangeFunc_ownU rfl (by decide) (gf := 85) (lb := #[.pointer (some ⟨w.heap.size + 4, 0, none⟩), .pointer (some ⟨w.heap.size + 4 + 1, 0, none⟩)]) rfl trivial (enters_of Try.func85 (by kernel_rfl) rfl) HSEQ.out (fun b h => by
      rcases h with h | h
      · have := (HP.out b h).1; omega
      · omega) (fun b h => by have := hwl.2.1 b h; omega) (Below.refl _ _) (fun _ => rfl)
    (fun M s W => OccSt acc v t s ∧ UniK acc P Bu mo V w W ∧ Boxed W w.heap.size 53 (.pointer (some ⟨Bu, 0, none⟩)) ∧ Boxed W (w.heap.size + 1) 9 (.string v) ∧ Boxed W (w.heap.size + 3) 4 (.bool false))
    (fun c W => c = .ret ∧ 0 < (t.sub (subX acc)).cntV v ∧ UniK acc P Bu mo V w W ∧ Boxed W (w.heap.size + 3) 4 (.bool true))
    hI (fun M s s' W h hp => ⟨h.1.pop hp, h.2⟩) (fun M s W h => by have := h.1.1.1; show _ ≤ _; omega)
    (fun c => (OwnM.and (ownM_pure _ (fun _ => c = .ret)) (OwnM.and (ownM_pure _ (fun _ => 0 < (t.sub (subX acc)).cntV v)) (OwnM.and (ownM_uni hwl (by omega)) (ownM_boxed (β := Unit) _ (fun _ => .bool true) (by omega))))).from (fun _ => False)) (fun _ _ => ⟨OccSt.start acc v t, HUK1.out, HBU1.out, HBV1.out, HBR1.out⟩) ?parts
    (fun M y a' W => ∃ Bp, w1.heap.size ≤ Bp ∧ ¬ M Bp ∧ Whole W Bp 26 #[.int .i64 y.2.1.kind_, .string y.2.1.name_, .slice y.2.2.1 y.2.1.args_.length y.2.2.2] ∧ a' = { tmps := #[.pointer (some ⟨Bu, 0, none⟩), .string v, .agg #[.int .i64 t.kind_, .string t.name_, .slice A t.args_.length c], .pointer (some ⟨w.heap.size, 0, none⟩), .pointer (some ⟨w.heap.size + 1, 0, none⟩), .pointer (some ⟨w.heap.size + 1 + 1, 0, none⟩), .pointer (some ⟨w.heap.size + 1 + 1 + 1, 0, none⟩), undef, .pointer (some ⟨Bp, 0, none⟩), .agg #[.int .i64 t.kind_, .string t.name_, .slice A t.args_.length c], .pointer (some ⟨Bu, 0, none⟩), .func (.func 54) #[.pointer (some ⟨Bu, 0, none⟩)] #[], .func (.func 85) #[] #[.pointer (some ⟨w.heap.size + 4, 0, none⟩), .pointer (some ⟨w.heap.size + 4 + 1, 0, none⟩)], .int .i64 (y.1 : Nat), .agg #[.int .i64 y.2.1.kind_, .string y.2.1.name_, .slice y.2.2.1 y.2.1.args_.length y.2.2.2], undef, undef, undef, undef, undef, undef, undef, undef, undef, undef, undef], defers := [] })
    (fun M y a' _ _ _ _ ⟨Bp, h1, h0, h2, h3⟩ hg hr => ⟨Bp, h1, h0, whole_kept h2 hg (fun r e => (hr r e).2), h3⟩) ?assign ?body ?done ?stop
  case parts =>
    rintro M s y s1 W hM hsW ⟨n, l, r, rfl, hyl, hyr⟩ ⟨n', l', r', e1, rfl⟩ ⟨hst, huk, hbu, hbv, hbr⟩
    injection e1 with e1 e2
    injection e2 with e2 _
    injection e2 with e2 e3
    injection e2 with _ e2
    subst e1 e2 e3
    obtain ⟨⟨σ, htri, hua⟩, hkm⟩ := huk
    have hws := hkm.size
    have hrow : TypeRow W P y.2.2.1 y.2.2.2 y.2.1.args_ := hyr.frame (fun _ h => h) fun b o hb => (hkm.cell (HP.out b hb).1 (HP.out b hb).2 o).trans (HUK1.out.2.cell (HP.out b hb).1 (HP.out b hb).2 o).symm
    show Calls Try.prog 54 #[.pointer (some ⟨Bu, 0, none⟩), .agg #[.int .i64 y.2.1.kind_, .string y.2.1.name_, .slice y.2.2.1 y.2.1.args_.length y.2.2.2]] W _
    refine (implResArgs σ acc P Bu mo V y.2.1 _ _ W htri hua (fun b h => ⟨Nat.lt_of_lt_of_le (HP.out b h).1 hws, (HP.out b h).2⟩) (by rw [htri.len]; exact hlen) hrow).mono ?_
    rintro e W' ⟨r0, D, d, σ', rfl, h1, h2, h3, h4, h5, h6⟩
    have hfar : ∀ b, w.heap.size ≤ b → b < w.heap.size + 4 → W'.heap[b]? = W.heap[b]? := fun b hb1 hb2 => h6.block b (by omega) fun e => by have := hwl.2.1 b e; omega
    exact ⟨(n - 1, r0.args_ :: l :: r, none), ⟨n, l :: r, n - 1, r0.args_, D, d, rfl, rfl, (hst.1.part h1 h2).2, rfl, h3⟩, h6, hst.part h1 h2, UniK.step ⟨⟨σ, htri, hua⟩, hkm⟩ hws ⟨σ', h4, h5⟩ h6, (hfar _ (by omega) (by omega)).trans hbu, (hfar _ (by omega) (by omega)).trans hbv, (hfar _ (by omega) (by omega)).trans hbr⟩
  case assign =>
    intro l M pre y W K hM hMl hsW hI' _ hK
    simp only [TypeIt.enc]
    gi_wp2
    exact hK _ _ ((KeepsOthers.alloc _ _).from _) (KeepsM.alloc (Nat.zero_le _) hMl _) (hI.alloc_ hI' hM) ⟨W.heap.size, by omega, fun h => Nat.lt_irrefl _ (hMl _ (.inl h)), Whole.new W _ _, by simp⟩
  case body =>
    rintro lp M s y a' W hM hMl hsW ⟨hst, huk, hbu, hbv, hbr⟩ ⟨Bp, hBp, hMB, hwp, rfl⟩ ⟨n, l, r, rfl, hyl, hyr⟩
    obtain ⟨⟨σ, htri, hua⟩, hkm⟩ := huk
    have hws := hkm.size
    have hrow : TypeRow W P y.2.2.1 y.2.2.2 y.2.1.args_ := hyr.frame (fun _ h => h) fun b o hb => (hkm.cell (HP.out b hb).1 (HP.out b hb).2 o).trans (HUK1.out.2.cell (HP.out b hb).1 (HP.out b hb).2 o).symm
    have hcall := implResolve σ acc P Bu mo V y.2.1 _ _ W htri hua (fun b h => ⟨Nat.lt_of_lt_of_le (HP.out b h).1 hws, (HP.out b h).2⟩) (by rw [htri.len]; exact hlen) hrow
    obtain ⟨q0, q1, q2⟩ := cells3 hwp
    have hcu := hbu.cell
    have hwpl := hwp.lt
    have HC := Lib.hid hcall
    have HST := Lib.hid hst
    have HUK := Lib.hid (show UniK acc P Bu mo V w W from ⟨⟨σ, htri, hua⟩, hkm⟩)
    have HWP := Lib.hid hwp
    have HBU := Lib.hid hbu
    have HBV := Lib.hid hbv
    have HBR := Lib.hid hbr
    have hul := hbu.lt
    clear hcall hst htri hua hkm hwp hbu hbv hbr hrow hyr
    gi_wp2_with fail
    refine ⟨trivial, ?_⟩
    refine (CallsIn.inRound lp (callsIn_wide.2 HC.out)).mono ?_
    rintro e W2 ⟨r0, D, d, σ', rfl, h1, h2, h3, h4, h5, h6⟩
    have hs2 := h6.size
    have hnm : ∀ b, w.heap.size ≤ b → ¬ mo = some b := fun b hb e => by have := hwl.2.1 b e; omega
    have hwp2 : Whole W2 Bp 26 #[.int .i64 y.2.1.kind_, .string y.2.1.name_, .slice y.2.2.1 y.2.1.args_.length y.2.2.2] := (h6.block Bp hwpl (hnm _ (by omega))).trans HWP.out
    have hfar : ∀ b, w.heap.size ≤ b → b < w.heap.size + 4 → W2.heap[b]? = W.heap[b]? := fun b hb1 hb2 => h6.block b (by omega) (hnm b hb1)
    have huk2 := HUK.out.step hws ⟨σ', h4, h5⟩ h6
    obtain ⟨W3, hW3⟩ : ∃ W3, W3 = ((W2.setCell ⟨Bp, 0, none⟩ (.int .i64 r0.kind_)).setCell ⟨Bp, 1, none⟩ (.string r0.name_)).setCell ⟨Bp, 2, none⟩ (.slice D r0.args_.length d) := ⟨_, rfl⟩
    have hbut : But Bp W2 W3 := by rw [hW3]; exact ((But.set_ _ _ 0 _).trans (But.set_ _ _ 1 _)).trans (But.set_ _ _ 2 _)
    have hx3 : Whole W3 Bp 26 #[.int .i64 r0.kind_, .string r0.name_, .slice D r0.args_.length d] := by rw [hW3]; simpa using ((hwp2.set_ 0 (.int .i64 r0.kind_)).set_ 1 (.string r0.name_)).set_ 2 (.slice D r0.args_.length d)
    have hb23 : Below w.heap.size W2 W3 := hbut.to_below (by omega) (by omega)
    have hs3 := hbut.size
    have huk3 := huk2.frame hwl hb23
    have hbu3 : Boxed W3 w.heap.size 53 (.pointer (some ⟨Bu, 0, none⟩)) := (hbut.block _ (by omega) (by omega)).trans ((hfar _ (by omega) (by omega)).trans HBU.out)
    have hbv3 : Boxed W3 (w.heap.size + 1) 9 (.string v) := (hbut.block _ (by omega) (by omega)).trans ((hfar _ (by omega) (by omega)).trans HBV.out)
    have hbr3 : Boxed W3 (w.heap.size + 3) 4 (.bool false) := (hbut.block _ (by omega) (by omega)).trans ((hfar _ (by omega) (by omega)).trans HBR.out)
    have hkf3 : KeepsFrom w1.heap.size W W3 := by
      refine ⟨by omega, fun k o hk ho hc => ?_⟩
      have hkl := (Array.getElem?_eq_some_iff.1 ho).1
      have hne : k ≠ Bp := by
        rintro rfl
        rw [show W.heap[k]? = _ from HWP.out] at ho
        cases ho; cases hc
      exact (hbut.block k (by omega) hne).trans ((h6.block k hkl (hnm _ (by omega))).trans ho)
    have hkm3 : KeepsM 0 (fun b => M b ∨ P b ∨ (w.heap.size + 4 ≤ b ∧ b < w.heap.size + 4 + 2)) W W3 := by
      refine ⟨⟨hbut.os.trans h6.os, hbut.tape.trans h6.tape, hbut.output.trans h6.output, by omega, fun k hk => absurd hk (Nat.not_lt_zero k)⟩, fun b hb => ?_⟩
      have hbl := hMl b hb
      refine (hbut.block b (by omega) ?_).trans (h6.block b hbl ?_)
      · rintro rfl
        rcases hb with hb | hb | hb
        · exact hMB hb
        · have := (HP.out _ hb).1; omega
        · omega
      · intro e
        have := hwl.2.1 b e
        rcases hb with hb | hb | hb
        · have := hM b hb; omega
        · exact (HP.out _ hb).2 e
        · omega
    obtain ⟨z0, z1, z2⟩ := cells3 hwp2
    have zf0 := hwp2.frozen 0
    have zf1 := hwp2.frozen 1
    have zf2 := hwp2.frozen 2
    have zl := hwp2.lt
    have zl3 := hx3.lt
    have HW3 := Lib.hid hW3.symm
    have HX3 := Lib.hid hx3
    have HUK3 := Lib.hid huk3
    have HBU3 := Lib.hid hbu3
    have HBV3 := Lib.hid hbv3
    have HBR3 := Lib.hid hbr3
    have HKF3 := Lib.hid hkf3
    have HKM3 := Lib.hid hkm3
    have HOP := Lib.hid h1
    have HEQ := Lib.hid h2
    clear h1 h2 h3 h4 h5 h6 hwp2 hfar huk2 hbut hx3 hb23 huk3 hbu3 hbv3 hbr3 hkf3 hkm3 hW3 q0 q1 q2 hcu
    gi_wp2_with fail
    refine ⟨trivial, ?_⟩
    rw [HW3.out]
    refine (CallsIn.inRound lp (callsIn_wide.2 (implIsVar _ _ _ _ _ _))).mono ?_
    rintro e W4 ⟨rfl, hb4⟩
    have hs4 := hb4.size
    have hx4 := HX3.out.below hb4 HX3.out.lt
    have hws3 := HUK3.out.2.size
    have huk4 := HUK3.out.frame hwl (hb4.mono hws3)
    have hbu4 := boxed_below HBU3.out hb4
    have hbv4 := boxed_below HBV3.out hb4
    have hbr4 := boxed_below HBR3.out hb4
    have hkf4 := HKF3.out.trans (KeepsFrom.of_below hb4)
    have hMl3 : ∀ b, M b ∨ P b ∨ (w.heap.size + 4 ≤ b ∧ b < w.heap.size + 4 + 2) → b < W3.heap.size := fun b h => Nat.lt_of_lt_of_le (hMl b h) HKF3.out.size
    have hkm4 := HKM3.out.trans (KeepsM.of_below hb4 (Nat.zero_le _) hMl3)
    have hcv := hbv4.cell
    have hcr := hbr4.cell
    have hfr := hbr4.frozen
    obtain ⟨x0, x1, x2⟩ := cells3 hx4
    have xl4 := hx4.lt
    have HUK4 := Lib.hid huk4
    have HBU4 := Lib.hid hbu4
    have HBV4 := Lib.hid hbv4
    have HBR4 := Lib.hid hbr4
    have HKF4 := Lib.hid hkf4
    have HKM4 := Lib.hid hkm4
    clear hb4 hx4 huk4 hbu4 hbv4 hbr4 hkf4 hkm4 hMl3 z0 z1 z2 zf0 zf1 zf2
    by_cases hk : r0.kind_ = 1
    · have hkb : (r0.kind_ == 1) = true := by rw [hk]; rfl
      rw [hkb]
      by_cases hn : r0.name_ = v
      · have hnb : (r0.name_.toList == v.toList) = true := by rw [hn]; simp
        have HYES := Lib.hid (HST.out.yes HOP.out HEQ.out ⟨hk, hn⟩)
        have hnl : r0.name_.toList = v.toList := by rw [hn]
        clear hk hn
        gi_wp2
        exact ⟨keepsFrom_set HKF4.out, rfl, HYES.out, HUK4.out.frame hwl ((Below.refl _ _).setCell (p := ⟨w.heap.size + 3, 0, none⟩) (by simp) _), HBR4.out.set _⟩
      · have hnb : (r0.name_.toList == v.toList) = false := by
          rw [beq_eq_false_iff_ne]
          exact fun e => hn (ByteArray.ext (Array.toList_inj.1 (by simpa [ByteArray.toList_eq] using e)))
        have HNX := Lib.hid (HST.out.next (s' := (n, l :: r, some y)) ⟨n, l, r, rfl, rfl⟩ HOP.out HEQ.out (fun h => hn h.2))
        clear hk hn
        gi_wp2
        exact ⟨HKF4.out, HKM4.out, _, ⟨n, l, r, rfl, rfl⟩, HNX.out, HUK4.out, HBU4.out, HBV4.out, HBR4.out⟩
    · have hkb : (r0.kind_ == 1) = false := by simpa using hk
      rw [hkb]
      have HNX := Lib.hid (HST.out.next (s' := (n, l :: r, some y)) ⟨n, l, r, rfl, rfl⟩ HOP.out HEQ.out (fun h => hk h.1))
      clear hk
      gi_wp2
      exact ⟨HKF4.out, HKM4.out, _, ⟨n, l, r, rfl, rfl⟩, HNX.out, HUK4.out, HBU4.out, HBV4.out, HBR4.out⟩
  case done =>
    rintro D M s W hD hS ⟨hst, huk, _, _, hbr⟩ hK
    have hz := hst.fin_ hS
    have hDb : w.heap.size + 3 ≠ D := by omega
    have hws := huk.2.size
    have hc := hbr.cell
    have hf := hbr.frozen
    have HZ := Lib.hid (show decide (0 < (t.sub (subX acc)).cntV v) = false by rw [hz]; rfl)
    have HBX := Lib.hid hbr
    have HUK := Lib.hid huk
    clear hS hst huk hbr hz
    gi_wp2
    have hK' := (KeepsOthers.setCell W ⟨w.heap.size + 3, 0, none⟩ (.bool false)).same D _ hK rfl
    refine ⟨by simp, .inl ⟨_, _, rfl, run_takeDeferred hK', ?_⟩⟩
    have hc5 := (boxed_putObj (o := .deferred none) (HBX.out.set (.bool false)) hDb).cell
    refine ⟨.bool false, ?_, by rw [HZ.out], HUK.out.frame hwl (below_putObj ((Below.refl _ _).setCell (p := ⟨w.heap.size + 3, 0, none⟩) (by simp) _) _ (by omega) (by omega))⟩
    simp [results, Try.f28, go_sem, hc5]
  case stop =>
    rintro D c W hD ⟨rfl, hx3, huk, hbr⟩ hK
    have hDb : w.heap.size + 3 ≠ D := by omega
    have hws := huk.2.size
    have HX3 := Lib.hid (show decide (0 < (t.sub (subX acc)).cntV v) = true by rw [decide_eq_true_eq]; exact hx3)
    have HBX := Lib.hid hbr
    have HUK := Lib.hid huk
    clear hx3 hbr huk
    gi_wp2
    refine ⟨by simp, .inl ⟨_, _, rfl, run_takeDeferred hK, ?_⟩⟩
    have hc5 := (boxed_putObj (o := .deferred none) HBX.out hDb).cell
    refine ⟨.bool true, ?_, by rw [HX3.out], HUK.out.frame hwl (below_putObj (Below.refl _ _) _ (by omega) (by omega))⟩
    simp [results, Try.f28, go_sem, hc5]
end Go.Proofs.Ytpffmcofajlkgaa

/- The program's reader: a mark; a word; the result. -/
import Derived.Test.YtbnfdjhcakimhaaZAdd
import Derived.Test.YtbnfdjhcakimhaaQ1
namespace Go.Proofs.Ytbnfdjhcakimhaa
open Go.RowKit Go.Lib
theorem infoListM : (Try.prog.info? 24).map (fun i => (i.zero, i.size, i.bytes)) = some (some (.slice none 0 0), 1, 24) := by kernel_rfl

def Marked (G B : Nat) (S : St) (c : UInt8) (w : World) (e : Ending) (w' : World) : Prop :=
  Kept G B w w' ∧ match markS c S with
    | some S' => e = .returned (.bool true) ∧ ∃ vo vs bs, Rdr w' G B S' vo vs bs
    | none => e = .returned (.bool false)
def Worded (G B : Nat) (S : St) (a : List UInt8) (w : World) (e : Ending) (w' : World) : Prop :=
  Kept G B w w' ∧ match wordS a S with
    | some S' => e = .returned (.bool true) ∧ ∃ vo vs bs, Rdr w' G B S' vo vs bs
    | none => e = .returned (.bool false)
theorem Marked.no {G B : Nat} {S : St} {c : UInt8} {w w' : World} (hk : Kept G B w w') (h : markS c S = none) : Marked G B S c w (.returned (.bool false)) w' := ⟨hk, by rw [h]⟩
theorem Marked.yes {G B : Nat} {S S' : St} {c : UInt8} {w w' : World} {vo : Value} {vs : List Value} {bs : List Nat} (hk : Kept G B w w') (h : markS c S = some S') (hR : Rdr w' G B S' vo vs bs) : Marked G B S c w (.returned (.bool true)) w' :=
  ⟨hk, by rw [h]; exact ⟨rfl, _, _, _, hR⟩⟩

theorem Worded.no {G B : Nat} {S : St} {a : List UInt8} {w w' : World} (hk : Kept G B w w') (h : wordS a S = none) : Worded G B S a w (.returned (.bool false)) w' := ⟨hk, by rw [h]⟩
theorem Worded.yes {G B : Nat} {S S' : St} {a : List UInt8} {w w' : World} {vo : Value} {vs : List Value} {bs : List Nat} (hk : Kept G B w w') (h : wordS a S = some S') (hR : Rdr w' G B S' vo vs bs) : Worded G B S a w (.returned (.bool true)) w' :=
  ⟨hk, by rw [h]; exact ⟨rfl, _, _, _, hR⟩⟩

set_option maxRecDepth 100000 in
set_option maxHeartbeats 2000000 in
theorem wordX (G B : Nat) (S : St) (vo : Value) (vs : List Value) (bs : List Nat) (a : ByteArray) (w : World) (hR : Rdr w G B S vo vs bs) (hk : Ok S) (ha : a.size ≤ 9223372036854775807) :
    Calls Try.prog 39 #[.pointer (some ⟨G, 0, none⟩), .string a] w (Worded G B S a.data.toList w) := by
  by_cases h0 : a.size = 0
  · obtain rfl := empty_of h0
    have hw : wordS (ByteArray.empty).data.toList S = some S := if_pos rfl
    have HW := Lib.hid hw
    have HR := Lib.hid hR
    clear hw hR h0
    go_enter Try.func39, Try.ntmps39
    go_wp2
    go_ret
    exact Worded.yes (Kept.refl _ _ _) HW.out HR.out
  · have hnem := nonempty_of h0
    have hne : a.data.toList ≠ [] := by intro e; apply h0; have := congrArg List.length e; simpa using this
    have hw : wordS a.data.toList S = if okAtom a then addS (.mk a []) S else none := by rw [wordS, if_neg hne]
    have HW := Lib.hid hw
    have HR := Lib.hid hR
    have HK := Lib.hid hk
    clear hw hR h0 hne hk
    cases hc : okAtom a with
    | true =>
      have HC := Lib.hid hc
      clear hc
      go_enter Try.func39, Try.ntmps39
      go_wp2_with fail
      refine (implAtom a _ ha).mono ?_
      rintro e w1 ⟨rfl, hb1⟩
      rw [HC.out]
      have hR1 : Rdr w1 G B S vo vs bs := by
        obtain ⟨r1, r2, r3, r4, r5⟩ := HR.out
        exact ⟨r1.below hb1 r1.lt, owns_below r2 hb1, r3.frame fun b hb => hb1.block b (r5 b (List.mem_append_right _ hb)).2, r4, fun b hb => ⟨(r5 b hb).1, Nat.lt_of_lt_of_le (r5 b hb).2 hb1.size⟩⟩
      have hkt : S.top.length ≤ 900 := by have := HK.out.nodes; have := HK.out.most; have := SX.nodesL_length S.top; omega
      have hki : S.ini.length ≤ 14 := by have := HK.out.depth; omega
      have hkz := HK.out.most
      have HR1 := Lib.hid hR1
      clear hR1
      go_wp2_with fail
      refine (addX G B S vo bs bs [] vs (.mk a []) (.slice none 0 0) _ rfl HR1.out (OwX_word _ _ a) (by rw [List.append_nil]; exact HR1.out.nodup) (by simp) (by simp) hkz hkt hki).mono ?_
      rintro e w2 ⟨hk2, hm⟩
      have hkk : Kept G B w w2 := (Kept.of_below hb1).trans hk2
      cases hs : addS (.mk a []) S with
      | none =>
        rw [hs] at hm
        subst hm
        have HS := Lib.hid hs
        clear hs
        go_wp2
        go_ret
        exact Worded.no hkk (by rw [HW.out, HC.out, if_pos rfl, HS.out])
      | some S' =>
        rw [hs] at hm
        obtain ⟨rfl, vo', vs', bs', hR2⟩ := hm
        have HS := Lib.hid hs
        have HR2 := Lib.hid hR2
        clear hs hR2
        go_wp2
        go_ret
        exact Worded.yes hkk (by rw [HW.out, HC.out, if_pos rfl, HS.out]) HR2.out
    | false =>
      have HC := Lib.hid hc
      clear hc
      go_enter Try.func39, Try.ntmps39
      go_wp2_with fail
      refine (implAtom a _ ha).mono ?_
      rintro e w1 ⟨rfl, hb1⟩
      rw [HC.out]
      go_wp2
      go_ret
      exact Worded.no (Kept.of_below hb1) (by rw [HW.out, HC.out]; rfl)

theorem markS_white {c : UInt8} {S : St} (h : isW c = true) : markS c S = some S := if_pos h
theorem markS_open {S : St} : markS 40 S = if 14 < S.ini.length + 1 then none else some ⟨S.top :: S.ini, [], S.z⟩ := by rw [markS, if_neg (by decide), if_pos rfl]
theorem markS_close {S : St} : markS 41 S = match S.ini with | [] => none | t :: r => addS (.mk ByteArray.empty S.top) ⟨r, t, S.z⟩ := by rw [markS, if_neg (by decide), if_neg (by decide), if_pos rfl]; rfl
theorem markS_other {c : UInt8} {S : St} (h1 : isW c = false) (h2 : c ≠ 40) (h3 : c ≠ 41) : markS c S = none := by rw [markS, if_neg (by rw [h1]; decide), if_neg h2, if_neg h3]
theorem rdr_open {w w7 : World} {G B ob cap g' cap' : Nat} {o : Obj} {S : St} {vs : List Value} {bs : List Nat} (hR : Rdr w G B S (.slice (some ⟨ob, 0, none⟩) (S.ini.length + 1) cap) vs bs) (hg : (w.alloc o).grownBy w7 (some ob))
    (hown : w7.ownsRow B 24 1 (.slice (some ⟨g', 0, none⟩) (S.ini.length + 1 + 1) cap') (S.ini.length + 1 + 1) (vs ++ [.slice none 0 0])) (hat : ob = g' ∨ g' = w.heap.size + 1) :
    Rdr (w7.setCell ⟨G, 0, none⟩ (.slice (some ⟨g', 0, none⟩) (S.ini.length + 1 + 1) cap')) G B ⟨S.top :: S.ini, [], S.z⟩ (.slice (some ⟨g', 0, none⟩) (S.ini.length + 1 + 1) cap') (vs ++ [.slice none 0 0]) bs ∧
      Kept G B w (w7.setCell ⟨G, 0, none⟩ (.slice (some ⟨g', 0, none⟩) (S.ini.length + 1 + 1) cap')) := by
  have hRne := hR.ne
  obtain ⟨hc, hr, hl, hn, hi⟩ := hR
  have hob := hi ob (by simp [Value.ownBlock])
  have hobG := hRne ob (by simp [Value.ownBlock])
  have hGl := hc.lt
  have hsz : w.heap.size + 1 ≤ w7.heap.size := by have := hg.size; simpa using this
  have hne : G ≠ ob := by omega
  have keep : ∀ b, b < w.heap.size → b ≠ G → b ≠ ob → (w7.setCell ⟨G, 0, none⟩ (.slice (some ⟨g', 0, none⟩) (S.ini.length + 1 + 1) cap')).heap[b]? = w.heap[b]? := fun b h1 h2 h3 => by
    rw [Below.heap_setCell _ _ _ _ (by exact h2), hg.block b (by simp; omega) (fun e => h3 (by injection e)), Below.heap_alloc _ _ _ h1]
  have hg' := (hown.lt g' rfl)
  simp only [Value.ownBlock, Option.toList_some, List.singleton_append, List.nodup_cons] at hn
  have fb : ∀ b ∈ bs, (w7.setCell ⟨G, 0, none⟩ (.slice (some ⟨g', 0, none⟩) (S.ini.length + 1 + 1) cap')).heap[b]? = w.heap[b]? := fun b hb => by
    have := hi b (List.mem_append_right _ hb)
    exact keep b this.2 (hRne b (List.mem_append_right _ hb)) (fun e => hn.1 (by rw [← e]; exact hb))
  refine ⟨⟨?_, ?_, ?_, ?_, ?_⟩, ⟨hg.os, hg.tape, hg.output, by simp; omega, fun b h1 h2 h3 => keep b h1 h2 (by omega), fun b s q hb => ?_⟩⟩
  · have h7 : Whole w7 G 46 #[.slice (some ⟨ob, 0, none⟩) (S.ini.length + 1) cap, .int .i64 S.z] := (hg.block G (by simp; omega) (fun e => hne (by injection e))).trans ((Below.heap_alloc _ _ _ hGl).trans hc)
    have h := h7.set_ 0 (.slice (some ⟨g', 0, none⟩) (S.ini.length + 1 + 1) cap')
    simpa using h
  · exact own_same hown fun b hb => by
      have : b = g' := by simpa [Value.ownBlock] using hb.symm
      subst this
      exact Below.heap_setCell _ _ _ _ (by show b ≠ G; rcases hat with h | h <;> omega)
  · have h := (hl.frame fb).snoc (OwX_word _ B ByteArray.empty)
    rw [List.append_nil] at h
    simpa using h
  · simp only [Value.ownBlock, Option.toList_some, List.singleton_append, List.nodup_cons]
    refine ⟨?_, hn.2⟩
    rcases hat with rfl | h
    · exact hn.1
    · intro hm
      have := (hi g' (List.mem_append_right _ hm)).2
      omega
  · intro b hb
    rcases List.mem_append.1 hb with h | h
    · have : b = g' := by simpa [Value.ownBlock] using h
      subst this
      simpa using hg'
    · have := hi b (List.mem_append_right _ h)
      simp
      omega
  · refine keep b (Array.getElem?_eq_some_iff.1 hb).1 ?_ ?_
    · rintro rfl
      unfold Whole at hc
      rw [hb] at hc; cases hc
    · rintro rfl
      obtain ⟨cur, hcur⟩ := owned_cells hr rfl
      rw [hb] at hcur; cases hcur
/-- The innermost list taken off. -/
theorem rdr_close {w : World} {G B ob cap z : Nat} {t top : List SX} {r : List (List SX)} {vs : List Value} {bs : List Nat} (hR : Rdr w G B ⟨t :: r, top, z⟩ (.slice (some ⟨ob, 0, none⟩) (r.length + 1 + 1) cap) vs bs) :
    ∃ vs0 b0 bt Av cv, w.cell? ⟨ob, r.length + 1, none⟩ = some (.slice Av top.length cv) ∧ r.length + 1 + 1 ≤ cap ∧ cap ≤ maxLen ∧
      Rdr (w.setCell ⟨G, 0, none⟩ (.slice (some ⟨ob, 0, none⟩) (r.length + 1) cap)) G B ⟨r, t, z⟩ (.slice (some ⟨ob, 0, none⟩) (r.length + 1) cap) vs0 b0 ∧
      OwX (w.setCell ⟨G, 0, none⟩ (.slice (some ⟨ob, 0, none⟩) (r.length + 1) cap)) B (.mk ByteArray.empty top) (.string (SX.mk ByteArray.empty top).atom) (.slice Av top.length cv) bt ∧
      ((Value.slice (some ⟨ob, 0, none⟩) (r.length + 1) cap).ownBlock.toList ++ b0 ++ bt).Nodup ∧ (∀ b ∈ bt, B ≤ b ∧ b < (w.setCell ⟨G, 0, none⟩ (.slice (some ⟨ob, 0, none⟩) (r.length + 1) cap)).heap.size) ∧ (∀ b ∈ bt, b ≠ G) ∧ Kept G B w (w.setCell ⟨G, 0, none⟩ (.slice (some ⟨ob, 0, none⟩) (r.length + 1) cap)) := by
  have hRne := hR.ne
  obtain ⟨hc, hr, hl, hn, hi⟩ := hR
  simp only [List.length_cons] at hr
  obtain ⟨vs0, v, b0, bt, rfl, rfl, h1, h2⟩ := hl.last
  rw [List.reverse_cons] at h1
  have hob := hi ob (by simp [Value.ownBlock])
  have h2' := h2
  rw [OwX] at h2'
  obtain ⟨-, xs, bt', hv, -, -⟩ := h2'
  obtain ⟨Av, cv, rfl⟩ := own_nil hv
  have hlen : vs0.length = r.length + 1 := by rw [h1.length]; simp
  obtain ⟨p1, p2, p3, p4, _, _⟩ := own_pop hr (by rw [hlen, Nat.mul_one]) rfl
  have far : ∀ b, b ≠ G → (w.setCell ⟨G, 0, none⟩ (.slice (some ⟨ob, 0, none⟩) (r.length + 1) cap)).heap[b]? = w.heap[b]? := fun b hb => Below.heap_setCell _ _ _ _ (by exact hb)
  have hne : ∀ b ∈ (Value.slice (some ⟨ob, 0, none⟩) (r.length + 1 + 1) cap).ownBlock.toList ++ (b0 ++ bt), b ≠ G := hRne
  refine ⟨vs0, b0, bt, Av, cv, ?_, p3, p4, ⟨?_, ?_, ?_, ?_, ?_⟩, ?_, ?_, ?_, fun b hb => hRne b (by simp [hb]), ?_⟩
  · have := p2 0 (by decide)
    rw [Nat.mul_one, Nat.add_zero] at this
    exact this
  · have h := hc.set_ 0 (.slice (some ⟨ob, 0, none⟩) (r.length + 1) cap)
    simpa using h
  · exact own_same p1 fun b hb => far b (hne b (by
      have : b = ob := by simpa [Value.ownBlock] using hb.symm
      subst this
      simp [Value.ownBlock]))
  · exact h1.frame fun b hb => far b (hne b (by simp [hb]))
  · rw [← List.append_assoc, List.nodup_append] at hn
    exact hn.1
  · intro b hb
    have : b ∈ (Value.slice (some ⟨ob, 0, none⟩) (r.length + 1 + 1) cap).ownBlock.toList ++ (b0 ++ bt) := by
      rcases List.mem_append.1 hb with h | h
      · exact List.mem_append_left _ h
      · exact List.mem_append_right _ (List.mem_append_left _ h)
    have := hi b this
    simpa using this
  · exact OwX_frame _ (fun b hb => far b (hne b (by simp [hb]))) h2
  · rw [← List.append_assoc] at hn
    exact hn
  · intro b hb
    have := hi b (by simp [hb])
    simpa using this
  · refine ⟨rfl, rfl, rfl, by simp, fun b _ h2 _ => far b h2, fun b s q hb => far b ?_⟩
    rintro rfl
    unfold Whole at hc
    rw [hb] at hc; cases hc
/-- The rune that a byte stands at the head of. -/
def RuneOf (r : Int) (c : UInt8) : Prop := (c.toNat < 128 → r = c.toNat) ∧ (128 ≤ c.toNat → 128 ≤ r)
theorem RuneOf.ne {r : Int} {c : UInt8} (h : RuneOf r c) (k : Nat) (hk : k < 128) (hne : c.toNat ≠ k) : (r == (k : Int)) = false := by
  rw [beq_eq_false_iff_ne]
  intro e
  rcases Nat.lt_or_ge c.toNat 128 with h1 | h1
  · have := h.1 h1; omega
  · have := h.2 h1; omega
theorem byte_ne {c : UInt8} {k : Nat} (hk : k < 256) (h : c ≠ UInt8.ofNat k) : c.toNat ≠ k := fun e => h (UInt8.toNat_inj.1 (by rw [e, UInt8.toNat_ofNat']; omega))

set_option maxRecDepth 100000 in
set_option maxHeartbeats 2000000 in
theorem markX (G B : Nat) (S : St) (vo : Value) (vs : List Value) (bs : List Nat) (c : UInt8) (r : Int) (w : World) (hR : Rdr w G B S vo vs bs) (hk : Ok S) (hr : RuneOf r c) :
    Calls Try.prog 40 #[.pointer (some ⟨G, 0, none⟩), .int .i32 r] w (Marked G B S c w) := by
  by_cases h32 : c = 32
  · subst h32
    obtain rfl : r = 32 := hr.1 (by decide)
    have HR := Lib.hid hR
    clear hR
    go_enter Try.func40, Try.ntmps40
    go_wp2
    go_ret
    exact Marked.yes (Kept.refl _ _ _) (markS_white rfl) HR.out
  by_cases h10 : c = 10
  · subst h10
    obtain rfl : r = 10 := hr.1 (by decide)
    have HR := Lib.hid hR
    clear hR
    go_enter Try.func40, Try.ntmps40
    go_wp2
    go_ret
    exact Marked.yes (Kept.refl _ _ _) (markS_white rfl) HR.out
  have hw : isW c = false := by rw [isW, Bool.or_eq_false_iff, beq_eq_false_iff_ne, beq_eq_false_iff_ne]; exact ⟨h32, h10⟩
  by_cases h40 : c = 40
  · subst h40
    obtain rfl : r = 40 := hr.1 (by decide)
    have hms := @markS_open S
    obtain ⟨hcells, hrow, hlevs, hnd, hin⟩ := hR
    obtain ⟨ob, cap, rfl⟩ := own_some hrow
    have hGlt := hcells.lt
    have gc0 : w.cell? ⟨G, 0, none⟩ = some (.slice (some ⟨ob, 0, none⟩) (S.ini.length + 1) cap) := by rw [hcells.cell]; rfl
    have gf0 : w.frozen? ⟨G, 0, none⟩ = false := hcells.frozen 0
    have hlen := hk.depth
    have hi14 : S.ini.length ≤ 14 := by omega
    by_cases hf : 14 < S.ini.length + 1
    · rw [if_pos hf] at hms
      have hf' : (14 : Int) < (S.ini.length : Int) + 1 := by omega
      have HM := Lib.hid hms
      clear hms hf hlevs hnd hin hrow hcells hlen
      go_enter Try.func40, Try.ntmps40
      go_wp2
      go_ret
      exact Marked.no (Kept.refl _ _ _) HM.out
    · rw [if_neg hf] at hms
      have hf' : ¬ (14 : Int) < (S.ini.length : Int) + 1 := by omega
      obtain ⟨i0, hi0, hz0, hz1, hz2⟩ := info_parts infoListM
      have HM := Lib.hid hms
      have HC := Lib.hid hcells
      have HRW := Lib.hid hrow
      have HL := Lib.hid hlevs
      have HN := Lib.hid hnd
      have HI := Lib.hid hin
      clear hms hf hlevs hnd hin hcells hlen
      go_enter Try.func40, Try.ntmps40
      go_wp2_with (at_builtin; refine wpList_append_lies _ (by rfl) _ _ _ (by rfl) B 24 i0 _ 1 24 Try.underlying44 hi0 hz0 hz1 hz2 rfl (by omega) _ _ _ (by rfl) (hrow.alloc _) ⟨w.heap.size, 0, none⟩ 1 1 [.slice none 0 0] (by rfl) (by rfl) (news_one w _ _) (one_slice _ _ _) (by omega) (by unfold maxLen; omega) (by omega) (by have := HRW.out.lt ob rfl; simp; omega) (w.heap.size + 1) (by simp) ?_)
      intro g' cap' w7 hown7 hgrow7 hat7 hlt7
      have hcG := HC.out
      have hobG : ob ≠ G := (Rdr.ne ⟨HC.out, HRW.out, HL.out, HN.out, HI.out⟩) ob (by simp [Value.ownBlock])
      have hG7 : w7.heap[G]? = w.heap[G]? := (hgrow7.block G (by simp; omega) (by simp [Value.ownBlock]; omega)).trans (Below.heap_alloc _ _ _ hGlt)
      have g0 : w7.cell? ⟨G, 0, none⟩ = some (.slice (some ⟨ob, 0, none⟩) (S.ini.length + 1) cap) := (World.cell?_of_block (a := ⟨G, 0, none⟩) hG7).trans gc0
      have f0 : w7.frozen? ⟨G, 0, none⟩ = false := (World.frozen?_of_block (a := ⟨G, 0, none⟩) hG7).trans gf0
      obtain ⟨q1, q2⟩ := rdr_open ⟨HC.out, HRW.out, HL.out, HN.out, HI.out⟩ hgrow7 hown7 (by
        rcases hat7 with h | h
        · exact .inl (by simpa [Value.ownBlock] using h)
        · exact .inr h)
      have Q1 := Lib.hid q1
      have Q2 := Lib.hid q2
      clear q1 q2 hown7 hgrow7 hat7 hcG hG7 gc0 gf0
      go_wp2
      go_ret
      exact Marked.yes Q2.out HM.out Q1.out
  have e40 := hr.ne 40 (by decide) (byte_ne (by decide) h40)
  have e32 := hr.ne 32 (by decide) (byte_ne (by decide) h32)
  have e10 := hr.ne 10 (by decide) (byte_ne (by decide) h10)
  by_cases h41 : c = 41
  · subst h41
    obtain rfl : r = 41 := hr.1 (by decide)
    have hms := @markS_close S
    obtain ⟨ini, top, z⟩ := S
    cases ini with
    | nil =>
      obtain ⟨hcells, hrow, hlevs, hnd, hin⟩ := hR
      obtain ⟨ob, cap, rfl⟩ := own_some hrow
      have gc0 : w.cell? ⟨G, 0, none⟩ = some (.slice (some ⟨ob, 0, none⟩) 1 cap) := by rw [hcells.cell]; rfl
      have HM := Lib.hid hms
      clear hms hlevs hnd hin hrow hcells e40 e32 e10 hw
      go_enter Try.func40, Try.ntmps40
      go_wp2
      go_ret
      exact Marked.no (Kept.refl _ _ _) HM.out
    | cons t r' =>
      obtain ⟨ob, cap, rfl⟩ := own_some hR.row
      simp only [List.length_cons] at hR
      have hcells := hR.cells
      have gc0 : w.cell? ⟨G, 0, none⟩ = some (.slice (some ⟨ob, 0, none⟩) (r'.length + 1 + 1) cap) := by rw [hcells.cell]; rfl
      have gf0 : w.frozen? ⟨G, 0, none⟩ = false := hcells.frozen 0
      have hob : ob ≠ G := hR.ne ob (by simp [Value.ownBlock])
      obtain ⟨vs0, b0, bt, Av, cv, d1, d2, d3, d4, d5, d6, d7, d9, d8⟩ := rdr_close hR
      have hkd := hk.depth
      have hkn := hk.nodes
      have hkm := hk.most
      have hki := hk.ini
      simp only [List.length_cons, nI] at hkd hkn hkm
      have htl := SX.nodesL_length t
      have hrl : (r'.length : Int) ≤ 14 := by omega
      have hz9 : z ≤ 900 := hkm
      have ht9 : t.length ≤ 900 := by omega
      have hr9 : r'.length ≤ 14 := by omega
      have q0 : ((r'.length : Int) + 1 == 0) = false := by rw [beq_eq_false_iff_ne]; omega
      have q1 : (0 : Int) ≤ (r'.length : Int) + 1 := by omega
      have q2 : (r'.length : Int) + 1 ≤ cap := by omega
      have q3 : (r'.length : Int) + 1 < (r'.length : Int) + 1 + 1 := by omega
      have HM := Lib.hid hms
      have D4 := Lib.hid d4
      have D5 := Lib.hid d5
      have D6 := Lib.hid d6
      have D7 := Lib.hid d7
      have D9 := Lib.hid d9
      clear hms d4 d5 d6 d7 d9 hkd hkn hkm hki htl hk hR hcells e40 e32 e10 hw d3
      go_enter Try.func40, Try.ntmps40
      go_wp2_with fail
      refine (addX G B ⟨r', t, z⟩ _ b0 b0 bt vs0 (.mk ByteArray.empty top) _ _ rfl D4.out D5.out D6.out D7.out D9.out hz9 ht9 hr9).mono ?_
      rintro e w2 ⟨hk2, hm⟩
      have hkk : Kept G B w w2 := d8.trans hk2
      cases hs : addS (.mk ByteArray.empty top) ⟨r', t, z⟩ with
      | none =>
        rw [hs] at hm
        subst hm
        have HS := Lib.hid hs
        clear hs
        go_wp2
        go_ret
        exact Marked.no hkk (HM.out.trans HS.out)
      | some S' =>
        rw [hs] at hm
        obtain ⟨rfl, vo', vs', bs', hR2⟩ := hm
        have HS := Lib.hid hs
        have HR2 := Lib.hid hR2
        clear hs hR2
        go_wp2
        go_ret
        exact Marked.yes hkk (HM.out.trans HS.out) HR2.out
  have e41 := hr.ne 41 (by decide) (byte_ne (by decide) h41)
  have hms := markS_other (S := S) hw h40 h41
  have HM := Lib.hid hms
  clear hms hR
  go_enter Try.func40, Try.ntmps40
  go_wp2
  go_ret
  exact Marked.no (Kept.refl _ _ _) HM.out
end Go.Proofs.Ytbnfdjhcakimhaa

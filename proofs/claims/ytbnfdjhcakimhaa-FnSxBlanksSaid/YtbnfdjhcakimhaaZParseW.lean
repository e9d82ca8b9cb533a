/- The program's ParseSExpr: the walk. -/
import Derived.Test.YtbnfdjhcakimhaaZParseImpl
import Derived.Test.YtbnfdjhcakimhaaQ1
import Derived.WalkSmall
namespace Go.Proofs.Ytbnfdjhcakimhaa
open Go.RowKit Go.Lib

theorem word_ok {a : List UInt8} {S S' : St} (h : wordS a S = some S') (hk : Ok S) : Ok S' := by
  by_cases ha : a = []
  · subst ha
    injection h with h
    subst h; exact hk
  · have : stepT (.word a) S = some S' := by rw [stepT]; rw [wordS, if_neg ha] at h; exact h
    exact (step_sound this hk).1
theorem mark_ok {c : UInt8} {S S' : St} (h : markS c S = some S') (hk : Ok S) : Ok S' := by
  rw [markS] at h
  split at h
  · injection h with h; subst h; exact hk
  · split at h
    · exact (step_sound (t := .lp) (by rw [stepT]; exact h) hk).1
    · split at h
      · exact (step_sound (t := .rp) (by rw [stepT]; exact h) hk).1
      · cases h
theorem mark_low {c : UInt8} {S S' : St} (h : markS c S = some S') : c.toNat < 128 := by
  rw [markS] at h
  split at h
  · rename_i hw
    rw [isW, Bool.or_eq_true, beq_iff_eq, beq_iff_eq] at hw
    rcases hw with rfl | rfl <;> decide
  · split at h
    · rename_i h1; subst h1; decide
    · split at h
      · rename_i h1; subst h1; decide
      · cases h

/-- What holds between the calls: the reader at G, the iterator behind it, the result's cells ahead of it. -/
structure Mid (w : World) (s : ByteArray) (k : Nat) (S : St) (wr : World) : Prop where
  rdr : ∃ vo vs bs, Rdr wr (w.heap.size + 1 + 1) (w.heap.size + 1) S vo vs bs
  ok : Ok S
  it : wr.heap[w.heap.size + 1 + 1 + 1]? = some (.stringIter s k)
  res : Whole wr w.heap.size 26 #[.string ByteArray.empty, .slice none 0 0]
  below : Below w.heap.size w wr
theorem kept_below {w wr w1 : World} (h : Below w.heap.size w wr) (hk : Kept (w.heap.size + 1 + 1) (w.heap.size + 1) wr w1) : Below w.heap.size w w1 :=
  h.trans ⟨hk.os, hk.tape, hk.output, hk.size, fun b hb => hk.low b (Nat.lt_of_lt_of_le hb h.size) (by omega) (by omega)⟩
theorem kept_res {w wr w1 : World} {cs : Array Value} {t : TypeId} (h : Whole wr w.heap.size t cs) (hk : Kept (w.heap.size + 1 + 1) (w.heap.size + 1) wr w1) : Whole w1 w.heap.size t cs :=
  (hk.low _ h.lt (by omega) (by omega)).trans h
theorem Mid.kept {w wr w1 : World} {s : ByteArray} {k : Nat} {S S1 : St} (h : Mid w s k S wr) (hk : Kept (w.heap.size + 1 + 1) (w.heap.size + 1) wr w1) (hR : ∃ vo vs bs, Rdr w1 (w.heap.size + 1 + 1) (w.heap.size + 1) S1 vo vs bs) (ho : Ok S1) : Mid w s k S1 w1 :=
  ⟨hR, ho, (hk.iter _ _ _ h.it).trans h.it, kept_res h.res hk, kept_below h.below hk⟩
theorem Rdr.iterAt {w : World} {G B k : Nat} {S : St} {vo : Value} {vs : List Value} {bs : List Nat} {s : ByteArray} {p p' : Nat} (h : Rdr w G B S vo vs bs) (hk : w.heap[k]? = some (.stringIter s p)) : Rdr (w.iterAt k s p') G B S vo vs bs := by
  have hG : G ≠ k := by
    rintro rfl
    have := h.cells
    unfold Whole at this
    rw [hk] at this; cases this
  have hb : ∀ b ∈ vo.ownBlock.toList ++ bs, b ≠ k := by
    intro b hb
    rcases List.mem_append.1 hb with h1 | h1
    · obtain ⟨cur, hc⟩ := owned_cells h.row (g := b) (by
        cases hv : vo.ownBlock with
        | none => rw [hv] at h1; simp at h1
        | some c => rw [hv] at h1; simp at h1; rw [h1])
      rintro rfl; rw [hk] at hc; cases hc
    · obtain ⟨cur, hc⟩ := h.levs.cells b h1
      rintro rfl; rw [hk] at hc; cases hc
  refine ⟨(iterAt_other _ _ _ _ _ hG).trans h.cells, own_same h.row fun b hv => iterAt_other _ _ _ _ _ (hb b (by rw [hv]; simp)), h.levs.frame fun b hm => iterAt_other _ _ _ _ _ (hb b (by simp [hm])), h.nodup, fun b hm => ?_⟩
  rw [iterAt_size]; exact h.inB b hm
theorem Mid.iterAt {w wr : World} {s : ByteArray} {k : Nat} {S : St} (h : Mid w s k S wr) (k' : Nat) : Mid w s k' S (wr.iterAt (w.heap.size + 1 + 1 + 1) s k') := by
  obtain ⟨⟨vo, vs, bs, hR⟩, ho, hi, hr, hb⟩ := h
  exact ⟨⟨vo, vs, bs, hR.iterAt hi⟩, ho, iterAt_heap _ _ _ _ _ hi, (iterAt_other _ _ _ _ _ (by omega)).trans hr, below_iterAt hb (by omega) _ _⟩
theorem mid_start (w : World) (s : ByteArray) : Mid w s 0 st0 ((((w.alloc (.cells #[.string ByteArray.empty, .slice none 0 0] 26)).alloc (.cells #[.slice none 0 0] 24)).alloc (.cells #[.slice (some ⟨w.heap.size + 1, 0, none⟩) 1 1, .int .i64 0] 46)).alloc (.stringIter s 0)) := by
  have hrow := (World.ownsRow_lit (base := w.heap.size + 1) (e := 24) (size := 1) (w.alloc (.cells #[.string ByteArray.empty, .slice none 0 0] 26)) #[.slice none 0 0] 1 (by simp) (by decide) rfl)
  rw [World.size_alloc] at hrow
  refine ⟨⟨.slice (some ⟨w.heap.size + 1, 0, none⟩) 1 1, [.slice none 0 0], [], ?_, (hrow.alloc _).alloc _, ?_, by simp [Value.ownBlock], ?_⟩, st0_ok, ?_, ?_, ((((Below.refl _ _).alloc (Nat.le_refl _) _).alloc (by simp) _).alloc (by simp; omega) _).alloc (by simp; omega) _⟩
  · refine (Below.heap_alloc _ _ _ (by simp)).trans ?_
    have h := Whole.new ((w.alloc (.cells #[.string ByteArray.empty, .slice none 0 0] 26)).alloc (.cells #[.slice none 0 0] 24)) 46 #[.slice (some ⟨w.heap.size + 1, 0, none⟩) 1 1, .int .i64 0]
    rw [World.size_alloc, World.size_alloc] at h
    exact h
  · exact ⟨_, [], [], [], rfl, rfl, OwX_word _ _ _, rfl, rfl⟩
  · intro b hb
    have : b = w.heap.size + 1 := by simpa [Value.ownBlock] using hb
    subst this
    simp
  · have h := World.iter_heap (((w.alloc (.cells #[.string ByteArray.empty, .slice none 0 0] 26)).alloc (.cells #[.slice none 0 0] 24)).alloc (.cells #[.slice (some ⟨w.heap.size + 1, 0, none⟩) 1 1, .int .i64 0] 46)) s 0
    simp only [World.size_alloc] at h
    exact h
  · exact (((Whole.new w _ _).below ((Below.refl _ _).alloc (Nat.le_refl _) _) (by simp)).below ((Below.refl _ _).alloc (Nat.le_refl _) _) (by simp; omega)).below ((Below.refl _ _).alloc (Nat.le_refl _) _) (by simp; omega)
/-- The text's answer from here on. -/
def Goes (s : ByteArray) (st k : Nat) (S : St) : Prop := runS ((s.data.toList.take k).drop st) (s.data.toList.drop k) S = runS [] s.data.toList st0
theorem goes_start (s : ByteArray) : Goes s 0 0 st0 := by rw [Goes]; rfl
theorem goes_ok {s : ByteArray} {st k : Nat} {S : St} (h : Goes s st k S) (hk : k < s.size) (hc : okByte s[k] = true) (hle : st ≤ k) : Goes s st (k + 1) S := by
  rw [Goes] at h ⊢
  rw [← h, List.drop_eq_getElem_cons (l := s.data.toList) (i := k) (by simpa using hk), runS]
  rw [if_pos (show okByte (s.data.toList[k]'(by simpa using hk)) = true from hc), List.take_succ_eq_append_getElem (by simpa using hk), List.drop_append_of_le_length (by simp; omega)]
theorem goes_no {s : ByteArray} {st k : Nat} {S : St} (h : Goes s st k S) (hk : k < s.size) (hc : okByte s[k] = false) :
    runS [] s.data.toList st0 = (wordS ((s.data.toList.take k).drop st) S).bind fun S1 => (markS s[k] S1).bind fun S2 => runS [] (s.data.toList.drop (k + 1)) S2 := by
  rw [Goes] at h
  rw [← h, List.drop_eq_getElem_cons (l := s.data.toList) (i := k) (by simpa using hk), runS]
  rw [if_neg (show ¬ okByte (s.data.toList[k]'(by simpa using hk)) = true by rw [show okByte (s.data.toList[k]'(by simpa using hk)) = false from hc]; decide)]
  rfl
theorem goes_next {s : ByteArray} {k : Nat} {S : St} (h : runS [] s.data.toList st0 = runS [] (s.data.toList.drop (k + 1)) S) : Goes s (k + 1) (k + 1) S := by
  rw [Goes, h, List.drop_of_length_le (by simp; omega)]
theorem goes_end {s : ByteArray} {st : Nat} {S : St} (h : Goes s st s.size S) : runS [] s.data.toList st0 = wordS (s.data.toList.drop st) S := by
  rw [Goes] at h
  rw [← h, List.take_of_length_le (l := s.data.toList) (by simp), List.drop_of_length_le (l := s.data.toList) (i := s.size) (by simp), runS]
theorem slice_word (s : ByteArray) (a b : Nat) : (s.extract a b).data.toList = (s.data.toList.take b).drop a := by
  rw [extract_data, List.drop_take]

theorem slice_tail (s : ByteArray) (a : Nat) : (s.extract a s.size).data.toList = s.data.toList.drop a := by
  rw [extract_data, List.take_of_length_le (by simp)]
theorem own_base {w : World} {B B' size n : Nat} {e : TypeId} {v : Value} {xs : List Value} (hB : B' ≤ B) (h : w.ownsRow B e size v n xs) : w.ownsRow B' e size v n xs := by
  refine ⟨h.1, ?_⟩
  rcases h.2 with hn | ⟨g, cap, cur, rfl, hbg, rest⟩
  · exact .inl hn
  · exact .inr ⟨g, cap, cur, rfl, Nat.le_trans hB hbg, rest⟩
mutual
theorem OwX_base {w : World} {B B' : Nat} (hB : B' ≤ B) : ∀ (x : SX) {v0 v1 : Value} {bs : List Nat}, OwX w B x v0 v1 bs → OwX w B' x v0 v1 bs
  | .mk a l, v0, v1, bs, h => by
    rw [OwX] at h ⊢
    obtain ⟨h0, xs, bs', h1, h2, rfl⟩ := h
    exact ⟨h0, xs, bs', own_base hB h1, OwE_base hB l h2, rfl⟩
theorem OwE_base {w : World} {B B' : Nat} (hB : B' ≤ B) : ∀ (l : List SX) {xs : List Value} {bs : List Nat}, OwE w B l xs bs → OwE w B' l xs bs
  | [], xs, bs, h => by rw [OwE] at h ⊢; exact h
  | x :: r, xs, bs, h => by
    rw [OwE] at h ⊢
    obtain ⟨v0, v1, xs', b1, b2, rfl, rfl, h1, h2⟩ := h
    exact ⟨v0, v1, xs', b1, b2, rfl, rfl, OwX_base hB x h1, OwE_base hB r h2⟩
end
theorem none_end {w w1 : World} (hw : Whole w1 w.heap.size 26 #[.string ByteArray.empty, .slice none 0 0]) (hb : Below w.heap.size w w1) {o : Option SX} (ho : o = none) :
    ParsedOwn o w (.returned (.tuple #[.agg #[.string ⟨#[]⟩, .slice none 0 0], .bool false])) ((w1.setCell ⟨w.heap.size, 0, none⟩ (.string ⟨#[]⟩)).setCell ⟨w.heap.size, 1, none⟩ (.slice none 0 0)) := by
  subst ho
  exact ParsedOwn.none (res_set hw hb _ _ _ rfl).2.2.1

set_option maxRecDepth 100000 in
set_option maxHeartbeats 2000000 in
theorem parseX (s : ByteArray) (w : World) (hs : s.size ≤ 1073741824) : Calls Try.prog 16 #[.string s] w (ParsedOwn (implP s.data.toList) w) := by
  have hmk : ∀ w, (Instr.makeSlice 44 (.int .i64 1) (.int .i64 1)).run Try.prog w = .ok (.slice (some ⟨w.heap.size, 0, none⟩) 1 1) (w.alloc (.cells #[.slice none 0 0] 24)) := fun _ => by kernel_rfl
  have hstart := mid_start w s
  have HST := Lib.hid hstart
  clear hstart
  go_enter Try.func16, Try.ntmps16
  go_wp2
  go_loopw [5] (fun a wr => ∃ (st k : Nat) (S : St), st ≤ k ∧ k ≤ s.size ∧ a = .int .i64 st ∧ Mid w s k S wr ∧ Goes s st k S) (fun _ wr => s.size - wr.iterPos (w.heap.size + 1 + 1 + 1))
  case atStart => exact ⟨0, 0, st0, Nat.le_refl _, Nat.zero_le _, rfl, HST.out, goes_start s⟩
  case round =>
    obtain ⟨st, k, S, hsk, hks, rfl, hm, hg⟩ := hrel
    have hsz := hm.below.size
    have hip : wr.iterPos (w.heap.size + 1 + 1 + 1) = k := iterPos_of hm.it
    have HIP := Lib.hid hip
    have HM := Lib.hid hm
    have HG := Lib.hid hg
    clear hm hg hip
    by_cases hlt : k < s.size
    · cases hc : okByte s[k] with
      | true =>
        have hd := decode_ok hlt hc
        have hnx := fun ty => run_next_any_at (P := Try.prog) wr (w.heap.size + 1 + 1 + 1) s k ty HM.out.it hlt
        rw [hd] at hnx
        have ho : okRune (s[k].toNat : Int) = true := by rw [okRune_byte, hc]
        have hgo := goes_ok HG.out hlt hc hsk
        have hmi := HM.out.iterAt (k + 1)
        have HO := Lib.hid ho
        have HGO := Lib.hid hgo
        have HMI := Lib.hid hmi
        clear hd hc ho hgo hmi
        go_wp2_with fail
        refine (runeIs _ _).mono ?_
        rintro e w1 ⟨rfl, rfl⟩
        rw [HO.out]
        go_wp2
        go_roundw
        case rel => exact ⟨st, k + 1, S, by omega, by omega, rfl, HMI.out, HGO.out⟩
        case measure => rw [iterPos_of HMI.out.it, HIP.out]; omega
      | false =>
        have hd := decode_bad hlt hc
        have hnx := fun ty => run_next_any_at (P := Try.prog) wr (w.heap.size + 1 + 1 + 1) s k ty HM.out.it hlt
        have hgo := goes_no HG.out hlt hc
        have hmi := HM.out.iterAt (k + (Utf8.decode s k).2)
        have hr : RuneOf (Utf8.decode s k).1 s[k] := ⟨fun h => by rw [decode_ascii s k hlt h], fun h => by have := (decode_high s k hlt h).1; omega⟩
        have hsl := slice_word s st k
        have hsw : (s.extract st k).size ≤ 9223372036854775807 := by
          have := ByteArray.size_extract (a := s) (b := st) (e := k); omega
        have HD := Lib.hid hd
        have HGO := Lib.hid hgo
        have HMI := Lib.hid hmi
        have HRO := Lib.hid hr
        have HSL := Lib.hid hsl
        clear hd hc hgo hmi hr hsl
        go_wp2_with fail
        refine (runeIs _ _).mono ?_
        rintro e w1 ⟨rfl, rfl⟩
        rw [HD.out]
        obtain ⟨vo, vs, bs, hR⟩ := HMI.out.rdr
        have HR := Lib.hid hR
        clear hR
        go_wp2_with fail
        refine (wordX _ (w.heap.size + 1) S vo vs bs (s.extract st k) _ HR.out HMI.out.ok hsw).mono ?_
        rintro e w1 ⟨hk1, hm1⟩
        rw [HSL.out] at hm1
        have hb1 := kept_below HMI.out.below hk1
        have hw1 := kept_res HMI.out.res hk1
        have rl1 := hw1.lt
        have r0 : w1.cell? ⟨w.heap.size, 0, none⟩ = some (.string ByteArray.empty) := by rw [hw1.cell]; rfl
        have r1 : w1.cell? ⟨w.heap.size, 1, none⟩ = some (.slice none 0 0) := by rw [hw1.cell]; rfl
        have rf0 : w1.frozen? ⟨w.heap.size, 0, none⟩ = false := hw1.frozen 0
        have rf1 : w1.frozen? ⟨w.heap.size, 1, none⟩ = false := hw1.frozen 1
        have HB1 := Lib.hid hb1
        have HW1 := Lib.hid hw1
        have HK1 := Lib.hid hk1
        clear hb1 hw1 hk1
        cases hs1 : wordS ((s.data.toList.take k).drop st) S with
        | none =>
          rw [hs1] at hm1
          subst hm1
          have hno : implP s.data.toList = none := by rw [implP, HGO.out, hs1]; rfl
          have HNO := Lib.hid hno
          clear hno hs1
          go_wp2
          obtain ⟨e0, e1, -, -, -⟩ := res_set HW1.out HB1.out (.string ⟨#[]⟩) (.slice none 0 0) _ rfl
          exact bodyPost_ret (v := .tuple #[.agg #[.string ⟨#[]⟩, .slice none 0 0], .bool false]) (by simp [results, Try.results16, go_sem, e0, e1]) rfl (none_end HW1.out HB1.out HNO.out)
        | some S1 =>
          rw [hs1] at hm1
          obtain ⟨rfl, hR1⟩ := hm1
          have hk1 := word_ok hs1 HMI.out.ok
          have hm2 := HMI.out.kept HK1.out hR1 hk1
          have hgo2 : implP s.data.toList = endS ((markS s[k] S1).bind fun S2 => runS [] (s.data.toList.drop (k + 1)) S2) := by rw [implP, HGO.out, hs1]; rfl
          have hgo3 : ∀ S2, markS s[k] S1 = some S2 → Goes s (k + 1) (k + 1) S2 := fun S2 h => goes_next (by rw [HGO.out, hs1]; simp only [Option.bind_some, h])
          obtain ⟨vo1, vs1, bs1, hR1⟩ := hR1
          have HR1 := Lib.hid hR1
          have HM2 := Lib.hid hm2
          have HG2 := Lib.hid hgo2
          have HG3 := Lib.hid hgo3
          clear hs1 hk1 hm2 hgo2 hgo3 hR1
          go_wp2_with fail
          refine (markX _ (w.heap.size + 1) S1 vo1 vs1 bs1 s[k] _ _ HR1.out HM2.out.ok HRO.out).mono ?_
          rintro e w2 ⟨hk2, hm3⟩
          have hb2 := kept_below HM2.out.below hk2
          have hw2 := kept_res HM2.out.res hk2
          clear r0 r1 rf0 rf1
          have rl2 := hw2.lt
          have r0 : w2.cell? ⟨w.heap.size, 0, none⟩ = some (.string ByteArray.empty) := by rw [hw2.cell]; rfl
          have r1 : w2.cell? ⟨w.heap.size, 1, none⟩ = some (.slice none 0 0) := by rw [hw2.cell]; rfl
          have rf0 : w2.frozen? ⟨w.heap.size, 0, none⟩ = false := hw2.frozen 0
          have rf1 : w2.frozen? ⟨w.heap.size, 1, none⟩ = false := hw2.frozen 1
          have HB2 := Lib.hid hb2
          have HW2 := Lib.hid hw2
          have HK2 := Lib.hid hk2
          clear hb2 hw2 hk2
          cases hs2 : markS s[k] S1 with
          | none =>
            rw [hs2] at hm3
            subst hm3
            have hno : implP s.data.toList = none := by rw [HG2.out, hs2]; rfl
            have HNO := Lib.hid hno
            clear hno hs2
            go_wp2
            obtain ⟨e0, e1, -, -, -⟩ := res_set HW2.out HB2.out (.string ⟨#[]⟩) (.slice none 0 0) _ rfl
            exact bodyPost_ret (v := .tuple #[.agg #[.string ⟨#[]⟩, .slice none 0 0], .bool false]) (by simp [results, Try.results16, go_sem, e0, e1]) rfl (none_end HW2.out HB2.out HNO.out)
          | some S2 =>
            rw [hs2] at hm3
            obtain ⟨rfl, hR2⟩ := hm3
            have hlow := mark_low hs2
            have hm3 := HM2.out.kept HK2.out hR2 (mark_ok hs2 HM2.out.ok)
            rw [decode_ascii s k hlt hlow] at hm3
            have hg3 := HG3.out S2 hs2
            have HM3 := Lib.hid hm3
            have HG4 := Lib.hid hg3
            clear hs2 hR2 hm3 hg3 hlow
            go_wp2
            go_roundw
            case rel => exact ⟨k + 1, k + 1, S2, Nat.le_refl _, by omega, by go_num, HM3.out, HG4.out⟩
            case measure => rw [iterPos_of HM3.out.it, HIP.out]; omega
    · have hkl : k = s.size := by omega
      subst hkl
      have hnx := fun ty => run_next_end_at (P := Try.prog) wr (w.heap.size + 1 + 1 + 1) s s.size ty HM.out.it (Nat.lt_irrefl _)
      have hgo := goes_end HG.out
      have hsl := slice_tail s st
      have hsw : (s.extract st s.size).size ≤ 9223372036854775807 := by
        have := ByteArray.size_extract (a := s) (b := st) (e := s.size); omega
      obtain ⟨vo, vs, bs, hR⟩ := HM.out.rdr
      have HR := Lib.hid hR
      have HGO := Lib.hid hgo
      have HSL := Lib.hid hsl
      clear hR hgo hsl
      go_wp2_with fail
      refine (wordX _ (w.heap.size + 1) S vo vs bs (s.extract st s.size) _ HR.out HM.out.ok hsw).mono ?_
      rintro e w1 ⟨hk1, hm1⟩
      rw [HSL.out] at hm1
      have hb1 := kept_below HM.out.below hk1
      have hw1 := kept_res HM.out.res hk1
      have rl1 := hw1.lt
      have r0 : w1.cell? ⟨w.heap.size, 0, none⟩ = some (.string ByteArray.empty) := by rw [hw1.cell]; rfl
      have r1 : w1.cell? ⟨w.heap.size, 1, none⟩ = some (.slice none 0 0) := by rw [hw1.cell]; rfl
      have rf0 : w1.frozen? ⟨w.heap.size, 0, none⟩ = false := hw1.frozen 0
      have rf1 : w1.frozen? ⟨w.heap.size, 1, none⟩ = false := hw1.frozen 1
      have HB1 := Lib.hid hb1
      have HW1 := Lib.hid hw1
      have HK1 := Lib.hid hk1
      clear hb1 hw1 hk1
      cases hs1 : wordS (s.data.toList.drop st) S with
      | none =>
        rw [hs1] at hm1
        subst hm1
        have hno : implP s.data.toList = none := by rw [implP, HGO.out, hs1]; rfl
        have HNO := Lib.hid hno
        clear hno hs1
        go_wp2
        obtain ⟨e0, e1, -, -, -⟩ := res_set HW1.out HB1.out (.string ⟨#[]⟩) (.slice none 0 0) _ rfl
        exact bodyPost_ret (v := .tuple #[.agg #[.string ⟨#[]⟩, .slice none 0 0], .bool false]) (by simp [results, Try.results16, go_sem, e0, e1]) rfl (none_end HW1.out HB1.out HNO.out)
      | some S1 =>
        rw [hs1] at hm1
        obtain ⟨rfl, vo1, vs1, bs1, hR1⟩ := hm1
        have hk1 := word_ok hs1 HM.out.ok
        have hend : implP s.data.toList = endS (some S1) := by rw [implP, HGO.out, hs1]
        have HR1 := Lib.hid hR1
        have HE := Lib.hid hend
        have HO1 := Lib.hid hk1
        clear hs1 hk1 hR1 hend
        go_wp2_with fail
        refine (resultX _ (w.heap.size + 1) S1 vo1 vs1 bs1 _ HR1.out HO1.out).mono ?_
        rintro e w2 ⟨x, A, c, bsx, hx, rfl, hOx, hnd, hin, hb2⟩
        have hw2 := HW1.out.below hb2 rl1
        have hbb := HB1.out.trans (hb2.mono HB1.out.size)
        clear r0 r1 rf0 rf1
        have rl2 := hw2.lt
        have r0 : w2.cell? ⟨w.heap.size, 0, none⟩ = some (.string ByteArray.empty) := by rw [hw2.cell]; rfl
        have r1 : w2.cell? ⟨w.heap.size, 1, none⟩ = some (.slice none 0 0) := by rw [hw2.cell]; rfl
        have rf0 : w2.frozen? ⟨w.heap.size, 0, none⟩ = false := hw2.frozen 0
        have rf1 : w2.frozen? ⟨w.heap.size, 1, none⟩ = false := hw2.frozen 1
        have HX := Lib.hid hx
        have HO := Lib.hid hOx
        have HN := Lib.hid hnd
        have HI := Lib.hid hin
        have HW2 := Lib.hid hw2
        have HB2 := Lib.hid hbb
        clear hx hOx hnd hin hw2 hbb hb2
        go_wp2
        obtain ⟨e0, e1, e2, e3, e4⟩ := res_set HW2.out HB2.out (.string x.atom) (.slice A x.list.length c) _ rfl
        refine bodyPost_ret (v := .tuple #[.agg #[.string x.atom, .slice A x.list.length c], .bool (endS (some S1)).isSome]) (by simp [results, Try.results16, go_sem, e0, e1]) rfl ?_
        refine ⟨x, A, c, bsx, by rw [HE.out]; exact HX.out, by rw [HE.out], ?_, HN.out, fun b hb => ?_, e2⟩
        · exact OwX_base (Nat.le_succ _) x (OwX_frame x (fun b hb => e3 b (by have := HI.out b hb; omega)) HO.out)
        · have := HI.out b hb; rw [e4]; omega
end Go.Proofs.Ytbnfdjhcakimhaa

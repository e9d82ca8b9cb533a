/- The iterator impl.preorder over expressions, the parts from elementsOfList: for every loop body that keeps the iterator's memory. -/
import Derived.Test.YtbnfdjhcakimhaaZPreSx
import Derived.Test.YtbnfdjhcakimhaaZWalkSxK
namespace Go.Proofs.Ytbnfdjhcakimhaa
open Go.RowKit Go.Shelf Go.Lib
attribute [local go_sem] Oper.semAt_some

set_option maxRecDepth 100000 in
set_option maxHeartbeats 2000000 in
theorem implElemsK (x : SX) (A : Option Addr) (c : Nat) (P : Nat → Prop) (w : World) (hx : SxRow w P A c x.list) :
    Calls Try.prog 55 #[.agg #[.string x.atom, .slice A x.list.length c]] w fun e w' => ∃ (A' : Option Addr) (c' : Nat), e = .returned (.slice A' x.kids.length c') ∧ SxRow w P A' c' x.kids ∧ Below w.heap.size w w' := by
  have hk := SX.kids_eq x
  by_cases ha : x.atom.size = 0
  · rw [if_pos ha] at hk
    obtain ⟨s, hs⟩ : ∃ s, s = x.atom := ⟨_, rfl⟩
    rw [← hs] at ha ⊢
    obtain rfl := ByteArray.size_eq_zero_iff.1 ha
    rw [hk]
    clear hs ha hk
    have HX := Lib.hid hx
    clear hx
    go_enter Try.func55, Try.ntmps55
    go_wp2
    go_ret
    exact ⟨A, c, rfl, HX.out, (Below.refl _ _).alloc (Nat.le_refl _) _⟩
  · rw [if_neg ha] at hk
    have hne : x.atom.toList.isEmpty = false := by
      rw [ByteArray.toList_eq, List.isEmpty_eq_false_iff]; intro e; apply ha; have := congrArg List.length e; simpa using this
    rw [hk]
    clear ha hk hx
    go_enter Try.func55, Try.ntmps55
    go_wp2
    go_ret
    exact ⟨none, 0, rfl, SxRow.nil _ _ _ _ (by omega), (Below.refl _ _).alloc (Nat.le_refl _) _⟩

set_option maxRecDepth 100000 in
set_option maxHeartbeats 4000000 in
theorem preSxK_seq (x : SX) (A : Option Addr) (c Br Bp n₀ : Nat) (Rd : Nat → Prop) (w : World) (hRp : Rd Bp) (hBr : Br < w.heap.size) (hBp : Bp < w.heap.size)
    (hwr : Whole w Br 26 #[.string x.atom, .slice A x.list.length c]) (hwp : w.cell? ⟨Bp, 0, none⟩ = some (.func (.func 55) #[] #[]))
    (hn : n₀ ≤ w.heap.size) (hx : SxRow w (Und n₀) A c x.list) (hsz : (x.walkK 0).length ≤ 4294967296) :
    SeqM Fence.wide 3 Try.prog 74 #[.pointer (some ⟨Br, 0, none⟩), .pointer (some ⟨Bp, 0, none⟩)] SxIt.enc
      (fun pre y => (∃ rest, x.walkK 0 = (pre ++ [y]).map SxIt.key ++ rest) ∧ SxRow w (Und n₀) y.2.2.1 y.2.2.2 y.2.1.list) (fun xs => xs.map SxIt.key = x.walkK 0) n₀ Rd w := by
  intro l J Jx W hW hJ hY h0
  obtain ⟨i0, hi, hz0, hz1, hz2⟩ := info_parts infoRowX
  have hwr' := hwr.below hW hBr
  have c0 : W.cell? ⟨Br, 0, none⟩ = some (.string x.atom) := by rw [hwr'.cell]; rfl
  have c1 : W.cell? ⟨Br, 1, none⟩ = some (.slice A x.list.length c) := by rw [hwr'.cell]; rfl
  have HY := Lib.hid hY
  have HJ := Lib.hid hJ
  clear hY hJ hwr'
  refine callsIn_of_wp Try.func74 rfl trivial ?_ rfl
  simp only [Try.ntmps74, List.size_toArray, List.length_cons, List.length_nil, Nat.reduceAdd, Nat.reduceSub, Array.replicate_succ, Array.replicate_zero, List.push_toArray, List.append_toArray, List.nil_append, List.cons_append]
  gi_wp2
  have hb0 : Below W.heap.size W ((W.alloc (.cells #[.string x.atom, .slice A x.list.length c] 26)).alloc (.cells #[.slice (some ⟨W.heap.size, 0, none⟩) 1 1] 24)) := ((Below.refl _ _).alloc (Nat.le_refl _) _).alloc (by simp) _
  obtain ⟨W0, hW0⟩ : ∃ W0, (W.alloc (.cells #[.string x.atom, .slice A x.list.length c] 26)).alloc (.cells #[.slice (some ⟨W.heap.size, 0, none⟩) 1 1] 24) = W0 := ⟨_, rfl⟩
  have hs0 : W0.heap.size = W.heap.size + 2 := by rw [← hW0]; simp
  have hown0 := World.ownsRow_lit (base := W.heap.size + 1) (size := 1) (e := 24) (W.alloc (.cells #[.string x.atom, .slice A x.list.length c] 26)) #[.slice (some ⟨W.heap.size, 0, none⟩) 1 1] 1 (by simp) (by decide) rfl
  rw [World.size_alloc] at hown0
  have hwh0 : Whole W0 W.heap.size 26 #[.string x.atom, .slice A x.list.length c] := by
    rw [← hW0]; exact (Whole.new W _ _).below ((Below.refl (W.heap.size + 1) _).alloc (by simp) _) (by omega)
  rw [hW0] at hown0 hb0 ⊢
  have hJ0 := HJ.out _ _ _ _ none h0 (grown_none hb0) (fun _ e => by cases e)
  have hx0 : SxRow W0 (Und n₀) A c x.list := hx.frame (fun _ h => h) (fun b o hP => by have hlt : b < w.heap.size := Nat.lt_of_lt_of_le hP hn; rw [hb0.cell (p := ⟨b, o, none⟩) (Nat.lt_of_lt_of_le hlt hW.size)]; exact hW.cell (p := ⟨b, o, none⟩) hlt)
  have hT0 : TopSx W0 n₀ W.heap.size (some ⟨W.heap.size, 0, none⟩) [x] := by
    intro j hj
    obtain rfl : j = 0 := by simpa using hj
    exact ⟨W.heap.size, 0, A, c, rfl, .inr rfl, by rw [hwh0.cell]; rfl, by rw [hwh0.cell]; rfl, hx0⟩
  have hTs0 : TopsSx W0 n₀ W.heap.size [[x]] [.slice (some ⟨W.heap.size, 0, none⟩) 1 1] := ⟨[], _, 1, rfl, by simp, by omega, hT0, rfl⟩
  have hRb : ∀ b, Rd b → b < w.heap.size → W0.heap[b]? = w.heap[b]? := fun b _ h => (hb0.block b (Nat.lt_of_lt_of_le h hW.size)).trans (hW.block b h)
  have hbl0 : Below n₀ w W0 := (hW.mono hn).trans (hb0.mono (by have := hW.size; omega))
  have HB := Lib.hid hRb
  have HO := Lib.hid hown0
  have HT := Lib.hid hTs0
  have HS := Lib.hid hs0
  have HW := Lib.hid hwr
  have HP := Lib.hid hwp
  clear hW0 hRb hown0 hTs0 hs0 c0 c1 hx0 hT0 hwh0 hx hwr hwp
  have hnb : n₀ ≤ W.heap.size := Nat.le_trans hn hW.size
  have hwb := hW.size
  gi_loopg [4] (2 * (x.walkK 0).length + 1) (fun gk rv wr => ∃ (M : Nat → Prop) (pre : List SxIt) (rs : List (List SX)) (vs : List Value), PreSxSt J w n₀ W.heap.size Rd M pre rs vs rv wr ∧
    pre.map SxIt.key ++ todoSxK rs = x.walkK 0 ∧ gk = 2 * (todoSxK rs).length + rs.length ∧ rs.length ≤ pre.length + 1)
  case atStart =>
    have hs0 := HS.out
    refine ⟨_, [], [[x]], _, ⟨hJ0, HO.out, fun b hb => .inr ?_, .inr ⟨Nat.le_refl _, by omega⟩, HT.out, hbl0, HB.out, fun b hb => ?_, by omega⟩, by rw [todoSxK_start]; rfl, by rw [todoSxK_start]; rfl, by simp⟩
    · simp [Value.ownBlock] at hb; omega
    · rcases hb with hb | hb
      · exact hb.elim
      · exact hb.2
  case round =>
    clear HB HO HT HS hJ0 hbl0 hb0 h0
    obtain ⟨M, pre, rs, vs, hst, hpre, rfl, hlen⟩ := hrel
    cases rs with
    | nil =>
      obtain ⟨A1, c1, rfl⟩ := own_nil hst.own
      have hfin : pre.map SxIt.key = x.walkK 0 := by rw [← hpre, todoSxK, List.append_nil]
      have HF := Lib.hid hfin
      have HST := Lib.hid hst
      clear hpre hfin hst hlen
      gi_wp2
      go_end0
      exact ⟨⟨_, rfl⟩, .inl ⟨M, pre, HF.out, HST.out.j⟩⟩
    | cons l' rs =>
      obtain ⟨vs0, A1, c1, rfl, hlc, hcm, hT, hts0⟩ := hst.tops
      have hvl := hts0.length
      have hown := hst.own
      rw [List.length_cons] at hown hlen
      obtain ⟨g, cap, rfl⟩ := own_some hown
      obtain ⟨hown0, hcell, hcap, hcm2, hBg, hgw⟩ := own_pop hown (by rw [hvl, Nat.mul_one]) rfl
      have hc0 : wr.cell? ⟨g, rs.length, none⟩ = some (.slice A1 l'.length c1) := by have := hcell 0 (by decide); rw [Nat.mul_one, Nat.add_zero] at this; exact this
      have hfr := hown.frozenAt rs.length
      have hwl : pre.length + (todoSxK (l' :: rs)).length ≤ 4294967296 := by
        have := congrArg List.length hpre; rw [List.length_append, List.length_map] at this; omega
      have hrl : rs.length ≤ 4294967296 := by omega
      unfold maxLen at hcm2
      cases l' with
      | nil =>
        rw [todoSxK_pop] at hpre
        have hme : 2 * (todoSxK rs).length + rs.length < 2 * (todoSxK ([] :: rs)).length + ([] :: rs).length := by rw [todoSxK_pop, List.length_cons]; omega
        have hst1 : PreSxSt J w n₀ W.heap.size Rd M pre rs vs0 (.slice (some ⟨g, 0, none⟩) rs.length cap) wr := ⟨hst.j, hown0, fun b hb => hst.mown b (by simpa [Value.ownBlock] using hb), hst.m0, hts0, hst.below, hst.rd, hst.lt, hst.size⟩
        have HME := Lib.hid hme
        have HPR := Lib.hid hpre
        have HST := Lib.hid hst1
        have hc0' : wr.cell? ⟨g, rs.length, none⟩ = some (.slice A1 0 c1) := hc0
        clear hme hpre hown0 hown hcell hT hts0 hvl hwl hc0 hst hst1
        gi_wp2
        gi_roundg (2 * (todoSxK rs).length + rs.length)
        case measure => exact HME.out
        case rel => exact ⟨M, pre, rs, vs0, HST.out, HPR.out, rfl, by omega⟩
      | cons y ys =>
        obtain ⟨b, o, A2, c2, rfl, hb, q0, q1, hr⟩ := hT 0 (by simp)
        rw [Nat.zero_mul, Nat.add_zero] at q0 q1
        have q0' : wr.cell? ⟨b, o, none⟩ = some (.string y.atom) := q0
        have q1' : wr.cell? ⟨b, o + 1, none⟩ = some (.slice A2 y.list.length c2) := q1
        have hr' : SxRow wr (Und n₀) A2 c2 y.list := hr
        have hlc' : ys.length + 1 ≤ c1 := hlc
        have hc0' : wr.cell? ⟨g, rs.length, none⟩ = some (.slice (some ⟨b, o, none⟩) (ys.length + 1) c1) := hc0
        have hme : 2 * (todoSxK (y.kids :: ys :: rs)).length + (y.kids :: ys :: rs).length < 2 * (todoSxK ((y :: ys) :: rs)).length + ((y :: ys) :: rs).length := by
          rw [todoSxK_step, List.length_cons, List.length_cons, List.length_cons, List.length_cons]; omega
        rw [todoSxK_step] at hpre
        have hpre2 : (pre ++ [(rs.length, y, A2, c2)]).map SxIt.key ++ todoSxK (y.kids :: ys :: rs) = x.walkK 0 := by rw [← hpre, List.map_append, List.append_assoc]; rfl
        have hrw : SxRow w (Und n₀) A2 c2 y.list := hr'.frame (fun _ h => h) (fun b i hP => (World.cell?_of_block (w := w) (w' := wr) (a := ⟨b, i, none⟩) (hst.below.block b hP)).symm)
        -- WHAT STANDS BEHIND THE STORE AND THE NEW VARIABLE, whatever the rest's address
        have key : ∀ (A3 : Option Addr) (c3 : Nat), ys.length ≤ c3 → c3 ≤ 9223372036854775807 → TopSx wr n₀ W.heap.size A3 ys →
            ∃ (M3 : Nat → Prop), PreSxSt J w n₀ W.heap.size Rd M3 pre (ys :: rs) (vs0 ++ [.slice A3 ys.length c3]) (.slice (some ⟨g, 0, none⟩) (rs.length + 1) cap)
              ((wr.setCell ⟨g, rs.length, none⟩ (.slice A3 ys.length c3)).alloc (.cells #[.string y.atom, .slice A2 y.list.length c2] 26)) ∧ M3 wr.heap.size ∧ Whole ((wr.setCell ⟨g, rs.length, none⟩ (.slice A3 ys.length c3)).alloc (.cells #[.string y.atom, .slice A2 y.list.length c2] 26)) wr.heap.size 26 #[.string y.atom, .slice A2 y.list.length c2] := fun A3 c3 h1 h2 h3 => by
          have hs := PreSxSt.store HJ.out hnb hwb hst hts0 h1 h2 h3
          refine ⟨_, PreSxSt.grow HJ.out hnb hwb hs ((Below.refl _ _).alloc (Nat.le_refl _) _), .inr ⟨by simp, by simp⟩, ?_⟩
          have h := Whole.new (wr.setCell ⟨g, rs.length, none⟩ (.slice A3 ys.length c3)) 26 #[.string y.atom, .slice A2 y.list.length c2]
          simpa using h
        have HKEY := Lib.hid key
        have HPR := Lib.hid hpre2
        have HRW := Lib.hid hrw
        have HT := Lib.hid hT
        have HME := Lib.hid hme
        have hpl : pre.length ≤ 4294967296 := by omega
        clear hpre hown hown0 hts0 hT hvl hr' hcell hst hwl q0 q1 hr hlc hc0 hpre2 hrw hme key
        by_cases hcc : c1 = 1
        · subst hcc
          have hl0 : ys.length = 0 := by omega
          obtain rfl : ys = [] := List.eq_nil_of_length_eq_zero hl0
          obtain ⟨M3, hst3, hM3, hbx⟩ := HKEY.out (some ⟨b, o, none⟩) 0 (Nat.le_refl _) (by omega) (TopSx.nil _ _ _ _)
          clear hl0
          obtain ⟨fn, tmps, assign, body, hy, hR⟩ := HY.out M3 pre (rs.length, y, A2, c2) _ hst3.j ⟨⟨_, HPR.out.symm⟩, HRW.out⟩
          simp only [SxIt.enc, List.length_nil] at hy
          have HST := Lib.hid hst3
          have HBX := Lib.hid hbx
          have HM3 := Lib.hid hM3
          clear hst3 hbx hM3
          gi_wp2
          refine hR.mono ?_
          rintro e W4 (⟨rfl, hJ4, hk4⟩ | ⟨rfl, hJx4⟩)
          · have hst4 := PreSxSt.round hnb hwb HST.out hk4 hJ4
            have hbx4 : Whole W4 wr.heap.size 26 #[.string y.atom, .slice A2 y.list.length c2] := (hk4.own _ (.inl HM3.out)).trans HBX.out
            have hbl4 := hbx4.lt
            have d0 : W4.cell? ⟨wr.heap.size, 0, none⟩ = some (.string y.atom) := by rw [hbx4.cell]; rfl
            have d1 : W4.cell? ⟨wr.heap.size, 1, none⟩ = some (.slice A2 y.list.length c2) := by rw [hbx4.cell]; rfl
            have dp : W4.cell? ⟨Bp, 0, none⟩ = some (.func (.func 55) #[] #[]) := (World.cell?_of_block (w := w) (w' := W4) (a := ⟨Bp, 0, none⟩) (hst4.rd Bp hRp hBp)).trans HP.out
            have HST4 := Lib.hid hst4
            have HK4 := Lib.hid hk4
            clear hst4 hbx4 hJ4 hk4 hy hR hc0' q0' q1'
            gi_wp2_with fail
            refine ⟨trivial, ?_⟩
            refine (callsIn_wide.2 (implElemsK y A2 c2 (Und n₀) W4 (HRW.out.frame (fun _ h => h) (fun b i hP => World.cell?_of_block (a := ⟨b, i, none⟩) (HST4.out.below.block b hP))))).mono ?_
            rintro e W5 ⟨A5, c5, rfl, hr5, hb5⟩
            have hrc := hr5.cap
            have hst5 := PreSxSt.grow HJ.out hnb hwb HST4.out hb5
            have hst6 := PreSxSt.grow HJ.out hnb hwb hst5 ((Below.refl _ _).alloc (Nat.le_refl _) (.cells #[.slice A5 y.kids.length c5] 24))
            have hown6 := hst6.own
            have hs6 := hst6.size
            have ht6 : TopSx (W5.alloc (.cells #[.slice A5 y.kids.length c5] 24)) n₀ W.heap.size A5 y.kids := TopSx.of_row (hr5.frame (fun _ h => h) (fun b i hP => World.cell?_of_block (a := ⟨b, i, none⟩) (((hst6.below.block b hP).trans (HST4.out.below.block b hP).symm))))
            have HST6 := Lib.hid hst6
            have HO6 := Lib.hid hown6
            have HT6 := Lib.hid ht6
            clear hst5 hst6 hb5 hr5 hown6 ht6 d0 d1 dp
            gi_wp2_with (gi_at_builtin; refine wpListIn_append_at _ rfl _ _ 44 rfl (W.heap.size + 1) 24 i0 (.slice none 0 0) 1 24 Try.underlying44 hi hz0 hz1 hz2 rfl (by decide) _ _ _ rfl HO6.out ⟨W5.heap.size, 0, none⟩ 1 1 [.slice A5 y.kids.length c5] rfl rfl (cell_one_new _ _ _) (one_slice _ _ _) (by unfold maxLen; simp only [List.length_cons]; omega) (by simp only [List.length_cons]; omega) (by omega) ?_)
            intro v' W7 hown7 hgrow7 hv7
            have hst7 := PreSxSt.push HJ.out hnb hwb HST6.out hgrow7 (by rw [List.append_assoc]; exact hown7) (hv7.imp_right (fun h => h.trans (by simp))) hrc.1 hrc.2 HT6.out
            have HST7 := Lib.hid hst7
            clear hst7 hown7 hgrow7 hv7 hs6
            gi_wp2
            gi_roundg (2 * (todoSxK (y.kids :: [] :: rs)).length + (y.kids :: [] :: rs).length)
            case measure => exact HME.out
            case rel => exact ⟨_, _, _, _, HST7.out, HPR.out, rfl, by simp only [List.length_append, List.length_cons, List.length_nil]; omega⟩
          · gi_wp2
            refine bodyPost_ret (results_none rfl _ _ _) rfl ?_
            exact ⟨⟨_, rfl⟩, .inr ⟨_, hJx4⟩⟩
        · have hcc' : 1 < c1 := by omega
          clear hcc
          obtain ⟨M3, hst3, hM3, hbx⟩ := HKEY.out (some ⟨b, o + 2, none⟩) (c1 - 1) (by omega) (by omega) HT.out.tail
          obtain ⟨fn, tmps, assign, body, hy, hR⟩ := HY.out M3 pre (rs.length, y, A2, c2) _ hst3.j ⟨⟨_, HPR.out.symm⟩, HRW.out⟩
          simp only [SxIt.enc] at hy
          have HST := Lib.hid hst3
          have HBX := Lib.hid hbx
          have HM3 := Lib.hid hM3
          clear hst3 hbx hM3
          gi_wp2
          refine hR.mono ?_
          rintro e W4 (⟨rfl, hJ4, hk4⟩ | ⟨rfl, hJx4⟩)
          · have hst4 := PreSxSt.round hnb hwb HST.out hk4 hJ4
            have hbx4 : Whole W4 wr.heap.size 26 #[.string y.atom, .slice A2 y.list.length c2] := (hk4.own _ (.inl HM3.out)).trans HBX.out
            have hbl4 := hbx4.lt
            have d0 : W4.cell? ⟨wr.heap.size, 0, none⟩ = some (.string y.atom) := by rw [hbx4.cell]; rfl
            have d1 : W4.cell? ⟨wr.heap.size, 1, none⟩ = some (.slice A2 y.list.length c2) := by rw [hbx4.cell]; rfl
            have dp : W4.cell? ⟨Bp, 0, none⟩ = some (.func (.func 55) #[] #[]) := (World.cell?_of_block (w := w) (w' := W4) (a := ⟨Bp, 0, none⟩) (hst4.rd Bp hRp hBp)).trans HP.out
            have HST4 := Lib.hid hst4
            have HK4 := Lib.hid hk4
            clear hst4 hbx4 hJ4 hk4 hy hR hc0' q0' q1'
            gi_wp2_with fail
            refine ⟨trivial, ?_⟩
            refine (callsIn_wide.2 (implElemsK y A2 c2 (Und n₀) W4 (HRW.out.frame (fun _ h => h) (fun b i hP => World.cell?_of_block (a := ⟨b, i, none⟩) (HST4.out.below.block b hP))))).mono ?_
            rintro e W5 ⟨A5, c5, rfl, hr5, hb5⟩
            have hrc := hr5.cap
            have hst5 := PreSxSt.grow HJ.out hnb hwb HST4.out hb5
            have hst6 := PreSxSt.grow HJ.out hnb hwb hst5 ((Below.refl _ _).alloc (Nat.le_refl _) (.cells #[.slice A5 y.kids.length c5] 24))
            have hown6 := hst6.own
            have hs6 := hst6.size
            have ht6 : TopSx (W5.alloc (.cells #[.slice A5 y.kids.length c5] 24)) n₀ W.heap.size A5 y.kids := TopSx.of_row (hr5.frame (fun _ h => h) (fun b i hP => World.cell?_of_block (a := ⟨b, i, none⟩) (((hst6.below.block b hP).trans (HST4.out.below.block b hP).symm))))
            have HST6 := Lib.hid hst6
            have HO6 := Lib.hid hown6
            have HT6 := Lib.hid ht6
            clear hst5 hst6 hb5 hr5 hown6 ht6 d0 d1 dp
            gi_wp2_with (gi_at_builtin; refine wpListIn_append_at _ rfl _ _ 44 rfl (W.heap.size + 1) 24 i0 (.slice none 0 0) 1 24 Try.underlying44 hi hz0 hz1 hz2 rfl (by decide) _ _ _ rfl HO6.out ⟨W5.heap.size, 0, none⟩ 1 1 [.slice A5 y.kids.length c5] rfl rfl (cell_one_new _ _ _) (one_slice _ _ _) (by unfold maxLen; simp only [List.length_cons]; omega) (by simp only [List.length_cons]; omega) (by omega) ?_)
            intro v' W7 hown7 hgrow7 hv7
            have hst7 := PreSxSt.push HJ.out hnb hwb HST6.out hgrow7 (by rw [List.append_assoc]; exact hown7) (hv7.imp_right (fun h => h.trans (by simp))) hrc.1 hrc.2 HT6.out
            have HST7 := Lib.hid hst7
            clear hst7 hown7 hgrow7 hv7 hs6
            gi_wp2
            gi_roundg (2 * (todoSxK (y.kids :: ys :: rs)).length + (y.kids :: ys :: rs).length)
            case measure => exact HME.out
            case rel => exact ⟨_, _, _, _, HST7.out, HPR.out, rfl, by simp only [List.length_append, List.length_cons, List.length_nil]; omega⟩
          · gi_wp2
            refine bodyPost_ret (results_none rfl _ _ _) rfl ?_
            exact ⟨⟨_, rfl⟩, .inr ⟨_, hJx4⟩⟩
end Go.Proofs.Ytbnfdjhcakimhaa

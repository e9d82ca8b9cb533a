/- The iterator impl.preorder over pairs of a pattern and a type: for every loop body that keeps the iterator's memory and lets pass only pairs below which the walk may go on. -/
import Derived.Test.YtngbilblddngcaaDoorQ2
import Derived.RangeFuncBox
import Derived.RangeFuncLeaves
import Derived.Shelf.Abstract
import Derived.OwnWalkIn
import Derived.TacticsInMore
import Derived.LoopIn
import Derived.Sort.LoopGhostIn
import Derived.Test.YtngbilblddngcaaDoorQ1
namespace Go.Proofs.YtngbilblddngcaaDoor
open Go.RowKit Go.Shelf Go.Lib
attribute [local go_sem] Oper.semAt_some

theorem infoPRow : (Tryd.prog.info? 102).map (fun i => (i.zero, i.size, i.bytes)) = some (some (.slice none 0 0), 1, 24) := by kernel_rfl
/-- What a round may rely on. -/
def PairOk (p t : TypeX) (n₀ : Nat) (w : World) (pre : List PairIt) (y : PairIt) : Prop := (∃ rest, p.walkP 0 t = (pre ++ [y]).map PairIt.key ++ rest) ∧ TypeRow w (Und n₀) y.A y.a y.p.args_ ∧ TypeRow w (Und n₀) y.C y.c y.t.args_

set_option maxRecDepth 100000 in
set_option maxHeartbeats 4000000 in
theorem prePair_seq (p t : TypeX) (A C : Option Addr) (a c Br Bp n₀ : Nat) (Rd : Nat → Prop) (w : World) (hRp : Rd Bp) (hBr : Br < w.heap.size) (hBp : Bp < w.heap.size)
    (hwr : Whole w Br 87 #[.int .i64 p.kind_, .string p.name_, .slice A p.args_.length a, .int .i64 t.kind_, .string t.name_, .slice C t.args_.length c]) (hwp : w.cell? ⟨Bp, 0, none⟩ = some (.func (.func 63) #[] #[]))
    (hn : n₀ ≤ w.heap.size) (hx : TypeRow w (Und n₀) A a p.args_) (hy : TypeRow w (Und n₀) C c t.args_) (hsz : p.size ≤ 4294967296) :
    SeqG Fence.wide 3 Tryd.prog 74 #[.pointer (some ⟨Br, 0, none⟩), .pointer (some ⟨Bp, 0, none⟩)] PairIt.enc
      (PairOk p t n₀ w) (fun xs => xs.map PairIt.key = p.walkP 0 t) (fun y => GoodP y.p y.t) n₀ Rd w := by
  intro l J Jx W hW hJ hY hG h0
  obtain ⟨i0, hi, hz0, hz1, hz2⟩ := info_parts infoPRow
  have hwl0 := walkP_length 0 p t
  have hleft := walkP_left 0 p t
  have hwr' := hwr.below hW hBr
  obtain ⟨c0, c1, c2, c3, c4, c5⟩ := cells6 hwr'
  have HY := Lib.hid hY
  have HJ := Lib.hid hJ
  have HG := Lib.hid hG
  have HLEFT := Lib.hid hleft
  clear hY hJ hG hleft hwr'
  refine callsIn_of_wp Tryd.func74 rfl trivial ?_ rfl
  simp only [Tryd.ntmps74, List.size_toArray, List.length_cons, List.length_nil, Nat.reduceAdd, Nat.reduceSub, Array.replicate_succ, Array.replicate_zero, List.push_toArray, List.append_toArray, List.nil_append, List.cons_append]
  gi_wp2
  have hb0 : Below W.heap.size W ((W.alloc (.cells #[.int .i64 p.kind_, .string p.name_, .slice A p.args_.length a, .int .i64 t.kind_, .string t.name_, .slice C t.args_.length c] 87)).alloc (.cells #[.slice (some ⟨W.heap.size, 0, none⟩) 1 1] 102)) := ((Below.refl _ _).alloc (Nat.le_refl _) _).alloc (by simp) _
  obtain ⟨W0, hW0⟩ : ∃ W0, (W.alloc (.cells #[.int .i64 p.kind_, .string p.name_, .slice A p.args_.length a, .int .i64 t.kind_, .string t.name_, .slice C t.args_.length c] 87)).alloc (.cells #[.slice (some ⟨W.heap.size, 0, none⟩) 1 1] 102) = W0 := ⟨_, rfl⟩
  have hs0 : W0.heap.size = W.heap.size + 2 := by rw [← hW0]; simp
  have hown0 := World.ownsRow_lit (base := W.heap.size + 1) (size := 1) (e := 102) (W.alloc (.cells #[.int .i64 p.kind_, .string p.name_, .slice A p.args_.length a, .int .i64 t.kind_, .string t.name_, .slice C t.args_.length c] 87)) #[.slice (some ⟨W.heap.size, 0, none⟩) 1 1] 1 (by simp) (by decide) rfl
  rw [World.size_alloc] at hown0
  have hwh0 : Whole W0 W.heap.size 87 #[.int .i64 p.kind_, .string p.name_, .slice A p.args_.length a, .int .i64 t.kind_, .string t.name_, .slice C t.args_.length c] := by
    rw [← hW0]; exact (Whole.new W _ _).below ((Below.refl (W.heap.size + 1) _).alloc (by simp) _) (by omega)
  rw [hW0] at hown0 hb0 ⊢
  have hJ0 := HJ.out _ _ _ _ none h0 (grown_none hb0) (fun _ e => by cases e)
  have hfx : ∀ b o, Und n₀ b → W0.cell? ⟨b, o, none⟩ = w.cell? ⟨b, o, none⟩ := fun b o hP => by
    have hlt : b < w.heap.size := Nat.lt_of_lt_of_le hP hn
    rw [hb0.cell (p := ⟨b, o, none⟩) (Nat.lt_of_lt_of_le hlt hW.size)]; exact hW.cell (p := ⟨b, o, none⟩) hlt
  have hT0 : TopPair W0 n₀ (fun b => b = W.heap.size) (some ⟨W.heap.size, 0, none⟩) [(p, t)] := by
    intro j hj
    obtain rfl : j = 0 := by simpa using hj
    obtain ⟨d0, d1, d2, d3, d4, d5⟩ := cells6 hwh0
    exact ⟨W.heap.size, 0, A, a, C, c, rfl, rfl, d0, d1, d2, d3, d4, d5, hx.frame (fun _ h => h) hfx, hy.frame (fun _ h => h) hfx⟩
  have hTs0 : TopsPair W0 n₀ (fun b => b = W.heap.size) [[(p, t)]] [.slice (some ⟨W.heap.size, 0, none⟩) 1 1] := ⟨[], _, 1, rfl, by simp, by omega, hT0, rfl⟩
  have hRb : ∀ b, Rd b → b < w.heap.size → W0.heap[b]? = w.heap[b]? := fun b _ h => (hb0.block b (Nat.lt_of_lt_of_le h hW.size)).trans (hW.block b h)
  have hbl0 : Below n₀ w W0 := (hW.mono hn).trans (hb0.mono (by have := hW.size; omega))
  have HB := Lib.hid hRb
  have HO := Lib.hid hown0
  have HT := Lib.hid hTs0
  have HS := Lib.hid hs0
  have HW := Lib.hid hwr
  have HP := Lib.hid hwp
  clear hW0 hRb hown0 hTs0 hs0 c0 c1 c2 c3 c4 c5 hfx hT0 hwh0 hx hy hwr hwp
  have hnb : n₀ ≤ W.heap.size := Nat.le_trans hn hW.size
  have hwb := hW.size
  gi_loopg [4] (2 * (p.walkP 0 t).length + 1) (fun gk rv wr => ∃ (M R : Nat → Prop) (pre : List PairIt) (rs : List (List PairX)) (vs : List Value), PrePairSt J w n₀ W.heap.size Rd M R pre rs vs rv wr ∧
    pre.map PairIt.key ++ todoP rs = p.walkP 0 t ∧ gk = 2 * (todoP rs).length + rs.length ∧ rs.length ≤ pre.length + 1)
  case atStart =>
    have hs0 := HS.out
    refine ⟨_, fun b => b = W.heap.size, [], [[(p, t)]], _, ⟨hJ0, HO.out, fun b hb => .inr ?_, fun b hb => .inr ?_, fun b hb => ?_, HT.out, hbl0, HB.out, fun b hb => ?_, by omega⟩, by rw [todoP_start]; rfl, by rw [todoP_start]; rfl, by simp⟩
    · simp [Value.ownBlock] at hb; omega
    · omega
    · simp [Value.ownBlock] at hb; omega
    · rcases hb with hb | hb
      · exact hb.elim
      · omega
  case round =>
    clear HB HO HT HS hJ0 hbl0 hb0 h0
    obtain ⟨M, R, pre, rs, vs, hst, hpre, rfl, hlen⟩ := hrel
    cases rs with
    | nil =>
      obtain ⟨A1, c1, rfl⟩ := own_nil hst.own
      have hfin : pre.map PairIt.key = p.walkP 0 t := by rw [← hpre, todoP, List.append_nil]
      have HF := Lib.hid hfin
      have HST := Lib.hid hst
      clear hpre hfin hst hlen
      gi_wp2
      go_end0
      exact ⟨⟨_, rfl⟩, .inl ⟨M, pre, HF.out, HST.out.j⟩⟩
    | cons l' rs =>
      obtain ⟨vs0, A1, c1, rfl, hlc, hcm, hT, hts0⟩ := hst.tops
      have hvl := hts0.length
      have hown := hst.own
      rw [List.length_cons] at hown hlen
      obtain ⟨g, cap, rfl⟩ := own_some hown
      obtain ⟨hown0, hcell, hcap, hcm2, hBg, hgw⟩ := own_pop hown (by rw [hvl, Nat.mul_one]) rfl
      have hc0 : wr.cell? ⟨g, rs.length, none⟩ = some (.slice A1 l'.length c1) := by have := hcell 0 (by decide); rw [Nat.mul_one, Nat.add_zero] at this; exact this
      have hfr := hown.frozenAt rs.length
      have hwl : pre.length + (todoP (l' :: rs)).length ≤ 4294967296 := by
        have := congrArg List.length hpre; rw [List.length_append, List.length_map] at this; omega
      have hrl : rs.length ≤ 4294967296 := by omega
      unfold maxLen at hcm2
      cases l' with
      | nil =>
        rw [todoP_pop] at hpre
        have hme : 2 * (todoP rs).length + rs.length < 2 * (todoP ([] :: rs)).length + ([] :: rs).length := by rw [todoP_pop, List.length_cons]; omega
        have hst1 : PrePairSt J w n₀ W.heap.size Rd M R pre rs vs0 (.slice (some ⟨g, 0, none⟩) rs.length cap) wr := ⟨hst.j, hown0, fun b hb => hst.mown b (by simpa [Value.ownBlock] using hb), hst.rm, fun b hb => hst.rown b (by simpa [Value.ownBlock] using hb), hts0, hst.below, hst.rd, hst.lt, hst.size⟩
        have HME := Lib.hid hme
        have HPR := Lib.hid hpre
        have HST := Lib.hid hst1
        have hc0' : wr.cell? ⟨g, rs.length, none⟩ = some (.slice A1 0 c1) := hc0
        clear hme hpre hown0 hown hcell hT hts0 hvl hwl hc0 hst hst1
        gi_wp2
        gi_roundg (2 * (todoP rs).length + rs.length)
        case measure => exact HME.out
        case rel => exact ⟨M, R, pre, rs, vs0, HST.out, HPR.out, rfl, by omega⟩
      | cons y ys =>
        obtain ⟨yp, yt⟩ := y
        obtain ⟨b, o, A2, a2, C2, c2, rfl, hb, q0, q1, q2, q3, q4, q5, hr, hr2⟩ := hT 0 (by simp)
        simp only [Nat.zero_mul, Nat.add_zero, List.getElem_cons_zero] at q0 q1 q2 q3 q4 q5 hr hr2
        have hlc' : ys.length + 1 ≤ c1 := hlc
        have hc0' : wr.cell? ⟨g, rs.length, none⟩ = some (.slice (some ⟨b, o, none⟩) (ys.length + 1) c1) := hc0
        have hme : 2 * (todoP (pairsX yp yt :: ys :: rs)).length + (pairsX yp yt :: ys :: rs).length < 2 * (todoP (((yp, yt) :: ys) :: rs)).length + (((yp, yt) :: ys) :: rs).length := by
          rw [todoP_step, List.length_cons, List.length_cons, List.length_cons, List.length_cons]; omega
        rw [todoP_step] at hpre
        have hpre2 : (pre ++ [PairIt.mk rs.length yp yt A2 a2 C2 c2]).map PairIt.key ++ todoP (pairsX yp yt :: ys :: rs) = p.walkP 0 t := by rw [← hpre, List.map_append, List.append_assoc]; rfl
        have hyl : yp.args_.length ≤ 4294967296 := by
          have h1 := HLEFT.out (rs.length, yp, yt) (by rw [← hpre]; simp)
          have h2 := TypeX.size_eq yp
          have h3 := sizeL_length yp.args_
          simp only at h1
          omega
        have hfw : ∀ b i, Und n₀ b → w.cell? ⟨b, i, none⟩ = wr.cell? ⟨b, i, none⟩ := fun b i hP => (World.cell?_of_block (w := w) (w' := wr) (a := ⟨b, i, none⟩) (hst.below.block b hP)).symm
        have hrw : TypeRow w (Und n₀) A2 a2 yp.args_ := hr.frame (fun _ h => h) hfw
        have hrw2 : TypeRow w (Und n₀) C2 c2 yt.args_ := hr2.frame (fun _ h => h) hfw
        -- WHAT STANDS BEHIND THE STORE AND THE NEW VARIABLE, whatever the rest's address
        have key : ∀ (A3 : Option Addr) (c3 : Nat), ys.length ≤ c3 → c3 ≤ 9223372036854775807 → TopPair wr n₀ R A3 ys →
            ∃ (M3 : Nat → Prop), PrePairSt J w n₀ W.heap.size Rd M3 R pre (ys :: rs) (vs0 ++ [.slice A3 ys.length c3]) (.slice (some ⟨g, 0, none⟩) (rs.length + 1) cap)
              ((wr.setCell ⟨g, rs.length, none⟩ (.slice A3 ys.length c3)).alloc (.cells #[.int .i64 yp.kind_, .string yp.name_, .slice A2 yp.args_.length a2, .int .i64 yt.kind_, .string yt.name_, .slice C2 yt.args_.length c2] 87)) ∧ M3 wr.heap.size ∧ Whole ((wr.setCell ⟨g, rs.length, none⟩ (.slice A3 ys.length c3)).alloc (.cells #[.int .i64 yp.kind_, .string yp.name_, .slice A2 yp.args_.length a2, .int .i64 yt.kind_, .string yt.name_, .slice C2 yt.args_.length c2] 87)) wr.heap.size 87 #[.int .i64 yp.kind_, .string yp.name_, .slice A2 yp.args_.length a2, .int .i64 yt.kind_, .string yt.name_, .slice C2 yt.args_.length c2] := fun A3 c3 h1 h2 h3 => by
          have hs := PrePairSt.store HJ.out hnb hwb hst hts0 h1 h2 h3
          refine ⟨_, PrePairSt.grow HJ.out hnb hwb hs ((Below.refl _ _).alloc (Nat.le_refl _) _), .inr ⟨by simp, by simp⟩, ?_⟩
          have h := Whole.new (wr.setCell ⟨g, rs.length, none⟩ (.slice A3 ys.length c3)) 87 #[.int .i64 yp.kind_, .string yp.name_, .slice A2 yp.args_.length a2, .int .i64 yt.kind_, .string yt.name_, .slice C2 yt.args_.length c2]
          simpa using h
        have HKEY := Lib.hid key
        have HPR := Lib.hid hpre2
        have HRW := Lib.hid hrw
        have HRW2 := Lib.hid hrw2
        have HT := Lib.hid hT
        have HME := Lib.hid hme
        have hpl : pre.length ≤ 4294967296 := by omega
        clear hpre hown hown0 hts0 hT hvl hcell hst hwl hr hr2 hlc hc0 hpre2 hrw hrw2 hme key hfw
        by_cases hcc : c1 = 1
        · subst hcc
          have hl0 : ys.length = 0 := by omega
          obtain rfl : ys = [] := List.eq_nil_of_length_eq_zero hl0
          obtain ⟨M3, hst3, hM3, hbx⟩ := HKEY.out (some ⟨b, o, none⟩) 0 (Nat.le_refl _) (by omega) (TopPair.nil _ _ _ _)
          clear hl0
          obtain ⟨fn, tmps, assign, body, hy, hR⟩ := HY.out M3 pre (PairIt.mk rs.length yp yt A2 a2 C2 c2) _ hst3.j ⟨⟨_, HPR.out.symm⟩, HRW.out, HRW2.out⟩
          simp only [PairIt.enc, List.length_nil] at hy
          have HST := Lib.hid hst3
          have HBX := Lib.hid hbx
          have HM3 := Lib.hid hM3
          clear hst3 hbx hM3
          gi_wp2
          refine hR.mono ?_
          rintro e W4 (⟨rfl, hJ4, hk4⟩ | ⟨rfl, hJx4⟩)
          · have hgood : GoodP yp yt := HG.out _ _ (PairIt.mk rs.length yp yt A2 a2 C2 c2) _ hJ4
            have hst4 := PrePairSt.round HST.out hk4 hJ4
            have hbx4 : Whole W4 wr.heap.size 87 #[.int .i64 yp.kind_, .string yp.name_, .slice A2 yp.args_.length a2, .int .i64 yt.kind_, .string yt.name_, .slice C2 yt.args_.length c2] := (hk4.own _ (.inl HM3.out)).trans HBX.out
            have hbl4 := hbx4.lt
            obtain ⟨d0, d1, d2, d3, d4, d5⟩ := cells6 hbx4
            have dp : W4.cell? ⟨Bp, 0, none⟩ = some (.func (.func 63) #[] #[]) := (World.cell?_of_block (w := w) (w' := W4) (a := ⟨Bp, 0, none⟩) (hst4.rd Bp hRp hBp)).trans HP.out
            have hfw4 : ∀ b i, Und n₀ b → W4.cell? ⟨b, i, none⟩ = w.cell? ⟨b, i, none⟩ := fun b i hP => World.cell?_of_block (a := ⟨b, i, none⟩) (hst4.below.block b hP)
            have hcall := implArgPairs yp yt A2 C2 a2 c2 n₀ W4 (by have := hst4.size; omega) hgood hyl (HRW.out.frame (fun _ h => h) hfw4) (HRW2.out.frame (fun _ h => h) hfw4)
            have hgl : g < W4.heap.size := (hst4.own.lt g rfl).2
            have hs4 := hst4.size
            have HST4 := Lib.hid hst4
            have HK4 := Lib.hid hk4
            have HC4 := Lib.hid hcall
            clear hst4 hbx4 hJ4 hk4 hy hR hc0' q0 q1 q2 q3 q4 q5 hcall hfw4 hgood
            gi_wp2_with fail
            refine ⟨trivial, ?_⟩
            refine (callsIn_wide.2 HC4.out).mono ?_
            rintro e W5 ⟨A5, c5, rfl, hl5, hc5, hT5, hb5⟩
            have hst5 := PrePairSt.grow HJ.out hnb hwb HST4.out hb5
            have hst6 := PrePairSt.grow HJ.out hnb hwb hst5 ((Below.refl _ _).alloc (Nat.le_refl _) (.cells #[.slice A5 (pairsX yp yt).length c5] 102))
            have hown6 := hst6.own
            have hs5 := hb5.size
            have hs6 := hst6.size
            have ht6 : TopPair (W5.alloc (.cells #[.slice A5 (pairsX yp yt).length c5] 102)) n₀ (fun b => R b ∨ (W4.heap.size ≤ b ∧ b < W5.heap.size)) A5 (pairsX yp yt) := hT5.frame (fun b h => .inr h) (fun b h => Below.heap_alloc _ _ _ (by
              rcases h with h | h
              · omega
              · exact h.2))
            have HST6 := Lib.hid hst6
            have HO6 := Lib.hid hown6
            have HT6 := Lib.hid ht6
            clear hst5 hst6 hb5 hown6 ht6 hT5 d0 d1 d2 d3 d4 d5 dp HC4
            gi_wp2_with (gi_at_builtin; refine wpListIn_append_at _ rfl _ _ 103 rfl (W.heap.size + 1) 102 i0 (.slice none 0 0) 1 24 Tryd.underlying103 hi hz0 hz1 hz2 rfl (by decide) _ _ _ rfl HO6.out ⟨W5.heap.size, 0, none⟩ 1 1 [.slice A5 (pairsX yp yt).length c5] rfl rfl (cell_one_new _ _ _) (one_slice _ _ _) (by unfold maxLen; simp only [List.length_cons]; omega) (by simp only [List.length_cons]; omega) (by omega) ?_)
            intro v' W7 hown7 hgrow7 hv7
            have hst7 := PrePairSt.push HJ.out hnb hwb HST6.out (R' := fun b => R b ∨ (W4.heap.size ≤ b ∧ b < W5.heap.size)) (fun b h => .inl h) (fun b h => h.elim (fun h => HST6.out.rm b h) (fun h => .inl (.inr h))) (fun b hb h => by
              have hgb : g = b := by simpa [Value.ownBlock] using hb
              subst hgb
              rcases h with h | h
              · exact HST6.out.rown g rfl h
              · omega) hgrow7 (by rw [List.append_assoc]; exact hown7) (hv7.imp_right (fun h => h.trans (by simp))) hl5 hc5 HT6.out
            have HST7 := Lib.hid hst7
            clear hst7 hown7 hgrow7 hv7 hs6
            gi_wp2
            gi_roundg (2 * (todoP (pairsX yp yt :: [] :: rs)).length + (pairsX yp yt :: [] :: rs).length)
            case measure => exact HME.out
            case rel => exact ⟨_, _, _, _, _, HST7.out, HPR.out, rfl, by simp only [List.length_append, List.length_cons, List.length_nil]; omega⟩
          · gi_wp2
            refine bodyPost_ret (results_none rfl _ _ _) rfl ?_
            exact ⟨⟨_, rfl⟩, .inr ⟨_, hJx4⟩⟩
        · have hcc' : 1 < c1 := by omega
          clear hcc
          obtain ⟨M3, hst3, hM3, hbx⟩ := HKEY.out (some ⟨b, o + 6, none⟩) (c1 - 1) (by omega) (by omega) HT.out.tail
          obtain ⟨fn, tmps, assign, body, hy, hR⟩ := HY.out M3 pre (PairIt.mk rs.length yp yt A2 a2 C2 c2) _ hst3.j ⟨⟨_, HPR.out.symm⟩, HRW.out, HRW2.out⟩
          simp only [PairIt.enc] at hy
          have HST := Lib.hid hst3
          have HBX := Lib.hid hbx
          have HM3 := Lib.hid hM3
          clear hst3 hbx hM3
          gi_wp2
          refine hR.mono ?_
          rintro e W4 (⟨rfl, hJ4, hk4⟩ | ⟨rfl, hJx4⟩)
          · have hgood : GoodP yp yt := HG.out _ _ (PairIt.mk rs.length yp yt A2 a2 C2 c2) _ hJ4
            have hst4 := PrePairSt.round HST.out hk4 hJ4
            have hbx4 : Whole W4 wr.heap.size 87 #[.int .i64 yp.kind_, .string yp.name_, .slice A2 yp.args_.length a2, .int .i64 yt.kind_, .string yt.name_, .slice C2 yt.args_.length c2] := (hk4.own _ (.inl HM3.out)).trans HBX.out
            have hbl4 := hbx4.lt
            obtain ⟨d0, d1, d2, d3, d4, d5⟩ := cells6 hbx4
            have dp : W4.cell? ⟨Bp, 0, none⟩ = some (.func (.func 63) #[] #[]) := (World.cell?_of_block (w := w) (w' := W4) (a := ⟨Bp, 0, none⟩) (hst4.rd Bp hRp hBp)).trans HP.out
            have hfw4 : ∀ b i, Und n₀ b → W4.cell? ⟨b, i, none⟩ = w.cell? ⟨b, i, none⟩ := fun b i hP => World.cell?_of_block (a := ⟨b, i, none⟩) (hst4.below.block b hP)
            have hcall := implArgPairs yp yt A2 C2 a2 c2 n₀ W4 (by have := hst4.size; omega) hgood hyl (HRW.out.frame (fun _ h => h) hfw4) (HRW2.out.frame (fun _ h => h) hfw4)
            have hgl : g < W4.heap.size := (hst4.own.lt g rfl).2
            have hs4 := hst4.size
            have HST4 := Lib.hid hst4
            have HK4 := Lib.hid hk4
            have HC4 := Lib.hid hcall
            clear hst4 hbx4 hJ4 hk4 hy hR hc0' q0 q1 q2 q3 q4 q5 hcall hfw4 hgood
            gi_wp2_with fail
            refine ⟨trivial, ?_⟩
            refine (callsIn_wide.2 HC4.out).mono ?_
            rintro e W5 ⟨A5, c5, rfl, hl5, hc5, hT5, hb5⟩
            have hst5 := PrePairSt.grow HJ.out hnb hwb HST4.out hb5
            have hst6 := PrePairSt.grow HJ.out hnb hwb hst5 ((Below.refl _ _).alloc (Nat.le_refl _) (.cells #[.slice A5 (pairsX yp yt).length c5] 102))
            have hown6 := hst6.own
            have hs5 := hb5.size
            have hs6 := hst6.size
            have ht6 : TopPair (W5.alloc (.cells #[.slice A5 (pairsX yp yt).length c5] 102)) n₀ (fun b => R b ∨ (W4.heap.size ≤ b ∧ b < W5.heap.size)) A5 (pairsX yp yt) := hT5.frame (fun b h => .inr h) (fun b h => Below.heap_alloc _ _ _ (by
              rcases h with h | h
              · omega
              · exact h.2))
            have HST6 := Lib.hid hst6
            have HO6 := Lib.hid hown6
            have HT6 := Lib.hid ht6
            clear hst5 hst6 hb5 hown6 ht6 hT5 d0 d1 d2 d3 d4 d5 dp HC4
            gi_wp2_with (gi_at_builtin; refine wpListIn_append_at _ rfl _ _ 103 rfl (W.heap.size + 1) 102 i0 (.slice none 0 0) 1 24 Tryd.underlying103 hi hz0 hz1 hz2 rfl (by decide) _ _ _ rfl HO6.out ⟨W5.heap.size, 0, none⟩ 1 1 [.slice A5 (pairsX yp yt).length c5] rfl rfl (cell_one_new _ _ _) (one_slice _ _ _) (by unfold maxLen; simp only [List.length_cons]; omega) (by simp only [List.length_cons]; omega) (by omega) ?_)
            intro v' W7 hown7 hgrow7 hv7
            have hst7 := PrePairSt.push HJ.out hnb hwb HST6.out (R' := fun b => R b ∨ (W4.heap.size ≤ b ∧ b < W5.heap.size)) (fun b h => .inl h) (fun b h => h.elim (fun h => HST6.out.rm b h) (fun h => .inl (.inr h))) (fun b hb h => by
              have hgb : g = b := by simpa [Value.ownBlock] using hb
              subst hgb
              rcases h with h | h
              · exact HST6.out.rown g rfl h
              · omega) hgrow7 (by rw [List.append_assoc]; exact hown7) (hv7.imp_right (fun h => h.trans (by simp))) hl5 hc5 HT6.out
            have HST7 := Lib.hid hst7
            clear hst7 hown7 hgrow7 hv7 hs6
            gi_wp2
            gi_roundg (2 * (todoP (pairsX yp yt :: ys :: rs)).length + (pairsX yp yt :: ys :: rs).length)
            case measure => exact HME.out
            case rel => exact ⟨_, _, _, _, _, HST7.out, HPR.out, rfl, by simp only [List.length_append, List.length_cons, List.length_nil]; omega⟩
          · gi_wp2
            refine bodyPost_ret (results_none rfl _ _ _) rfl ?_
            exact ⟨⟨_, rfl⟩, .inr ⟨_, hJx4⟩⟩
end Go.Proofs.YtngbilblddngcaaDoor

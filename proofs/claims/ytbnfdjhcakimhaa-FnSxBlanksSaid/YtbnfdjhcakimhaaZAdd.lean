/- The program's reader: one expression more. -/
import Derived.Test.YtbnfdjhcakimhaaZAddL
import Derived.Deep.CutRange
namespace Go.Proofs.Ytbnfdjhcakimhaa
open Go.RowKit Go.Lib

set_option maxRecDepth 100000 in
set_option maxHeartbeats 4000000 in
theorem addX (G B : Nat) (S : St) (vo : Value) (vs bs bx : List Nat) (vs' : List Value) (x : SX) (v1 : Value) (w : World) (_hvs : vs = bs) (hR : Rdr w G B S vo vs' bs) (hx : OwX w B x (.string x.atom) v1 bx)
    (hnd : (vo.ownBlock.toList ++ bs ++ bx).Nodup) (hin : ∀ b ∈ bx, B ≤ b ∧ b < w.heap.size) (hGx : ∀ b ∈ bx, b ≠ G) (hz : S.z ≤ 900) (ht : S.top.length ≤ 900) (hi : S.ini.length ≤ 14) :
    Calls Try.prog 71 #[.pointer (some ⟨G, 0, none⟩), .agg #[.string x.atom, v1]] w (Added G B S x w) := by
  obtain ⟨i0, hi0, hz0, hz1, hz2⟩ := info_parts infoSx
  have hRne := hR.ne
  obtain ⟨hcells, hrow, hlevs, hn1, hin1⟩ := hR
  obtain ⟨vs0, v, b0, bt, rfl, rfl, hlev0, htop⟩ := hlevs.last
  obtain ⟨ob, cap, rfl⟩ := own_some hrow
  have hvl : vs0.length = S.ini.length := by rw [hlev0.length, List.length_reverse]
  have hvoG : (ob : Nat) ≠ G := hRne ob (by simp [Value.ownBlock])
  have hG : ∀ b ∈ (Value.slice (some ⟨ob, 0, none⟩) (S.ini.length + 1) cap).ownBlock.toList ++ (b0 ++ bt) ++ bx, b ≠ G := fun b hb => by
    rcases List.mem_append.1 hb with h | h
    · exact hRne b h
    · exact hGx b h
  have htop' := htop
  rw [OwX] at htop'
  obtain ⟨-, xs, bt', hownv, -, hbt⟩ := htop'
  have hvB := hownv.lt
  have hob := hrow.lt ob rfl
  have hov : v.ownBlock ≠ some ob := by
    intro e
    rw [hbt, e] at hn1
    simp [Value.ownBlock] at hn1
  have hGv : v.ownBlock ≠ some G := fun e => hRne G (by rw [hbt, e]; simp) rfl
  obtain ⟨Av, cv, rfl⟩ := own_nil hownv
  obtain ⟨A1, c1, -, rfl⟩ := OwX_form hx
  have hGlt := hcells.lt
  have gc0 : w.cell? ⟨G, 0, none⟩ = some (.slice (some ⟨ob, 0, none⟩) (S.ini.length + 1) cap) := by rw [hcells.cell]; rfl
  have gc1 : w.cell? ⟨G, 1, none⟩ = some (.int .i64 S.z) := by rw [hcells.cell]; rfl
  have gf1 : w.frozen? ⟨G, 1, none⟩ = false := hcells.frozen 1
  obtain ⟨w1, hw1⟩ : ∃ w1, w1 = (w.setCell ⟨G, 1, none⟩ (.int .i64 ((S.z : Int) + 1))).alloc (.cells #[.string x.atom, .slice A1 x.list.length c1] 26) := ⟨_, rfl⟩
  have hsz1 : w1.heap.size = w.heap.size + 1 := by rw [hw1]; simp
  have k1 : ∀ b, b < w.heap.size → b ≠ G → w1.heap[b]? = w.heap[b]? := fun b hb hne => by
    rw [hw1, Below.heap_alloc _ _ _ (by simpa using hb)]
    exact Below.heap_setCell _ _ _ _ (by exact hne)
  have cG1 : Whole w1 G 46 #[.slice (some ⟨ob, 0, none⟩) (S.ini.length + 1) cap, .int .i64 ((S.z : Int) + 1)] := by
    have h := keptAlloc' (hcells.set_ 1 (.int .i64 ((S.z : Int) + 1))) (.cells #[.string x.atom, .slice A1 x.list.length c1] 26)
    rw [hw1]
    simpa using h
  have box1 : Whole w1 w.heap.size 26 #[.string x.atom, .slice A1 x.list.length c1] := by
    have h := Whole.new (w.setCell ⟨G, 1, none⟩ (.int .i64 ((S.z : Int) + 1))) 26 #[.string x.atom, .slice A1 x.list.length c1]
    rw [hw1]
    simpa using h
  have row1 := own_same (w' := w1) hrow fun b hb => by
    have : b = ob := by simpa [Value.ownBlock] using hb.symm
    subst this
    exact k1 b hob.2 hvoG
  have own1 := own_same (w' := w1) hownv fun b hb => k1 b (hvB b hb).2 (fun e => hGv (by rw [← e]; exact hb))
  have e0 : w1.cell? ⟨G, 0, none⟩ = some (.slice (some ⟨ob, 0, none⟩) (S.ini.length + 1) cap) := by rw [cG1.cell]; rfl
  have e1 : w1.cell? ⟨G, 1, none⟩ = some (.int .i64 ((S.z : Int) + 1)) := by rw [cG1.cell]; rfl
  have x0 : w1.cell? ⟨w.heap.size, 0, none⟩ = some (.string x.atom) := by rw [box1.cell]; rfl
  have x1 : w1.cell? ⟨w.heap.size, 1, none⟩ = some (.slice A1 x.list.length c1) := by rw [box1.cell]; rfl
  have v0 : w1.cell? ⟨ob, S.ini.length, none⟩ = some (.slice Av S.top.length cv) := by
    rw [World.ownsRow.cellAt row1 _ (by omega), ← hvl]
    simp
  have vf0 : w1.frozen? ⟨ob, S.ini.length, none⟩ = false := row1.frozenAt _
  have hG1 : G < w1.heap.size := by omega
  have hob1 : ob < w1.heap.size := by omega
  have hbx1 : w.heap.size < w1.heap.size := by omega
  have hi0' : (0 : Int) ≤ S.ini.length := by omega
  have hi1' : (S.ini.length : Int) < (S.ini.length : Int) + 1 := by omega
  have hB1 : B ≤ w1.heap.size := by omega
  have HW1 := Lib.hid hw1
  have HS1 := Lib.hid hsz1
  have HK1 := Lib.hid k1
  have HC1 := Lib.hid cG1
  have HR1 := Lib.hid row1
  have HO1 := Lib.hid own1
  have HV := Lib.hid hlev0
  have HT := Lib.hid htop
  have HX := Lib.hid hx
  have HND := Lib.hid hnd
  have HGN := Lib.hid hG
  have HCW := Lib.hid hcells
  have HRW := Lib.hid hrow
  have HOS := Lib.hid (show w1.os = w.os ∧ w1.tape = w.tape ∧ w1.output = w.output by rw [hw1]; exact ⟨rfl, rfl, rfl⟩)
  have HOW := Lib.hid hownv
  have HXL := Lib.hid (show xs.length = S.top.length * 2 from hownv.1)
  have HIN := Lib.hid hin
  have HIN1 := Lib.hid hin1
  have HVB := Lib.hid hvB
  have HVL := Lib.hid hvl
  have HOV := Lib.hid hov
  have HGV := Lib.hid hGv
  clear hRne hG hGx hw1 hsz1 k1 cG1 row1 own1 hlev0 htop hx hnd hin hin1 hvB hvl hov hGv hcells hrow hlevs hn1 hownv hbt box1
  go_enter Try.func71, Try.ntmps71
  go_wp2
  rw [← HW1.out]
  clear gc0 gc1 gf1
  go_region
  · go_upto_if 20 with (fail)
    go_cut [] from 21 to 49 (fun wc => AddMid w G B ob cap S (.slice Av S.top.length cv) vs0 xs x.atom A1 x.list.length c1 wc)
    case first =>
      go_wp2
      go_region_law
        ((refine step_append_lies _ (by rfl) _ _ _ (by rfl) B 26 i0 _ 2 40 Try.underlying24 hi0 hz0 hz1 hz2 rfl (by omega) (.slice Av S.top.length cv) S.top.length xs (by rfl)
              (own_same ((HO1.out.alloc (.cells #[.bool false] 4)).alloc (.cells #[.string x.atom, .slice A1 x.list.length c1] 26)) fun _ _ => rfl) ⟨w1.heap.size + 1, 0, none⟩ 1 1 [.string x.atom, .slice A1 x.list.length c1] (by rfl) (by rfl) (news_at (o := .cells #[.bool false] 4) (t := 26) rfl) (one_pair rfl rfl) (by omega)
              (by unfold maxLen; omega) (by omega) (by simp; omega) (w1.heap.size + 2) (by simp) ?_
          intro g' cap' w7 hown7 hgrow7 hat7 hlt7
          have hg7 : ((w1.alloc (.cells #[.bool false] 4)).alloc (.cells #[.string x.atom, .slice A1 x.list.length c1] 26)).grownBy w7 (Value.slice Av S.top.length cv).ownBlock := ⟨hgrow7.os, hgrow7.tape, hgrow7.output, hgrow7.size, hgrow7.block⟩
          obtain ⟨b1, b2, b3, b4, b5, b6, b7⟩ := behind_append hg7 (keptAlloc' HC1.out _) (HR1.out.alloc _) HVL.out rfl HGV.out HOV.out hown7
          have B1 := Lib.hid b1
          have B2 := Lib.hid b2
          have B7 := Lib.hid hown7
          have BG := Lib.hid hg7
          clear b1 b2 hown7 hg7 hgrow7))
      all_goals go_wp2
      all_goals (
        go_meet
        case rel => exact mid_set HS1.out HK1.out HOS.out BG.out hob hvoG B1.out B2.out HVL.out B7.out hat7 HOV.out HGV.out hGlt)
    case rest =>
      obtain ⟨v', s1, s2, s3, s4, s5, s6, s7, s8, s9⟩ := hcut
      have e1' : wc.cell? ⟨G, 1, none⟩ = some (.int .i64 ((S.z : Int) + 1)) := by rw [s5.cell]; rfl
      have hfin := add_end HCW.out HRW.out HV.out HT.out HX.out HND.out HIN.out HIN1.out HGN.out s1 s2 s3 s4 s5 s6 HOW.out s7 s8 s9
      have HFIN := Lib.hid hfin
      clear hfin s1 s2 s3 s4 s5 s6 s7 s8 s9 e0 e1 x0 x1 v0 vf0
      go_wp2
      go_ret
      exact HFIN.out
  · go_upto_if 20 with (fail)
    go_cut [] from 21 to 49 (fun wc => AddMid w G B ob cap S (.slice Av S.top.length cv) vs0 xs x.atom A1 x.list.length c1 wc)
    case first =>
      go_wp2
      go_region_law
        ((refine step_append_lies _ (by rfl) _ _ _ (by rfl) B 26 i0 _ 2 40 Try.underlying24 hi0 hz0 hz1 hz2 rfl (by omega) (.slice Av S.top.length cv) S.top.length xs (by rfl)
              (own_same ((HO1.out.alloc (.cells #[.bool true] 4)).alloc (.cells #[.string ⟨#[]⟩, .slice none 0 0] 26)) fun _ _ => rfl) ⟨w1.heap.size + 1, 0, none⟩ 1 1 [.string ⟨#[]⟩, .slice none 0 0] (by rfl) (by rfl) (news_at (o := .cells #[.bool true] 4) (t := 26) rfl) (one_pair rfl rfl) (by omega)
              (by unfold maxLen; omega) (by omega) (by simp; omega) (w1.heap.size + 2) (by simp) ?_
          intro g' cap' w7 hown7 hgrow7 hat7 hlt7
          have hg7 : ((w1.alloc (.cells #[.bool true] 4)).alloc (.cells #[.string ⟨#[]⟩, .slice none 0 0] 26)).grownBy w7 (Value.slice Av S.top.length cv).ownBlock := ⟨hgrow7.os, hgrow7.tape, hgrow7.output, hgrow7.size, hgrow7.block⟩
          obtain ⟨b1, b2, b3, b4, b5, b6, b7⟩ := behind_append hg7 (keptAlloc' HC1.out _) (HR1.out.alloc _) HVL.out rfl HGV.out HOV.out hown7
          have B1 := Lib.hid b1
          have B2 := Lib.hid b2
          have B7 := Lib.hid hown7
          have BG := Lib.hid hg7
          have z0 : w7.cell? ⟨g', S.top.length * 2, none⟩ = some (.string ⟨#[]⟩) := by rw [World.ownsRow.cellAt hown7 _ (by omega), List.getElem?_append_right (by have := HXL.out; omega), HXL.out, Nat.sub_self]; rfl
          have z1 : w7.cell? ⟨g', S.top.length * 2 + 1, none⟩ = some (.slice none 0 0) := by rw [World.ownsRow.cellAt hown7 _ (by omega), List.getElem?_append_right (by have := HXL.out; omega), HXL.out, Nat.add_sub_cancel_left]; rfl
          have zf0 : w7.frozen? ⟨g', S.top.length * 2, none⟩ = false := hown7.frozenAt _
          have zf1 : w7.frozen? ⟨g', S.top.length * 2 + 1, none⟩ = false := hown7.frozenAt _
          have zne : ¬ g' = ob := by
            rcases hat7 with h | h
            · rintro rfl; exact HOV.out h
            · omega
          clear b1 b2 hown7 hg7 hgrow7))
      all_goals go_wp2
      all_goals (
        go_meet
        case rel => exact mid_fill HS1.out HK1.out HOS.out BG.out hob hvoG B1.out B2.out HVL.out B7.out HXL.out hat7 HOV.out HGV.out hGlt)
    case rest =>
      obtain ⟨v', s1, s2, s3, s4, s5, s6, s7, s8, s9⟩ := hcut
      have e1' : wc.cell? ⟨G, 1, none⟩ = some (.int .i64 ((S.z : Int) + 1)) := by rw [s5.cell]; rfl
      have hfin := add_end HCW.out HRW.out HV.out HT.out HX.out HND.out HIN.out HIN1.out HGN.out s1 s2 s3 s4 s5 s6 HOW.out s7 s8 s9
      have HFIN := Lib.hid hfin
      clear hfin s1 s2 s3 s4 s5 s6 s7 s8 s9 e0 e1 x0 x1 v0 vf0
      go_wp2
      go_ret
      exact HFIN.out
end Go.Proofs.Ytbnfdjhcakimhaa

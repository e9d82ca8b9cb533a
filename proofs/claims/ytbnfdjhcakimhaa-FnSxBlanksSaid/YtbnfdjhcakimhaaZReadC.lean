/- The reference model's reader: the walk. -/
import Derived.Test.YtbnfdjhcakimhaaZReadG
import Derived.Deep.RegionLaw
namespace Go.Proofs.Ytbnfdjhcakimhaa
open Go.RowKit Go.Lib

set_option maxRecDepth 100000 in
set_option maxHeartbeats 4000000 in
theorem readC_step (N : Nat) (ih : ReadC N) : ReadC (N + 1) := by
  intro n g s k d z w hn hs hk hd hz hf hw
  obtain ⟨m, rfl⟩ : ∃ m, n = m + 1 := ⟨n - 1, by omega⟩
  obtain ⟨i0, hi, hz0, hz1, hz2⟩ := info_parts infoSx
  have hg := Whole.lt hw
  generalize hR : readX (m + 1) (s.data.toList.drop k) d z = R
  rw [readX] at hR
  have HR := Lib.hid hR
  clear hR
  have hw1 : Cells (w.alloc (.cells #[.string ByteArray.empty, .slice none 0 0] 26)) g s k d z false := Whole.below hw ((Below.refl w.heap.size w).alloc (Nat.le_refl _) _) hg
  have HW := Lib.hid hw1
  clear hw1
  go_enter Try.func52, Try.ntmps52
  go_wp2_with fail
  refine (skipX g s k d z false _ hs hk HW.out).mono ?_
  rintro e w1 ⟨rfl, ⟨k1, hk1, hk1s, hsk, hc⟩, hb1⟩
  obtain ⟨c0, c1, c2, c3, c4⟩ := hc.at_
  have f3 : w1.frozen? ⟨g, 3, none⟩ = false := Whole.frozen hc 3
  have hr : Whole w1 w.heap.size 26 #[.string ByteArray.empty, .slice none 0 0] := (hb1.block w.heap.size (by simp) (by omega)).trans (Whole.new w _ _)
  rw [← hsk] at HR
  change Hid (ask m (s.data.toList.drop k1) d z = R) at HR
  go_wp2
  have hb2 : But g w (w1.setCell ⟨g, 3, none⟩ (.int .i64 ((z : Int) + 1))) := hb1.under.trans (But.set_ g w1 3 _)
  have hr2 := hr.but (But.set_ g w1 3 (.int .i64 ((z : Int) + 1))) (by omega)
  have hc2 := hc.set3 ((z : Int) + 1)
  clear hc hr hb1 c0 c1 c2 c3 c4 f3
  generalize w1.setCell ⟨g, 3, none⟩ (.int .i64 ((z : Int) + 1)) = w2 at *
  obtain ⟨c0, c1, c2, c3, c4⟩ := hc2.at_
  have f4 : w2.frozen? ⟨g, 4, none⟩ = false := Whole.frozen hc2 4
  have r0 : w2.cell? ⟨w.heap.size, 0, none⟩ = some (.string ByteArray.empty) := by rw [hr2.cell]; rfl
  have r1 : w2.cell? ⟨w.heap.size, 1, none⟩ = some (.slice none 0 0) := by rw [hr2.cell]; rfl
  have rf0 : w2.frozen? ⟨w.heap.size, 0, none⟩ = false := hr2.frozen 0
  have rf1 : w2.frozen? ⟨w.heap.size, 1, none⟩ = false := hr2.frozen 1
  by_cases hlt : k1 < s.size
  · by_cases hz9 : 900 < z + 1
    · have hRn : R = none := by rw [← HR.out, ask, if_pos (.inr hz9)]
      have HRN := Lib.hid hRn
      have hz8 : z = 900 := by omega
      subst hz8
      clear hRn hz9
      go_quiet (fail)
      go_wp2
      exact giveNone rfl rfl hg hb2 hr2 hc2 hk1s HRN.out
    · have hz7 : z + 1 ≤ 900 := by omega
      go_quiet (fail)
      go_wp2
      have hb3 := hb2.drewN_s nq
      have hr3 := hr2.drewN_ nq
      have hc3 := hc2.drewN nq
      clear hb2 hr2 hc2 c0 c1 c2 c3 c4 f4 r0 r1 rf0 rf1
      generalize w2.drewN nq = w3 at *
      go_loopw [] (fun wr => ∃ j : Nat, k1 ≤ j ∧ j ≤ s.size ∧ (s.data.toList.drop j).dropWhile okByte = (s.data.toList.drop k1).dropWhile okByte ∧ Cells wr g s j d ((z : Int) + 1) false ∧ But g w3 wr) (fun wr => s.size - numAt wr g 1)
      case atStart => exact ⟨k1, Nat.le_refl _, hk1s, rfl, hc3, But.refl g w3⟩
      case round =>
        obtain ⟨j, hkj, hj, he, hc, hb⟩ := hrel
        obtain ⟨c0, c1, c2, c3, c4⟩ := hc.at_
        have hj0 : (0 : Int) ≤ j := by omega
        have f1 : wr.frozen? ⟨g, 1, none⟩ = false := Whole.frozen hc 1
        by_cases hlt2 : j < s.size
        · have hdj := drop_step s j hlt2
          cases hok : okByte s[j] with
          | true =>
            have hn : (s.data.toList.drop (j + 1)).dropWhile okByte = (s.data.toList.drop k1).dropWhile okByte := by rw [← he, hdj, List.dropWhile_cons, if_pos hok]
            have HN := Lib.hid hn
            have HO := Lib.hid hok
            have cB := byteQ HO.out wr
            clear hn he hdj hok
            go_wp2
            go_quiet (exact cB _)
            clear cB
            go_wp2
            go_roundw
            case rel => exact ⟨j + 1, by omega, by omega, HN.out, (hc.drewN _).set1 (j + 1), (hb.drewN_s _).trans (But.set_ g _ 1 _)⟩
            case measure =>
              rw [hc.num]; refine Nat.lt_of_le_of_lt (Nat.le_of_eq (congrArg (s.size - ·) (Cells.num ((hc.drewN _).set1 (j + 1))))) ?_; omega
          | false =>
            have hn : s.data.toList.drop j = (s.data.toList.drop k1).dropWhile okByte := by rw [← he, hdj, List.dropWhile_cons, if_neg (by rw [hok]; decide)]
            have HN := Lib.hid hn
            have HO := Lib.hid hok
            have cB := byteQ HO.out wr
            clear hn he hdj hok
            by_cases hw0 : k1 < j
            · go_wp2
              go_quiet (exact cB _)
              clear cB
              go_wp2
              have hrW := hr3.but hb (by omega)
              have r0 : wr.cell? ⟨w.heap.size, 0, none⟩ = some (.string ByteArray.empty) := by rw [hrW.cell]; rfl
              have r1 : wr.cell? ⟨w.heap.size, 1, none⟩ = some (.slice none 0 0) := by rw [hrW.cell]; rfl
              have rf0 : wr.frozen? ⟨w.heap.size, 0, none⟩ = false := hrW.frozen 0
              have rf1 : wr.frozen? ⟨w.heap.size, 1, none⟩ = false := hrW.frozen 1
              have hk0 : (0 : Int) ≤ k1 := by omega
              have hkj' : (k1 : Int) ≤ j := by omega
              have hjs : (j : Int) ≤ s.size := by omega
              go_region_held3 (fun w' => w'.cell? ⟨g, 0, none⟩ = some (.string s) ∧ w'.cell? ⟨g, 1, none⟩ = some (.int .i64 j))
                (first
                  | go_keep
                  | exact ⟨(cell_far (by show w.heap.size ≠ g; omega)).trans ((cell_far (by show w.heap.size ≠ g; omega)).trans c0), (cell_far (by show w.heap.size ≠ g; omega)).trans ((cell_far (by show w.heap.size ≠ g; omega)).trans c1)⟩) (fail)
              all_goals go_wp2
              exact giveWord rfl rfl hg (hb3.trans hb) hrW hc hj hz7 (HR.out.symm.trans (ask_word hz7 hw0 hj HN.out))
            · have hjk : j = k1 := by omega
              subst hjk
              have hRs := HR.out.symm.trans (ask_sign hz7 hlt2 HO.out)
              have hrW := hr3.but hb (by omega)
              have r0 : wr.cell? ⟨w.heap.size, 0, none⟩ = some (.string ByteArray.empty) := by rw [hrW.cell]; rfl
              have r1 : wr.cell? ⟨w.heap.size, 1, none⟩ = some (.slice none 0 0) := by rw [hrW.cell]; rfl
              have rf0 : wr.frozen? ⟨w.heap.size, 0, none⟩ = false := hrW.frozen 0
              have rf1 : wr.frozen? ⟨w.heap.size, 1, none⟩ = false := hrW.frozen 1
              have f2 : wr.frozen? ⟨g, 2, none⟩ = false := Whole.frozen hc 2
              have f4 : wr.frozen? ⟨g, 4, none⟩ = false := Whole.frozen hc 4
              by_cases h40 : s[j] = 40
              · have q40 : ((s[j].toNat : Int) != 40) = false := by rw [h40]; rfl
                by_cases h14 : d = 14
                · rw [if_pos (.inr h14)] at hRs
                  have HRN := Lib.hid hRs
                  subst h14
                  clear hRs h40 HR
                  go_wp2
                  go_quiet (exact cB _)
                  clear cB
                  go_wp2
                  go_quiet (fail)
                  go_wp2
                  exact giveNone rfl rfl hg (hb3.trans hb) hrW hc hj HRN.out
                · rw [if_neg (by rintro (h | h); exact h h40; exact h14 h)] at hRs
                  have q14 : ((d : Int) == 14) = false := by rw [beq_eq_false_iff_ne]; omega
                  have HRS := Lib.hid hRs
                  clear hRs h40 HR
                  go_wp2
                  go_quiet (exact cB _)
                  clear cB
                  go_wp2
                  go_quiet (fail)
                  go_wp2
                  have hX := hrW.lt
                  have hgs := fun n => goingStart (d := d) (N := N) (n := n) hg (hb3.trans hb) hrW hc hlt2 hz7 (show m ≤ N by omega) (show 2 * (s.data.toList.drop (j + 1)).length + 2 ≤ m by rw [drop_len] at *; omega) HRS.out.symm
                  have HGS := Lib.hid hgs
                  clear hgs hc hrW hb c0 c1 c2 c3 c4 f1 f2 f4 r0 r1 rf0 rf1 HN HO HRS
                  generalize hXd : wr.heap.size = X at hX HGS ⊢
                  have hdj : decide (s.size ≤ j) = false := by simp; omega
                  simp only [hdj, Bool.false_or]
                  go_loopw [] (fun wr' => Going g s d N X w R wr') (fun wr' => stillAt wr' g s)
                  case atStart => exact HGS.out _
                  case round =>
                    obtain ⟨V, acc, vs, k2, hk2, hal, hx, hown, he, hrr, hbb, hcase⟩ := hrel
                    obtain ⟨A0, cap0, rfl⟩ := own_shape hown
                    rcases hcase with ⟨m2, z2, hm2, hmN, hz2', haz, hcc, hRL⟩ | ⟨hRn, d', z', hcc⟩
                    · obtain ⟨m3, rfl⟩ : ∃ m3, m2 = m3 + 1 := ⟨m2 - 1, by omega⟩
                      obtain ⟨c0, c1, c2, c3, c4⟩ := hcc.at_
                      go_wp2_with fail
                      refine (skipX g s k2 _ _ false _ hs hk2 hcc).mono ?_
                      rintro e w5 ⟨rfl, ⟨k3, hk3, hk3s, hsk3, hc5⟩, hb5⟩
                      have hst : stillAt wr g s = s.size + 1 - k2 := by rw [stillAt, hcc.at_.2.2.2.2, hcc.num]
                      have hx5 := hx.but hb5 (by omega)
                      have hr5 := hrr.but hb5 (by omega)
                      have hown5 := own_but hown hb5 (by omega)
                      have he5 := elems_but he hb5 (by omega)
                      have hbb5 := hbb.trans hb5
                      clear hx hrr hown he hbb hb5 hcc c0 c1 c2 c3 c4
                      obtain ⟨c0, c1, c2, c3, c4⟩ := hc5.at_
                      have f1 : w5.frozen? ⟨g, 1, none⟩ = false := Whole.frozen hc5 1
                      have f2 : w5.frozen? ⟨g, 2, none⟩ = false := Whole.frozen hc5 2
                      have x0 : w5.cell? ⟨X, 0, none⟩ = some (.string ⟨#[]⟩) := by rw [hx5.cell]; rfl
                      have x1 : w5.cell? ⟨X, 1, none⟩ = some (.slice A0 acc.length cap0) := by rw [hx5.cell]; rfl
                      have xf1 : w5.frozen? ⟨X, 1, none⟩ = false := hx5.frozen 1
                      have r0 : w5.cell? ⟨w.heap.size, 0, none⟩ = some (.string ByteArray.empty) := by rw [hr5.cell]; rfl
                      have r1 : w5.cell? ⟨w.heap.size, 1, none⟩ = some (.slice none 0 0) := by rw [hr5.cell]; rfl
                      have rf0 : w5.frozen? ⟨w.heap.size, 0, none⟩ = false := hr5.frozen 0
                      have rf1 : w5.frozen? ⟨w.heap.size, 1, none⟩ = false := hr5.frozen 1
                      have hk30 : (0 : Int) ≤ k3 := by omega
                      by_cases hcl : k3 < s.size ∧ s.data.toList.drop k3 ≠ [] ∧ (s.data.toList.drop k3).head? = some 41
                      · obtain ⟨hlt3, -, h41⟩ := hcl
                        rw [drop_step s k3 hlt3] at h41
                        injection h41 with h41
                        have q41 : ((s[k3].toNat : Int) == 41) = true := by rw [h41]; rfl
                        have hRd := hRL.symm.trans (ask_close hlt3 h41 hsk3)
                        have HRD := Lib.hid hRd
                        clear hRd hRL h41
                        go_wp2
                        go_quiet (fail)
                        go_wp2
                        exact goingDone rfl rfl hg hX hlt3 hz2' hown5 he5 hr5 hbb5 HRD.out hc5
                      · have hnot : (s.data.toList.drop k3).head? ≠ some 41 := fun e => by
                          rcases Nat.lt_or_ge k3 s.size with h | h
                          · exact hcl ⟨h, fun e0 => by (rw [e0] at e; cases e), e⟩
                          · rw [drop_done s h] at e; cases e
                        have hRm := (ask_more (m := m3) (d := d + 1) (z := z2) (acc := acc) hnot hsk3).symm.trans hRL
                        have hf3 : 2 * (s.data.toList.drop k3).length + 1 ≤ m3 := by rw [drop_len] at *; omega
                        have hd1 : d + 1 ≤ 14 := by omega
                        have HM := Lib.hid hRm
                        by_cases hlt3 : k3 < s.size
                        · have q41 : ((s[k3].toNat : Int) == 41) = false := by
                            rw [beq_eq_false_iff_ne]; intro e
                            refine hnot ?_
                            rw [drop_step s k3 hlt3, UInt8.toNat_inj.1 (show s[k3].toNat = (41 : UInt8).toNat by have e2 : (41 : UInt8).toNat = 41 := rfl; omega)]
                            rfl
                          clear hRm hRL hnot hcl
                          go_wp2
                          go_quiet (fail)
                          go_wp2
                          go_region_law
                            (first
                              | (refine step_append_lies _ (by rfl) _ _ _ (by rfl) (X + 1) 26 i0 _ 2 40 Try.underlying24 hi hz0 hz1 hz2 rfl (by omega) (.slice A0 acc.length cap0) acc.length vs (by rfl) (hown6.alloc _)
                                   ⟨w6.heap.size, 0, none⟩ 1 1 [.string y.atom, .slice A y.list.length c] (by rfl) (by rfl) (news_sx w6 _ _ _) (one_sx _ _ _ _) (by omega) (by unfold maxLen; omega) (by omega) (by simp; omega) (w6.heap.size + 1) (by simp) ?_
                                 intro g' cap' w7 hown7 hgrow7 hat7 hlt7
                                 obtain ⟨x7, xf7⟩ := behind2 x6 xf6 hown6 hX6 hgrow7)
                              | (go_simp
                                 go_at_call 52
                                 refine (ih m3 g s k3 (d + 1) z2 _ (by omega) hs hk3s hd1 hz2' hf3 (Cells.drewN hc5 _)).mono ?_
                                 intro e w6 hgv
                                 obtain ⟨y, A, c, rfl, x6, xf6, hown6, hX6, hb6, hl6, ha6⟩ := behind (by omega) hx5 hown5 hgv))
                          all_goals go_wp2
                          all_goals (
                            have hGM := goingMore (N := N) (m := m3) hg hX (by omega) hk3s hx5 hown5 he5 hr5 hbb5 hf3 (by omega) hz2' haz HM.out hb6 hl6 ha6 hgrow7 hown7 hat7 (Nat.lt_succ_self _)
                            go_roundw
                            case rel => exact hGM.1
                            case measure => rw [hst]; exact hGM.2 k2 hk3)
                        · have hks : k3 = s.size := by omega
                          clear hRm hRL hnot hcl
                          go_wp2
                          go_quiet (fail)
                          go_wp2
                          go_region_law
                            (first
                              | (refine step_append_lies _ (by rfl) _ _ _ (by rfl) (X + 1) 26 i0 _ 2 40 Try.underlying24 hi hz0 hz1 hz2 rfl (by omega) (.slice A0 acc.length cap0) acc.length vs (by rfl) (hown6.alloc _)
                                   ⟨w6.heap.size, 0, none⟩ 1 1 [.string y.atom, .slice A y.list.length c] (by rfl) (by rfl) (news_sx w6 _ _ _) (one_sx _ _ _ _) (by omega) (by unfold maxLen; omega) (by omega) (by simp; omega) (w6.heap.size + 1) (by simp) ?_
                                 intro g' cap' w7 hown7 hgrow7 hat7 hlt7
                                 obtain ⟨x7, xf7⟩ := behind2 x6 xf6 hown6 hX6 hgrow7)
                              | (go_simp
                                 go_at_call 52
                                 refine (ih m3 g s k3 (d + 1) z2 _ (by omega) hs hk3s hd1 hz2' hf3 (Cells.drewN hc5 _)).mono ?_
                                 intro e w6 hgv
                                 obtain ⟨y, A, c, rfl, x6, xf6, hown6, hX6, hb6, hl6, ha6⟩ := behind (by omega) hx5 hown5 hgv))
                          all_goals go_wp2
                          all_goals (
                            have hGM := goingMore (N := N) (m := m3) hg hX (by omega) hk3s hx5 hown5 he5 hr5 hbb5 hf3 (by omega) hz2' haz HM.out hb6 hl6 ha6 hgrow7 hown7 hat7 (Nat.lt_succ_self _)
                            go_roundw
                            case rel => exact hGM.1
                            case measure => rw [hst]; exact hGM.2 k2 hk3)
                    · obtain ⟨c0, c1, c2, c3, c4⟩ := hcc.at_
                      have x0 : wr.cell? ⟨X, 0, none⟩ = some (.string ⟨#[]⟩) := by rw [hx.cell]; rfl
                      have x1 : wr.cell? ⟨X, 1, none⟩ = some (.slice A0 acc.length cap0) := by rw [hx.cell]; rfl
                      have r0 : wr.cell? ⟨w.heap.size, 0, none⟩ = some (.string ByteArray.empty) := by rw [hrr.cell]; rfl
                      have r1 : wr.cell? ⟨w.heap.size, 1, none⟩ = some (.slice none 0 0) := by rw [hrr.cell]; rfl
                      have rf0 : wr.frozen? ⟨w.heap.size, 0, none⟩ = false := hrr.frozen 0
                      have rf1 : wr.frozen? ⟨w.heap.size, 1, none⟩ = false := hrr.frozen 1
                      go_wp2
                      exact goingBad rfl rfl hg hX hk2 hown he hrr hbb hRn hcc
              · have q40 : ((s[j].toNat : Int) != 40) = true := by
                  rw [bne_iff_ne]; intro e
                  exact h40 (UInt8.toNat_inj.1 (by have e2 : (40 : UInt8).toNat = 40 := rfl; omega))
                rw [if_pos (.inl h40)] at hRs
                have HRN := Lib.hid hRs
                clear hRs h40 HR
                go_wp2
                go_quiet (exact cB _)
                clear cB
                go_wp2
                go_quiet (fail)
                go_wp2
                exact giveNone rfl rfl hg (hb3.trans hb) hrW hc hj HRN.out
        · have hn : s.data.toList.drop j = (s.data.toList.drop k1).dropWhile okByte := by rw [← he, drop_done s (by omega)]; rfl
          have HN := Lib.hid hn
          clear hn he
          have hw0 : k1 < j := by omega
          have hrW := hr3.but hb (by omega)
          have r0 : wr.cell? ⟨w.heap.size, 0, none⟩ = some (.string ByteArray.empty) := by rw [hrW.cell]; rfl
          have r1 : wr.cell? ⟨w.heap.size, 1, none⟩ = some (.slice none 0 0) := by rw [hrW.cell]; rfl
          have rf0 : wr.frozen? ⟨w.heap.size, 0, none⟩ = false := hrW.frozen 0
          have rf1 : wr.frozen? ⟨w.heap.size, 1, none⟩ = false := hrW.frozen 1
          have hk0 : (0 : Int) ≤ k1 := by omega
          have hkj' : (k1 : Int) ≤ j := by omega
          have hjs : (j : Int) ≤ s.size := by omega
          go_wp2
          go_quiet (fail)
          go_wp2
          go_region_held3 (fun w' => w'.cell? ⟨g, 0, none⟩ = some (.string s) ∧ w'.cell? ⟨g, 1, none⟩ = some (.int .i64 j))
            (first
              | go_keep
              | exact ⟨(cell_far (by show w.heap.size ≠ g; omega)).trans ((cell_far (by show w.heap.size ≠ g; omega)).trans c0), (cell_far (by show w.heap.size ≠ g; omega)).trans ((cell_far (by show w.heap.size ≠ g; omega)).trans c1)⟩) (fail)
          all_goals go_wp2
          exact giveWord rfl rfl hg (hb3.trans hb) hrW hc hj hz7 (HR.out.symm.trans (ask_word hz7 hw0 hj HN.out))
  · have hks : k1 = s.size := by omega
    subst hks
    have hRn : R = none := by rw [← HR.out, ask, if_pos (.inl (drop_done s (Nat.le_refl _)))]
    have HRN := Lib.hid hRn
    clear hRn
    go_quiet (fail)
    go_wp2
    exact giveNone rfl rfl hg hb2 hr2 hc2 (Nat.le_refl _) HRN.out
theorem readC : ∀ N, ReadC N
  | 0 => fun n g s k d z w hn _ _ _ _ hf => by omega
  | N + 1 => readC_step N (readC N)
end Go.Proofs.Ytbnfdjhcakimhaa

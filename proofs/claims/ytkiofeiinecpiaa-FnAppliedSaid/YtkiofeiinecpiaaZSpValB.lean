/- The reference model's IsValidSubstitution. -/
import Derived.Test.YtkiofeiinecpiaaZValidBI
import Derived.Test.YtkiofeiinecpiaaQ2
namespace Go.Proofs.Ytkiofeiinecpiaa
open Go.RowKit Go.Lib

set_option maxRecDepth 100000 in
set_option maxHeartbeats 4000000 in
theorem specValidB (l : List BindingX) (A : Option Addr) (c : Nat) (w : World) (hok : DV.okE (BindingX.rows l)) (hA : BindingRow w (Und w.heap.size) A c l) :
    Calls Try.prog 45 #[.slice A l.length c] w fun e w' => e = .returned (.bool (okBs l)) ∧ Below w.heap.size w w' := by
  have hcap := hA.cap
  have HA := Lib.hid hA
  have HOK := Lib.hid hok
  clear hA hok
  go_enter Try.func45, Try.ntmps45
  go_wp2
  go_loopw [3] (fun iv wr => ∃ k : Nat, k ≤ l.length ∧ iv = .int .i64 k ∧ (∀ j (h : j < l.length), j < k → l[j].good = true ∧ lookX l[j].var_ (l.take j) = none) ∧ Below w.heap.size w wr) (fun iv _ => l.length - (Go.RowKit.intOf iv).toNat)
  case atStart => exact ⟨0, Nat.zero_le _, rfl, fun j _ h => by omega, Below.refl _ _⟩
  case round =>
    obtain ⟨k, hk, rfl, hn, hb⟩ := hrel
    by_cases hlt : k < l.length
    · obtain ⟨b, o, A3, c3, rfl, hP, p0, p1, p2, p3, h3⟩ := (HA.out.grow hb).at_ hlt
      obtain ⟨hs1, hs2⟩ := ok_binding HOK.out hlt
      have hP2 : b < wr.heap.size := hP
      have HN := Lib.hid hn
      have H3 := Lib.hid h3
      have HS2 := Lib.hid hs2
      clear hn h3 hs2
      go_wp2_with fail
      refine (specName _ _ hs1).mono ?_
      rintro e w2 ⟨rfl, hb2⟩
      have hb3 := hb.trans (hb2.mono hb.size)
      have x1 := (hb2.cell (p := ⟨b, o + k * 4 + 1, none⟩) hP2).trans p1
      have x2 := (hb2.cell (p := ⟨b, o + k * 4 + 2, none⟩) hP2).trans p2
      have x3 := (hb2.cell (p := ⟨b, o + k * 4 + 3, none⟩) hP2).trans p3
      have HT := Lib.hid (H3.out.grow hb2)
      clear hb2 p0 p1 p2 p3
      cases hnm : okName l[k].var_ with
      | false =>
        have hg : l[k].good = false := by rw [BindingX.good, hnm]; rfl
        have HF := Lib.hid (okBs_bad hlt hg)
        clear hnm hg
        go_wp2
        go_ret
        exact ⟨congrArg (fun b => Ending.returned (.bool b)) HF.out.symm, hb3⟩
      | true =>
        have hg : l[k].good = l[k].type_.valid := by rw [BindingX.good, hnm, Bool.true_and]
        have HG := Lib.hid hg
        clear hnm hg
        go_wp2_with fail
        refine (specValidTy l[k].type_ _ _ HS2.out ⟨_, _, rfl, HT.out⟩).mono ?_
        rintro e w3 ⟨rfl, hb4⟩
        have hb5 := hb3.trans (hb4.mono hb3.size)
        clear hb4 x1 x2 x3 hb3
        cases hv : l[k].type_.valid with
        | false =>
          have hg := HG.out
          rw [hv] at hg
          have HF := Lib.hid (okBs_bad hlt hg)
          clear hv hg
          go_wp2
          go_ret
          exact ⟨congrArg (fun b => Ending.returned (.bool b)) HF.out.symm, hb5⟩
        | true =>
          have hg := HG.out
          rw [hv] at hg
          have HGG := Lib.hid hg
          clear hv hg
          go_wp2
          go_loopw [4] (fun qv wi => ∃ q : Nat, q ≤ k ∧ qv = .int .i64 q ∧ (∀ j (h : j < l.length), j < q → l[j].var_ ≠ l[k].var_) ∧ Below w.heap.size w wi) (fun qv _ => k - (Go.RowKit.intOf qv).toNat)
          case atStart => exact ⟨0, Nat.zero_le _, rfl, fun j _ h => by omega, hb5⟩
          case round =>
            obtain ⟨q, hq, rfl, hd, hbi⟩ := hrel
            by_cases hqk : q < k
            · have hql : q < l.length := by omega
              obtain ⟨b1, o1, _, _, e1, hP1, y0, -, -, -, -⟩ := (HA.out.grow hbi).at_ hql
              obtain ⟨b2, o2, _, _, e2, hP2', z0, -, -, -, -⟩ := (HA.out.grow hbi).at_ hlt
              injection e1 with e1
              injection e1 with e1 e1'
              injection e2 with e2
              injection e2 with e2 e2'
              subst e1 e1' e2 e2'
              have hk0 : (0 : Int) ≤ (k : Int) := Int.natCast_nonneg _
              have hq0 : (0 : Int) ≤ (q : Int) := Int.natCast_nonneg _
              have hk1 : (k : Int) < (l.length : Int) := by omega
              have hq1 : (q : Int) < (l.length : Int) := by omega
              have ky := cell_regrown y0
              have kz := cell_regrown z0
              by_cases he : l[q].var_ = l[k].var_
              · have he1 : (l[q].var_.toList == l[k].var_.toList) = true := by rw [he]; simp
                have hsome : (lookX l[k].var_ (l.take k)).isSome = true := (look_mem _).2 ⟨l[q], by rw [List.mem_take_iff_getElem]; exact ⟨q, by omega, rfl⟩, he⟩
                have HF := Lib.hid (okBs_twice hlt hsome)
                clear he hsome hd
                go_wp2
                refine wp_region_quiet_below (by kernel_rfl) (by kernel_rfl) ?_
                repeat (quiet_step (fail))
                refine wpQuiet_nil ?_
                intro _ hw'
                obtain ⟨⟨dq, osq⟩, hw''⟩ := hw'
                subst hw''
                have hb3 := hbi.trans ((below_regrown wr dq osq).mono hbi.size)
                clear ky kz he1
                go_wp2
                go_ret
                exact ⟨congrArg (fun b => Ending.returned (.bool b)) HF.out.symm, hb3⟩
              · have he1 : (l[q].var_.toList == l[k].var_.toList) = false := text_ne he
                have HDD := Lib.hid (show ∀ j (h : j < l.length), j < q + 1 → l[j].var_ ≠ l[k].var_ from fun j h hj => by
                  by_cases e : j = q
                  · subst e; exact he
                  · exact hd j h (by omega))
                clear he hd
                go_wp2
                refine wp_region_quiet_below (by kernel_rfl) (by kernel_rfl) ?_
                repeat (quiet_step (fail))
                refine wpQuiet_nil ?_
                intro _ hw'
                obtain ⟨⟨dq, osq⟩, hw''⟩ := hw'
                subst hw''
                have hb3 := hbi.trans ((below_regrown wr dq osq).mono hbi.size)
                clear ky kz he1
                go_wp2
                go_roundw
                case rel => exact ⟨q + 1, by omega, by go_num, HDD.out, hb3⟩
                case measure => simp [Go.RowKit.intOf]; omega
            · obtain rfl : q = k := by omega
              have hnone : lookX l[q].var_ (l.take q) = none := by
                cases hl : lookX l[q].var_ (l.take q) with
                | none => rfl
                | some y =>
                  obtain ⟨b', hb', e⟩ := (look_mem (v := l[q].var_) (l.take q)).1 (by rw [hl]; rfl)
                  obtain ⟨j, hj, rfl⟩ := List.mem_take_iff_getElem.1 hb'
                  exact absurd e (hd j (by omega) (by omega))
              have HN2 := Lib.hid (show ∀ j (h : j < l.length), j < q + 1 → l[j].good = true ∧ lookX l[j].var_ (l.take j) = none from fun j h hj => by
                by_cases e : j = q
                · subst e; exact ⟨HGG.out, hnone⟩
                · exact HN.out j h (by omega))
              clear hd hnone
              go_wp2
              go_roundw
              case rel => exact ⟨q + 1, by omega, by go_num, HN2.out, hbi⟩
              case measure => simp [Go.RowKit.intOf]; omega
    · obtain rfl : k = l.length := by omega
      have HQ := Lib.hid (okBs_yes (fun j h => (hn j h h).1) (fun j h => (hn j h h).2))
      clear hn
      go_wp2
      go_ret
      exact ⟨congrArg (fun b => Ending.returned (.bool b)) HQ.out.symm, hb⟩
end Go.Proofs.Ytkiofeiinecpiaa

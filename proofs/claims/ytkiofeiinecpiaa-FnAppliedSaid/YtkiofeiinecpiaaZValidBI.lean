/- The program's IsValidSubstitution. -/
import Derived.Test.YtkiofeiinecpiaaZCopyI
import Derived.Test.YtkiofeiinecpiaaZOkB
import Derived.Test.YtkiofeiinecpiaaQ2
import Derived.Test.YtkiofeiinecpiaaZTyValidI
namespace Go.Proofs.Ytkiofeiinecpiaa
open Go.RowKit Go.Lib

theorem ok_binding {l : List BindingX} {k : Nat} (h : DV.okE (BindingX.rows l)) (hk : k < l.length) : l[k].var_.size ≤ 9223372036854775807 ∧ DV.okL l[k].type_.cells := by
  have h1 := okVE_at _ h k (by rw [BindingX.rows_length]; exact hk)
  rw [BindingX.rows_at l k hk, BindingX.cells_eq] at h1
  simp only [DV.okL, DV.ok, uok] at h1
  obtain ⟨h2, h3, h4, h5, _⟩ := h1
  refine ⟨h2, ?_⟩
  rw [TypeX.cells_eq]
  simp only [DV.okL, DV.ok, uok]
  exact ⟨h3, h4, h5, trivial⟩

set_option maxRecDepth 100000 in
set_option maxHeartbeats 4000000 in
theorem implValidB (l : List BindingX) (A : Option Addr) (c : Nat) (w : World) (hok : DV.okE (BindingX.rows l)) (hl : ∀ b ∈ l, b.type_.size ≤ 4294967296) (hA : BindingRow w (Und w.heap.size) A c l) :
    Calls Try.prog 44 #[.slice A l.length c] w fun e w' => e = .returned (.bool (okBs l)) ∧ Below w.heap.size w w' := by
  have hcap := hA.cap
  have HA := Lib.hid hA
  have HL := Lib.hid hl
  have HOK := Lib.hid hok
  clear hA hl hok
  go_enter Try.func44, Try.ntmps44
  go_wp2
  go_loopw [7] (fun iv wr => ∃ k : Nat, k ≤ l.length ∧ iv = .int .i64 k ∧ (∀ j (h : j < l.length), j < k → l[j].good = true) ∧ Below w.heap.size w wr) (fun iv _ => l.length - (Go.RowKit.intOf iv).toNat)
  case atStart => exact ⟨0, Nat.zero_le _, rfl, fun j _ h => by omega, Below.refl _ _⟩
  case round =>
    obtain ⟨k, hk, rfl, hn, hb⟩ := hrel
    by_cases hlt : k < l.length
    · obtain ⟨b, o, A3, c3, rfl, hP, p0, p1, p2, p3, h3⟩ := (HA.out.grow hb).at_ hlt
      have hbx : Below wr.heap.size wr (wr.alloc (.cells #[.string l[k].var_, .int .i64 l[k].type_.kind_, .string l[k].type_.name_, .slice A3 l[k].type_.args_.length c3] 77)) := (Below.refl _ _).alloc (Nat.le_refl _) _
      have hbw := hb.trans (hbx.mono hb.size)
      obtain ⟨hs1, hs2⟩ := ok_binding HOK.out hlt
      have hbox := Whole.new wr 77 #[.string l[k].var_, .int .i64 l[k].type_.kind_, .string l[k].type_.name_, .slice A3 l[k].type_.args_.length c3]
      have HBOX := Lib.hid hbox
      have HN := Lib.hid hn
      have H3 := Lib.hid (h3.grow hbx)
      have HS2 := Lib.hid hs2
      clear hn h3 hbx hbox hs2
      go_wp2_with fail
      refine (implName _ _ hs1).mono ?_
      rintro e w2 ⟨rfl, hb2⟩
      have hb3 := hbw.trans (hb2.mono hbw.size)
      have h2 := HBOX.out.below hb2 HBOX.out.lt
      obtain ⟨x1, x2, x3⟩ : w2.cell? ⟨wr.heap.size, 1, none⟩ = some (.int .i64 l[k].type_.kind_) ∧ w2.cell? ⟨wr.heap.size, 2, none⟩ = some (.string l[k].type_.name_) ∧ w2.cell? ⟨wr.heap.size, 3, none⟩ = some (.slice A3 l[k].type_.args_.length c3) := ⟨by rw [h2.cell]; rfl, by rw [h2.cell]; rfl, by rw [h2.cell]; rfl⟩
      have HT := Lib.hid (H3.out.grow hb2)
      clear h2 hb2 p0 p1 p2 p3 hbw
      cases hnm : okName l[k].var_ with
      | false =>
        have hg : l[k].good = false := by rw [BindingX.good, hnm]; rfl
        have HF := Lib.hid (okBs_bad hlt hg)
        clear hnm hg
        go_wp2
        go_ret
        exact ⟨congrArg (fun b => Ending.returned (.bool b)) HF.out.symm, hb3⟩
      | true =>
        have hg : l[k].good = l[k].type_.valid := by rw [BindingX.good, hnm, Bool.true_and]
        have HG := Lib.hid hg
        clear hnm hg
        go_wp2_with fail
        refine (implTyValidI l[k].type_ _ _ HS2.out (HL.out _ (List.getElem_mem hlt)) ⟨_, _, rfl, HT.out⟩).mono ?_
        rintro e w3 ⟨rfl, hb4⟩
        have hb5 := hb3.trans (hb4.mono hb3.size)
        clear hb4 x1 x2 x3
        cases hv : l[k].type_.valid with
        | false =>
          have hg := HG.out
          rw [hv] at hg
          have HF := Lib.hid (okBs_bad hlt hg)
          clear hv hg
          go_wp2
          go_ret
          exact ⟨congrArg (fun b => Ending.returned (.bool b)) HF.out.symm, hb5⟩
        | true =>
          have hg := HG.out
          rw [hv] at hg
          have HN2 := Lib.hid (show ∀ j (h : j < l.length), j < k + 1 → l[j].good = true from fun j h hj => by
            by_cases e : j = k
            · subst e; exact hg
            · exact HN.out j h (by omega))
          clear hv hg
          go_wp2
          go_roundw
          case rel => exact ⟨k + 1, by omega, by go_num, HN2.out, hb5⟩
          case measure => simp [Go.RowKit.intOf]; omega
    · obtain rfl : k = l.length := by omega
      have HQ := Lib.hid (okBs_all fun j h => hn j h h)
      have hcall := implSubstOf l A c wr (HA.out.grow hb)
      have HC := Lib.hid hcall
      clear hn hcall
      go_wp2_with fail
      refine HC.out.mono ?_
      rintro e w2 ⟨rfl, ⟨vl, hmap, hbinds⟩, hb2⟩
      have hvl := hbinds.length
      have hle : (firstX l).length ≤ l.length := by have := first_le (l := l) l.length (Nat.le_refl _); rwa [List.take_length] at this
      have hb3 := hb.trans (hb2.mono hb.size)
      have HM := Lib.hid hmap
      have HVL := Lib.hid hvl
      clear hmap hbinds hvl hb2
      go_wp2_with (refine wpList_len_map rfl (.tmp 23) 73 rfl _ _ Try.underlying73 wr.heap.size vl rfl HM.out ?_)
      go_ret
      refine ⟨congrArg (fun b => Ending.returned (.bool b)) ?_, hb3⟩
      rw [HQ.out, HVL.out, Bool.eq_iff_iff]
      simp
      omega
end Go.Proofs.Ytkiofeiinecpiaa

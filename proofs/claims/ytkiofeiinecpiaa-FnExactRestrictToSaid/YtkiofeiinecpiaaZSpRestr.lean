/- The reference model's RestrictTo. -/
import Derived.Test.YtkiofeiinecpiaaZRestrI
import Derived.Test.YtkiofeiinecpiaaZSpCopy
namespace Go.Proofs.Ytkiofeiinecpiaa
open Go.RowKit Go.Lib

set_option maxRecDepth 100000 in
set_option maxHeartbeats 4000000 in
theorem specRestrict (l : List BindingX) (A : Option Addr) (c : Nat) (vars : List ByteArray) (D : Option Addr) (d : Nat) (w : World) (hl : ∀ b ∈ l, b.type_.size ≤ 4294967296) (hln : l.length ≤ 4294967296) (hvn : vars.length ≤ 4294967296) (hA : BindingRow w (Und w.heap.size) A c l) (hD : Strs w D vars) :
    Calls Try.prog 56 #[.slice A l.length c, .slice D vars.length d] w (MadeR (.row 77 4 (BindingX.rows (keptX vars l))) w) := by
  obtain ⟨i0, hi, hz0, hz1, hz2⟩ := info_parts infoBd
  have hown := World.ownsRow_made (base := w.heap.size) (e := 77) (size := 4) w #[] 0 (Nat.le_refl _) (by decide) rfl
  have hb0 : Below w.heap.size w (w.alloc (.cells #[] 77)) := (Below.refl _ _).alloc (Nat.le_refl _) _
  have HA := Lib.hid hA
  have HD := Lib.hid hD
  have HL := Lib.hid hl
  have HO0 := Lib.hid hown
  have HB0 := Lib.hid hb0
  clear hA hD hl hown hb0
  go_enter Try.func56, Try.ntmps56
  go_wp2
  go_loopw [5, 6] (fun kv iv wr => ∃ k : Nat, k ≤ l.length ∧ iv = .int .i64 k ∧ KeptAt w.heap.size (keptX vars (l.take k)) kv wr ∧ Below w.heap.size w wr) (fun _ iv _ => l.length - (Go.RowKit.intOf iv).toNat)
  case atStart => exact ⟨0, Nat.zero_le _, rfl, ⟨[], [], HO0.out, by rw [List.take_zero]; exact ⟨rfl, rfl⟩, by simp [Value.ownBlock]⟩, HB0.out⟩
  case round =>
    obtain ⟨k, hk, rfl, hkept, hb⟩ := hrel
    by_cases hlt : k < l.length
    · obtain ⟨b, o, A3, c3, rfl, hP, p0, p1, p2, p3, h3⟩ := (HA.out.grow hb).at_ hlt
      have hP2 : b < wr.heap.size := hP
      have hst := HD.out.below hb
      have hk0 : (0 : Int) ≤ (k : Int) := Int.natCast_nonneg _
      have hk1 : (k : Int) < (l.length : Int) := by omega
      cases hhas : has vars l[k].var_ with
      | false =>
        have hkn := keptX_no hlt hhas
        have HK := Lib.hid (show KeptAt w.heap.size (keptX vars (l.take (k + 1))) u5 wr by rw [hkn]; exact hkept)
        have HST := Lib.hid hst
        have HH := Lib.hid hhas
        clear hkept h3 hkn hst hhas
        go_wp2_with fail
        refine (specHas D d vars l[k].var_ wr HST.out (by omega)).mono ?_
        rintro e w2 ⟨rfl, rfl⟩
        rw [HH.out]
        go_wp2
        go_roundw
        case rel => exact ⟨k + 1, by omega, by go_num, HK.out, hb⟩
        case measure => simp [Go.RowKit.intOf]; omega
      | true =>
        have hky := keptX_yes hlt hhas
        obtain ⟨vs, bs', hown, hE, hnd⟩ := hkept
        have hkl := keptX_len vars (l.take k)
        rw [List.length_take] at hkl
        obtain ⟨acc, hacc⟩ : ∃ acc, acc = keptX vars (l.take k) := ⟨_, rfl⟩
        rw [← hacc] at hown hE hky hkl
        have hkl2 : acc.length + 1 ≤ 4294967297 := by omega
        have hcall := specCopy l[k].type_ A3 c3 _ (HL.out _ (List.getElem_mem hlt)) (h3.grow ((Below.refl _ wr).drew))
        have HC := Lib.hid hcall
        have HO := Lib.hid hown
        have HE := Lib.hid hE
        have HND := Lib.hid hnd
        have HKY := Lib.hid hky
        have HST := Lib.hid hst
        have HH := Lib.hid hhas
        have HBW := Lib.hid hb
        obtain ⟨Av, cv, hV⟩ := own_nil hown
        subst hV
        clear h3 hky hhas hcall hown hE hnd hacc hkl hst
        go_wp2_with fail
        refine (specHas D d vars l[k].var_ wr HST.out (by omega)).mono ?_
        rintro e w2 ⟨rfl, rfl⟩
        rw [HH.out]
        go_wp2
        go_region_law (first
          | (refine step_append_lies _ (by rfl) _ _ _ (by rfl) w.heap.size 77 i0 _ 4 64 Try.underlying29 hi hz0 hz1 hz2 rfl (by omega) (.slice Av acc.length cv) acc.length vs (by rfl) (hown6.alloc _)
               ⟨w6.heap.size, 0, none⟩ 1 1 [.string l[k].var_, .int .i64 l[k].type_.kind_, .string l[k].type_.name_, .slice A6 l[k].type_.args_.length c6] (by rfl) (by rfl) (news4 w6 _ _ _ _ _) (one4 _ _ _ _ _ _) (by omega) (by unfold maxLen; omega) (by omega) (by have := HBW.out.size; simp; omega) (w6.heap.size + 1) (by simp) ?_
             intro g' cap' w7 hown7 hgrow7 hat7 hlt7)
          | (go_simp
             go_at_call 89
             refine HC.out.mono ?_
             intro e w6 hm
             obtain ⟨vs6, bs6, A6, c6, rfl, rfl, hO6, hn6, hb6⟩ := madeT_get hm
             have hb6' := (Below.refl _ wr).drew.trans hb6
             have hown6 := owns_below HO.out hb6'
             have hs6 : wr.heap.size ≤ w6.heap.size := hb6'.size
             have x6 : w6.cell? ⟨b, o + k * 4, none⟩ = some (.string l[k].var_) := (hb6'.cell (p := ⟨b, o + k * 4, none⟩) hP2).trans p0
             clear hm hb6))
        all_goals (
          have hat8 : (Value.slice (some ⟨g', 0, none⟩) (acc.length + 1) cap').ownBlock = (Value.slice Av acc.length cv).ownBlock ∨ (Value.slice (some ⟨g', 0, none⟩) (acc.length + 1) cap').ownBlock = some (w6.heap.size + 1) := by
            rcases hat7 with h | h
            · exact .inl h.symm
            · exact .inr (by rw [← h]; rfl)
          have hpush := KeptAt.push (x := l[k]) HO.out HE.out HND.out hb6' hO6 hn6 HBW.out.size hown7 hgrow7 hat8
          rw [← HKY.out] at hpush
          have hbw6 := HBW.out.trans (hb6'.mono HBW.out.size)
          have HP := Lib.hid hpush
          have HB7 := Lib.hid ((hbw6.alloc hbw6.size (.cells #[.string l[k].var_, .int .i64 l[k].type_.kind_, .string l[k].type_.name_, .slice A6 l[k].type_.args_.length c6] 77)).grown hgrow7 (by have := hbw6.size; simp; omega) (fun j e => (hown6.lt j e).1))
          clear hpush hown7 hgrow7 hat7 hat8 hown6 hO6 hn6 hbw6
          go_wp2
          go_roundw
          case rel => exact ⟨k + 1, by omega, by go_num, HP.out, HB7.out⟩
          case measure => simp [Go.RowKit.intOf]; omega)
    · obtain rfl : k = l.length := by omega
      rw [List.take_length] at hkept
      obtain ⟨bs, hrow, hnd⟩ := hkept.row
      have HR := Lib.hid hrow
      have HN := Lib.hid hnd
      clear hkept hrow hnd
      go_wp2
      go_ret
      exact ⟨_, _, rfl, HR.out, HN.out, hb⟩
end Go.Proofs.Ytkiofeiinecpiaa

/- The program's RestrictTo. -/
import Derived.Test.YtkiofeiinecpiaaZCopyI
import Derived.Test.YtkiofeiinecpiaaQ1
import Derived.Test.YtkiofeiinecpiaaQ2
import Derived.Deep.AppendLies
import Derived.Deep.RegionLaw
namespace Go.Proofs.Ytkiofeiinecpiaa
open Go.RowKit Go.Lib

theorem seen_block {P : Program} {k e : TypeId} {w w' : World} {b n : Nat} {l : List ByteArray} (h : Seen P k e w b n l) (hb : w'.heap[b]? = w.heap[b]?) : Seen P k e w' b n l := by
  obtain ⟨D, h1, h2⟩ := h
  obtain ⟨es, clock, hb1, F, hs, hD⟩ := h1
  exact ⟨D, ⟨es, clock, hb.trans hb1, F, hs, hD⟩, h2⟩
/-- The bindings of the names in a list. -/
def keptX (vars : List ByteArray) (l : List BindingX) : List BindingX := l.filter fun b => has vars b.var_
theorem keptX_yes {vars : List ByteArray} {l : List BindingX} {k : Nat} (h : k < l.length) (hy : has vars l[k].var_ = true) : keptX vars (l.take (k + 1)) = keptX vars (l.take k) ++ [l[k]] := by
  rw [List.take_succ_eq_append_getElem h, keptX, List.filter_append]
  simp [keptX, hy]
theorem keptX_no {vars : List ByteArray} {l : List BindingX} {k : Nat} (h : k < l.length) (hy : has vars l[k].var_ = false) : keptX vars (l.take (k + 1)) = keptX vars (l.take k) := by
  rw [List.take_succ_eq_append_getElem h, keptX, List.filter_append]
  simp [keptX, hy]
theorem keptX_len (vars : List ByteArray) (l : List BindingX) : (keptX vars l).length ≤ l.length := List.length_filter_le _ _
set_option maxRecDepth 100000 in
set_option maxHeartbeats 4000000 in
theorem implRestrict (l : List BindingX) (A : Option Addr) (c : Nat) (vars : List ByteArray) (D : Option Addr) (d : Nat) (w : World) (hl : ∀ b ∈ l, b.type_.size ≤ 4294967296) (hln : l.length ≤ 4294967296) (hvn : vars.length ≤ 4294967296) (hvz : ∀ s ∈ vars, s.size ≤ 9223372036854775807) (hlz : ∀ b ∈ l, b.var_.size ≤ 9223372036854775807) (hA : BindingRow w (Und w.heap.size) A c l) (hD : Strs w D vars) :
    Calls Try.prog 46 #[.slice A l.length c, .slice D vars.length d] w (MadeR (.row 77 4 (BindingX.rows (keptX vars l))) w) := by
  obtain ⟨i0, hi, hz0, hz1, hz2⟩ := info_parts infoBd
  have HA := Lib.hid hA
  have HD := Lib.hid hD
  have HL := Lib.hid hl
  have HVZ := Lib.hid hvz
  have HLZ := Lib.hid hlz
  clear hA hD hl hvz hlz
  go_enter Try.func46, Try.ntmps46
  go_wp2_with fail
  refine (implSetOf vars D d w hvn HVZ.out HD.out).mono ?_
  rintro e wr ⟨rfl, hseen, hb⟩
  have HSN := Lib.hid hseen
  have hlt1 := hseen.lt
  clear hseen
  go_wp2
  go_loopw [6, 13] (fun kv iv wr => ∃ k : Nat, k ≤ l.length ∧ iv = .int .i64 k ∧ KeptAt (w.heap.size + 1) (keptX vars (l.take k)) kv wr ∧ Seen Try.prog 9 4 wr w.heap.size vars.length vars ∧ Below w.heap.size w wr ∧ w.heap.size + 1 ≤ wr.heap.size) (fun _ iv _ => l.length - (Go.RowKit.intOf iv).toNat)
  case atStart => exact ⟨0, Nat.zero_le _, rfl, ⟨[], [], World.ownsRow_nil _ _ _ _, by rw [List.take_zero]; exact ⟨rfl, rfl⟩, List.nodup_nil⟩, HSN.out, hb, hlt1⟩
  case round =>
    obtain ⟨k, hk, rfl, hkept, hsn, hb, hlw⟩ := hrel
    clear hlt1
    by_cases hlt : k < l.length
    · obtain ⟨b, o, A3, c3, rfl, hP, p0, p1, p2, p3, h3⟩ := (HA.out.grow hb).at_ hlt
      have hbx : Below wr.heap.size wr (wr.alloc (.cells #[.string l[k].var_, .int .i64 l[k].type_.kind_, .string l[k].type_.name_, .slice A3 l[k].type_.args_.length c3] 77)) := (Below.refl _ _).alloc (Nat.le_refl _) _
      have hsnb := hsn.kept (World.grownBy_alloc wr (.cells #[.string l[k].var_, .int .i64 l[k].type_.kind_, .string l[k].type_.name_, .slice A3 l[k].type_.args_.length c3] 77) none) (by simp)
      have hlk := hsnb.look Try.underlying97 Try.underlying9 Try.underlying4 (zeroBool _) l[k].var_ (HLZ.out _ (List.getElem_mem hlt))
      have hbw := hb.trans (hbx.mono hb.size)
      have hwb : (wr.alloc (.cells #[.string l[k].var_, .int .i64 l[k].type_.kind_, .string l[k].type_.name_, .slice A3 l[k].type_.args_.length c3] 77)).heap.size = wr.heap.size + 1 := by simp
      cases hhas : has vars l[k].var_ with
      | false =>
        rw [hhas] at hlk
        have hkn := keptX_no hlt hhas
        have HK := Lib.hid (show KeptAt (w.heap.size + 1) (keptX vars (l.take (k + 1))) u6 _ by rw [hkn]; exact hkept.below hbx)
        have HSB := Lib.hid hsnb
        have HBW := Lib.hid hbw
        have HWB := Lib.hid (show w.heap.size + 1 ≤ (wr.alloc (.cells #[.string l[k].var_, .int .i64 l[k].type_.kind_, .string l[k].type_.name_, .slice A3 l[k].type_.args_.length c3] 77)).heap.size by omega)
        clear hkept hsn hsnb hbx hbw hwb h3 hkn hhas
        go_wp2
        go_roundw
        case rel => exact ⟨k + 1, by omega, by go_num, HK.out, HSB.out, HBW.out, HWB.out⟩
        case measure => simp [Go.RowKit.intOf]; omega
      | true =>
        rw [hhas] at hlk
        have hky := keptX_yes hlt hhas
        obtain ⟨vs, bs', hown, hE, hnd⟩ := hkept.below hbx
        have hkl := keptX_len vars (l.take k)
        rw [List.length_take] at hkl
        obtain ⟨acc, hacc⟩ : ∃ acc, acc = keptX vars (l.take k) := ⟨_, rfl⟩
        rw [← hacc] at hown hE hky hkl
        have hkl2 : acc.length + 1 ≤ 4294967297 := by omega
        have hcall := implCopy l[k].type_ A3 c3 _ (HL.out _ (List.getElem_mem hlt)) ((h3.grow hbx).grow ((Below.refl _ _).drew))
        have HC := Lib.hid hcall
        have HO := Lib.hid hown
        have HE := Lib.hid hE
        have HND := Lib.hid hnd
        have HKY := Lib.hid hky
        have HSB := Lib.hid hsnb
        have HBW := Lib.hid hbw
        have HBX := Lib.hid (Whole.new wr 77 #[.string l[k].var_, .int .i64 l[k].type_.kind_, .string l[k].type_.name_, .slice A3 l[k].type_.args_.length c3])
        obtain ⟨Av, cv, hV⟩ := own_nil hown
        subst hV
        clear hkept hsn hsnb hbx hbw h3 hky hhas hcall hown hE hnd hacc hkl
        go_wp2
        go_region_law (first
          | (refine step_append_lies _ (by rfl) _ _ _ (by rfl) (w.heap.size + 1) 77 i0 _ 4 64 Try.underlying29 hi hz0 hz1 hz2 rfl (by omega) (.slice Av acc.length cv) acc.length vs (by rfl) (hown6.alloc _)
               ⟨w6.heap.size, 0, none⟩ 1 1 [.string l[k].var_, .int .i64 l[k].type_.kind_, .string l[k].type_.name_, .slice A6 l[k].type_.args_.length c6] (by rfl) (by rfl) (news4 w6 _ _ _ _ _) (one4 _ _ _ _ _ _) (by omega) (by unfold maxLen; omega) (by omega) (by simp; omega) (w6.heap.size + 1) (by simp) ?_
             intro g' cap' w7 hown7 hgrow7 hat7 hlt7)
          | (go_simp
             go_at_call 64
             refine HC.out.mono ?_
             intro e w6 hm
             obtain ⟨vs6, bs6, A6, c6, rfl, rfl, hO6, hn6, hb6⟩ := madeT_get hm
             have hb6' := (Below.refl _ (wr.alloc (.cells #[.string l[k].var_, .int .i64 l[k].type_.kind_, .string l[k].type_.name_, .slice A3 l[k].type_.args_.length c3] 77))).drew.trans hb6
             have hown6 := owns_below HO.out hb6'
             have hs6 := hb6'.size
             rw [hwb] at hs6
             have x6 : w6.cell? ⟨wr.heap.size, 0, none⟩ = some (.string l[k].var_) := by rw [(HBX.out.below hb6' (show wr.heap.size < (wr.alloc _).heap.size by rw [hwb]; omega)).cell]; rfl
             clear hm hb6))
        all_goals (
          have hat8 : (Value.slice (some ⟨g', 0, none⟩) (acc.length + 1) cap').ownBlock = (Value.slice Av acc.length cv).ownBlock ∨ (Value.slice (some ⟨g', 0, none⟩) (acc.length + 1) cap').ownBlock = some (w6.heap.size + 1) := by
            rcases hat7 with h | h
            · exact .inl h.symm
            · exact .inr (by rw [← h]; rfl)
          have hpush := KeptAt.push (x := l[k]) HO.out HE.out HND.out hb6' hO6 hn6 (by rw [hwb]; omega) hown7 hgrow7 hat8
          rw [← HKY.out] at hpush
          have hbw6 := HBW.out.trans (hb6'.mono HBW.out.size)
          have HP := Lib.hid hpush
          have HB7 := Lib.hid ((hbw6.alloc hbw6.size (.cells #[.string l[k].var_, .int .i64 l[k].type_.kind_, .string l[k].type_.name_, .slice A6 l[k].type_.args_.length c6] 77)).grown hgrow7 (by have := hbw6.size; simp; omega) (fun j e => by have := (hown6.lt j e).1; omega))
          have hs7 : Seen Try.prog 9 4 w7 w.heap.size vars.length vars := seen_block HSB.out (by
            have hlt0 := HSB.out.lt
            rw [hgrow7.block _ (by simp; omega) (fun e => by have := (hown6.lt _ e.symm).1; omega), Below.heap_alloc _ _ _ (by omega)]
            exact hb6'.block _ hlt0)
          have HS7 := Lib.hid hs7
          have HSZ := Lib.hid (show w.heap.size + 1 ≤ w7.heap.size by have := hgrow7.size; simp at this; omega)
          clear hpush hs7 hown7 hgrow7 hat7 hat8 hown6 hO6 hn6 hbw6
          go_wp2
          go_roundw
          case rel => exact ⟨k + 1, by omega, by go_num, HP.out, HS7.out, HB7.out, HSZ.out⟩
          case measure => simp [Go.RowKit.intOf]; omega)
    · obtain rfl : k = l.length := by omega
      rw [List.take_length] at hkept
      obtain ⟨bs, hrow, hnd⟩ := hkept.row
      have hrow2 := OwV_wide (B' := w.heap.size) (by omega) _ hrow
      have HR := Lib.hid hrow2
      have HN := Lib.hid hnd
      clear hkept hrow hrow2 hnd hsn
      go_wp2
      go_ret
      exact ⟨_, _, rfl, HR.out, HN.out, hb⟩
end Go.Proofs.Ytkiofeiinecpiaa

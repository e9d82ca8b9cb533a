/- The reference model's CanonicalRenaming. -/
import Derived.Test.YtngbilblddngcaaDoorZCanP
import Derived.Test.YtngbilblddngcaaDoorQ2
import Derived.Test.YtngbilblddngcaaDoorZSpApply
import Derived.Test.YtngbilblddngcaaDoorQ1
import Derived.Deep.AppendLies
import Derived.Deep.RegionLaw
namespace Go.Proofs.YtngbilblddngcaaDoor
open Go.RowKit Go.Lib

set_option maxRecDepth 100000 in
theorem varN (s : ByteArray) (w : World) : Calls Tryd.prog 40 #[.string s] w fun e w' => e = .returned (.agg #[.int .i64 1, .string s, .slice none 0 0]) ∧ Below w.heap.size w w' := by
  have hb0 : ∀ a b c, Below w.heap.size w (w.alloc (.cells #[a, b, c] 26)) := fun a b c => (Below.refl _ _).alloc (Nat.le_refl _) _
  go_enter Tryd.func40, Tryd.ntmps40
  go_wp2
  exact bodyPost_ret (v := .agg #[.int .i64 1, .string s, .slice none 0 0]) (by simp [results, Tryd.results40, go_sem]) rfl ⟨rfl, hb0 _ _ _⟩
/-- A variable's cells. -/
theorem canV_own (i : Nat) (w : World) (B : Nat) : OwVs w B (canV i).cells [.int .i64 (canV i).kind_, .string (canV i).name_, .slice none (canV i).args_.length 0] [] := by
  rw [TypeX.cells_eq]
  simp only [OwVs, OwV]
  refine ⟨_, _, [], [], rfl, rfl, ⟨rfl, rfl⟩, _, _, [], [], rfl, rfl, ⟨rfl, rfl⟩, _, _, [], [], rfl, rfl, ⟨[], [], ?_, ?_, rfl⟩, rfl, rfl⟩
  · rw [TypeX.rows_length]; exact World.ownsRow_nil _ _ _ _
  · rw [TypeX.rows_map]; exact ⟨rfl, rfl⟩
theorem take_can {vs : List ByteArray} {k : Nat} (h : k < vs.length) : canB (vs.take (k + 1)) = canB (vs.take k) ++ [.mk vs[k] (canV k)] := by
  rw [List.take_succ_eq_append_getElem h, canB_snoc, List.length_take, Nat.min_eq_left (Nat.le_of_lt h)]
theorem strs_in {w : World} {A : Option Addr} {ss : List ByteArray} (h : Strs w A ss) {j : Nat} (hj : j < ss.length) :
    ∃ g o, A = some ⟨g, o, none⟩ ∧ g < w.heap.size ∧ w.cell? ⟨g, o + j, none⟩ = some (.string ss[j]) := by
  rcases h with h | ⟨g, o, hA, hg, hc⟩
  · subst h; simp at hj
  · exact ⟨g, o, hA, hg, hc j _ (List.getElem?_eq_getElem hj)⟩

set_option maxRecDepth 100000 in
set_option maxHeartbeats 4000000 in
theorem specCanRen (l : List TypeX) (A : Option Addr) (c : Nat) (w : World) (hl : TypeX.sizeL l ≤ 4294967296) (hA : TypeRow w (Und w.heap.size) A c l) :
    Calls Tryd.prog 17 #[.slice A l.length c] w (MadeR (.row 58 4 (BindingX.rows (canB (varsOf l)))) w) := by
  obtain ⟨i0, hi, hz0, hz1, hz2⟩ := info_parts infoBd
  have hcap := hA.cap
  have hlen := sizeL_length l
  have hb0 : Below w.heap.size w (w.alloc (.cells #[] 9)) := (Below.refl _ _).alloc (Nat.le_refl _) _
  have hown : (w.alloc (.cells #[] 9)).ownsRow w.heap.size 9 1 (.slice (some ⟨w.heap.size, 0, none⟩) 0 0) ([] : List ByteArray).length (([] : List ByteArray).map Value.string) := World.ownsRow_made (base := w.heap.size) (e := 9) (size := 1) w #[] 0 (Nat.le_refl _) (by decide) rfl
  have hr0 : TypeRow (w.alloc (.cells #[] 9)) (Apart (.slice (some ⟨w.heap.size, 0, none⟩) 0 0) (w.alloc (.cells #[] 9))) A c l :=
    hA.frame (fun b (h : b < w.heap.size) => ⟨by simp; omega, fun e => by simp [Value.ownBlock] at e; omega⟩) fun b o h => hb0.cell (p := ⟨b, o, none⟩) h
  have HO0 := Lib.hid hown
  have HR0 := Lib.hid hr0
  have HB0 := Lib.hid hb0
  have HL := Lib.hid hl
  clear hA hown hr0 hb0 hl
  go_enter Tryd.func17, Tryd.ntmps17
  go_wp2
  go_loopw [3, 4] (fun ov iv wr => ∃ (k : Nat) (d1 : List ByteArray), k ≤ l.length ∧ iv = .int .i64 k ∧ d1 = TypeX.varsL [] (l.take k) ∧ wr.ownsRow w.heap.size 9 1 ov d1.length (d1.map Value.string) ∧ TypeRow wr (Apart ov wr) A c l ∧ Below w.heap.size w wr) (fun _ iv _ => l.length - (Go.RowKit.intOf iv).toNat)
  case atStart => exact ⟨0, [], Nat.zero_le _, rfl, rfl, HO0.out, HR0.out, HB0.out⟩
  case round =>
    obtain ⟨k, d1, hk, rfl, hd1, hown1, hr1, hb1⟩ := hrel
    obtain ⟨A3, c3, rfl, hst3⟩ := strs_own hown1
    by_cases hlt : k < l.length
    · obtain ⟨b, o, A2', c2', rfl, hP, q0, q1', q2', k2⟩ := hr1.at_ hlt
      have hst := TypeX.varsL_take l [] k hlt
      have hle := TypeX.sizeL_le l (k + 1)
      have hsl := TypeX.sizeL_take l k hlt
      have hvl := TypeX.varsL_len (l.take k) []
      rw [← hd1] at hst hvl
      have hlen2 : d1.length + l[k].size ≤ 4294967296 := by
        have := HL.out
        rw [List.length_nil] at hvl
        omega
      have HST := Lib.hid hst
      have HR1 := Lib.hid hr1
      have HB1 := Lib.hid hb1
      have HOW1 := Lib.hid hown1
      have HK2 := Lib.hid k2
      have hB1 : w.heap.size ≤ wr.heap.size := hb1.size
      clear hst hle hsl hvl hd1 hr1 hb1 hown1 k2 hst3
      go_wp2_with fail
      refine (specVarsAll _ l[k] _ _ d1 w.heap.size _ (Nat.le_refl _) ⟨_, _, rfl, HK2.out⟩ HOW1.out hlen2 hB1).mono ?_
      rintro e w1 ⟨V1, rfl, hown2, hg2, hno2⟩
      obtain ⟨A4, c4, rfl, _⟩ := strs_own hown2
      have hr2 := HR1.out.apart hg2 hno2
      have hb2 : Below w.heap.size w w1 := HB1.out.grown hg2 HB1.out.size (fun j e => (HOW1.out.lt j e).1)
      have HR2 := Lib.hid hr2
      have HB2 := Lib.hid hb2
      have HOW2 := Lib.hid hown2
      clear hr2 hb2 hown2 hg2 hno2
      go_wp2
      go_roundw
      case rel => exact ⟨k + 1, l[k].vars d1, by omega, by go_num, HST.out.symm, HOW2.out, HR2.out, HB2.out⟩
      case measure => simp [Go.RowKit.intOf]; omega
    · obtain rfl : k = l.length := by omega
      rw [List.take_length] at hd1
      obtain ⟨vs, hvs⟩ : ∃ vs, vs = varsOf l := ⟨_, rfl⟩
      have hdv : d1 = vs := hd1.trans hvs.symm
      have hvl := varsOf_len l
      rw [← hvs] at hvl
      have hvl2 : vs.length ≤ 4294967296 := by have := HL.out; omega
      subst hdv
      have HVS := Lib.hid hvs
      rename World => wv
      have hst4 := hst3
      have hbk : Below wv.heap.size wv (wv.alloc (.cells #[] 58)) := (Below.refl _ _).alloc (Nat.le_refl _) _
      have hownk := World.ownsRow_made (base := wv.heap.size) (e := 58) (size := 4) wv #[] 0 (Nat.le_refl _) (by decide) rfl
      have HST := Lib.hid hst4
      have HBW := Lib.hid hb1
      have HOK := Lib.hid hownk
      have HBK := Lib.hid hbk
      clear hst4 hst3 hb1 hownk hbk hr1 hown1 hd1 hvs hvl
      go_wp2
      go_loopw [5, 6] (fun kv iv wr => ∃ j : Nat, j ≤ d1.length ∧ iv = .int .i64 j ∧ KeptAt wv.heap.size (canB (d1.take j)) kv wr ∧ Below wv.heap.size wv wr) (fun _ iv _ => d1.length - (Go.RowKit.intOf iv).toNat)
      case atStart => exact ⟨0, Nat.zero_le _, rfl, ⟨[], [], HOK.out, by rw [List.take_zero]; exact ⟨rfl, rfl⟩, by simp [Value.ownBlock]⟩, HBK.out⟩
      case round =>
        obtain ⟨j, hj, rfl, hkept, hb⟩ := hrel
        by_cases hltj : j < d1.length
        · obtain ⟨vs', bs', hown, hE, hnd⟩ := hkept
          have hky := take_can hltj
          have hkl : (canB (d1.take j)).length = j := by rw [canB_length, List.length_take]; omega
          obtain ⟨acc, hacc⟩ : ∃ acc, acc = canB (d1.take j) := ⟨_, rfl⟩
          rw [← hacc] at hown hE hky hkl
          have hkl2 : acc.length + 1 ≤ 4294967297 := by omega
          obtain ⟨g, o, rfl, hgl, hcell⟩ := strs_in HST.out hltj
          have hc3 : wr.cell? ⟨g, o + j, none⟩ = some (.string d1[j]) := (hb.cell (p := ⟨g, o + j, none⟩) hgl).trans hcell
          have hgl2 : g < wr.heap.size := Nat.lt_of_lt_of_le hgl hb.size
          have hfmt := fun (W : World) => fmt_any (j : Int) W (by omega) (by omega)
          have hsl := itoa_small j (by omega)
          obtain ⟨s, hs⟩ : ∃ s : ByteArray, s = ⟨(itoa (j : Int)).toArray⟩ := ⟨_, rfl⟩
          obtain ⟨r, hr⟩ : ∃ r, r = canName j := ⟨_, rfl⟩
          have hrs : (⟨#[118]⟩ : ByteArray) ++ s = r := by rw [hr, hs]; rfl
          rw [← hs] at hfmt hsl
          have hadd : (9223372036854775807 < 1 + s.size) = False := by simp; omega
          have hbd : Below wr.heap.size wr wr.drew := (Below.refl _ wr).drew
          have hown1 := owns_below hown hbd
          have HF := Lib.hid hfmt
          have HR := Lib.hid hr
          have HO := Lib.hid hown
          have HE := Lib.hid hE
          have HND := Lib.hid hnd
          have HKY := Lib.hid hky
          have HBW2 := Lib.hid hb
          obtain ⟨Av, cv, hV⟩ := own_nil hown
          subst hV
          clear hky hown hE hnd hacc hkl hfmt hr hs hown1 hcell
          have hk0 : (0 : Int) ≤ (j : Int) := Int.natCast_nonneg _
          have hk1 : (j : Int) < (d1.length : Int) := by omega
          go_wp2_with fail
          go_region_law (first
            | (refine step_append_lies _ (by rfl) _ _ _ (by rfl) wv.heap.size 58 i0 _ 4 64 Tryd.underlying33 hi hz0 hz1 hz2 rfl (by omega) (.slice Av acc.length cv) acc.length vs' (by rfl) (hown7.alloc _)
                 ⟨w7.heap.size, 0, none⟩ 1 1 [.string d1[j], .int .i64 1, .string r, .slice none 0 0] (by rfl) (by rfl) (news4 w7 _ _ _ _ _) (one4 _ _ _ _ _ _) (by omega) (by unfold maxLen; omega) (by omega) (by have := HBW2.out.size; simp; omega) (w7.heap.size + 1) (by simp) ?_
               intro g' cap' w8 hown8 hgrow8 hat8 hlt8)
            | (go_simp
               go_at_call 34
               refine (HF.out _).mono ?_
               rintro e w6 ⟨rfl, hb6⟩
               have hb6' : Below wr.heap.size wr w6 := (Below.refl _ wr).drew.trans hb6
               have hs6 : wr.heap.size ≤ w6.heap.size := hb6'.size
               have x6 : w6.cell? ⟨g, o + j, none⟩ = some (.string d1[j]) := (hb6'.cell (p := ⟨g, o + j, none⟩) hgl2).trans hc3
               clear hb6)
            | (go_simp
               go_at_call 40
               refine (varN _ _).mono ?_
               rintro e w7 ⟨rfl, hb7⟩
               have hb7' : Below wr.heap.size wr w7 := hb6'.trans (hb7.mono hb6'.size)
               have hown7 := owns_below HO.out hb7'
               have hs7 : wr.heap.size ≤ w7.heap.size := hb7'.size
               have x7 : w7.cell? ⟨g, o + j, none⟩ = some (.string d1[j]) := (hb7'.cell (p := ⟨g, o + j, none⟩) hgl2).trans hc3
               clear hb7))
          all_goals (
            have hat9 : (Value.slice (some ⟨g', 0, none⟩) (acc.length + 1) cap').ownBlock = (Value.slice Av acc.length cv).ownBlock ∨ (Value.slice (some ⟨g', 0, none⟩) (acc.length + 1) cap').ownBlock = some (w7.heap.size + 1) := by
              rcases hat8 with h | h
              · exact .inl h.symm
              · exact .inr (by rw [← h]; rfl)
            rw [HR.out] at hown8
            have hpush := KeptAt.push (x := .mk d1[j] (canV j)) HO.out HE.out HND.out hb7' (canV_own j w7 wr.heap.size) List.nodup_nil HBW2.out.size hown8 hgrow8 hat9
            rw [← HKY.out] at hpush
            have hbw6 := HBW2.out.trans (hb7'.mono HBW2.out.size)
            have HP := Lib.hid hpush
            have HB7 := Lib.hid ((hbw6.alloc hbw6.size _).grown hgrow8 (by have := hbw6.size; simp; omega) (fun j e => (hown7.lt j e).1))
            clear hpush hown8 hgrow8 hat8 hat9 hown7 hbw6
            go_wp2
            go_roundw
            case rel => exact ⟨j + 1, by omega, by go_num, HP.out, HB7.out⟩
            case measure => simp [Go.RowKit.intOf]; omega)
        · obtain rfl : j = d1.length := by omega
          rw [List.take_length] at hkept
          obtain ⟨bs, hrow, hnd⟩ := hkept.row
          have hr2 := OwV_wide HBW.out.size _ hrow
          have HR := Lib.hid hr2
          have HN := Lib.hid hnd
          have HB2 := Lib.hid (HBW.out.trans (hb.mono HBW.out.size))
          clear hkept hrow hnd hr2
          go_wp2
          go_ret
          rw [← HVS.out]
          exact ⟨_, _, rfl, HR.out, HN.out, HB2.out⟩
end Go.Proofs.YtngbilblddngcaaDoor

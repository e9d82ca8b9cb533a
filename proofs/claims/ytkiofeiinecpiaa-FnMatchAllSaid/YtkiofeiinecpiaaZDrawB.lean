/- The draw of a substitution. -/
import Derived.Test.YtkiofeiinecpiaaZRowB
namespace Go.Proofs.Ytkiofeiinecpiaa
open Go.RowKit Go.Lib

def bindWords : List ByteArray := [⟨#[97]⟩, ⟨#[98]⟩, ⟨#[99]⟩]
theorem bindWords_one {s : ByteArray} (h : s ∈ bindWords) : s.size = 1 := by
  simp only [bindWords, List.mem_cons, List.not_mem_nil, or_false] at h
  rcases h with rfl | rfl | rfl <;> rfl
/-- Small bindings, as the draws make them. -/
def OkBs (l : List BindingX) : Prop := ∀ b ∈ l, b.var_.size = 1 ∧ b.type_.size ≤ 100 ∧ b.type_.tame
theorem OkBs.snoc {l : List BindingX} {b : BindingX} (h : OkBs l) (h1 : b.var_.size = 1) (h2 : b.type_.size ≤ 100) (h3 : b.type_.tame) : OkBs (l ++ [b]) := fun y hy => by
  rcases List.mem_append.1 hy with hy | hy
  · exact h y hy
  · rw [List.mem_singleton.1 hy]; exact ⟨h1, h2, h3⟩
/-- What the draw of a substitution leaves. -/
def DrawnBs (G : Nat → Prop) (B g : Nat) (w : World) (e : Ending) (w' : World) : Prop := ∃ (l : List BindingX) (A : Option Addr) (c : Nat), e = .returned (.slice A l.length c) ∧ BindingRow w' (fun b => b < w'.heap.size ∧ ¬ G b) A c l ∧ l.length ≤ 4 ∧ OkBs l ∧ Cur w' B g ∧ But g w w'

set_option maxRecDepth 100000 in
set_option maxHeartbeats 4000000 in
theorem bindsC (G : Nat → Prop) (B g : Nat) (w : World) (hG : ∀ b, G b → b < w.heap.size) (hg : G g) (hc : Cur w B g) :
    Calls Try.prog 78 #[.pointer (some ⟨g, 0, none⟩)] w (DrawnBs G B g w) := by
  obtain ⟨i0, hi, hz0, hz1, hz2⟩ := info_parts infoBd
  have hgl := hc.lt
  have hb0 : Below w.heap.size w (w.alloc (.cells #[] 77)) := (Below.refl _ _).alloc (Nat.le_refl _) _
  have hown := World.ownsRow_made (base := w.heap.size) (e := 77) (size := 4) w #[] 0 (Nat.le_refl _) (by decide) rfl
  have HT0 : Hid (TopB G w.heap.size (w.alloc (.cells #[] 77)) (.slice (some ⟨w.heap.size, 0, none⟩) 0 0) []) := Lib.hid ⟨[], hown, by rw [BindingX.rows_map, List.map_nil, RdVE]⟩
  have HC0 := Lib.hid (hc.kept hb0)
  have HB0 := Lib.hid (But.of_below (g := g) hb0)
  clear hc hb0 hown
  go_enter Try.func78, Try.ntmps78
  go_wp2_with fail
  refine (drawBelow B g 4 _ HC0.out (by decide) (by decide)).mono ?_
  rintro e w1 ⟨v, rfl, ⟨z, rfl, hy0, hy4⟩, hc1, hb1⟩
  obtain ⟨nn, rfl⟩ := Int.eq_ofNat_of_zero_le hy0
  have HT1 := Lib.hid (HT0.out.but hG hg hb1)
  have HB1 := Lib.hid (HB0.out.trans hb1)
  have HC1 := Lib.hid hc1
  have hn4 : nn < 4 := by omega
  clear hc1 hb1 HT0 HB0 HC0 hy0 hy4
  go_wp2
  go_loopw [3, 5] (fun ov iv wr => ∃ (k : Nat) (acc : List BindingX), k ≤ nn ∧ iv = .int .i64 k ∧ TopB G w.heap.size wr ov acc ∧ OkBs acc ∧ acc.length ≤ k ∧ Cur wr B g ∧ But g w wr) (fun _ iv _ => nn - (Go.RowKit.intOf iv).toNat)
  case atStart => exact ⟨0, [], Nat.zero_le _, rfl, HT1.out, (fun b hb => by simp at hb), Nat.le_refl _, HC1.out, HB1.out⟩
  case round =>
    obtain ⟨k, acc, hk, rfl, htop, hok, hlen, hcur, hbut⟩ := hrel
    clear HT1 HC1 HB1
    obtain ⟨Av, cv, rfl⟩ := htop.shape
    have hsw := hbut.size
    have HOK := Lib.hid hok
    by_cases hlt : k < nn
    · have hp1 := Whole.new wr 9 (bindWords.map Value.string).toArray
      have hbp : Below wr.heap.size wr (wr.alloc (.cells (bindWords.map Value.string).toArray 9)) := (Below.refl _ _).alloc (Nat.le_refl _) _
      have HP := Lib.hid hp1
      have HCP := Lib.hid (hcur.kept hbp)
      have HTP := Lib.hid (htop.below hbp)
      have HBP := Lib.hid (hbut.trans (But.of_below hbp))
      clear hp1 hbp htop hcur hbut hok
      go_wp2_with fail
      refine (drawPick B g wr.heap.size 3 bindWords _ HCP.out HP.out (by decide) (by decide) (by omega)).mono ?_
      rintro e w2 ⟨v, rfl, ⟨s, hsm, rfl⟩, hc2, hb2⟩
      have hss := bindWords_one hsm
      have hs2 := hb2.size
      simp only [World.size_alloc] at hs2
      have HT2 := Lib.hid (HTP.out.but hG hg hb2)
      have HB2 := Lib.hid (HBP.out.trans hb2)
      have HC2 := Lib.hid hc2
      have HG2 : Hid (∀ b, (G b ∨ (Value.slice Av acc.length cv).ownBlock = some b) → b < w2.heap.size) := Lib.hid fun b h => h.elim (fun e => by have := hG b e; omega) (fun e => (HT2.out.own_lt e).2)
      clear hc2 hb2 hsm HP HCP HTP HBP
      go_wp2_with fail
      refine (freeC (fun b => G b ∨ (Value.slice Av acc.length cv).ownBlock = some b) B g 2 (by decide) w2 HG2.out (.inl hg) HC2.out).mono ?_
      rintro e w3 ⟨x, ⟨V3, rfl, ht3⟩, hxs, hxt, -, hc3, hb3⟩
      obtain ⟨A3, c3, rfl⟩ := ht3.shape
      obtain ⟨A3', c3', e3, hr3⟩ := ht3.row HG2.out
      injection e3 with e3 _ e4
      subst e3 e4
      have hs3 := hb3.size
      have hx9 : x.size ≤ 9 := hxs
      have hbx : Below w3.heap.size w3 (w3.alloc (.cells #[.string s, .int .i64 x.kind_, .string x.name_, .slice A3 x.args_.length c3] 77)) := (Below.refl _ _).alloc (Nat.le_refl _) _
      have HX4 := Lib.hid (Whole.new w3 77 #[.string s, .int .i64 x.kind_, .string x.name_, .slice A3 x.args_.length c3])
      have HT4 := Lib.hid ((HT2.out.but hG hg hb3).below hbx)
      have HR4 : Hid (TypeRow (w3.alloc (.cells #[.string s, .int .i64 x.kind_, .string x.name_, .slice A3 x.args_.length c3] 77)) (fun b => b < (w3.alloc (.cells #[.string s, .int .i64 x.kind_, .string x.name_, .slice A3 x.args_.length c3] 77)).heap.size ∧ ¬ G b ∧ (Value.slice Av acc.length cv).ownBlock ≠ some b) A3 c3 x.args_) := Lib.hid (hr3.frame (fun b h => ⟨Nat.lt_of_lt_of_le h.1 hbx.size, fun e => h.2 (.inl e), fun e => h.2 (.inr e)⟩) (fun b o h => hbx.cell (p := ⟨b, o, none⟩) h.1))
      have HC4 := Lib.hid (hc3.kept hbx)
      have HB4 := Lib.hid ((HB2.out.trans hb3).trans (But.of_below hbx))
      obtain ⟨y, hy⟩ : ∃ y, y = (lookX s acc).getD zeroX := ⟨_, rfl⟩
      obtain ⟨met, hmet⟩ : ∃ m, m = (lookX s acc).isSome := ⟨_, rfl⟩
      have hlk := specLookup acc Av cv s (w3.alloc (.cells #[.string s, .int .i64 x.kind_, .string x.name_, .slice A3 x.args_.length c3] 77)) (fun b hb => by have := (HOK.out b hb).2.1; omega) ((HT4.out.row hG).frame (fun b h => h.1) (fun _ _ _ => rfl))
      rw [← hy, ← hmet] at hlk
      have HLK := Lib.hid hlk
      clear hlk hy hmet hbx hr3 ht3 hc3 hb3 HT2 HB2 HC2 HG2 hxs
      go_wp2_with fail
      refine HLK.out.mono ?_
      intro e w5 hm
      obtain ⟨A5, c5, bs5, rfl, -, -, -, -, hb5⟩ := madeB_get hm
      have hb6 : Below w5.heap.size w5 (w5.alloc (.cells #[.int .i64 y.kind_, .string y.name_, .slice A5 y.args_.length c5] 26)) := (Below.refl _ _).alloc (Nat.le_refl _) _
      have hb56 := hb5.trans (hb6.mono hb5.size)
      obtain ⟨W6, hW6⟩ : ∃ W6, W6 = w5.alloc (.cells #[.int .i64 y.kind_, .string y.name_, .slice A5 y.args_.length c5] 26) := ⟨_, rfl⟩
      rw [← hW6] at hb56
      have hs6 := hb56.size
      rw [World.size_alloc] at hs6
      have HX6 := Lib.hid (HX4.out.below hb56 HX4.out.lt)
      have HT6 := Lib.hid (HT4.out.below hb56)
      have HR6 : Hid (TypeRow W6 (fun b => b < W6.heap.size ∧ ¬ G b ∧ (Value.slice Av acc.length cv).ownBlock ≠ some b) A3 c3 x.args_) := Lib.hid (HR4.out.frame (fun b h => ⟨Nat.lt_of_lt_of_le h.1 hb56.size, h.2⟩) (fun b o h => hb56.cell (p := ⟨b, o, none⟩) h.1))
      have HC6 := Lib.hid (HC4.out.kept hb56)
      have HB6 := Lib.hid (HB4.out.trans (But.of_below hb56))
      have HW6 := Lib.hid hW6.symm
      clear hm hb5 hb6 hb56 HX4 HT4 HR4 HC4 HB4 HLK hW6
      cases met with
      | false =>
        go_upto_region 9 with (fail)
        rw [HW6.out]
        have hX := HX6.out
        have x0 : W6.cell? ⟨w3.heap.size, 0, none⟩ = some (.string s) := by rw [hX.cell]; rfl
        have x1 : W6.cell? ⟨w3.heap.size, 1, none⟩ = some (.int .i64 x.kind_) := by rw [hX.cell]; rfl
        have x2 : W6.cell? ⟨w3.heap.size, 2, none⟩ = some (.string x.name_) := by rw [hX.cell]; rfl
        have x3 : W6.cell? ⟨w3.heap.size, 3, none⟩ = some (.slice A3 x.args_.length c3) := by rw [hX.cell]; rfl
        have hxl := hX.lt
        obtain ⟨us, ho, he⟩ := HT6.out
        have hsb := HB6.out.size
        have HOW := Lib.hid ho
        have HO2 := Lib.hid (ho.alloc (.cells #[.string s, .int .i64 x.kind_, .string x.name_, .slice A3 x.args_.length c3] 77))
        have HE := Lib.hid he
        have HCE := Lib.hid (news4 W6 77 (.string s) (.int .i64 x.kind_) (.string x.name_) (.slice A3 x.args_.length c3))
        clear hX ho he
        go_wp2_with (at_builtin; refine wpList_append_any rfl (.tmp 36) (.tmp 38) 29 rfl w.heap.size 77 i0 (.agg #[.string ByteArray.empty, .int .i64 0, .string ByteArray.empty, .slice none 0 0]) 4 64 Try.underlying29 hi hz0 hz1 hz2 rfl (by decide) (.slice Av acc.length cv) acc.length us rfl HO2.out (some ⟨W6.heap.size, 0, none⟩) 1 1 [.string s, .int .i64 x.kind_, .string x.name_, .slice A3 x.args_.length c3] rfl rfl (.inr ⟨_, rfl, HCE.out⟩) (one4 _ _ _ _ _ _) (by unfold maxLen; omega) (by omega) (by simp; omega) (W6.heap.size + 1) (by simp) ?_)
        intro V w8 hown8 hgrow8 hat8
        have hpush := TopB.push HE.out HR6.out hown8 hgrow8 (hat8.imp_right fun h => h.trans (by simp))
        have hal : Below W6.heap.size W6 (W6.alloc (.cells #[.string s, .int .i64 x.kind_, .string x.name_, .slice A3 x.args_.length c3] 77)) := (Below.refl _ _).alloc (Nat.le_refl _) _
        have hc8 := cur_grown (HC6.out.kept hal) hgrow8 (fun j e => by have := (HOW.out.lt j e).1; omega)
        have hb8 := But.grow_ (HB6.out.trans (But.of_below hal)) hgrow8 (fun j e => (HOW.out.lt j e).1)
        have hok8 := OkBs.snoc HOK.out (b := .mk s x) hss (by show x.size ≤ 100; omega) hxt
        have HPU := Lib.hid hpush
        have HC8 := Lib.hid hc8
        have HB8 := Lib.hid hb8
        have HOK8 := Lib.hid hok8
        have hl8 : (acc ++ [BindingX.mk s x]).length ≤ k + 1 := by rw [List.length_append, List.length_singleton]; omega
        clear hpush hal hc8 hb8 hok8 hown8 hgrow8 hat8
        go_wp2
        go_roundw
        case rel => exact ⟨k + 1, _, by omega, by go_num, HPU.out, HOK8.out, hl8, HC8.out, HB8.out⟩
        case measure => simp [Go.RowKit.intOf]; omega
      | true =>
        go_wp2_with fail
        rw [HW6.out]
        refine (drawOnce B g 4 _ HC6.out (by decide) (by decide)).mono ?_
        rintro e w7 ⟨v, rfl, ⟨q, rfl⟩, hc7, hb7⟩
        have hs7 := hb7.size
        have HX7 := Lib.hid (whole_but HX6.out hb7 (by omega))
        have HT7 := Lib.hid (HT6.out.but hG hg hb7)
        have HR7 : Hid (TypeRow w7 (fun b => b < w7.heap.size ∧ ¬ G b ∧ (Value.slice Av acc.length cv).ownBlock ≠ some b) A3 c3 x.args_) := Lib.hid (HR6.out.frame (fun b h => ⟨Nat.lt_of_lt_of_le h.1 hb7.size, h.2⟩) (fun b o h => World.cell?_of_block (a := ⟨b, o, none⟩) (hb7.block b h.1 (fun e => h.2.1 (e ▸ hg)))))
        have HC7 := Lib.hid hc7
        have HB7 := Lib.hid (HB6.out.trans hb7)
        clear hc7 hb7 HX6 HT6 HR6 HC6 HB6
        cases q with
        | false =>
          go_wp2
          go_roundw
          case rel => exact ⟨k + 1, acc, by omega, by go_num, HT7.out, HOK.out, by omega, HC7.out, HB7.out⟩
          case measure => simp [Go.RowKit.intOf]; omega
        | true =>
          have hX := HX7.out
          have x0 : w7.cell? ⟨w3.heap.size, 0, none⟩ = some (.string s) := by rw [hX.cell]; rfl
          have x1 : w7.cell? ⟨w3.heap.size, 1, none⟩ = some (.int .i64 x.kind_) := by rw [hX.cell]; rfl
          have x2 : w7.cell? ⟨w3.heap.size, 2, none⟩ = some (.string x.name_) := by rw [hX.cell]; rfl
          have x3 : w7.cell? ⟨w3.heap.size, 3, none⟩ = some (.slice A3 x.args_.length c3) := by rw [hX.cell]; rfl
          have hxl := hX.lt
          obtain ⟨us, ho, he⟩ := HT7.out
          have hsb := HB7.out.size
          have HOW := Lib.hid ho
          have HO2 := Lib.hid (ho.alloc (.cells #[.string s, .int .i64 x.kind_, .string x.name_, .slice A3 x.args_.length c3] 77))
          have HE := Lib.hid he
          have HCE := Lib.hid (news4 w7 77 (.string s) (.int .i64 x.kind_) (.string x.name_) (.slice A3 x.args_.length c3))
          clear hX ho he
          go_wp2_with (at_builtin; refine wpList_append_any rfl (.tmp 36) (.tmp 38) 29 rfl w.heap.size 77 i0 (.agg #[.string ByteArray.empty, .int .i64 0, .string ByteArray.empty, .slice none 0 0]) 4 64 Try.underlying29 hi hz0 hz1 hz2 rfl (by decide) (.slice Av acc.length cv) acc.length us rfl HO2.out (some ⟨w7.heap.size, 0, none⟩) 1 1 [.string s, .int .i64 x.kind_, .string x.name_, .slice A3 x.args_.length c3] rfl rfl (.inr ⟨_, rfl, HCE.out⟩) (one4 _ _ _ _ _ _) (by unfold maxLen; omega) (by omega) (by simp; omega) (w7.heap.size + 1) (by simp) ?_)
          intro V w8 hown8 hgrow8 hat8
          have hpush := TopB.push HE.out HR7.out hown8 hgrow8 (hat8.imp_right fun h => h.trans (by simp))
          have hal : Below w7.heap.size w7 (w7.alloc (.cells #[.string s, .int .i64 x.kind_, .string x.name_, .slice A3 x.args_.length c3] 77)) := (Below.refl _ _).alloc (Nat.le_refl _) _
          have hc8 := cur_grown (HC7.out.kept hal) hgrow8 (fun j e => by have := (HOW.out.lt j e).1; omega)
          have hb8 := But.grow_ (HB7.out.trans (But.of_below hal)) hgrow8 (fun j e => (HOW.out.lt j e).1)
          have hok8 := OkBs.snoc HOK.out (b := .mk s x) hss (by show x.size ≤ 100; omega) hxt
          have HPU := Lib.hid hpush
          have HC8 := Lib.hid hc8
          have HB8 := Lib.hid hb8
          have HOK8 := Lib.hid hok8
          have hl8 : (acc ++ [BindingX.mk s x]).length ≤ k + 1 := by rw [List.length_append, List.length_singleton]; omega
          clear hpush hal hc8 hb8 hok8 hown8 hgrow8 hat8
          go_wp2
          go_roundw
          case rel => exact ⟨k + 1, _, by omega, by go_num, HPU.out, HOK8.out, hl8, HC8.out, HB8.out⟩
          case measure => simp [Go.RowKit.intOf]; omega
    · obtain rfl : k = nn := by omega
      have HT := Lib.hid htop
      have HC := Lib.hid hcur
      have HB := Lib.hid hbut
      clear htop hcur hbut hok
      have hend : ∀ (W : World) (l : List BindingX) (A : Option Addr) (c : Nat), TopB G w.heap.size W (.slice A l.length c) l → OkBs l → l.length ≤ 4 → Cur W B g → But g w W → DrawnBs G B g w (.returned (.slice A l.length c)) W := fun W l A c h1 h2 h3 h4 h5 => ⟨l, A, c, rfl, h1.row hG, h3, h2, h4, h5⟩
      have HEND := Lib.hid hend
      clear hend
      by_cases hn0 : k = 0
      · go_wp2
        go_ret
        exact HEND.out _ _ _ _ HT.out HOK.out (by omega) HC.out HB.out
      · by_cases hal : acc.length = 0
        · have hfin := HEND.out _ _ _ _ HT.out HOK.out (by omega) HC.out HB.out
          rw [hal] at hfin
          have HF := Lib.hid hfin
          clear hfin
          go_wp2
          go_ret
          exact HF.out
        · go_wp2_with fail
          refine (drawOnce B g 8 _ HC.out (by decide) (by decide)).mono ?_
          rintro e w7 ⟨v, rfl, ⟨q, rfl⟩, hc7, hb7⟩
          have hs7 := hb7.size
          have HT7 := Lib.hid (HT.out.but hG hg hb7)
          have HC7 := Lib.hid hc7
          have HB7 := Lib.hid (HB.out.trans hb7)
          clear hc7 hb7 HT HC HB
          cases q with
          | false =>
            go_wp2
            go_ret
            exact HEND.out _ _ _ _ HT7.out HOK.out (by omega) HC7.out HB7.out
          | true =>
            have HG7 : Hid (∀ b, (G b ∨ (Value.slice Av acc.length cv).ownBlock = some b) → b < w7.heap.size) := Lib.hid fun b h => h.elim (fun e => by have := hG b e; omega) (fun e => (HT7.out.own_lt e).2)
            go_wp2_with fail
            refine (bentC (fun b => G b ∨ (Value.slice Av acc.length cv).ownBlock = some b) B g w7 HG7.out (.inl hg) HC7.out).mono ?_
            rintro e w8 ⟨t, ⟨V8, rfl, ht8⟩, hts, htt, -, hc8, hb8⟩
            obtain ⟨A8, c8, rfl⟩ := ht8.shape
            obtain ⟨A8', c8', e8, hr8⟩ := ht8.row HG7.out
            injection e8 with e8 _ e9
            subst e8 e9
            have hT8 := HT7.out.but hG hg hb8
            obtain ⟨us, ho, he⟩ := hT8
            obtain ⟨m, hm⟩ : ∃ m, acc.length = m + 1 := ⟨acc.length - 1, by omega⟩
            obtain ⟨⟨b0s, b0x⟩, r, hacc⟩ := List.exists_cons_of_length_pos (show 0 < acc.length by omega)
            rw [hm] at ho
            obtain ⟨gb, cap, eV⟩ := own_some ho
            rw [← hm] at eV ho
            injection eV with eV1 eV2 eV3
            subst eV1 eV3
            have hgb := ho.lt gb rfl
            have hT8 : TopB G w.heap.size w8 (.slice (some ⟨gb, 0, none⟩) acc.length cv) acc := ⟨us, ho, he⟩
            have hul : us.length = acc.length * 4 := ho.1
            obtain ⟨d1, hd1⟩ : ∃ v, w8.cell? ⟨gb, 1, none⟩ = some v := ⟨_, (World.ownsRow.cellAt ho 1 (by omega)).trans (List.getElem?_eq_getElem (by omega))⟩
            obtain ⟨d2, hd2⟩ : ∃ v, w8.cell? ⟨gb, 2, none⟩ = some v := ⟨_, (World.ownsRow.cellAt ho 2 (by omega)).trans (List.getElem?_eq_getElem (by omega))⟩
            obtain ⟨d3, hd3⟩ : ∃ v, w8.cell? ⟨gb, 3, none⟩ = some v := ⟨_, (World.ownsRow.cellAt ho 3 (by omega)).trans (List.getElem?_eq_getElem (by omega))⟩
            have hgl8 := hgb.2
            have hfr1 : w8.frozen? ⟨gb, 1, none⟩ = false := ho.frozenAt 1
            have hfr2 : w8.frozen? ⟨gb, 2, none⟩ = false := ho.frozenAt 2
            have hfr3 : w8.frozen? ⟨gb, 3, none⟩ = false := ho.frozenAt 3
            have hfirst : ∀ W, W = ((w8.setCell ⟨gb, 1, none⟩ (.int .i64 t.kind_)).setCell ⟨gb, 2, none⟩ (.string t.name_)).setCell ⟨gb, 3, none⟩ (.slice A8 t.args_.length c8) → DrawnBs G B g w (.returned (.slice (some ⟨gb, 0, none⟩) acc.length cv)) W := fun W hW => by
              have h1 := TopB.first (s := b0s) (x := b0x) (t := t) (l := r) (A := A8) (d := c8) (G := G) (B := w.heap.size) (w := w8) (b := gb) (n := acc.length) (c := cv) (by rw [← hacc]; exact hT8) (hr8.frame (fun b h => ⟨h.1, fun e => h.2 (.inl e), fun e => h.2 (.inr e)⟩) (fun _ _ _ => rfl))
              rw [← hW] at h1
              have hlen' : acc.length = (BindingX.mk b0s t :: r).length := by rw [hacc]; rfl
              rw [hlen'] at h1 ⊢
              have hbW : But gb w8 W := by rw [hW]; exact ((But.set_ _ _ 1 _).trans (But.set_ _ _ 2 _)).trans (But.set_ _ _ 3 _)
              refine HEND.out W _ _ _ h1 (fun b hb => ?_) (by rw [← hlen']; omega) (cur_far hc8 hbW (by omega)) (but_new (HB7.out.trans hb8) hbW hgb.1)
              rcases List.mem_cons.1 hb with rfl | hb
              · exact ⟨(HOK.out (.mk b0s b0x) (by rw [hacc]; simp)).1, hts, htt⟩
              · exact HOK.out b (by rw [hacc]; simp [hb])
            have HF := Lib.hid hfirst
            have hpos : 0 < acc.length := by omega
            clear hfirst hT8 he hr8 ht8 hc8 hb8 HT7 HB7 HC7 HG7 hacc hm hul
            go_wp2
            go_ret
            exact HF.out _ rfl
end Go.Proofs.Ytkiofeiinecpiaa

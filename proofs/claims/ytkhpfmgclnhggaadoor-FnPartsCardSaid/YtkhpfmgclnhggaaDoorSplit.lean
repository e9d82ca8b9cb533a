/- What the program's SplitByte and the reference model's return: the pieces between the bytes. -/
import Derived.Test.YtkhpfmgclnhggaaDoorParts
import Derived.Test.YtkhpfmgclnhggaaDoorMem
import Derived.Test.YtkhpfmgclnhggaaDoorShelfSplit
import Derived.BigQuiet
import Derived.Deep.QuietTactic
import Derived.Outline
namespace Go.Proofs.YtkhpfmgclnhggaaDoor
open Go.RowKit Go.Lib

theorem infoString : (Tryd.prog.info? 9).map (fun i => (i.zero, i.size, i.bytes)) = some (some (.string ByteArray.empty), 1, 16) := by kernel_rfl


/-- WHAT A CUTTING RETURNS: a new row of the pieces between the bytes b; of what was there nothing has turned. -/
def Pieces (b : UInt8) (l : List UInt8) (w : World) (e : Ending) (w' : World) : Prop :=
  ∃ (g c : Nat) (ss : List ByteArray), e = .returned (.slice (some ⟨g, 0, none⟩) ss.length c) ∧ ss.map (·.data.toList) = parts b l ∧ w.heap.size ≤ g ∧ g < w'.heap.size ∧ (∀ j x, ss[j]? = some x → w'.cell? ⟨g, j, none⟩ = some (.string x)) ∧ Below w.heap.size w w'

theorem news_one (w : World) (t : TypeId) (x : Value) : ∀ (j : Nat) (u : Value), [x][j]? = some u → (w.alloc (.cells #[x] t)).cell? ((⟨w.heap.size, 0, none⟩ : Addr).add j) = some u := by
  intro j u hj
  match j, hj with
  | 0, hj => simp at hj; subst hj; simp [Addr.add]
theorem one_string (x : ByteArray) : ∀ u ∈ [Value.string x], u.oneCell' = true := by
  intro u hu
  simp at hu
  subst hu
  rfl
theorem strs_map (d : List ByteArray) (x : ByteArray) : d.map Value.string ++ [.string x] = (d ++ [x]).map Value.string := by simp

set_option maxRecDepth 100000 in
set_option maxHeartbeats 2000000 in
theorem specSplit (s : ByteArray) (b : UInt8) (w : World) (hs : s.size ≤ 1048576) :
    Calls Tryd.prog 19 #[.string s, .int .u8 b.toNat] w (Pieces b s.data.toList w) := by
  obtain ⟨i0, hi, hz0, hz1, hz2⟩ := info_parts infoString
  have hlen : s.data.toList.length = s.size := by simp
  have HLEN := Lib.hid hlen
  clear hlen
  go_enter Tryd.func19, Tryd.ntmps19
  go_wp2
  go_loopw [5, 6, 7] (fun v fv iv wr => ∃ (i f : Nat) (d : List ByteArray), iv = .int .i64 i ∧ fv = .int .i64 f ∧ SplitAt b s.data.toList i f d ∧ wr.ownsRow w.heap.size 9 1 v d.length (d.map Value.string) ∧ Below w.heap.size w wr) (fun _ _ iv _ => s.size + 1 - (Go.RowKit.intOf iv).toNat)
  case atStart => exact ⟨0, 0, [], rfl, rfl, SplitAt.start _ _, World.ownsRow_made w #[] 0 (Nat.le_refl _) (by decide) rfl, (Below.refl _ _).alloc (Nat.le_refl _) _⟩
  case round =>
    obtain ⟨i, f, d, rfl, rfl, hat, hown, hb⟩ := hrel
    have hle := hat.le
    have hdl := hat.length
    rw [HLEN.out] at hle hdl
    obtain ⟨hle1, hle2⟩ := hle
    have HAT := Lib.hid hat
    clear hat
    by_cases hlt : i < s.size
    · have hget : s.data.toList[i]? = some s[i] := by rw [List.getElem?_eq_getElem (by rw [HLEN.out]; exact hlt)]; rfl
      by_cases hc : s[i] = b
      · have hq : ((s[i].toNat : Int) == b.toNat) = true := by rw [hc]; simp
        have hq2 : ((i : Int) == s.size) = false := by simp; omega
        have hcut := HAT.out.cut (p := s.extract f i) (by rw [HLEN.out]; exact hlt) (by rw [hget, hc]) (extract_data s f i)
        have HC := Lib.hid hcut
        clear hget hc hcut
        go_wp2_with (at_builtin; refine wpList_append_own _ rfl _ _ 31 rfl w.heap.size 9 i0 (.string ByteArray.empty) 1 16 Tryd.underlying31 hi hz0 hz1 hz2 rfl (by decide) _ _ _ rfl (hown.alloc _) ⟨wr.heap.size, 0, none⟩ 1 1 [.string (s.extract f i)] rfl rfl (news_one wr _ _) (one_string _) (by unfold maxLen; omega) (by omega) (by have := hb.size; simp; omega) ?_)
        intro v' w1 hown1 hgrow _
        have hb1 : Below w.heap.size w w1 := (hb.alloc hb.size _).grown hgrow (by have := hb.size; simp; omega) (fun k hk => (hown.lt k hk).1)
        rw [strs_map] at hown1
        go_wp2
        go_roundw
        case rel => exact ⟨i + 1, i + 1, d ++ [s.extract f i], by go_num, by go_num, HC.out, by simpa using hown1, hb1⟩
        case measure => simp [Go.RowKit.intOf]; omega
      · have hq : ((s[i].toNat : Int) == b.toNat) = false := by
          rw [beq_eq_false_iff_ne]; intro e
          exact hc (UInt8.toNat_inj.1 (by omega))
        have hq2 : ((i : Int) == s.size) = false := by simp; omega
        have hskip := HAT.out.skip (by rw [HLEN.out]; exact hlt) (by rw [hget]; intro e; exact hc (Option.some.inj e))
        have HC := Lib.hid hskip
        clear hget hc hskip
        go_wp2
        go_roundw
        case rel => exact ⟨i + 1, f, d, by go_num, rfl, HC.out, hown, hb⟩
        case measure => simp [Go.RowKit.intOf]; omega
    · by_cases heq : i = s.size
      · have hq2 : ((i : Int) == s.size) = true := by simp; omega
        have hcut := HAT.out.last (p := s.extract f i) (by rw [HLEN.out]; exact heq) (by rw [extract_data, List.take_of_length_le]; rw [List.length_drop, HLEN.out]; omega)
        have HC := Lib.hid hcut
        have hle3 : i ≤ s.size := by omega
        clear hcut heq hlt
        go_wp2_with (at_builtin; refine wpList_append_own _ rfl _ _ 31 rfl w.heap.size 9 i0 (.string ByteArray.empty) 1 16 Tryd.underlying31 hi hz0 hz1 hz2 rfl (by decide) _ _ _ rfl (hown.alloc _) ⟨wr.heap.size, 0, none⟩ 1 1 [.string (s.extract f i)] rfl rfl (news_one wr _ _) (one_string _) (by unfold maxLen; omega) (by omega) (by have := hb.size; simp; omega) ?_)
        intro v' w1 hown1 hgrow _
        have hb1 : Below w.heap.size w w1 := (hb.alloc hb.size _).grown hgrow (by have := hb.size; simp; omega) (fun k hk => (hown.lt k hk).1)
        rw [strs_map] at hown1
        go_wp2
        go_roundw
        case rel => exact ⟨i + 1, i + 1, d ++ [s.extract f i], by go_num, by go_num, HC.out, by simpa using hown1, hb1⟩
        case measure => simp [Go.RowKit.intOf]; omega
      · have hi1 : i = s.size + 1 := by omega
        have hdone := HAT.out.done (by rw [HLEN.out]; omega)
        have hne : d ≠ [] := by intro e; subst e; exact parts_ne _ _ hdone.symm
        have HC := Lib.hid hdone
        have HN := Lib.hid hne
        clear hdone hne heq hlt
        go_wp2
        go_ret
        have hpos := List.length_pos_iff.2 HN.out
        rcases hown.2 with ⟨_, h0⟩ | ⟨g, c, cur, rfl, hg, hh, _⟩
        · omega
        refine ⟨g, c, d, rfl, HC.out, hg, ?_, fun j x hj => ?_, hb⟩
        · rcases Nat.lt_or_ge g wr.heap.size with h | h
          · exact h
          · rw [Array.getElem?_eq_none h] at hh; cases hh
        have hjl : j < d.length := by
          rcases Nat.lt_or_ge j d.length with h | h
          · exact h
          · rw [List.getElem?_eq_none h] at hj; cases hj
        rw [World.ownsRow.cellAt hown j (by omega), List.getElem?_map, hj]
        rfl

/-- The library's MaxLen holds some number. -/
def MaxL (w : World) : Prop := ∃ m, w.cell? ⟨3, 0, none⟩ = some (.int .i64 m)
theorem MaxL.below {w w' : World} (h : MaxL w) (hb : Below w.heap.size w w') : MaxL w' := by
  obtain ⟨m, hm⟩ := h
  exact ⟨m, (hb.cell (World.block_lt_of_cell? w _ hm)).trans hm⟩

theorem byte_back (b : UInt8) : UInt8.ofNat ((b.toNat : Int)).toNat = b := by simp

/-- The program's row is a block of its own, known whole. -/
def PiecesWhole (b : UInt8) (l : List UInt8) (w : World) (e : Ending) (w' : World) : Prop :=
  ∃ (g : Nat) (ss : List ByteArray), e = .returned (.slice (some ⟨g, 0, none⟩) ss.length ss.length) ∧ ss.map (·.data.toList) = parts b l ∧ w.heap.size ≤ g ∧ g < w'.heap.size ∧ Whole w' g 9 (ss.map Value.string).toArray ∧ Below w.heap.size w w'

set_option maxRecDepth 100000 in
set_option maxHeartbeats 400000 in
theorem implSplit (s : ByteArray) (b : UInt8) (w : World) (hs : s.size ≤ 1048576) (hm : MaxL w) :
    Calls Tryd.prog 17 #[.string s, .int .u8 b.toNat] w (PiecesWhole b s.data.toList w) := by
  have kc := fun (w : World) (z : Int) => conv_one (P := Tryd.prog) Tryd.underlying22 Tryd.underlying5 Tryd.underlying9 w z
  have hb0 : Below w.heap.size w (w.alloc (.cells #[.int .u8 b.toNat] 5)) := (Below.refl _ _).alloc (Nat.le_refl _) _
  obtain ⟨m, hm1⟩ := hm.below hb0
  have HM := Lib.hid hm1
  clear hm hm1
  go_enter Tryd.func17, Tryd.ntmps17
  go_wp2_with fail
  refine (Tryd.strings_Split s ⟨#[b]⟩ m _ (by omega) HM.out (Nat.le_refl 1)).mono ?_
  rintro e w1 ⟨rfl, rfl⟩
  have hl : (splitB ⟨#[b]⟩ 0 (countB s ⟨#[b]⟩) s).length = countB s ⟨#[b]⟩ + 1 := splitB_all ⟨#[b]⟩ (Nat.le_refl 1) 0 _ s rfl
  have hp := splitB_parts s b
  rw [← hl]
  generalize splitB ⟨#[b]⟩ 0 (countB s ⟨#[b]⟩) s = ss at *
  have HP := Lib.hid hp
  clear hl hp
  go_wp2
  go_ret
  exact ⟨_, ss, rfl, HP.out, by simp, by simp, by have h := Whole.new (w.alloc (.cells #[.int .u8 b.toNat] 5)) 9 (ss.map Value.string).toArray; simpa using h, hb0.trans ((Below.refl _ _).alloc (by simp) _)⟩
end Go.Proofs.YtkhpfmgclnhggaaDoor

/- The reference model's Lookup. -/
import Derived.Test.YtngbilblddngcaaDoorZLookI
import Derived.Test.YtngbilblddngcaaDoorZSpCopy
namespace Go.Proofs.YtngbilblddngcaaDoor
open Go.RowKit Go.Lib

set_option maxRecDepth 100000 in
set_option maxHeartbeats 4000000 in
theorem specLookup (l : List BindingX) (A : Option Addr) (c : Nat) (v : ByteArray) (w : World) (hl : ∀ b ∈ l, b.type_.size ≤ 4294967296) (hA : BindingRow w (Und w.heap.size) A c l) :
    Calls Tryd.prog 57 #[.slice A l.length c, .string v] w (MadeB ((lookX v l).getD zeroX) (lookX v l).isSome w) := by
  have hcap := hA.cap
  have hz := Whole.new w 26 #[.int .i64 0, .string ⟨#[]⟩, .slice none 0 0]
  have hb0 : Below w.heap.size w (w.alloc (.cells #[.int .i64 0, .string ⟨#[]⟩, .slice none 0 0] 26)) := (Below.refl _ _).alloc (Nat.le_refl _) _
  have HA := Lib.hid hA
  have HZ := Lib.hid hz
  have HB := Lib.hid hb0
  have HL := Lib.hid hl
  clear hA hz hb0 hl
  go_enter Tryd.func57, Tryd.ntmps57
  go_wp2
  go_loopw [6] (fun iv wr => ∃ k : Nat, k ≤ l.length ∧ iv = .int .i64 k ∧ Whole wr w.heap.size 26 #[.int .i64 0, .string ⟨#[]⟩, .slice none 0 0] ∧ lookX v (l.take k) = none ∧ Below w.heap.size w wr) (fun iv _ => l.length - (Go.RowKit.intOf iv).toNat)
  case atStart => exact ⟨0, Nat.zero_le _, rfl, HZ.out, rfl, HB.out⟩
  case round =>
    obtain ⟨k, hk, rfl, hzr, hn, hb⟩ := hrel
    by_cases hlt : k < l.length
    · obtain ⟨b, o, A3, c3, rfl, hP, p0, p1, p2, p3, h3⟩ := (HA.out.grow hb).at_ hlt
      by_cases he : l[k].var_ = v
      · have hy := look_here hlt hn he
        have HC := Lib.hid (specCopy l[k].type_ A3 c3 wr (HL.out _ (List.getElem_mem hlt)) h3)
        have HY := Lib.hid hy
        have HZ2 := Lib.hid hzr
        subst he
        clear hn hy hzr h3
        go_wp2_with fail
        refine HC.out.mono ?_
        intro e w3 hm
        obtain ⟨vs, bs, A5, c5, rfl, rfl, hO3, hn3, hb3⟩ := madeT_get hm
        have hz3 := HZ2.out.below hb3 HZ2.out.lt
        obtain ⟨z0, z1, z2⟩ := cells3 hz3
        have zf0 := hz3.frozen 0
        have zf1 := hz3.frozen 1
        have zf2 := hz3.frozen 2
        have zlt := hz3.lt
        have hend := tyEndY (k := l[k].type_.kind_) (s := l[k].type_.name_) (A := A5) (n := l[k].type_.args_.length) (cc := c5) hz3 (Nat.le_refl _) (hb.trans (hb3.mono hb.size))
        have HE := Lib.hid hend
        have HO := Lib.hid hO3
        have HN := Lib.hid hn3
        clear hend hO3 hn3 hm hb3 hz3
        go_wp2
        obtain ⟨e0, e1, e2, hbut, hb4⟩ := HE.out _ rfl
        have hob := hb.size
        exact bodyPost_ret (v := .tuple #[.agg #[.int .i64 l[k].type_.kind_, .string l[k].type_.name_, .slice A5 l[k].type_.args_.length c5], .bool true]) (by simp [results, Tryd.results57, go_sem, e0, e1, e2]) rfl (by rw [HY.out]; exact ⟨_, _, rfl, OwVs_wide (by omega) _ (made_in HO.out HZ2.out.lt hbut), HN.out, hb4⟩)
      · have hne := text_ne he
        have hn2 := look_on hlt hn he
        have HN2 := Lib.hid hn2
        have HZ2 := Lib.hid hzr
        clear hn hn2 hzr he h3
        go_wp2
        go_roundw
        case rel => exact ⟨k + 1, by omega, by go_num, HZ2.out, HN2.out, hb⟩
        case measure => simp [Go.RowKit.intOf]; omega
    · obtain rfl : k = l.length := by omega
      rw [List.take_length] at hn
      have HN := Lib.hid hn
      obtain ⟨z0, z1, z2⟩ := cells3 hzr
      have zf0 := hzr.frozen 0
      have zf1 := hzr.frozen 1
      have zf2 := hzr.frozen 2
      have zlt := hzr.lt
      have hend := tyEndY (k := 0) (s := ⟨#[]⟩) (A := none) (n := 0) (cc := 0) hzr (Nat.le_refl _) hb
      have HE := Lib.hid hend
      clear hn hend hzr
      go_wp2
      obtain ⟨e0, e1, e2, hbut, hb4⟩ := HE.out _ rfl
      exact bodyPost_ret (v := .tuple #[.agg #[.int .i64 0, .string ⟨#[]⟩, .slice none 0 0], .bool false]) (by simp [results, Tryd.results57, go_sem, e0, e1, e2]) rfl (by rw [HN.out]; exact ⟨_, _, rfl, zeroX_own _ _, List.nodup_nil, hb4⟩)
end Go.Proofs.YtngbilblddngcaaDoor

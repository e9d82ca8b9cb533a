/- The draw of chapter 2's law on sizes. -/
import Derived.Test.YtbnfdjhcakimhaaDraw2
namespace Go.Proofs.Ytbnfdjhcakimhaa
open Go.RowKit Go.Lib

set_option maxRecDepth 100000 in
set_option maxHeartbeats 1000000 in
theorem drawSize (A : Option Addr) (n c : Nat) (w : World) (hA : BytesAt w w.heap.size A n) (hn : n ≤ 140737488355328) :
    Calls Try.prog 26 #[.slice A n c] w (MadeX 100 w) := by
  have hb0 : Below w.heap.size w (w.alloc (.cells #[.string ByteArray.empty, .slice none 0 0] 26)) := (Below.refl _ _).alloc (Nat.le_refl _) _
  have hr0 := Whole.new w 26 #[.string ByteArray.empty, .slice none 0 0]
  have hA1 := (hA.below hb0).mono_ hb0.size
  have HA := Lib.hid hA1
  have HB := Lib.hid hb0
  have HR := Lib.hid hr0
  clear hA hA1 hb0 hr0
  go_enter Try.func26, Try.ntmps26
  go_wp2_with fail
  refine (drawNew A n c _ HA.out hn).mono ?_
  rintro e w1 ⟨g, rfl, hc1, hb1⟩
  have hsz1 := hb1.size
  rw [World.size_alloc] at hsz1
  have hr1 := HR.out.below hb1 HR.out.lt
  have hbw := HB.out.trans (hb1.mono HB.out.size)
  have hg := hc1.own
  rw [World.size_alloc] at hg
  have HC := Lib.hid hc1
  have HR1 := Lib.hid hr1
  have HB1 := Lib.hid hbw
  clear hc1 hb1 hr1 hbw
  go_wp2_with fail
  refine (drawBent _ g _ HC.out).mono ?_
  rintro e w2 ⟨x, V, rfl, hrow, hnx, hs, _, hb2⟩
  have hr2 := HR1.out.but hb2 (by omega)
  have hb3 := HB1.out.trans (hb2.to_below (show w.heap.size ≤ g by omega) HB1.out.size)
  have hend := madeEnd (n := 100) hr2 hb3 (by omega) hrow hnx hs
  have hlt := hr2.lt
  have r0 : w2.cell? ⟨w.heap.size, 0, none⟩ = some (.string ByteArray.empty) := by rw [hr2.cell]; rfl
  have r1 : w2.cell? ⟨w.heap.size, 1, none⟩ = some (.slice none 0 0) := by rw [hr2.cell]; rfl
  have rf0 : w2.frozen? ⟨w.heap.size, 0, none⟩ = false := hr2.frozen 0
  have rf1 : w2.frozen? ⟨w.heap.size, 1, none⟩ = false := hr2.frozen 1
  obtain ⟨A2, c2, rfl⟩ := hrow.shape
  have HE := Lib.hid hend
  clear hend hr2 hb3 hrow hs hb2
  go_wp2
  obtain ⟨e0, e1, e2⟩ := HE.out _ rfl
  exact bodyPost_ret (v := .agg #[.string x.atom, .slice A2 x.list.length c2]) (by simp [results, Try.results26, go_sem, e0, e1]) rfl e2
end Go.Proofs.Ytbnfdjhcakimhaa

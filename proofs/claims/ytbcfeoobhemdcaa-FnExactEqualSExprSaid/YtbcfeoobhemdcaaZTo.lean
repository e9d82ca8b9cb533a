/- The laws' copies of an S-expression: the same expression in new memory. -/
import Derived.Test.YtbcfeoobhemdcaaZSx
import Derived.Test.YtbcfeoobhemdcaaProg
import Derived.Laws.MakeOwn
import Derived.Laws.ResultCell
import Derived.Outline
namespace Go.Proofs.Ytbcfeoobhemdcaa
open Go.RowKit

theorem infoSExpr : (Try.prog.info? 26).map (fun i => (i.zero, i.size, i.bytes)) = some (some (.agg #[.string ByteArray.empty, .slice none 0 0]), 2, 40) := by kernel_rfl

/-- Among these block numbers. -/
def In (lo hi b : Nat) : Prop := lo ≤ b ∧ b < hi
/-- A NEW LIST: the same elements, in blocks of its own. -/
def MadeL (l : List SX) (w : World) (e : Ending) (w' : World) : Prop :=
  ∃ g, e = .returned (.slice (some ⟨g, 0, none⟩) l.length l.length) ∧ In w.heap.size w'.heap.size g ∧ RdE w' (In w.heap.size w'.heap.size) l g 0 ∧ Below w.heap.size w w'
/-- A NEW EXPRESSION, by value; its list in blocks of its own. -/
def MadeX (x : SX) (w : World) (e : Ending) (w' : World) : Prop :=
  ∃ A c, e = .returned (.agg #[.string x.atom, .slice A x.list.length c]) ∧ ListAt w' (In w.heap.size w'.heap.size) A x.list ∧ Below w.heap.size w w'

def ToX (N : Nat) : Prop := ∀ (x : SX) (A : Option Addr) (c : Nat) (w : World), x.nodes ≤ N → x.wt ≤ 1048576 → ListAt w (Lt w.heap.size) A x.list →
  Calls Try.prog 38 #[.agg #[.string x.atom, .slice A x.list.length c]] w (MadeX x w)
def ToL (N : Nat) : Prop := ∀ (l : List SX) (A : Option Addr) (c : Nat) (w : World), SX.nodesL l ≤ N → SX.wtL l ≤ 1048576 → ListAt w (Lt w.heap.size) A l →
  Calls Try.prog 86 #[.slice A l.length c] w (MadeL l w)

set_option maxRecDepth 100000 in
set_option maxHeartbeats 1000000 in
theorem toX_step (N : Nat) (ih : ToL N) : ToX (N + 1) := by
  intro x A c w hn hw hl
  have hn' : SX.nodesL x.list ≤ N := by rw [SX.nodes_eq] at hn; omega
  have hw' : SX.wtL x.list ≤ 1048576 := by rw [SX.wt_eq] at hw; omega
  have HL := Lib.hid hl
  clear hn hw hl
  go_enter Try.func38, Try.ntmps38
  go_wp2_with fail
  have hb3 : Below w.heap.size w (((w.alloc (.cells #[.string x.atom, .slice A x.list.length c] 46)).alloc (.cells #[.string ⟨#[]⟩, .slice none 0 0] 26)).alloc (.cells #[.string x.atom, .slice none 0 0] 26)) :=
    (((Below.refl _ _).alloc (Nat.le_refl _) _).alloc (by simp) _).alloc (by simp; omega) _
  have r1 : Whole (((w.alloc (.cells #[.string x.atom, .slice A x.list.length c] 46)).alloc (.cells #[.string ⟨#[]⟩, .slice none 0 0] 26)).alloc (.cells #[.string x.atom, .slice none 0 0] 26)) (w.heap.size + 1) 26 #[.string ⟨#[]⟩, .slice none 0 0] := by
    have h := Whole.new (w.alloc (.cells #[.string x.atom, .slice A x.list.length c] 46)) 26 #[.string ⟨#[]⟩, .slice none 0 0]
    have h2 := h.below ((Below.refl _ _).alloc (Nat.le_refl _) (.cells #[.string x.atom, .slice none 0 0] 26)) h.lt
    simpa using h2
  have r2 : Whole (((w.alloc (.cells #[.string x.atom, .slice A x.list.length c] 46)).alloc (.cells #[.string ⟨#[]⟩, .slice none 0 0] 26)).alloc (.cells #[.string x.atom, .slice none 0 0] 26)) (w.heap.size + 1 + 1) 26 #[.string x.atom, .slice none 0 0] := by
    have h := Whole.new ((w.alloc (.cells #[.string x.atom, .slice A x.list.length c] 46)).alloc (.cells #[.string ⟨#[]⟩, .slice none 0 0] 26)) 26 #[.string x.atom, .slice none 0 0]
    simpa using h
  have hz3 : w.heap.size + 3 = (((w.alloc (.cells #[.string x.atom, .slice A x.list.length c] 46)).alloc (.cells #[.string ⟨#[]⟩, .slice none 0 0] 26)).alloc (.cells #[.string x.atom, .slice none 0 0] 26)).heap.size := by simp
  generalize (((w.alloc (.cells #[.string x.atom, .slice A x.list.length c] 46)).alloc (.cells #[.string ⟨#[]⟩, .slice none 0 0] 26)).alloc (.cells #[.string x.atom, .slice none 0 0] 26)) = w3 at *
  refine (ih x.list A c _ hn' hw' (HL.out.grow hb3)).mono ?_
  rintro e w1 ⟨g, rfl, hg, hr, hb1⟩
  have s1 := r1.below hb1 r1.lt
  have s2 := r2.below hb1 r2.lt
  have c10 : w1.cell? ⟨w.heap.size + 1, 0, none⟩ = some (.string ⟨#[]⟩) := by rw [s1.cell]; rfl
  have c11 : w1.cell? ⟨w.heap.size + 1, 1, none⟩ = some (.slice none 0 0) := by rw [s1.cell]; rfl
  have c20 : w1.cell? ⟨w.heap.size + 1 + 1, 0, none⟩ = some (.string x.atom) := by rw [s2.cell]; rfl
  have c21 : w1.cell? ⟨w.heap.size + 1 + 1, 1, none⟩ = some (.slice none 0 0) := by rw [s2.cell]; rfl
  have f10 := s1.frozen 0
  have f11 := s1.frozen 1
  have f20 := s2.frozen 0
  have f21 := s2.frozen 1
  have hb : Below w.heap.size w w1 := hb3.trans (hb1.mono hb3.size)
  have hl1 : ListAt w1 (In (w.heap.size + 3) w1.heap.size) (some ⟨g, 0, none⟩) x.list := .inr ⟨g, 0, rfl, by rw [hz3]; exact hg, by rw [hz3]; exact hr⟩
  have HR := Lib.hid hl1
  clear hr hg hl1 r1 r2 s1 s2 hz3
  go_wp2
  refine bodyPost_ret (v := .agg #[.string x.atom, .slice (some ⟨g, 0, none⟩) x.list.length x.list.length]) (by simp [results, Try.results38, go_sem, c10, c11]) rfl ⟨_, _, rfl, ?_, ?_⟩
  · refine HR.out.frame (fun b h => ⟨by have := h.1; omega, by have := h.2; simpa using this⟩) fun b o h => ?_
    have h1 := h.1
    rw [cell_far (by simp; omega), cell_far (by simp; omega), cell_far (by simp; omega)]
  · exact ((hb.setCell (by simp; omega) _).setCell (by simp) _).setCell (by simp) _

/-- One element more of a row that is being filled. -/
theorem RdE_push {wr w1 : World} {B k c2 : Nat} {l : List SX} {A2 : Option Addr} (hk : k < l.length) (hB : B < wr.heap.size) (hrd : RdE wr (In (B + 1) wr.heap.size) (l.take k) B 0) (hb1 : Below wr.heap.size wr w1)
    {v0 v1 : Value} (d0 : w1.cell? ⟨B, k * 2, none⟩ = some v0) (d1 : w1.cell? ⟨B, k * 2 + 1, none⟩ = some v1) (hl2 : ListAt w1 (In wr.heap.size w1.heap.size) A2 l[k].list) :
    RdE ((w1.setCell ⟨B, k * 2, none⟩ (.string l[k].atom)).setCell ⟨B, k * 2 + 1, none⟩ (.slice A2 l[k].list.length c2))
      (In (B + 1) ((w1.setCell ⟨B, k * 2, none⟩ (.string l[k].atom)).setCell ⟨B, k * 2 + 1, none⟩ (.slice A2 l[k].list.length c2)).heap.size) (l.take (k + 1)) B 0 := by
  have hsz : ((w1.setCell ⟨B, k * 2, none⟩ (.string l[k].atom)).setCell ⟨B, k * 2 + 1, none⟩ (.slice A2 l[k].list.length c2)).heap.size = w1.heap.size := by simp
  have hne : (⟨B, k * 2 + 1, none⟩ : Addr) ≠ ⟨B, k * 2, none⟩ := by intro e; injection e with _ e; omega
  have far : ∀ b o, b ≠ B → ((w1.setCell ⟨B, k * 2, none⟩ (.string l[k].atom)).setCell ⟨B, k * 2 + 1, none⟩ (.slice A2 l[k].list.length c2)).cell? ⟨b, o, none⟩ = w1.cell? ⟨b, o, none⟩ := fun b o h => by
    rw [cell_far (Ne.symm h), cell_far (Ne.symm h)]
  have near : ∀ o, o ≠ k * 2 → o ≠ k * 2 + 1 → ((w1.setCell ⟨B, k * 2, none⟩ (.string l[k].atom)).setCell ⟨B, k * 2 + 1, none⟩ (.slice A2 l[k].list.length c2)).cell? ⟨B, o, none⟩ = w1.cell? ⟨B, o, none⟩ := fun o h1 h2 => by
    rw [World.cell?_setCell_other _ _ _ _ (by intro e; injection e with _ e; omega), World.cell?_setCell_other _ _ _ _ (by intro e; injection e with _ e; omega)]
  refine RdE_of _ _ _ fun j hj => ?_
  have hjk : j < k + 1 := by rw [List.length_take] at hj; omega
  rw [List.getElem_take]
  rw [Nat.zero_add]
  by_cases he : j = k
  · subst he
    refine RdX_iff.2 ⟨?_, A2, c2, ?_, ?_⟩
    · rw [World.cell?_setCell_other _ _ _ _ hne]
      exact World.cell?_setCell_same _ _ _ d0
    · exact World.cell?_setCell_same _ _ _ ((World.cell?_setCell_other _ _ _ _ (Ne.symm hne)).trans d1)
    · refine hl2.frame (fun b h => ⟨by have := h.1; omega, by have := h.2; omega⟩) fun b o h => far b o (by have := h.1; omega)
  · have hjk2 : j < (l.take k).length := by rw [List.length_take]; omega
    have h := RdE_at (l.take k) B 0 hrd j hjk2
    rw [List.getElem_take, Nat.zero_add] at h
    refine RdX_frame (fun b h => ⟨h.1, by have := h.2; have := hb1.size; omega⟩) (fun b o h => ?_) _ _ _ ?_ ?_ h
    · rw [far b o (by have := h.1; omega)]
      exact hb1.cell (p := ⟨b, o, none⟩) h.2
    · rw [near _ (by omega) (by omega)]
      exact hb1.cell (p := ⟨B, j * 2, none⟩) hB
    · rw [near _ (by omega) (by omega)]
      exact hb1.cell (p := ⟨B, j * 2 + 1, none⟩) hB

set_option maxRecDepth 100000 in
set_option maxHeartbeats 1000000 in
theorem toL_step (N : Nat) (ih : ToX N) : ToL N := by
  intro l A c w hn hw hl
  have hlen := SX.wtL_length l
  obtain ⟨i0, hi, hz0, hz1, hz2⟩ := info_parts infoSExpr
  have km := fun (w : World) => run_make (P := Try.prog) w 24 26 i0 (.agg #[.string ByteArray.empty, .slice none 0 0]) Try.underlying24 hi hz0 .i64 .i64 (l.length : Int) (l.length : Int) (by omega) (by omega) (by rw [hz2]; omega) (by omega)
  simp only [Int.toNat_natCast, hz1] at km
  have hms : (madeCells (Value.agg #[.string ByteArray.empty, .slice none 0 0]).cells (l.length * 2)).size = l.length * 2 := size_madeCells _ _
  generalize madeCells (Value.agg #[.string ByteArray.empty, .slice none 0 0]).cells (l.length * 2) = cs0 at *
  have HL := Lib.hid hl
  have HN := Lib.hid hn
  have HW := Lib.hid hw
  have HM := Lib.hid hms
  clear hl hn hw hms hi hz0 hz1 hz2
  go_enter Try.func86, Try.ntmps86
  go_wp2
  clear km
  have hb0 : Below w.heap.size w (w.alloc (.cells cs0 26)) := (Below.refl _ _).alloc (Nat.le_refl _) _
  have hw0 := Whole.new w 26 cs0
  go_loopw [4] (fun iv wr => ∃ (k : Nat) (cs : Array Value), k ≤ l.length ∧ iv = .int .i64 k ∧ Whole wr w.heap.size 26 cs ∧ cs.size = l.length * 2 ∧ RdE wr (In (w.heap.size + 1) wr.heap.size) (l.take k) w.heap.size 0 ∧ Below w.heap.size w wr) (fun iv _ => l.length - (Go.RowKit.intOf iv).toNat)
  case atStart => exact ⟨0, cs0, Nat.zero_le _, rfl, hw0, HM.out, by rw [List.take_zero, RdE]; trivial, hb0⟩
  case round =>
    obtain ⟨k, cs, hk, rfl, hwr, hcs, hrd, hb⟩ := hrel
    clear hw0 hb0
    by_cases hlt : k < l.length
    · obtain ⟨b, o, A', c', rfl, hP, hc0, hc1, hl'⟩ := (HL.out.below hb).at_ hlt
      have HX := Lib.hid (hl'.frame (Q := Lt wr.heap.size) (fun _ h => Nat.lt_of_lt_of_le h hb.size) (fun _ _ _ => rfl))
      have HNX := Lib.hid (Nat.le_trans (SX.nodesL_at l k hlt) HN.out)
      have hwx : l[k].wt ≤ 1048576 := by have := SX.wtL_at l k hlt; have := HW.out; omega
      have HRD := Lib.hid hrd
      clear hl' hrd
      go_wp2_with fail
      refine (ih l[k] A' c' _ HNX.out hwx HX.out).mono ?_
      rintro e w1 ⟨A2, c2, rfl, hl2, hb1⟩
      have hw1 := hwr.below hb1 hwr.lt
      have d0 : ∃ v, w1.cell? ⟨w.heap.size, k * 2, none⟩ = some v := by rw [hw1.cell]; exact ⟨_, Array.getElem?_eq_getElem (by omega)⟩
      have d1 : ∃ v, w1.cell? ⟨w.heap.size, k * 2 + 1, none⟩ = some v := by rw [hw1.cell]; exact ⟨_, Array.getElem?_eq_getElem (by omega)⟩
      obtain ⟨v0, d0⟩ := d0
      obtain ⟨v1, d1⟩ := d1
      have f0 := hw1.frozen (k * 2)
      have f1 := hw1.frozen (k * 2 + 1)
      have hpush := RdE_push (c2 := c2) hlt hwr.lt HRD.out hb1 d0 d1 hl2
      have hb2 : Below w.heap.size w w1 := hb.trans (hb1.mono hb.size)
      have hkb : (k : Int) ≤ 1048576 := by have := HW.out; omega
      have HP := Lib.hid hpush
      clear hl2 hpush
      go_wp2
      go_roundw
      case rel => exact ⟨k + 1, _, by omega, by go_num, (hw1.set_ _ _).set_ _ _, by simpa using hcs, HP.out, (hb2.setCell (by simp) _).setCell (by simp) _⟩
      case measure => simp [Go.RowKit.intOf]; omega
    · have hkl : k = l.length := by omega
      subst hkl
      rw [List.take_length] at hrd
      have hlt2 := hwr.lt
      have HRD := Lib.hid hrd
      clear hrd
      go_wp2
      go_ret
      refine ⟨_, rfl, ⟨Nat.le_refl _, hlt2⟩, ?_, hb⟩
      exact RdE_frame (fun b h => ⟨by have := h.1; omega, h.2⟩) (fun _ _ _ => rfl) _ _ _ (fun _ => rfl) HRD.out

theorem toAll : ∀ N, ToX N ∧ ToL N
  | 0 => by
    have hx : ToX 0 := fun x A c w hn => by rw [SX.nodes_eq] at hn; omega
    exact ⟨hx, toL_step 0 hx⟩
  | N + 1 => ⟨toX_step N (toAll N).2, toL_step (N + 1) (toX_step N (toAll N).2)⟩
theorem toX (x : SX) (A : Option Addr) (c : Nat) (w : World) (hw : x.wt ≤ 1048576) (hl : ListAt w (Lt w.heap.size) A x.list) :
    Calls Try.prog 38 #[.agg #[.string x.atom, .slice A x.list.length c]] w (MadeX x w) :=
  (toAll x.nodes).1 x A c w (Nat.le_refl _) hw hl
end Go.Proofs.Ytbcfeoobhemdcaa

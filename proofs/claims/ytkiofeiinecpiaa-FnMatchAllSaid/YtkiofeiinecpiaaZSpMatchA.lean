/- The reference model's MatchAll; a row of one type (for Match). -/
import Derived.Test.YtkiofeiinecpiaaZSpMatch
namespace Go.Proofs.Ytkiofeiinecpiaa
open Go.RowKit Go.Lib

/-- Bindings in memory of their own, and a bool. -/
def MadeBs (l : List BindingX) (b : Bool) (w : World) (e : Ending) (w' : World) : Prop :=
  ∃ (V : Value) (bs : List Nat), e = .returned (.tuple #[V, .bool b]) ∧ OwV w' w.heap.size (.row 77 4 (BindingX.rows l)) V bs ∧ bs.Nodup ∧ Below w.heap.size w w'
theorem MadeBs.of {l : List BindingX} {b : Bool} {V : Value} {w w' : World} (h : KeptAt w.heap.size l V w') (hb : Below w.heap.size w w') : MadeBs l b w (.returned (.tuple #[V, .bool b])) w' := by
  obtain ⟨bs, h1, h2⟩ := h.row
  exact ⟨V, bs, rfl, h1, h2, hb⟩
/-- An empty row in a block of its own. -/
theorem kept_empty (w : World) (B : Nat) (hB : B ≤ w.heap.size) : KeptAt B [] (.slice (some ⟨w.heap.size, 0, none⟩) 0 0) (w.alloc (.cells #[] 77)) :=
  ⟨[], [], World.ownsRow_made (base := B) (e := 77) (size := 4) w #[] 0 hB (by decide) rfl, by rw [BindingX.rows_map, List.map_nil, OwVE]; exact ⟨rfl, rfl⟩, by simp [Value.ownBlock]⟩

set_option maxRecDepth 100000 in
set_option maxHeartbeats 4000000 in
theorem specMatchAll (ps ts : List TypeX) (A C : Option Addr) (a c : Nat) (w : World) (hn : TypeX.sizeL ps ≤ 4294967296) (ht : TypeX.sizeL ts ≤ 4294967296) (hp : TypeRow w (Und w.heap.size) A a ps) (hr : TypeRow w (Und w.heap.size) C c ts) :
    Calls Try.prog 26 #[.slice A ps.length a, .slice C ts.length c] w (MadeBs ((matAll ps ts).getD []) (matAll ps ts).isSome w) := by
  have hpl := sizeL_length ps
  have htl := sizeL_length ts
  have hb0 : Below w.heap.size w (w.alloc (.cells #[] 77)) := (Below.refl _ _).alloc (Nat.le_refl _) _
  have HK := Lib.hid (kept_empty w w.heap.size (Nat.le_refl _))
  have HB := Lib.hid hb0
  by_cases hl : ps.length = ts.length
  · have hma : matAll ps ts = TypeX.matL ps ts [] := by rw [matAll, if_pos hl]
    have hcall := specMats ps ps ts A C a c [] _ w.heap.size (w.alloc (.cells #[] 77)) (Nat.le_refl _) ht (fun b hb => by simp at hb) (by simpa using hn) hl hb0.size
      (hp.frame (fun _ h => h) fun b o h => hb0.cell (p := ⟨b, o, none⟩) h) (hr.frame (fun _ h => h) fun b o h => hb0.cell (p := ⟨b, o, none⟩) h) HK.out
    obtain ⟨oo, hoo⟩ : ∃ oo, oo = TypeX.matL ps ts [] := ⟨_, rfl⟩
    rw [← hoo] at hma hcall
    rw [hma]
    rw [← hl] at hcall ⊢
    have HC := Lib.hid hcall
    clear hp hr hcall hoo hma hl hb0 htl
    go_enter Try.func26, Try.ntmps26
    go_wp2_with fail
    refine HC.out.mono ?_
    rintro e w2 ⟨V, rfl, hk, hb2⟩
    have hbb := HB.out.trans hb2
    have HK2 := Lib.hid hk
    clear hk hb2
    cases oo with
    | none =>
      have HKE := Lib.hid (kept_empty w2 w.heap.size hbb.size)
      go_wp2
      go_ret2
      exact MadeBs.of HKE.out (hbb.alloc hbb.size _)
    | some a2 =>
      go_wp2
      go_ret2
      exact MadeBs.of (HK2.out a2 rfl) hbb
  · have hma : matAll ps ts = none := by rw [matAll, if_neg hl]
    have hne : ((ps.length : Int) == (ts.length : Int)) = false := by rw [beq_eq_false_iff_ne]; omega
    rw [hma]
    clear hp hr hma hb0
    go_enter Try.func26, Try.ntmps26
    go_wp2
    go_ret2
    exact MadeBs.of HK.out HB.out
/-- A new row of one type. -/
theorem row_alone {w : World} {x : TypeX} {A : Option Addr} {c : Nat} (h : TypeRow w (Und w.heap.size) A c x.args_) :
    TypeRow (w.alloc (.cells #[.int .i64 x.kind_, .string x.name_, .slice A x.args_.length c] 26)) (Und (w.alloc (.cells #[.int .i64 x.kind_, .string x.name_, .slice A x.args_.length c] 26)).heap.size) (some ⟨w.heap.size, 0, none⟩) 1 [x] := by
  have hb : Below w.heap.size w (w.alloc (.cells #[.int .i64 x.kind_, .string x.name_, .slice A x.args_.length c] 26)) := (Below.refl _ _).alloc (Nat.le_refl _) _
  have hw := Whole.new w 26 #[.int .i64 x.kind_, .string x.name_, .slice A x.args_.length c]
  have hx := h.grow hb
  refine RdV_row.2 ⟨some ⟨w.heap.size, 0, none⟩, 1, rfl, Nat.le_refl _, by decide, .inr ⟨w.heap.size, 0, rfl, by show w.heap.size < _; simp, [.int .i64 x.kind_, .string x.name_, .slice A x.args_.length c], ?_, fun i v hi => ?_⟩⟩
  · rw [TypeX.rows, TypeX.rows, RdVE]
    refine ⟨[.int .i64 x.kind_, .string x.name_, .slice A x.args_.length c], [], rfl, x.cells_length, ?_, by rw [RdVE]⟩
    rw [TypeX.cells_eq]
    simp only [RdVs]
    exact ⟨_, _, rfl, by rw [RdV_pl], _, _, rfl, by rw [RdV_pl], _, _, rfl, hx, rfl⟩
  · rw [Nat.zero_add, hw.cell]
    simpa using hi
end Go.Proofs.Ytkiofeiinecpiaa

/- The program's OccursIn. -/
import Derived.Test.YtpffmcofajlkgaaZOccI
namespace Go.Proofs.Ytpffmcofajlkgaa
open Go.RowKit Go.Lib

set_option maxRecDepth 100000 in
set_option maxHeartbeats 4000000 in
theorem implOccursIn (v : ByteArray) (t : TypeX) (A : Option Addr) (c : Nat) (w : World) (hsz : t.size ≤ 4294967296) (ht : TypeRow w (Und w.heap.size) A c t.args_) :
    Calls Try.prog 13 #[.string v, .agg #[.int .i64 t.kind_, .string t.name_, .slice A t.args_.length c]] w fun e w' => e = .returned (.bool (decide (0 < t.cntV v))) ∧ Below w.heap.size w w' := by
  obtain ⟨W, hW⟩ : ∃ W, W = (w.alloc (.cells #[.int .i64 t.kind_, .string t.name_, .slice A t.args_.length c] 26)).alloc (.cells #[.map none, .slice none 0 0] 52) := ⟨_, rfl⟩
  have hb0 : Below w.heap.size w W := by rw [hW]; exact ((Below.refl _ _).alloc (Nat.le_refl _) _).alloc (by simp) _
  have hs : W.heap.size = w.heap.size + 2 := by rw [hW]; simp
  have hx1 : Whole W w.heap.size 26 #[.int .i64 t.kind_, .string t.name_, .slice A t.args_.length c] := by rw [hW]; exact (Whole.new w _ _).below ((Below.refl (w.heap.size + 1) _).alloc (by simp) _) (by omega)
  have hx2 : Whole W (w.heap.size + 1) 52 #[.map none, .slice none 0 0] := by
    have h := Whole.new (w.alloc (.cells #[.int .i64 t.kind_, .string t.name_, .slice A t.args_.length c] 26)) 52 #[.map none, .slice none 0 0]
    rw [World.size_alloc] at h; rw [hW]; exact h
  have hsub : t.sub (subX []) = t := sub_nil t
  have hcall := implOccurs [] (Und w.heap.size) (w.heap.size + 1) none (.slice none 0 0) v t A c W ⟨[], Tri.nil, hx2, rfl⟩ (fun b h => ⟨by have : b < w.heap.size := h; omega, by simp⟩) (by simp) (by rw [hsub]; exact hsz) (ht.frame (fun _ h => h) fun b o h => hb0.cell (p := ⟨b, o, none⟩) h)
  rw [hsub] at hcall
  have HC := Lib.hid hcall
  have HB := Lib.hid hb0
  have HX1 := Lib.hid hx1
  have HW := Lib.hid hW.symm
  clear hcall hb0 hx1 hx2 hW ht hs
  go_enter Try.func13, Try.ntmps13
  go_upto_region 2 with (fail)
  rw [HW.out]
  obtain ⟨x0, x1, x2⟩ := cells3 HX1.out
  have hl := HX1.out.lt
  go_wp2_with fail
  refine HC.out.mono ?_
  rintro e w2 ⟨rfl, h2⟩
  have HB2 := Lib.hid (HB.out.trans ((h2.2.below fun _ _ h => by cases h).mono HB.out.size))
  clear h2
  go_wp2
  go_ret
  exact ⟨rfl, HB2.out⟩
end Go.Proofs.Ytpffmcofajlkgaa

/- The draw of a pattern and a type (DrawMatch). -/
import Derived.Test.YtkiofeiinecpiaaZDrawTwo
namespace Go.Proofs.Ytkiofeiinecpiaa
open Go.RowKit Go.Lib

set_option maxRecDepth 100000 in
set_option maxHeartbeats 1000000 in
theorem drawMatch (A0 : Option Addr) (n c0 : Nat) (w : World) (hA : BytesAt w w.heap.size A0 n) (hn : n ≤ 140737488355328) :
    Calls Try.prog 16 #[.slice A0 n c0] w (DrawnTwo w) := by
  obtain ⟨W, hW⟩ : ∃ W, W = (w.alloc (.cells zeroT 26)).alloc (.cells zeroT 26) := ⟨_, rfl⟩
  have hbW : Below w.heap.size w W := by rw [hW]; exact ((Below.refl _ _).alloc (Nat.le_refl _) _).alloc (by simp) _
  have hsW : W.heap.size = w.heap.size + 2 := by rw [hW]; simp
  have hr1 : Whole W w.heap.size 26 zeroT := by rw [hW]; exact (Whole.new w _ _).below ((Below.refl (w.heap.size + 1) _).alloc (by simp) _) (by omega)
  have hr2 : Whole W (w.heap.size + 1) 26 zeroT := by
    have h := Whole.new (w.alloc (.cells zeroT 26)) 26 zeroT
    rw [World.size_alloc] at h
    rw [hW]; exact h
  have HAA := Lib.hid ((hA.below hbW).mono_ hbW.size)
  have HW := Lib.hid hW.symm
  have HR1 := Lib.hid hr1
  have HR2 := Lib.hid hr2
  have HBW := Lib.hid hbW
  clear hA hW hbW hr1 hr2
  go_enter Try.func16, Try.ntmps16
  go_wp2_with fail
  rw [HW.out]
  refine (drawTwo A0 n c0 _ HAA.out hn).mono ?_
  rintro e w1 ⟨p, A, a, t, C, c, rfl, hp, ht, hps, hpt, hpl, hts, htt, hb1⟩
  have h1 := HR1.out.below hb1 (by omega)
  have h2 := HR2.out.below hb1 (by omega)
  have hbb := HBW.out.trans (hb1.mono HBW.out.size)
  obtain ⟨a0, a1, a2⟩ := cells3 h1
  obtain ⟨b0, b1, b2⟩ := cells3 h2
  have af0 := h1.frozen 0
  have af1 := h1.frozen 1
  have af2 := h1.frozen 2
  have bf0 := h2.frozen 0
  have bf1 := h2.frozen 1
  have bf2 := h2.frozen 2
  have al := h1.lt
  have bl := h2.lt
  have HE := Lib.hid (two_end (w := w) (u := w1) (R1 := w.heap.size) (R2 := w.heap.size + 1) (by omega) (Nat.le_refl _) (by omega) h1 h2 hbb (hp.frame (fun b h => by omega) (fun _ _ _ => rfl)) (ht.frame (fun b h => by omega) (fun _ _ _ => rfl)) hps hpt hpl hts htt)
  clear h1 h2 hbb hp ht hpt hpl htt hb1 HR1 HR2 HBW HAA HW
  go_wp2
  obtain ⟨e0, e1, e2, e3, e4, e5, e6⟩ := HE.out _ (.inl rfl)
  exact bodyPost_ret (v := .tuple #[.agg #[.int .i64 p.kind_, .string p.name_, .slice A p.args_.length a], .agg #[.int .i64 t.kind_, .string t.name_, .slice C t.args_.length c]]) (by simp [results, Try.results16, go_sem, e0, e1, e2, e3, e4, e5]) rfl e6
end Go.Proofs.Ytkiofeiinecpiaa

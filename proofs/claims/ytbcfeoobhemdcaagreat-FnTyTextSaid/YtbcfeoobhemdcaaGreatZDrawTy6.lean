/- The draw of FormatType's argument. -/
import Derived.Test.YtbcfeoobhemdcaaGreatZDrawTy4
namespace Go.Proofs.YtbcfeoobhemdcaaGreat
open Go.RowKit Go.Lib

def DrawnTf (w : World) (e : Ending) (w' : World) : Prop := ∃ (x : TypeX) (A : Option Addr) (c : Nat), e = .returned (.agg #[.int .i64 x.kind_, .string x.name_, .slice A x.args_.length c]) ∧ TypeRow w' (Und w'.heap.size) A c x.args_ ∧ x.size ≤ 100 ∧ x.tame ∧ Below w.heap.size w w'
set_option maxRecDepth 100000 in
set_option maxHeartbeats 1000000 in
theorem drawFmtTy (A : Option Addr) (n c : Nat) (w : World) (hA : BytesAt w w.heap.size A n) (hn : n ≤ 140737488355328) :
    Calls Tryz.prog 5 #[.slice A n c] w (DrawnTf w) := by
  have hbX : Below w.heap.size w (w.alloc (.cells zeroT 26)) := (Below.refl _ _).alloc (Nat.le_refl _) _
  have HXX := Lib.hid (Whole.new w 26 zeroT)
  have HAA := Lib.hid ((hA.below hbX).mono_ hbX.size)
  have HBB := Lib.hid hbX
  have HW0 : Hid ((w.alloc (.cells zeroT 26)).heap.size = w.heap.size + 1) := Lib.hid (by simp)
  clear hA hbX
  go_enter Tryz.func5, Tryz.ntmps5
  go_wp2_with fail
  refine (drawNew A n c _ HAA.out hn).mono ?_
  rintro e w1 ⟨g, rfl, hc, hb⟩
  have hX1 := whole_keep HXX.out hb
  have hb1 := HBB.out.trans (hb.mono HBB.out.size)
  have hown := hc.own
  have hw0 := HW0.out
  have hgl := hc.lt
  have hxl := hX1.lt
  have HC := Lib.hid hc
  have HX1 := Lib.hid hX1
  have HB1 := Lib.hid hb1
  clear hc hb hX1 hb1
  go_wp2_with fail
  refine (bentC (fun b => b = g ∨ b = w.heap.size) _ g w1 (fun b h => by rcases h with h | h <;> omega) (.inl rfl) HC.out).mono ?_
  rintro e w2 ⟨x, ⟨V, rfl, ht⟩, hxs, hxt, -, hb2⟩
  obtain ⟨A2, c2, rfl⟩ := ht.shape
  obtain ⟨A2', c2', e2, hr2⟩ := ht.row (fun b h => by rcases h with h | h <;> omega)
  injection e2 with e2 _ e3
  subst e2 e3
  have hX2 := whole_but HX1.out hb2 (by omega)
  have hbb : Below w.heap.size w w2 := HB1.out.trans (hb2.to_below (by omega) HB1.out.size)
  have hend := tyEnd (w := w) (k := x.kind_) (s := x.name_) (A := A2) (n := x.args_.length) (cc := c2) hX2 hbb
  obtain ⟨r0, r1, r2⟩ := cells3 hX2
  have rf0 := hX2.frozen 0
  have rf1 := hX2.frozen 1
  have rf2 := hX2.frozen 2
  have hlt := hX2.lt
  have HE := Lib.hid hend
  have HR2 := Lib.hid hr2
  clear hend hr2 ht hX2 hb2 hbb
  go_wp2
  obtain ⟨e0, e1, e2, hbut, hb4⟩ := HE.out _ rfl
  exact bodyPost_ret (v := .agg #[.int .i64 x.kind_, .string x.name_, .slice A2 x.args_.length c2]) (by simp [results, Tryz.results5, go_sem, e0, e1, e2]) rfl
    ⟨x, A2, c2, rfl, (HR2.out.nogBut (.inr rfl) hbut).frame (fun _ h => h.1) fun _ _ _ => rfl, hxs, hxt, hb4⟩
end Go.Proofs.YtbcfeoobhemdcaaGreat

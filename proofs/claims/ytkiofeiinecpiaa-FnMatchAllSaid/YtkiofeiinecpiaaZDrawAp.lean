/- The draw of a substitution and a type. -/
import Derived.Test.YtkiofeiinecpiaaZDrawB
import Derived.Test.YtkiofeiinecpiaaZDrawTy5
namespace Go.Proofs.Ytkiofeiinecpiaa
open Go.RowKit Go.Lib

def DrawnAp (w : World) (e : Ending) (w' : World) : Prop := ∃ (l : List BindingX) (A : Option Addr) (c : Nat) (x : TypeX) (D : Option Addr) (d : Nat),
  e = .returned (.tuple #[.slice A l.length c, .agg #[.int .i64 x.kind_, .string x.name_, .slice D x.args_.length d]]) ∧ BindingRow w' (Und w'.heap.size) A c l ∧ TypeRow w' (Und w'.heap.size) D d x.args_ ∧ l.length ≤ 4 ∧ OkBs l ∧ x.size ≤ 100 ∧ x.tame ∧ Below w.heap.size w w'

set_option maxRecDepth 100000 in
set_option maxHeartbeats 1000000 in
theorem drawAp (A : Option Addr) (n c : Nat) (w : World) (hA : BytesAt w w.heap.size A n) (hn : n ≤ 140737488355328) :
    Calls Try.prog 41 #[.slice A n c] w (DrawnAp w) := by
  have hbX : Below w.heap.size w (w.alloc (.cells zeroT 26)) := (Below.refl _ _).alloc (Nat.le_refl _) _
  have HXX := Lib.hid (Whole.new w 26 zeroT)
  have HAA := Lib.hid ((hA.below hbX).mono_ hbX.size)
  have HBB := Lib.hid hbX
  have HW0 : Hid ((w.alloc (.cells zeroT 26)).heap.size = w.heap.size + 1) := Lib.hid (by simp)
  clear hA hbX
  go_enter Try.func41, Try.ntmps41
  go_wp2_with fail
  refine (drawNew A n c _ HAA.out hn).mono ?_
  rintro e w1 ⟨g, rfl, hc, hb⟩
  have hX1 := whole_keep HXX.out hb
  have hb1 := HBB.out.trans (hb.mono HBB.out.size)
  have hown := hc.own
  have hw0 := HW0.out
  have hgl := hc.lt
  have hxl := hX1.lt
  have HC := Lib.hid hc
  have HX1 := Lib.hid hX1
  have HB1 := Lib.hid hb1
  clear hc hb hX1 hb1
  go_wp2_with fail
  refine (bindsC (fun b => b = g ∨ b = w.heap.size) _ g w1 (fun b h => by rcases h with h | h <;> omega) (.inl rfl) HC.out).mono ?_
  rintro e w2 ⟨l, A2, c2, rfl, hrow, hl4, hok, hc2, hb2⟩
  have hs2 := hb2.size
  have HX2 := Lib.hid (whole_but HX1.out hb2 (by omega))
  have HB2 := Lib.hid (HB1.out.trans (hb2.to_below (by omega) HB1.out.size))
  have HROW := Lib.hid hrow
  have HOK := Lib.hid hok
  have HC2 := Lib.hid hc2
  clear hrow hok hc2 hb2
  go_wp2_with fail
  refine (bentC (fun b => b = g ∨ b = w.heap.size) _ g w2 (fun b h => by rcases h with h | h <;> omega) (.inl rfl) HC2.out).mono ?_
  rintro e w3 ⟨x, ⟨V, rfl, ht⟩, hxs, hxt, -, -, hb3⟩
  obtain ⟨A3, c3, rfl⟩ := ht.shape
  obtain ⟨A3', c3', e3, hr3⟩ := ht.row (fun b h => by rcases h with h | h <;> omega)
  injection e3 with e3 _ e4
  subst e3 e4
  have hs3 := hb3.size
  have hX3 := whole_but HX2.out hb3 (by omega)
  have hrow3 : BindingRow w3 (fun b => b < w3.heap.size ∧ ¬ (b = g ∨ b = w.heap.size)) A2 c2 l := HROW.out.frame (fun b h => ⟨Nat.lt_of_lt_of_le h.1 hs3, h.2⟩) (fun b o h => World.cell?_of_block (a := ⟨b, o, none⟩) (hb3.block b h.1 (fun e => h.2 (.inl e))))
  have hbb : Below w.heap.size w w3 := HB2.out.trans (hb3.to_below (by omega) HB2.out.size)
  have hend := tyEnd (w := w) (k := x.kind_) (s := x.name_) (A := A3) (n := x.args_.length) (cc := c3) hX3 hbb
  obtain ⟨r0, r1, r2⟩ := cells3 hX3
  have rf0 := hX3.frozen 0
  have rf1 := hX3.frozen 1
  have rf2 := hX3.frozen 2
  have hlt := hX3.lt
  have HE := Lib.hid hend
  have HR3 := Lib.hid hr3
  have HROW3 := Lib.hid hrow3
  clear hend hr3 ht hX3 hb3 hbb hrow3 HROW
  go_wp2
  obtain ⟨e0, e1, e2, hbut, hb4⟩ := HE.out _ rfl
  exact bodyPost_ret (v := .tuple #[.slice A2 l.length c2, .agg #[.int .i64 x.kind_, .string x.name_, .slice A3 x.args_.length c3]]) (by simp [results, Try.results41, go_sem, e0, e1, e2]) rfl
    ⟨l, A2, c2, x, A3, c3, rfl, HROW3.out.frame (fun _ h => Nat.lt_of_lt_of_le h.1 hbut.size) (fun b o h => World.cell?_of_block (a := ⟨b, o, none⟩) (hbut.block b h.1 (fun e => h.2 (.inr e)))), (HR3.out.nogBut (.inr rfl) hbut).frame (fun _ h => h.1) fun _ _ _ => rfl, hl4, HOK.out, hxs, hxt, hb4⟩
end Go.Proofs.Ytkiofeiinecpiaa

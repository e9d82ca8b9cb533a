/- The unifier between calls: what it stands for; sizes and occurrences of what is still to come. -/
import Derived.Test.YtpffmcofajlkgaaZResI
import Derived.Test.YtpffmcofajlkgaaZPreUType
namespace Go.Proofs.Ytpffmcofajlkgaa
open Go.RowKit Go.Shelf Go.Lib
attribute [local go_sem] Oper.semAt_some

/-- Since w only the unifier's map has been turned; it stands for acc. -/
def UniK (acc : List BindingX) (P : Nat → Prop) (Bu : Nat) (mo : Option Nat) (V : Value) (w W : World) : Prop := (∃ σ, Tri σ acc ∧ UniAt P Bu mo V σ W) ∧ KeptM (fun b => mo = some b) w.heap.size w W
section
variable {acc : List BindingX} {P : Nat → Prop} {Bu : Nat} {mo : Option Nat} {V : Value} {w W : World}
theorem UniK.frame (h : UniK acc P Bu mo V w W) (hw : Bu < w.heap.size ∧ (∀ b, mo = some b → b < w.heap.size) ∧ ∀ b, P b → b < w.heap.size) {W' : World} (hb : Below w.heap.size W W') : UniK acc P Bu mo V w W' := by
  obtain ⟨⟨σ, h1, h2⟩, h3⟩ := h
  exact ⟨⟨σ, h1, h2.same (hb.block _ hw.1) (fun mb e => hb.block _ (hw.2.1 mb e)) fun b o h => hb.cell (p := ⟨b, o, none⟩) (hw.2.2 b h)⟩, h3.trans (KeptM.of_below hb)⟩
theorem UniK.row (h : UniK acc P Bu mo V w W) (hP : ∀ b, P b → b < w.heap.size ∧ mo ≠ some b) {A : Option Addr} {c : Nat} {l : List TypeX} (hr : TypeRow w P A c l) : TypeRow W P A c l := hr.frame (fun _ h => h) fun b o hb => h.2.cell (hP b hb).1 (hP b hb).2 o
theorem UniK.step (h : UniK acc P Bu mo V w W) {W' : World} (hs : w.heap.size ≤ W.heap.size) (h1 : ∃ σ, Tri σ acc ∧ UniAt P Bu mo V σ W') (h2 : KeptM (fun b => mo = some b) W.heap.size W W') : UniK acc P Bu mo V w W' := ⟨h1, h.2.trans (h2.mono hs fun _ _ h => h)⟩
theorem ownM_uni {β : Type} {B : Nat} (hw : Bu < w.heap.size ∧ (∀ b, mo = some b → b < w.heap.size) ∧ ∀ b, P b → b < w.heap.size) (hB : w.heap.size ≤ B) : OwnM B (fun _ (_ : β) W => UniK acc P Bu mo V w W) := by
  intro M M' s A A' row hs hg hr _
  refine hs.frame hw ⟨hg.os, hg.tape, hg.output, hg.size, fun b hb => ?_⟩
  have := hs.2.size
  exact hg.block b (by omega) (fun e => by have := (hr _ e.symm).1; omega)
end

theorem ownM_whole {β : Type} {B Bx : Nat} (t : TypeId) (cs : Array Value) (hx : Bx < B) : OwnM B (fun _ (_ : β) W => Whole W Bx t cs) :=
  fun _ _ _ _ _ _ hs hg hr _ => (hg.block Bx (Whole.lt hs) (fun e => by have := (hr _ e.symm).1; omega)).trans hs
theorem ownM_obj {β : Type} {B D : Nat} (o : Obj) (hx : D < B) : OwnM B (fun _ (_ : β) W => W.heap[D]? = some o) :=
  fun _ _ _ _ _ _ hs hg hr _ => (hg.block D (Array.getElem?_eq_some_iff.1 hs).1 (fun e => by have := (hr _ e.symm).1; omega)).trans hs
/-- The sizes of all that lies on the stack, brought up to date. -/
def sizeS (acc : List BindingX) (rs : List (List TypeX)) : Nat := (rs.map fun l => TypeX.sizeL (TypeX.subL (subX acc) l)).sum
def cntS (acc : List BindingX) (v : ByteArray) (rs : List (List TypeX)) : Nat := (rs.map fun l => TypeX.cntVL v (TypeX.subL (subX acc) l)).sum
theorem sizeS_cons (acc : List BindingX) (l : List TypeX) (rs : List (List TypeX)) : sizeS acc (l :: rs) = TypeX.sizeL (TypeX.subL (subX acc) l) + sizeS acc rs := by simp [sizeS]
theorem cntS_cons (acc : List BindingX) (v : ByteArray) (l : List TypeX) (rs : List (List TypeX)) : cntS acc v (l :: rs) = TypeX.cntVL v (TypeX.subL (subX acc) l) + cntS acc v rs := by simp [cntS]
theorem sizeS_nil (acc : List BindingX) (rs : List (List TypeX)) : sizeS acc ([] :: rs) = sizeS acc rs := by rw [sizeS_cons, TypeX.subL, TypeX.sizeL, Nat.zero_add]
theorem cntS_nil (acc : List BindingX) (v : ByteArray) (rs : List (List TypeX)) : cntS acc v ([] :: rs) = cntS acc v rs := by rw [cntS_cons, TypeX.subL, TypeX.cntVL, Nat.zero_add]
theorem sizeS_head (acc : List BindingX) (x : TypeX) (l : List TypeX) (rs : List (List TypeX)) : sizeS acc ((x :: l) :: rs) = sizeS acc (l :: rs) + (x.sub (subX acc)).size := by rw [sizeS_cons, sizeS_cons, TypeX.subL, TypeX.sizeL]; omega
theorem cntS_head (acc : List BindingX) (v : ByteArray) (x : TypeX) (l : List TypeX) (rs : List (List TypeX)) : cntS acc v ((x :: l) :: rs) = cntS acc v (l :: rs) + (x.sub (subX acc)).cntV v := by rw [cntS_cons, cntS_cons, TypeX.subL, TypeX.cntVL]; omega
/-- What stands in place of x has these parts. -/
theorem open_size {acc : List BindingX} {x r : TypeX} (hr : ¬ BoundV acc r) (h : r.sub (subX acc) = x.sub (subX acc)) : (x.sub (subX acc)).size = 1 + TypeX.sizeL (TypeX.subL (subX acc) r.args_) := by
  rw [← h, TypeX.size_eq, open_sub hr]; rfl
theorem open_cnt {acc : List BindingX} {x r : TypeX} (v : ByteArray) (hr : ¬ BoundV acc r) (h : r.sub (subX acc) = x.sub (subX acc)) : (x.sub (subX acc)).cntV v = TypeX.isV v r.kind_ r.name_ + TypeX.cntVL v (TypeX.subL (subX acc) r.args_) := by
  rw [← h, TypeX.cntV_eq, open_sub hr]; rfl

/-- The state of a walk through what a type stands for: N: its size. -/
def SizeSt (acc : List BindingX) (N : Nat) (s : StType) : Prop := s.2.1.length + s.1 ≤ N + 1 ∧ s.1 = sizeS acc s.2.1 + (match s.2.2 with | none => 0 | some y => (y.2.1.sub (subX acc)).size)
theorem SizeSt.start (acc : List BindingX) (x : TypeX) : SizeSt acc (x.sub (subX acc)).size ((x.sub (subX acc)).size, [[x]], none) := by
  refine ⟨by simp; omega, ?_⟩
  show _ = sizeS acc [[x]] + 0
  rw [sizeS_head, sizeS_nil]; simp [sizeS]
theorem SizeSt.pop {acc : List BindingX} {N : Nat} {s s' : StType} (h : SizeSt acc N s) (hp : popType s s') : SizeSt acc N s' := by
  obtain ⟨n, r, rfl, rfl⟩ := hp
  obtain ⟨h1, h2⟩ := h
  refine ⟨by simp only [List.length_cons] at h1; simp only []; omega, ?_⟩
  simp only [sizeS_nil] at h2
  exact h2
theorem SizeSt.next {acc : List BindingX} {N : Nat} {s s' : StType} {y : TypeIt} (h : SizeSt acc N s) (hp : nxType s y s') : SizeSt acc N s' := by
  obtain ⟨n, l, r, rfl, rfl⟩ := hp
  obtain ⟨h1, h2⟩ := h
  refine ⟨by simpa using h1, ?_⟩
  simp only [sizeS_head] at h2
  simp only []
  omega
theorem SizeSt.part {acc : List BindingX} {N n : Nat} {rs : List (List TypeX)} {y : TypeIt} {r : TypeX} (h : SizeSt acc N (n, rs, some y)) (hr : ¬ BoundV acc r) (he : r.sub (subX acc) = y.2.1.sub (subX acc)) : SizeSt acc N (n - 1, r.args_ :: rs, none) ∧ n - 1 + 1 ≤ n := by
  obtain ⟨h1, h2⟩ := h
  simp only [open_size hr he] at h1 h2
  refine ⟨⟨by simp only [List.length_cons]; omega, ?_⟩, by omega⟩
  simp only [sizeS_cons]
  omega
/-- The iterator over what a type stands for, handed the method value. -/
theorem implPreorderV (k : Int) (s : ByteArray) (A : Option Addr) (n c p : Nat) (fs lb : Array Value) (w : World) :
    Calls Try.prog 53 #[.agg #[.int .i64 k, .string s, .slice A n c], .func (.func p) fs lb] w fun e w' => e = .returned (.func (.func 85) #[] #[.pointer (some ⟨w.heap.size, 0, none⟩), .pointer (some ⟨w.heap.size + 1, 0, none⟩)]) ∧
      w' = (w.alloc (.cells #[.int .i64 k, .string s, .slice A n c] 26)).alloc (.cells #[.func (.func p) fs lb] 83) := by
  have hmf := run_func
  go_enter Try.func53, Try.ntmps53
  go_wp2
  go_ret
  exact ⟨rfl, rfl⟩
end Go.Proofs.Ytpffmcofajlkgaa

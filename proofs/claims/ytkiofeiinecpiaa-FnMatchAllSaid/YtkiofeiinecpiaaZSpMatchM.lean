/- The reference model's Match and Matches; the program's MatchAll. -/
import Derived.Test.YtkiofeiinecpiaaZMatchI
namespace Go.Proofs.Ytkiofeiinecpiaa
open Go.RowKit Go.Lib

theorem matL_one (p t : TypeX) : matAll [p] [t] = p.mat t [] := by
  rw [matAll, if_pos (by simp), TypeX.matL]
  cases p.mat t [] <;> simp only [TypeX.matL]
theorem mat_rows (ps ts : List TypeX) (s : ByteArray) : (TypeX.mk 0 s ps).mat (.mk 0 s ts) [] = matAll ps ts := by
  rw [matAll]
  by_cases h : ps.length = ts.length
  · rw [if_pos h, TypeX.mat_args (p := .mk 0 s ps) (t := .mk 0 s ts) (by show (0 : Int) ≠ 1; decide) ⟨rfl, rfl, h⟩]; rfl
  · rw [if_neg h, TypeX.mat_no (p := .mk 0 s ps) (t := .mk 0 s ts) (by show (0 : Int) ≠ 1; decide) (fun hh => h hh.2.2)]

set_option maxRecDepth 100000 in
set_option maxHeartbeats 4000000 in
theorem specMatch (p t : TypeX) (A C : Option Addr) (a c : Nat) (w : World) (hp32 : p.size ≤ 4294967296) (ht32 : t.size ≤ 4294967296) (hp : TypeRow w (Und w.heap.size) A a p.args_) (ht : TypeRow w (Und w.heap.size) C c t.args_) :
    Calls Try.prog 18 #[.agg #[.int .i64 p.kind_, .string p.name_, .slice A p.args_.length a], .agg #[.int .i64 t.kind_, .string t.name_, .slice C t.args_.length c]] w (MadeBs ((p.mat t []).getD []) (p.mat t []).isSome w) := by
  obtain ⟨W2, hW2⟩ : ∃ W2, W2 = (w.alloc (.cells #[.int .i64 p.kind_, .string p.name_, .slice A p.args_.length a] 26)).alloc (.cells #[.int .i64 t.kind_, .string t.name_, .slice C t.args_.length c] 26) := ⟨_, rfl⟩
  have hb2 : Below w.heap.size w W2 := by rw [hW2]; exact ((Below.refl _ _).alloc (Nat.le_refl _) _).alloc (by simp) _
  have hs2 : W2.heap.size = w.heap.size + 2 := by rw [hW2]; simp
  have hp2 : TypeRow W2 (Und W2.heap.size) A a p.args_ := hp.grow hb2
  have hr2 := row_alone hp2
  obtain ⟨W3, hW3⟩ : ∃ W3, W3 = W2.alloc (.cells #[.int .i64 p.kind_, .string p.name_, .slice A p.args_.length a] 26) := ⟨_, rfl⟩
  rw [← hW3] at hr2
  have hb3 : Below W2.heap.size W2 W3 := by rw [hW3]; exact (Below.refl _ _).alloc (Nat.le_refl _) _
  have hs3 : W3.heap.size = w.heap.size + 3 := by rw [hW3]; simp; omega
  have ht3 : TypeRow W3 (Und W3.heap.size) C c t.args_ := (ht.grow hb2).grow hb3
  have hr3 := row_alone ht3
  obtain ⟨W4, hW4⟩ : ∃ W4, W4 = W3.alloc (.cells #[.int .i64 t.kind_, .string t.name_, .slice C t.args_.length c] 26) := ⟨_, rfl⟩
  rw [← hW4] at hr3
  have hb4 : Below W3.heap.size W3 W4 := by rw [hW4]; exact (Below.refl _ _).alloc (Nat.le_refl _) _
  have hbw : Below w.heap.size w W4 := hb2.trans ((hb3.trans (hb4.mono hb3.size)).mono hb2.size)
  have hcall := specMatchAll [p] [t] (some ⟨W2.heap.size, 0, none⟩) (some ⟨W3.heap.size, 0, none⟩) 1 1 W4 (by rw [TypeX.sizeL, TypeX.sizeL]; omega) (by rw [TypeX.sizeL, TypeX.sizeL]; omega) (hr2.grow hb4) hr3
  rw [matL_one, hs2, hs3] at hcall
  have hcw : W4 = (((w.alloc (.cells #[.int .i64 p.kind_, .string p.name_, .slice A p.args_.length a] 26)).alloc (.cells #[.int .i64 t.kind_, .string t.name_, .slice C t.args_.length c] 26)).alloc (.cells #[.int .i64 p.kind_, .string p.name_, .slice A p.args_.length a] 26)).alloc (.cells #[.int .i64 t.kind_, .string t.name_, .slice C t.args_.length c] 26) := by rw [hW4, hW3, hW2]
  obtain ⟨l, hl⟩ : ∃ l, l = (p.mat t []).getD [] := ⟨_, rfl⟩
  obtain ⟨ok, hok⟩ : ∃ ok, ok = (p.mat t []).isSome := ⟨_, rfl⟩
  rw [← hl, ← hok] at hcall ⊢
  have HC := Lib.hid hcall
  have HW := Lib.hid hcw.symm
  have HB := Lib.hid hbw
  clear hW2 hb2 hp2 hr2 hW3 hb3 ht3 hr3 hW4 hb4 hbw hcall hcw hp ht hs2 hs3 hl hok
  go_enter Try.func18, Try.ntmps18
  go_wp2_with fail
  rw [HW.out]
  refine HC.out.mono ?_
  rintro e w5 ⟨V, bs, rfl, ho, hnd, hb5⟩
  have hbs := HB.out.size
  have HO := Lib.hid (OwV_wide hbs _ ho)
  have HN := Lib.hid hnd
  have HB5 := Lib.hid (HB.out.trans (hb5.mono hbs))
  clear ho hnd hb5
  go_wp2
  go_ret2
  exact ⟨V, bs, rfl, HO.out, HN.out, HB5.out⟩

set_option maxRecDepth 100000 in
set_option maxHeartbeats 4000000 in
theorem specMatches (p t : TypeX) (A C : Option Addr) (a c : Nat) (w : World) (hp32 : p.size ≤ 4294967296) (ht32 : t.size ≤ 4294967296) (hp : TypeRow w (Und w.heap.size) A a p.args_) (ht : TypeRow w (Und w.heap.size) C c t.args_) :
    Calls Try.prog 40 #[.agg #[.int .i64 p.kind_, .string p.name_, .slice A p.args_.length a], .agg #[.int .i64 t.kind_, .string t.name_, .slice C t.args_.length c]] w fun e w' => e = .returned (.bool (p.mat t []).isSome) ∧ Below w.heap.size w w' := by
  obtain ⟨W2, hW2⟩ : ∃ W2, W2 = (w.alloc (.cells #[.int .i64 p.kind_, .string p.name_, .slice A p.args_.length a] 26)).alloc (.cells #[.int .i64 t.kind_, .string t.name_, .slice C t.args_.length c] 26) := ⟨_, rfl⟩
  have hb2 : Below w.heap.size w W2 := by rw [hW2]; exact ((Below.refl _ _).alloc (Nat.le_refl _) _).alloc (by simp) _
  have hcall := specMatch p t A C a c W2 hp32 ht32 (hp.grow hb2) (ht.grow hb2)
  obtain ⟨l, hl⟩ : ∃ l, l = (p.mat t []).getD [] := ⟨_, rfl⟩
  obtain ⟨ok, hok⟩ : ∃ ok, ok = (p.mat t []).isSome := ⟨_, rfl⟩
  rw [← hl, ← hok] at hcall
  rw [← hok]
  have HC := Lib.hid hcall
  have HW := Lib.hid hW2.symm
  have HB := Lib.hid hb2
  clear hcall hW2 hb2 hp ht hl hok
  go_enter Try.func40, Try.ntmps40
  go_wp2_with fail
  rw [HW.out]
  refine HC.out.mono ?_
  rintro e w5 ⟨V, bs, rfl, -, -, hb5⟩
  have hbb := HB.out.trans (hb5.mono HB.out.size)
  clear hb5
  go_wp2
  go_ret
  exact ⟨rfl, hbb⟩

set_option maxRecDepth 100000 in
set_option maxHeartbeats 4000000 in
theorem implMatchAll (ps ts : List TypeX) (A C : Option Addr) (a c : Nat) (w : World) (hn : TypeX.sizeL ps ≤ 4294967295) (ht : TypeX.sizeL ts ≤ 4294967295) (hp : TypeRow w (Und w.heap.size) A a ps) (hr : TypeRow w (Und w.heap.size) C c ts) :
    Calls Try.prog 25 #[.slice A ps.length a, .slice C ts.length c] w (MadeBs ((matAll ps ts).getD []) (matAll ps ts).isSome w) := by
  have hcall := implMatch (.mk 0 ByteArray.empty ps) (.mk 0 ByteArray.empty ts) A C a c w (by rw [TypeX.size]; omega) (by rw [TypeX.size]; omega) hp hr
  rw [mat_rows] at hcall
  obtain ⟨l, hl⟩ : ∃ l, l = (matAll ps ts).getD [] := ⟨_, rfl⟩
  obtain ⟨ok, hok⟩ : ∃ ok, ok = (matAll ps ts).isSome := ⟨_, rfl⟩
  rw [← hl, ← hok] at hcall ⊢
  simp only [TypeX.kind_, TypeX.name_, TypeX.args_] at hcall
  have HC := Lib.hid hcall
  clear hcall hp hr hl hok
  go_enter Try.func25, Try.ntmps25
  go_wp2_with fail
  refine HC.out.mono ?_
  rintro e w5 ⟨V, bs, rfl, ho, hnd, hb5⟩
  have HO := Lib.hid ho
  have HN := Lib.hid hnd
  have HB5 := Lib.hid hb5
  clear ho hnd hb5
  go_wp2
  go_ret2
  exact ⟨V, bs, rfl, HO.out, HN.out, HB5.out⟩
end Go.Proofs.Ytkiofeiinecpiaa

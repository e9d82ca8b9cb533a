/- ParseType: the reference model's and the program's. -/
import Derived.Test.YtbcfeoobhemdcaaGreatZTyFrom
import Derived.Test.YtbcfeoobhemdcaaGreatZParseW
import Derived.Test.YtbcfeoobhemdcaaGreatQ2
namespace Go.Proofs.YtbcfeoobhemdcaaGreat
open Go.RowKit Go.Lib

mutual
theorem wt_okP : ∀ x : SX, x.wt ≤ 9223372036854775807 → x.ok
  | .mk a l, h => by
    rw [SX.wt] at h
    have h2 := SX.wtL_length l
    rw [SX.ok]
    exact ⟨by omega, by omega, wtL_okP l (by omega)⟩
theorem wtL_okP : ∀ l : List SX, SX.wtL l ≤ 9223372036854775807 → SX.okL l
  | [], _ => by rw [SX.okL]; trivial
  | x :: r, h => by
    rw [SX.wtL] at h
    rw [SX.okL]
    exact ⟨wt_okP x (by omega), wtL_okP r (by omega)⟩
end
/-- What both answer. -/
def tyPA (s : ByteArray) : TypeX := match specP s.data.toList with | none => .mk 0 ⟨#[]⟩ [] | some x => x.tyA
def tyPB (s : ByteArray) : Bool := match specP s.data.toList with | none => false | some x => x.tyB
theorem tyP_none {s : ByteArray} (h : specP s.data.toList = none) : tyPA s = .mk 0 ⟨#[]⟩ [] ∧ tyPB s = false := by rw [tyPA, tyPB, h]; exact ⟨rfl, rfl⟩
theorem tyP_some {s : ByteArray} {x : SX} (h : specP s.data.toList = some x) : tyPA s = x.tyA ∧ tyPB s = x.tyB := by rw [tyPA, tyPB, h]; exact ⟨rfl, rfl⟩
theorem tyP_small (s : ByteArray) : (tyPA s).size ≤ 60 := by
  cases h : specP s.data.toList with
  | none => rw [(tyP_none h).1, TypeX.size, TypeX.sizeL]; omega
  | some x => rw [(tyP_some h).1]; exact tyA_small x
theorem tyRet0 {w w' : World} {k : Int} {s : ByteArray} {V u0 u1 u2 : Value} (hx : Whole w' w.heap.size 26 #[u0, u1, u2]) :
    ∀ w4, w4 = ((w'.setCell ⟨w.heap.size, 0, none⟩ (.int .i64 k)).setCell ⟨w.heap.size, 1, none⟩ (.string s)).setCell ⟨w.heap.size, 2, none⟩ V → w4.cell? ⟨w.heap.size, 0, none⟩ = some (.int .i64 k) ∧ w4.cell? ⟨w.heap.size, 1, none⟩ = some (.string s) ∧ w4.cell? ⟨w.heap.size, 2, none⟩ = some V ∧ But w.heap.size w' w4 := by
  intro w4 h4
  have hw : Whole w4 w.heap.size 26 #[.int .i64 k, .string s, V] := by
    have h := ((hx.set_ 0 (.int .i64 k)).set_ 1 (.string s)).set_ 2 V
    rw [← h4] at h
    simpa using h
  obtain ⟨e0, e1, e2⟩ := cells3 hw
  exact ⟨e0, e1, e2, by rw [h4]; exact ((But.set_ _ _ 0 _).trans (But.set_ _ _ 1 _)).trans (But.set_ _ _ 2 _)⟩

set_option maxRecDepth 100000 in
set_option maxHeartbeats 2000000 in
theorem implParseTy (s : ByteArray) (w : World) (hs : s.size ≤ 1073741824) : Calls Tryz.prog 7 #[.string s] w (TyOwned (tyPA s) (tyPB s) w) := by
  have hb0 : Below w.heap.size w (w.alloc (.cells #[.int .i64 0, .string ⟨#[]⟩, .slice none 0 0] 26)) := (Below.refl _ _).alloc (Nat.le_refl _) _
  have z0 : (w.alloc (.cells #[.int .i64 0, .string ⟨#[]⟩, .slice none 0 0] 26)).heap.size = w.heap.size + 1 := by simp
  have KX := Lib.hid (Whole.new w 26 #[.int .i64 0, .string ⟨#[]⟩, .slice none 0 0])
  have HBW := Lib.hid hb0
  clear hb0
  go_enter Tryz.func7, Tryz.ntmps7
  go_wp2_with fail
  refine (parseX s _ hs).mono ?_
  rw [impl_spec]
  cases hp : specP s.data.toList with
  | none =>
    have HN := Lib.hid (tyP_none hp)
    clear hp
    rintro e w1 ⟨x, A, c, bs, hx, rfl, ho, hn, hin, hb⟩
    simp only [Option.getD_none] at hx
    subst hx
    have hbw := HBW.out.trans (hb.mono HBW.out.size)
    have KX := Lib.hid (whole_keep KX.out hb)
    clear HBW ho hn hin
    have hb2 : Below w1.heap.size w1 (w1.alloc (.cells #[.string ByteArray.empty, .slice A 0 c] 33)) := (Below.refl _ _).alloc (Nat.le_refl _) _
    have HBW := Lib.hid (hbw.trans (hb2.mono hbw.size))
    have KX := Lib.hid (whole_keep KX.out hb2)
    clear hb hbw hb2
    have HE := Lib.hid (tyRet0 (k := 0) (s := ⟨#[]⟩) (V := .slice none 0 0) KX.out)
    obtain ⟨r0, r1, r2⟩ := cells3 KX.out
    have rf0 := KX.out.frozen 0
    have rf1 := KX.out.frozen 1
    have rf2 := KX.out.frozen 2
    have rl := KX.out.lt
    have hem : (SX.mk ByteArray.empty []).atom = ByteArray.empty := rfl
    have hel : (SX.mk ByteArray.empty []).list = [] := rfl
    simp only [hem, hel, List.length_nil, Option.isSome_none]
    clear hem hel z0
    go_wp2
    obtain ⟨e0, e1, e2, hbut⟩ := HE.out _ rfl
    exact bodyPost_ret (v := .tuple #[.agg #[.int .i64 0, .string ⟨#[]⟩, .slice none 0 0], .bool false]) (by simp [results, Tryz.results7, go_sem, e0, e1, e2]) rfl (by rw [HN.out.1, HN.out.2]; exact TyOwned.none (HBW.out.trans (hbut.to_below (Nat.le_refl _) HBW.out.size)))
  | some y =>
    have hyv := ((specP_iff _ _).1 hp).2
    have hyw := SX.valid_wt hyv
    have hyo := Lib.hid (wt_okP y (by omega))
    have hyn : y.nodes ≤ 4294967296 := by omega
    have HN := Lib.hid (tyP_some hp)
    clear hp hyv hyw
    rintro e w1 ⟨x, A, c, bs, hx, rfl, ho, hn, hin, hb⟩
    simp only [Option.getD_some] at hx
    subst hx
    have hbw := HBW.out.trans (hb.mono HBW.out.size)
    have KX := Lib.hid (whole_keep KX.out hb)
    have hb2 : Below w1.heap.size w1 (w1.alloc (.cells #[.string x.atom, .slice A x.list.length c] 33)) := (Below.refl _ _).alloc (Nat.le_refl _) _
    have KL := Lib.hid ((OwX_row (P := Und w1.heap.size) (fun b hm => (hin b hm).2) ho).grow hb2)
    clear HBW
    have HBW := Lib.hid (hbw.trans (hb2.mono hbw.size))
    have KX := Lib.hid (whole_keep KX.out hb2)
    have hz1 := hb.size
    have hz2 := hb2.size
    rw [z0] at hz1
    simp only [Option.isSome_some]
    clear hb hbw hb2 ho hn hin z0
    go_wp2_with fail
    refine (implFrom x A c _ hyn hyo.out KL.out).mono ?_
    obtain ⟨t, ht⟩ : ∃ t, t = x.tyA := ⟨_, rfl⟩
    obtain ⟨B, hB⟩ : ∃ B, B = x.tyB := ⟨_, rfl⟩
    rw [← ht, ← hB]
    have HT := Lib.hid ht
    have HBT := Lib.hid hB
    clear ht hB
    rintro e w2 ⟨A2, c2, bs2, rfl, hr, hn2, hb⟩
    have KR := Lib.hid hr
    have KLT := Lib.hid (OwVs_lt _ hr)
    have KN := Lib.hid hn2
    clear hn2
    have hbw := HBW.out.trans (hb.mono HBW.out.size)
    have KX := Lib.hid (whole_keep KX.out hb)
    have hsz2 := hb.size
    clear hr hb HBW
    have HBW := Lib.hid hbw
    clear hbw
    have HE := Lib.hid (tyRet0 (k := t.kind_) (s := t.name_) (V := .slice A2 t.args_.length c2) KX.out)
    obtain ⟨r0, r1, r2⟩ := cells3 KX.out
    have rf0 := KX.out.frozen 0
    have rf1 := KX.out.frozen 1
    have rf2 := KX.out.frozen 2
    have rl := KX.out.lt
    go_wp2
    obtain ⟨e0, e1, e2, hbut⟩ := HE.out _ rfl
    have hz4 := hbut.size
    exact bodyPost_ret (v := .tuple #[.agg #[.int .i64 t.kind_, .string t.name_, .slice A2 t.args_.length c2], .bool B]) (by simp [results, Tryz.results7, go_sem, e0, e1, e2]) rfl (by rw [HN.out.1, HN.out.2, ← HT.out, ← HBT.out]; exact ⟨A2, c2, bs2, rfl, OwVs_wide (show w.heap.size ≤ _ by omega) _ (OwVs_frame _ (fun b hm => hbut.block b (KLT.out b hm).2 (by have := (KLT.out b hm).1; omega)) KR.out), KN.out, HBW.out.trans (hbut.to_below (Nat.le_refl _) HBW.out.size)⟩)
end Go.Proofs.YtbcfeoobhemdcaaGreat

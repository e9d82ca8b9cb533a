/- The program's copyType; bind and substitutionOf: a map of the first bindings. -/
import Derived.Test.YtmacnanocofoaaaZRepl
namespace Go.Proofs.Ytmacnanocofoaaa
open Go.RowKit Go.Lib

theorem zeroTyRun (w : World) : (zeroValue 27).run Try.prog w = .ok zeroTy w := by kernel_rfl
theorem looks_nil (w : World) : LooksAs (.map none) (fun _ => none) w := fun s wr _ =>
  ⟨0, ByteArray.empty, none, 0, 0, false, look_nil Try.underlying79 Try.underlying9 (zeroTyRun wr) s, .inl ⟨rfl, rfl⟩⟩
/-- The cells of a made type stay while a result's block is written. -/
theorem made_in {y : TypeX} {w3 w4 : World} {B X : Nat} {vs : List Value} {bs : List Nat} (hO : OwVs w3 B y.cells vs bs) (hX : X < B) (hb : But X w3 w4) : OwVs w4 B y.cells vs bs :=
  OwVs_frame _ (fun b hm => hb.block b (OwVs_lt _ hO b hm).2 (by have := (OwVs_lt _ hO b hm).1; omega)) hO

set_option maxRecDepth 100000 in
set_option maxHeartbeats 2000000 in
theorem implCopy (x : TypeX) (A : Option Addr) (c : Nat) (w : World) (hx : x.size ≤ 4294967296) (hv : TypeRow w (Und w.heap.size) A c x.args_) :
    Calls Try.prog 76 #[.agg #[.int .i64 x.kind_, .string x.name_, .slice A x.args_.length c]] w (MadeV x.cells w) := by
  have hb0 : Below w.heap.size w ((w.alloc (.cells #[.int .i64 x.kind_, .string x.name_, .slice A x.args_.length c] 27)).alloc (.cells #[.int .i64 0, .string ⟨#[]⟩, .slice none 0 0] 27)) := ((Below.refl _ _).alloc (Nat.le_refl _) _).alloc (by simp) _
  have hs : ((w.alloc (.cells #[.int .i64 x.kind_, .string x.name_, .slice A x.args_.length c] 27)).alloc (.cells #[.int .i64 0, .string ⟨#[]⟩, .slice none 0 0] 27)).heap.size = w.heap.size + 2 := by simp
  have hz := Whole.new (w.alloc (.cells #[.int .i64 x.kind_, .string x.name_, .slice A x.args_.length c] 27)) 27 #[.int .i64 0, .string ⟨#[]⟩, .slice none 0 0]
  rw [World.size_alloc] at hz
  have hcall := implReplace (fun _ => none) x A c (.map none) _ hx (hv.grow hb0) (looks_nil _) (fun s y h => by cases h)
  rw [TypeX.sub_none] at hcall
  have HC := Lib.hid hcall
  have HB := Lib.hid hb0
  have HZ := Lib.hid hz
  have HS := Lib.hid hs
  clear hcall hb0 hz hv hs
  go_enter Try.func76, Try.ntmps76
  go_wp2_with fail
  refine HC.out.mono ?_
  intro e w3 hm
  obtain ⟨vs, bs, A3, c3, rfl, rfl, hO3, hn3, hb3⟩ := madeT_get hm
  rw [HS.out] at hO3 hb3
  have hz3 := HZ.out.below hb3 (by omega)
  obtain ⟨z0, z1, z2⟩ := cells3 hz3
  have zf0 := hz3.frozen 0
  have zf1 := hz3.frozen 1
  have zf2 := hz3.frozen 2
  have zlt := hz3.lt
  have hend := tyEndY (k := x.kind_) (s := x.name_) (A := A3) (n := x.args_.length) (cc := c3) hz3 (Nat.le_succ _) (HB.out.trans (hb3.mono (by omega)))
  have HE := Lib.hid hend
  have HO := Lib.hid hO3
  have HN := Lib.hid hn3
  clear hend hO3 hn3 hm hb3 hz3
  go_wp2
  obtain ⟨e0, e1, e2, hbut, hb4⟩ := HE.out _ rfl
  exact bodyPost_ret (v := .agg #[.int .i64 x.kind_, .string x.name_, .slice A3 x.args_.length c3]) (by simp [results, Try.results76, go_sem, e0, e1, e2]) rfl ⟨_, _, rfl, OwVs_wide (by omega) _ (made_in HO.out (by omega) hbut), HN.out, hb4⟩

set_option maxRecDepth 100000 in
set_option maxHeartbeats 2000000 in
theorem implBind (mb : Nat) (l : List BindingX) (x : BindingX) (A : Option Addr) (c : Nat) (w : World) (P : Nat → Prop) (hP : ∀ b, P b → b < w.heap.size ∧ b ≠ mb) (hm : SubstAt w P mb l) (hx : TypeRow w P A c x.type_.args_) :
    Calls Try.prog 101 #[.map (some mb), .string x.var_, .agg #[.int .i64 x.type_.kind_, .string x.type_.name_, .slice A x.type_.args_.length c]] w fun e w' => e = .returned (.tuple #[]) ∧ SubstAt w' P mb (putX l x) ∧ But mb w w' := by
  obtain ⟨vl, hmap, hbinds⟩ := hm
  have hb1 : Below w.heap.size w (w.alloc (.cells #[.int .i64 x.type_.kind_, .string x.type_.name_, .slice A x.type_.args_.length c] 27)) := (Below.refl _ _).alloc (Nat.le_refl _) _
  have hlt := hmap.lt
  have hm1 := hmap.same (hb1.block mb hlt)
  have hlk := hm1.look (P := Try.prog) Try.underlying79 Try.underlying9 (zeroTyRun _) x.var_
  rcases hbinds.find x.var_ with ⟨hn, hf⟩ | ⟨y, v, hn, hf, ht⟩
  · have hput : putX l x = l ++ [x] := by rw [putX, hn]; rfl
    have hb2 : Below w.heap.size w ((w.alloc (.cells #[.int .i64 x.type_.kind_, .string x.type_.name_, .slice A x.type_.args_.length c] 27)).alloc (.cells #[.int .i64 0, .string ByteArray.empty, .slice none 0 0] 27)) := hb1.alloc (by simp) _
    obtain ⟨w4, hrun, hm4, hg4, _⟩ := (hmap.same (hb2.block mb hlt)).store (P := Try.prog) Try.underlying79 Try.underlying9 x.var_ (.agg #[.int .i64 x.type_.kind_, .string x.type_.name_, .slice A x.type_.args_.length c]) hf
    have hbut : But mb w w4 := (But.of_below hb2).trans ⟨hg4.os, hg4.tape, hg4.output, hg4.size, fun k hk hne => hg4.block k hk (fun e => hne (by injection e))⟩
    have hs4 : SubstAt w4 P mb (putX l x) := by
      rw [hput]
      refine ⟨_, hm4, ?_⟩
      have hk : ∀ b o, P b → w4.cell? ⟨b, o, none⟩ = w.cell? ⟨b, o, none⟩ := fun b o h => World.cell?_of_block (a := ⟨b, o, none⟩) (hbut.block b (hP b h).1 (hP b h).2)
      exact (hbinds.frame (fun _ h => h) hk).snoc ⟨A, c, rfl, hx.frame (fun _ h => h) hk⟩
    rw [hf] at hlk
    simp only [Option.getD_none, Option.isSome_none] at hlk
    have HB := Lib.hid hbut
    have HS := Lib.hid hs4
    clear hput hb1 hb2 hm1 hn hf hmap hbinds hx hm4 hg4 hbut hs4
    go_enter Try.func101, Try.ntmps101
    go_wp2
    go_end0
    exact ⟨rfl, HS.out, HB.out⟩
  · obtain ⟨A2, c2, rfl, ht2⟩ := ht
    have hput : putX l x = l := by rw [putX, hn]; rfl
    have hb2 : Below w.heap.size w ((w.alloc (.cells #[.int .i64 x.type_.kind_, .string x.type_.name_, .slice A x.type_.args_.length c] 27)).alloc (.cells #[.int .i64 y.kind_, .string y.name_, .slice A2 y.args_.length c2] 27)) := hb1.alloc (by simp) _
    have hs4 : SubstAt ((w.alloc (.cells #[.int .i64 x.type_.kind_, .string x.type_.name_, .slice A x.type_.args_.length c] 27)).alloc (.cells #[.int .i64 y.kind_, .string y.name_, .slice A2 y.args_.length c2] 27)) P mb (putX l x) := by
      rw [hput]
      exact SubstAt.same ⟨_, hmap, hbinds⟩ (hb2.block mb hlt) (fun _ h => h) fun b o h => hb2.cell (p := ⟨b, o, none⟩) (hP b h).1
    rw [hf] at hlk
    simp only [Option.getD_some, Option.isSome_some] at hlk
    have HB := Lib.hid (But.of_below (g := mb) hb2)
    have HS := Lib.hid hs4
    clear hput hb1 hb2 hm1 hn hf hmap hbinds hx ht2 hs4
    go_enter Try.func101, Try.ntmps101
    go_wp2
    go_end0
    exact ⟨rfl, HS.out, HB.out⟩

theorem fold_take {l : List BindingX} {k : Nat} (h : k < l.length) : (l.take (k + 1)).foldl putX [] = putX ((l.take k).foldl putX []) l[k] := by
  rw [List.take_succ_eq_append_getElem h, List.foldl_append]; rfl

set_option maxRecDepth 100000 in
set_option maxHeartbeats 2000000 in
theorem implSubstOf (l : List BindingX) (A : Option Addr) (c : Nat) (w : World) (hA : BindingRow w (Und w.heap.size) A c l) :
    Calls Try.prog 66 #[.slice A l.length c] w fun e w' => e = .returned (.map (some w.heap.size)) ∧ SubstAt w' (Und w.heap.size) w.heap.size (firstX l) ∧ Below w.heap.size w w' := by
  have hmm := @run_makeMap Try.prog
  have hcap := hA.cap
  have hs0 : SubstAt (w.alloc (.map #[] 0)) (Und w.heap.size) w.heap.size [] := ⟨[], MapAt.made w, rfl⟩
  have hb0 : Below w.heap.size w (w.alloc (.map #[] 0)) := (Below.refl _ _).alloc (Nat.le_refl _) _
  have hlt0 : w.heap.size < (w.alloc (.map #[] 0)).heap.size := by simp
  have HA := Lib.hid hA
  have HS := Lib.hid hs0
  have HB := Lib.hid hb0
  clear hA hs0 hb0
  go_enter Try.func66, Try.ntmps66
  go_wp2
  go_loopw [9] (fun iv wr => ∃ k : Nat, k ≤ l.length ∧ iv = .int .i64 k ∧ SubstAt wr (Und w.heap.size) w.heap.size ((l.take k).foldl putX []) ∧ Below w.heap.size w wr ∧ w.heap.size < wr.heap.size) (fun iv _ => l.length - (Go.RowKit.intOf iv).toNat)
  case atStart => exact ⟨0, Nat.zero_le _, rfl, HS.out, HB.out, by simp⟩
  case round =>
    obtain ⟨k, hk, rfl, hm, hb, hlw⟩ := hrel
    by_cases hlt : k < l.length
    · obtain ⟨b, o, A3, c3, rfl, hP, p0, p1, p2, p3, h3⟩ := (HA.out.grow hb).at_ hlt
      have hr : BindingRow w (Und w.heap.size) (some ⟨b, o, none⟩) c l := HA.out
      obtain ⟨b', o', A3', c3', e1, hP', -, -, -, q3, h3'⟩ := hr.at_ hlt
      injection e1 with e1
      injection e1 with e1 e2
      subst e1 e2
      have e3 := (hb.cell (p := ⟨b, o + k * 4 + 3, none⟩) hP').trans q3
      rw [p3] at e3
      injection e3 with e3
      injection e3 with e3 _ e4
      subst e3 e4
      have hbx : Below wr.heap.size wr (wr.alloc (.cells #[.string l[k].var_, .int .i64 l[k].type_.kind_, .string l[k].type_.name_, .slice A3 l[k].type_.args_.length c3] 82)) := (Below.refl _ _).alloc (Nat.le_refl _) _
      have hkc : ∀ b o, Und w.heap.size b → (wr.alloc (.cells #[.string l[k].var_, .int .i64 l[k].type_.kind_, .string l[k].type_.name_, .slice A3 l[k].type_.args_.length c3] 82)).cell? ⟨b, o, none⟩ = w.cell? ⟨b, o, none⟩ := fun b o h => (hbx.cell (p := ⟨b, o, none⟩) (Nat.lt_trans h hlw)).trans (hb.cell (p := ⟨b, o, none⟩) h)
      have hcall := implBind w.heap.size ((l.take k).foldl putX []) l[k] A3 c3 _ (Und w.heap.size) (fun b h => ⟨by have : b < w.heap.size := h; rw [World.size_alloc]; omega, by have : b < w.heap.size := h; omega⟩) (hm.same (hbx.block _ hlw) (fun _ h => h) fun b o h => hbx.cell (p := ⟨b, o, none⟩) (Nat.lt_trans h hlw)) (h3'.frame (fun _ h => h) hkc)
      rw [← fold_take hlt] at hcall
      have HC := Lib.hid hcall
      have HBX := Lib.hid hbx
      clear hcall hm h3 h3' hr hkc hbx q3 hP hP'
      go_wp2_with fail
      refine HC.out.mono ?_
      rintro e w2 ⟨rfl, hm2, hbut⟩
      have hb2 : Below w.heap.size w w2 := (hb.trans (HBX.out.mono hb.size)).trans (hbut.to_below (Nat.le_refl _) (by rw [World.size_alloc]; omega))
      have hlw2 : w.heap.size < w2.heap.size := by have := hbut.size; rw [World.size_alloc] at this; omega
      have HM := Lib.hid hm2
      clear hm2 hbut p0 p1 p2 p3
      go_wp2
      go_roundw
      case rel => exact ⟨k + 1, by omega, by go_num, HM.out, hb2, hlw2⟩
      case measure => simp [Go.RowKit.intOf]; omega
    · obtain rfl : k = l.length := by omega
      rw [List.take_length] at hm
      have HM := Lib.hid hm
      clear hm
      go_wp2
      go_ret
      exact ⟨rfl, HM.out, hb⟩
/-- The map answers as the list does. -/
theorem looks_subst {l : List BindingX} {w w' : World} {B : Nat} (h : SubstAt w (Und B) B (firstX l)) (hB : B < w.heap.size) (hw : w' = w) : LooksAs (.map (some B)) (fun s => lookX s l) w' := by
  subst hw
  intro s wr hb
  obtain ⟨vl, hmap, hbinds⟩ := h
  have hlk := (hmap.same (hb.block B hB)).look (P := Try.prog) Try.underlying79 Try.underlying9 (zeroTyRun wr) s
  rcases hbinds.find s with ⟨hn, hf⟩ | ⟨y, v, hn, hf, A2, c2, rfl, ht2⟩
  · rw [lookX_first] at hn
    rw [hf] at hlk
    exact ⟨0, ByteArray.empty, none, 0, 0, false, hlk, .inl ⟨rfl, hn⟩⟩
  · rw [lookX_first] at hn
    rw [hf] at hlk
    exact ⟨y.kind_, y.name_, A2, y.args_.length, c2, true, hlk, .inr ⟨rfl, y, hn, rfl, rfl, rfl, ht2.frame (fun b h => by have : b < B := h; show b < _; omega) fun _ _ _ => rfl⟩⟩
end Go.Proofs.Ytmacnanocofoaaa

/- The program's copyType and replaceVariables; bind and substitutionOf: a map of the first bindings. -/
import Derived.Test.YtngbilblddngcaaDoorZRepl
import Derived.Shelf.Abstract
import Derived.RegionTactic
namespace Go.Proofs.YtngbilblddngcaaDoor
open Go.RowKit Go.Lib Go.Proofs

theorem zeroTyRun (w : World) : (zeroValue 26).run Tryd.prog w = .ok zeroTy w := by kernel_rfl
theorem looks_nil (w : World) : LooksAs (.map none) (fun _ => none) w := fun s =>
  ⟨0, ByteArray.empty, none, 0, 0, false, fun wr _ => look_nil Tryd.underlying62 Tryd.underlying9 (zeroTyRun wr) s, .inl ⟨rfl, rfl⟩⟩
/-- The cells of a made type stay while a result's block is written. -/
theorem made_in {y : TypeX} {w3 w4 : World} {B X : Nat} {vs : List Value} {bs : List Nat} (hO : OwVs w3 B y.cells vs bs) (hX : X < B) (hb : But X w3 w4) : OwVs w4 B y.cells vs bs :=
  OwVs_frame _ (fun b hm => hb.block b (OwVs_lt _ hO b hm).2 (by have := (OwVs_lt _ hO b hm).1; omega)) hO

theorem sumM_size : ∀ l : List TypeX, (l.map TypeX.size).sum = TypeX.sizeL l
  | [] => by rw [List.map_nil, TypeX.sizeL]; rfl
  | x :: r => by rw [List.map_cons, List.sum_cons, TypeX.sizeL, sumM_size r]
theorem size_parts (x : TypeX) : (x.args_.map TypeX.size).sum + 1 ≤ x.size := by
  have := TypeX.size_eq x
  rw [sumM_size]; omega
theorem mk_self (x : TypeX) : x = .mk x.kind_ x.name_ (x.args_.map id) := by cases x; rw [List.map_id]; rfl
theorem hold_refl (T : List Nat) (ps : List Pl) (w : World) : Hold T ps w w := Hold.same fun _ _ => rfl
/-- A result of rewrite where nothing of the old memory is turned. -/
theorem madeM_made {d : List DV} {w w' : World} {e : Ending} (h : MadeM (fun _ => False) (fun _ => True) d w e w') : MadeV d w e w' := by
  obtain ⟨vs, bs, rfl, ho, hn, hk, _⟩ := h
  exact ⟨vs, bs, rfl, ho, hn, hk.below fun _ _ h => h⟩

/-- Three cells of a place written. -/
theorem cells_free {w : World} {b : Nat} {cs : Array Value} {t : TypeId} (h : w.heap[b]? = some (.cells cs t (0, 0))) (o : Nat) : w.frozen? ⟨b, o, none⟩ = false := by simp [World.frozen?, h]
theorem kept_place {M : Nat → Prop} {w w3 : World} {qb qo : Nat} {u0 u1 u2 : Value} (hb : Below w.heap.size w w3) : KeptM (fun b => M b ∨ b = qb) w.heap.size w (((w3.setCell ⟨qb, qo, none⟩ u0).setCell ⟨qb, qo + 1, none⟩ u1).setCell ⟨qb, qo + 2, none⟩ u2) :=
  (((KeptM.of_below hb).trans (KeptM.setCell (.inr (.inr rfl)) _)).trans (KeptM.setCell (.inr (.inr rfl)) _)).trans (KeptM.setCell (.inr (.inr rfl)) _)
theorem hold_place {w w3 : World} {qb qo : Nat} {cs : Array Value} {t : TypeId} {u0 u1 u2 : Value} (hq : w.heap[qb]? = some (.cells cs t (0, 0))) (hb : Below w.heap.size w w3) : Hold [qb] [(qb, qo)] w (((w3.setCell ⟨qb, qo, none⟩ u0).setCell ⟨qb, qo + 1, none⟩ u1).setCell ⟨qb, qo + 2, none⟩ u2) :=
  hold_sets (B := 0) (fun b h => by rw [List.mem_singleton] at h; subst h; exact ⟨Nat.zero_le _, cs, t, hq⟩) hb
theorem hold_one {w w3 : World} {qb qo : Nat} (hq : qb < w.heap.size) (hb : Below w.heap.size w w3) : Hold [qb] [(qb, qo)] w w3 := Hold.same fun b h => by rw [List.mem_singleton] at h; subst h; exact hb.block _ hq
theorem pend_below {w w3 : World} {P : Nat → Prop} {qb qo : Nat} {x : TypeX} (h : PendAt w P (qb, qo) x) (hq : qb < w.heap.size) (hP : ∀ b, P b → b < w.heap.size) (hb : Below w.heap.size w w3) : PendAt w3 P (qb, qo) x :=
  h.frame (fun i _ => hb.cell (p := ⟨qb, qo + i, none⟩) hq) fun b o h => hb.cell (p := ⟨b, o, none⟩) (hP b h)

theorem LooksAs.grow {sv : Value} {f : ByteArray → Option TypeX} {w W : World} (h : LooksAs sv f w) (hb : Below w.heap.size w W) : LooksAs sv f W := fun s => by
  obtain ⟨k, n, A, m, c, bb, h1, h2⟩ := h s
  refine ⟨k, n, A, m, c, bb, fun wr hwr => h1 wr (hb.trans (hwr.mono hb.size)), h2.imp id ?_⟩
  rintro ⟨e, y, a, b, d, g, hr⟩
  exact ⟨e, y, a, b, d, g, hr.grow hb⟩
theorem run_func (fn : Fn) (first cap : Array Value) (w : World) : (Instr.makeFunc fn first cap).run Tryd.prog w = .ok (.func fn first cap) w := rfl

set_option maxRecDepth 100000 in
set_option maxHeartbeats 2000000 in
theorem implBind (mb : Nat) (l : List BindingX) (x : BindingX) (A : Option Addr) (c : Nat) (w : World) (P : Nat → Prop) (hP : ∀ b, P b → b < w.heap.size ∧ b ≠ mb) (hm : SubstAt w P mb l) (hx : TypeRow w P A c x.type_.args_) :
    Calls Tryd.prog 77 #[.map (some mb), .string x.var_, .agg #[.int .i64 x.type_.kind_, .string x.type_.name_, .slice A x.type_.args_.length c]] w fun e w' => e = .returned (.tuple #[]) ∧ SubstAt w' P mb (putX l x) ∧ But mb w w' := by
  obtain ⟨vl, hmap, hbinds⟩ := hm
  have hb1 : Below w.heap.size w (w.alloc (.cells #[.int .i64 x.type_.kind_, .string x.type_.name_, .slice A x.type_.args_.length c] 26)) := (Below.refl _ _).alloc (Nat.le_refl _) _
  have hlt := hmap.lt
  have hm1 := hmap.same (hb1.block mb hlt)
  have hlk := hm1.look (P := Tryd.prog) Tryd.underlying62 Tryd.underlying9 (zeroTyRun _) x.var_
  rcases hbinds.find x.var_ with ⟨hn, hf⟩ | ⟨y, v, hn, hf, ht⟩
  · have hput : putX l x = l ++ [x] := by rw [putX, hn]; rfl
    have hb2 : Below w.heap.size w ((w.alloc (.cells #[.int .i64 x.type_.kind_, .string x.type_.name_, .slice A x.type_.args_.length c] 26)).alloc (.cells #[.int .i64 0, .string ByteArray.empty, .slice none 0 0] 26)) := hb1.alloc (by simp) _
    obtain ⟨w4, hrun, hm4, hg4, _⟩ := (hmap.same (hb2.block mb hlt)).store (P := Tryd.prog) Tryd.underlying62 Tryd.underlying9 x.var_ (.agg #[.int .i64 x.type_.kind_, .string x.type_.name_, .slice A x.type_.args_.length c]) hf
    have hbut : But mb w w4 := (But.of_below hb2).trans ⟨hg4.os, hg4.tape, hg4.output, hg4.size, fun k hk hne => hg4.block k hk (fun e => hne (by injection e))⟩
    have hs4 : SubstAt w4 P mb (putX l x) := by
      rw [hput]
      refine ⟨_, hm4, ?_⟩
      have hk : ∀ b o, P b → w4.cell? ⟨b, o, none⟩ = w.cell? ⟨b, o, none⟩ := fun b o h => World.cell?_of_block (a := ⟨b, o, none⟩) (hbut.block b (hP b h).1 (hP b h).2)
      exact (hbinds.frame (fun _ h => h) hk).snoc ⟨A, c, rfl, hx.frame (fun _ h => h) hk⟩
    rw [hf] at hlk
    simp only [Option.getD_none, Option.isSome_none] at hlk
    have HB := Lib.hid hbut
    have HS := Lib.hid hs4
    clear hput hb1 hb2 hm1 hn hf hmap hbinds hx hm4 hg4 hbut hs4
    go_enter Tryd.func77, Tryd.ntmps77
    go_wp2
    go_end0
    exact ⟨rfl, HS.out, HB.out⟩
  · obtain ⟨A2, c2, rfl, ht2⟩ := ht
    have hput : putX l x = l := by rw [putX, hn]; rfl
    have hb2 : Below w.heap.size w ((w.alloc (.cells #[.int .i64 x.type_.kind_, .string x.type_.name_, .slice A x.type_.args_.length c] 26)).alloc (.cells #[.int .i64 y.kind_, .string y.name_, .slice A2 y.args_.length c2] 26)) := hb1.alloc (by simp) _
    have hs4 : SubstAt ((w.alloc (.cells #[.int .i64 x.type_.kind_, .string x.type_.name_, .slice A x.type_.args_.length c] 26)).alloc (.cells #[.int .i64 y.kind_, .string y.name_, .slice A2 y.args_.length c2] 26)) P mb (putX l x) := by
      rw [hput]
      exact SubstAt.same ⟨_, hmap, hbinds⟩ (hb2.block mb hlt) (fun _ h => h) fun b o h => hb2.cell (p := ⟨b, o, none⟩) (hP b h).1
    rw [hf] at hlk
    simp only [Option.getD_some, Option.isSome_some] at hlk
    have HB := Lib.hid (But.of_below (g := mb) hb2)
    have HS := Lib.hid hs4
    clear hput hb1 hb2 hm1 hn hf hmap hbinds hx ht2 hs4
    go_enter Tryd.func77, Tryd.ntmps77
    go_wp2
    go_end0
    exact ⟨rfl, HS.out, HB.out⟩

theorem fold_take {l : List BindingX} {k : Nat} (h : k < l.length) : (l.take (k + 1)).foldl putX [] = putX ((l.take k).foldl putX []) l[k] := by
  rw [List.take_succ_eq_append_getElem h, List.foldl_append]; rfl

/-- The map answers as the list does. -/
theorem looks_subst {l : List BindingX} {w w' : World} {B : Nat} (h : SubstAt w (Und B) B (firstX l)) (hB : B < w.heap.size) (hw : w' = w) : LooksAs (.map (some B)) (fun s => lookX s l) w' := by
  subst hw
  intro s
  obtain ⟨vl, hmap, hbinds⟩ := h
  have hlk := fun (wr : World) (hb : Below w'.heap.size w' wr) => (hmap.same (hb.block B hB)).look (P := Tryd.prog) Tryd.underlying62 Tryd.underlying9 (zeroTyRun wr) s
  rcases hbinds.find s with ⟨hn, hf⟩ | ⟨y, v, hn, hf, A2, c2, rfl, ht2⟩
  · rw [lookX_first] at hn
    rw [hf] at hlk
    exact ⟨0, ByteArray.empty, none, 0, 0, false, hlk, .inl ⟨rfl, hn⟩⟩
  · rw [lookX_first] at hn
    rw [hf] at hlk
    exact ⟨y.kind_, y.name_, A2, y.args_.length, c2, true, hlk, .inr ⟨rfl, y, hn, rfl, rfl, rfl, ht2.frame (fun b h => by have : b < B := h; show b < _; omega) fun _ _ _ => rfl⟩⟩
end Go.Proofs.YtngbilblddngcaaDoor

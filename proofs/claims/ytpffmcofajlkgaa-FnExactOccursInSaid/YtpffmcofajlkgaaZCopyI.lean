/- The program's copyType and replaceVariables; bind and substitutionOf: a map of the first bindings. -/
import Derived.Test.YtpffmcofajlkgaaZRepl
import Derived.Shelf.Abstract
import Derived.RegionTactic
namespace Go.Proofs.Ytpffmcofajlkgaa
open Go.RowKit Go.Lib Go.Proofs

theorem zeroTyRun (w : World) : (zeroValue 26).run Try.prog w = .ok zeroTy w := by kernel_rfl
theorem looks_nil (w : World) : LooksAs (.map none) (fun _ => none) w := fun s =>
  ⟨0, ByteArray.empty, none, 0, 0, false, fun wr _ => look_nil Try.underlying47 Try.underlying9 (zeroTyRun wr) s, .inl ⟨rfl, rfl⟩⟩
/-- The cells of a made type stay while a result's block is written. -/
theorem made_in {y : TypeX} {w3 w4 : World} {B X : Nat} {vs : List Value} {bs : List Nat} (hO : OwVs w3 B y.cells vs bs) (hX : X < B) (hb : But X w3 w4) : OwVs w4 B y.cells vs bs :=
  OwVs_frame _ (fun b hm => hb.block b (OwVs_lt _ hO b hm).2 (by have := (OwVs_lt _ hO b hm).1; omega)) hO

theorem sumM_size : ∀ l : List TypeX, (l.map TypeX.size).sum = TypeX.sizeL l
  | [] => by rw [List.map_nil, TypeX.sizeL]; rfl
  | x :: r => by rw [List.map_cons, List.sum_cons, TypeX.sizeL, sumM_size r]
theorem size_parts (x : TypeX) : (x.args_.map TypeX.size).sum + 1 ≤ x.size := by
  have := TypeX.size_eq x
  rw [sumM_size]; omega
theorem mk_self (x : TypeX) : x = .mk x.kind_ x.name_ (x.args_.map id) := by cases x; rw [List.map_id]; rfl
theorem hold_refl (T : List Nat) (ps : List Pl) (w : World) : Hold T ps w w := Hold.same fun _ _ => rfl
/-- Nothing is changed. -/
theorem chgCopy (w : World) : Changes 84 #[] (fun _ => False) (Und w.heap.size) (fun _ => True) id TypeX.size w := by
  intro W qb qo x cs t _ _ _ _ hp _
  have HP := Lib.hid hp
  clear hp
  show Calls Try.prog 84 #[.pointer (some ⟨qb, qo, none⟩)] W _
  go_enter Try.func84, Try.ntmps84
  go_wp2
  go_ret
  exact ⟨KeptM.refl _ _ _, hold_refl _ _ _, trivial, .inl ⟨rfl, x, mk_self x, size_parts x, HP.out⟩⟩
/-- A result of rewrite where nothing of the old memory is turned. -/
theorem madeM_made {d : List DV} {w w' : World} {e : Ending} (h : MadeM (fun _ => False) (fun _ => True) d w e w') : MadeV d w e w' := by
  obtain ⟨vs, bs, rfl, ho, hn, hk, _⟩ := h
  exact ⟨vs, bs, rfl, ho, hn, hk.below fun _ _ h => h⟩

set_option maxRecDepth 100000 in
set_option maxHeartbeats 2000000 in
theorem implCopy (x : TypeX) (A : Option Addr) (c : Nat) (w : World) (hx : x.size ≤ 4294967296) (hv : TypeRow w (Und w.heap.size) A c x.args_) :
    Calls Try.prog 51 #[.agg #[.int .i64 x.kind_, .string x.name_, .slice A x.args_.length c]] w (MadeV x.cells w) := by
  obtain ⟨W, hW⟩ : ∃ W, W = (w.alloc (.cells #[.int .i64 x.kind_, .string x.name_, .slice A x.args_.length c] 26)).alloc (.cells #[.int .i64 0, .string ⟨#[]⟩, .slice none 0 0] 26) := ⟨_, rfl⟩
  have hb0 : Below w.heap.size w W := by rw [hW]; exact ((Below.refl _ _).alloc (Nat.le_refl _) _).alloc (by simp) _
  have hs : W.heap.size = w.heap.size + 2 := by rw [hW]; simp
  have hx1 : Whole W w.heap.size 26 #[.int .i64 x.kind_, .string x.name_, .slice A x.args_.length c] := by rw [hW]; exact (Whole.new w _ _).below ((Below.refl (w.heap.size + 1) _).alloc (by simp) _) (by omega)
  have hz : Whole W (w.heap.size + 1) 26 #[.int .i64 0, .string ⟨#[]⟩, .slice none 0 0] := by
    have h := Whole.new (w.alloc (.cells #[.int .i64 x.kind_, .string x.name_, .slice A x.args_.length c] 26)) 26 #[.int .i64 0, .string ⟨#[]⟩, .slice none 0 0]
    rw [World.size_alloc] at h; rw [hW]; exact h
  have hcall := implRewrite 84 #[] (fun _ => False) (Und W.heap.size) (fun _ => True) id TypeX.size x A c W (enters_of Try.func84 (by kernel_rfl) rfl) hx (fun x => by have := TypeX.size_eq x; omega) (hv.grow hb0) (fun b h => ⟨h, fun h => h⟩) (fun _ h => h.elim) trivial (fun _ _ _ _ => trivial) (chgCopy W)
  have HC := Lib.hid hcall
  have HB := Lib.hid hb0
  have HZ := Lib.hid hz
  have HS := Lib.hid hs
  have HW := Lib.hid hW.symm
  have HX1 := Lib.hid hx1
  clear hcall hb0 hz hv hs hW hx1
  go_enter Try.func51, Try.ntmps51
  go_upto_region 1 with (fail)
  rw [HW.out]
  obtain ⟨p0, p1, p2⟩ := cells3 HX1.out
  have plt := HX1.out.lt
  go_wp2_with fail
  refine HC.out.mono ?_
  intro e w3 hm
  obtain ⟨vs, bs, A3, c3, rfl, rfl, hO3, hn3, hb3⟩ := madeT_get (x := x) (madeM_made hm)
  rw [HS.out] at hO3 hb3
  have hz3 := HZ.out.below hb3 (by omega)
  obtain ⟨z0, z1, z2⟩ := cells3 hz3
  have zf0 := hz3.frozen 0
  have zf1 := hz3.frozen 1
  have zf2 := hz3.frozen 2
  have zlt := hz3.lt
  have hend := tyEndY (k := x.kind_) (s := x.name_) (A := A3) (n := x.args_.length) (cc := c3) hz3 (Nat.le_succ _) (HB.out.trans (hb3.mono (by omega)))
  have HE := Lib.hid hend
  have HO := Lib.hid hO3
  have HN := Lib.hid hn3
  clear hend hO3 hn3 hm hb3 hz3
  go_wp2
  obtain ⟨e0, e1, e2, hbut, hb4⟩ := HE.out _ rfl
  exact bodyPost_ret (v := .agg #[.int .i64 x.kind_, .string x.name_, .slice A3 x.args_.length c3]) (by simp [results, Try.results51, go_sem, e0, e1, e2]) rfl ⟨_, _, rfl, OwVs_wide (by omega) _ (made_in HO.out (by omega) hbut), HN.out, hb4⟩

/-- Three cells of a place written. -/
theorem cells_free {w : World} {b : Nat} {cs : Array Value} {t : TypeId} (h : w.heap[b]? = some (.cells cs t (0, 0))) (o : Nat) : w.frozen? ⟨b, o, none⟩ = false := by simp [World.frozen?, h]
theorem kept_place {M : Nat → Prop} {w w3 : World} {qb qo : Nat} {u0 u1 u2 : Value} (hb : Below w.heap.size w w3) : KeptM (fun b => M b ∨ b = qb) w.heap.size w (((w3.setCell ⟨qb, qo, none⟩ u0).setCell ⟨qb, qo + 1, none⟩ u1).setCell ⟨qb, qo + 2, none⟩ u2) :=
  (((KeptM.of_below hb).trans (KeptM.setCell (.inr (.inr rfl)) _)).trans (KeptM.setCell (.inr (.inr rfl)) _)).trans (KeptM.setCell (.inr (.inr rfl)) _)
theorem hold_place {w w3 : World} {qb qo : Nat} {cs : Array Value} {t : TypeId} {u0 u1 u2 : Value} (hq : w.heap[qb]? = some (.cells cs t (0, 0))) (hb : Below w.heap.size w w3) : Hold [qb] [(qb, qo)] w (((w3.setCell ⟨qb, qo, none⟩ u0).setCell ⟨qb, qo + 1, none⟩ u1).setCell ⟨qb, qo + 2, none⟩ u2) :=
  hold_sets (B := 0) (fun b h => by rw [List.mem_singleton] at h; subst h; exact ⟨Nat.zero_le _, cs, t, hq⟩) hb
theorem hold_one {w w3 : World} {qb qo : Nat} (hq : qb < w.heap.size) (hb : Below w.heap.size w w3) : Hold [qb] [(qb, qo)] w w3 := Hold.same fun b h => by rw [List.mem_singleton] at h; subst h; exact hb.block _ hq
theorem pend_below {w w3 : World} {P : Nat → Prop} {qb qo : Nat} {x : TypeX} (h : PendAt w P (qb, qo) x) (hq : qb < w.heap.size) (hP : ∀ b, P b → b < w.heap.size) (hb : Below w.heap.size w w3) : PendAt w3 P (qb, qo) x :=
  h.frame (fun i _ => hb.cell (p := ⟨qb, qo + i, none⟩) hq) fun b o h => hb.cell (p := ⟨b, o, none⟩) (hP b h)

set_option maxRecDepth 100000 in
set_option maxHeartbeats 4000000 in
/-- A bound variable's place is done; all other stay. -/
theorem chgReplace (f : ByteArray → Option TypeX) (sv : Value) (bx : Nat) (w : World) (hbx : bx < w.heap.size) (hs : w.cell? ⟨bx, 0, none⟩ = some sv) (hl : LooksAs sv f w)
    (hcopy : ∀ s y, f s = some y → ∀ (A : Option Addr) (c : Nat) (W : World), TypeRow W (Und W.heap.size) A c y.args_ → Calls Try.prog 51 #[.agg #[.int .i64 y.kind_, .string y.name_, .slice A y.args_.length c]] W (MadeV y.cells W)) :
    Changes 49 #[.pointer (some ⟨bx, 0, none⟩)] (fun _ => False) (Und w.heap.size) (fun _ => True) (TypeX.sub f) TypeX.size w := by
  intro W qb qo x cs t _ hk hq hblk hp _
  have hb : Below w.heap.size w W := hk.below (fun _ _ h => h)
  have hqb : qb < W.heap.size := (Array.getElem?_eq_some_iff.1 hblk).1
  have hws := hb.size
  obtain ⟨k1, n1, A1, m1, c1, bb, hlkW, hbb⟩ := hl x.name_
  have hlk := hlkW W.drew (hb.trans (Below.refl _ W).drew)
  have hlk2 := hlkW (W.alloc (.cells #[.int .i64 0, .string ⟨#[]⟩, .slice none 0 0] 26)).drew (hb.trans ((Below.refl _ W).alloc hb.size _).drew)
  have hbxW : bx < W.heap.size := Nat.lt_of_lt_of_le hbx hb.size
  have c0 : W.cell? ⟨bx, 0, none⟩ = some sv := (hb.cell (p := ⟨bx, 0, none⟩) hbx).trans hs
  obtain ⟨W1, hW1⟩ : ∃ W1, W1 = (W.alloc (.cells #[.int .i64 k1, .string n1, .slice A1 m1 c1] 26)).drew := ⟨_, rfl⟩
  have hb1 : Below W.heap.size W W1 := by rw [hW1]; exact ((Below.refl _ _).alloc (Nat.le_refl _) _).drew
  have hx1 : Whole W1 W.heap.size 26 #[.int .i64 k1, .string n1, .slice A1 m1 c1] := by rw [hW1]; exact Whole.new W _ _
  have hs1 : W1.heap.size = W.heap.size + 1 := by rw [hW1]; exact World.size_alloc _ _
  have stay : ∀ W', Below W.heap.size W W' → ¬ (x.kind_ = 1 ∧ (f x.name_).isSome = true) → ChgPost (fun _ => False) (Und w.heap.size) (fun _ => True) (TypeX.sub f) TypeX.size qb qo x W (.returned (.bool true)) W' := fun W' h hn =>
    ⟨KeptM.of_below h, hold_one hqb h, trivial, .inl ⟨rfl, x, by rw [TypeX.sub_else hn, TypeX.subL_map], size_parts x, pend_below hp hqb (fun b h => Nat.lt_of_lt_of_le h hws) h⟩⟩
  obtain ⟨Aq, cq, p0, p1, p2, hrow⟩ := hp
  simp only at p0 p1 p2
  have HST := Lib.hid stay
  have HW := Lib.hid hW1.symm
  have HB1 := Lib.hid hb1
  have HX1 := Lib.hid hx1
  have HS1 := Lib.hid hs1
  have HC := Lib.hid hcopy
  have HBLK := Lib.hid hblk
  have HQ := Lib.hid hq
  have HB := Lib.hid hb
  show Calls Try.prog 49 #[.pointer (some ⟨qb, qo, none⟩), .pointer (some ⟨bx, 0, none⟩)] W _
  cases bb with
  | false =>
    have hf : ¬ (x.kind_ = 1 ∧ (f x.name_).isSome = true) := by
      rintro ⟨_, h⟩
      rcases hbb with ⟨_, hf⟩ | ⟨h', _⟩
      · rw [hf] at h; cases h
      · cases h'
    have HF := Lib.hid hf
    clear hf hbb hrow stay hW1 hb1 hx1 hs1 hcopy hblk hq hb hs hl hk
    go_enter Try.func49, Try.ntmps49
    go_upto_region 1 with (fail)
    go_region
    all_goals
      rw [HW.out]
      go_wp2
      go_ret
      exact HST.out _ HB1.out HF.out
  | true =>
    obtain ⟨u, hfu, rfl, rfl, rfl, hur⟩ : ∃ u, f x.name_ = some u ∧ k1 = u.kind_ ∧ n1 = u.name_ ∧ m1 = u.args_.length ∧ TypeRow w (Und w.heap.size) A1 c1 u.args_ := by
      rcases hbb with ⟨h, _⟩ | ⟨_, y, h1, h2, h3, h4, h5⟩
      · cases h
      · exact ⟨y, h1, h2, h3, h4, h5⟩
    have q0 := (hb1.cell (p := ⟨qb, qo, none⟩) hqb).trans p0
    have q1 := (hb1.cell (p := ⟨qb, qo + 1, none⟩) hqb).trans p1
    have q2 := (hb1.cell (p := ⟨qb, qo + 2, none⟩) hqb).trans p2
    have hq1 : qb < W1.heap.size := by omega
    have HUR := Lib.hid hur
    have HFU := Lib.hid hfu
    have HP0 := Lib.hid p0
    have HP1 := Lib.hid p1
    have HP2 := Lib.hid p2
    by_cases hk1 : x.kind_ = 1
    · have hkb : (x.kind_ == 1) = true := by rw [hk1]; rfl
      have HK1 := Lib.hid hk1
      clear hbb hrow stay hW1 hb1 hx1 hs1 hcopy hblk hq hb hs hl hk hur hfu hk1
      go_enter Try.func49, Try.ntmps49
      go_upto_region 1 with (fail)
      go_region
      all_goals
        rw [HW.out]
        clear p0 p1 p2
        go_wp2_with fail
        refine (implIsVar _ _ _ _ _ _).mono ?_
        rintro e w2 ⟨rfl, hb2⟩
        rw [hkb]
        have hx2 := HX1.out.below hb2 HX1.out.lt
        obtain ⟨x0, x1, x2⟩ := cells3 hx2
        have xl := hx2.lt
        have hbw : Below W.heap.size W w2 := HB1.out.trans (hb2.mono (by have := HS1.out; omega))
        have hww : Below w.heap.size w w2 := HB.out.trans (hbw.mono hws)
        have hcall := HC.out _ _ HFU.out A1 c1 w2 (HUR.out.frame (fun b h => Nat.lt_of_lt_of_le h hww.size) fun b o h => hww.cell (p := ⟨b, o, none⟩) h)
        have HCALL := Lib.hid hcall
        have HBW := Lib.hid hbw
        have hsw := hbw.size
        clear hx2 hb2 hbw hww hcall q0 q1 q2 hlk c0
        go_wp2_with fail
        refine HCALL.out.mono ?_
        intro e w3 hm
        obtain ⟨vs, bs, A3, c3, rfl, rfl, hO3, hn3, hb3⟩ := madeT_get hm
        have hbw3 := HBW.out.trans (hb3.mono hsw)
        have t0 : w3.cell? ⟨qb, qo, none⟩ = some (.int .i64 x.kind_) := (hbw3.cell (p := ⟨qb, qo, none⟩) hqb).trans HP0.out
        have t1 : w3.cell? ⟨qb, qo + 1, none⟩ = some (.string x.name_) := (hbw3.cell (p := ⟨qb, qo + 1, none⟩) hqb).trans HP1.out
        have t2 : w3.cell? ⟨qb, qo + 2, none⟩ = some (.slice Aq x.args_.length cq) := (hbw3.cell (p := ⟨qb, qo + 2, none⟩) hqb).trans HP2.out
        have hblk3 : w3.heap[qb]? = some (.cells cs t (0, 0)) := (hbw3.block qb hqb).trans HBLK.out
        have fr0 := cells_free hblk3 qo
        have fr1 := cells_free hblk3 (qo + 1)
        have fr2 := cells_free hblk3 (qo + 2)
        have hqb3 : qb < w3.heap.size := Nat.lt_of_lt_of_le hqb hbw3.size
        have hfin : ∀ w4, w4 = ((w3.setCell ⟨qb, qo, none⟩ (.int .i64 u.kind_)).setCell ⟨qb, qo + 1, none⟩ (.string u.name_)).setCell ⟨qb, qo + 2, none⟩ (.slice A3 u.args_.length c3) → ChgPost (fun _ => False) (Und w.heap.size) (fun _ => True) (TypeX.sub f) TypeX.size qb qo x W (.returned (.bool false)) w4 := by
          intro w4 h4
          obtain ⟨e0, e1, e2⟩ := sets_at (B := 0) (T := [qb]) (u0 := .int .i64 u.kind_) (u1 := .string u.name_) (u2 := .slice A3 u.args_.length c3) (fun b h => by rw [List.mem_singleton] at h; subst h; exact ⟨Nat.zero_le _, cs, t, hblk3⟩) (List.mem_singleton.2 rfl) t0 t1 t2 w4 h4
          have hbl : ∀ b ∈ bs, w2.heap.size ≤ b ∧ b < w3.heap.size := OwVs_lt _ hO3
          have hbut : But qb w3 w4 := by rw [h4]; exact ((But.set_ _ _ _ _).trans (But.set_ _ _ _ _)).trans (But.set_ _ _ _ _)
          refine ⟨by rw [h4]; exact kept_place hbw3, by rw [h4]; exact hold_place HBLK.out hbw3, trivial, .inr ⟨rfl, bs, ⟨[.int .i64 u.kind_, .string u.name_, .slice A3 u.args_.length c3], ?_, ?_⟩, hn3⟩⟩
          · rw [TypeX.sub_some HK1.out HFU.out]
            exact OwVs_wide hsw _ (OwVs_frame _ (fun b hb' => hbut.block b (hbl b hb').2 (by have := (hbl b hb').1; omega)) hO3)
          · intro i v hi
            match i, hi with
            | 0, hi => simp at hi; subst hi; exact e0
            | 1, hi => simp at hi; subst hi; exact e1
            | 2, hi => simp at hi; subst hi; exact e2
        have HFIN := Lib.hid hfin
        clear hfin hm hO3 hn3 hb3 hbw3 hblk3 x0 x1 x2
        go_wp2
        go_ret
        exact HFIN.out _ rfl
    · have hkb : (x.kind_ == 1) = false := by simpa using hk1
      have HF := Lib.hid (show ¬ (x.kind_ = 1 ∧ (f x.name_).isSome = true) from fun h => hk1 h.1)
      clear hbb hrow stay hW1 hb1 hx1 hs1 hcopy hblk hq hb hs hl hk hur hfu hk1
      go_enter Try.func49, Try.ntmps49
      go_upto_region 1 with (fail)
      go_region
      all_goals
        rw [HW.out]
        clear p0 p1 p2
        go_wp2_with fail
        refine (implIsVar _ _ _ _ _ _).mono ?_
        rintro e w2 ⟨rfl, hb2⟩
        rw [hkb]
        have hbw : Below W.heap.size W w2 := HB1.out.trans (hb2.mono (by have := HS1.out; omega))
        have HBW := Lib.hid hbw
        clear hb2 hbw
        go_wp2
        go_ret
        exact HST.out _ HBW.out HF.out

theorem LooksAs.grow {sv : Value} {f : ByteArray → Option TypeX} {w W : World} (h : LooksAs sv f w) (hb : Below w.heap.size w W) : LooksAs sv f W := fun s => by
  obtain ⟨k, n, A, m, c, bb, h1, h2⟩ := h s
  refine ⟨k, n, A, m, c, bb, fun wr hwr => h1 wr (hb.trans (hwr.mono hb.size)), h2.imp id ?_⟩
  rintro ⟨e, y, a, b, d, g, hr⟩
  exact ⟨e, y, a, b, d, g, hr.grow hb⟩
theorem run_func (fn : Fn) (first cap : Array Value) (w : World) : (Instr.makeFunc fn first cap).run Try.prog w = .ok (.func fn first cap) w := rfl

set_option maxRecDepth 100000 in
set_option maxHeartbeats 4000000 in
theorem implReplace (f : ByteArray → Option TypeX) (x : TypeX) (A : Option Addr) (c : Nat) (mo : Option Nat) (w : World) (hx : x.size ≤ 4294967296) (hv : TypeRow w (Und w.heap.size) A c x.args_) (hl : LooksAs (.map mo) f w)
    (hcopy : ∀ s y, f s = some y → ∀ (A : Option Addr) (c : Nat) (W : World), TypeRow W (Und W.heap.size) A c y.args_ → Calls Try.prog 51 #[.agg #[.int .i64 y.kind_, .string y.name_, .slice A y.args_.length c]] W (MadeV y.cells W)) :
    Calls Try.prog 25 #[.agg #[.int .i64 x.kind_, .string x.name_, .slice A x.args_.length c], .map mo] w (MadeV (x.sub f).cells w) := by
  obtain ⟨W, hW⟩ : ∃ W, W = ((w.alloc (.cells #[.int .i64 x.kind_, .string x.name_, .slice A x.args_.length c] 26)).alloc (.cells #[.map mo] 47)).alloc (.cells #[.int .i64 0, .string ⟨#[]⟩, .slice none 0 0] 26) := ⟨_, rfl⟩
  have hb0 : Below w.heap.size w W := by rw [hW]; exact (((Below.refl _ _).alloc (Nat.le_refl _) _).alloc (by simp) _).alloc (by simp; omega) _
  have hs : W.heap.size = w.heap.size + 3 := by rw [hW]; simp
  have hx1 : Whole W w.heap.size 26 #[.int .i64 x.kind_, .string x.name_, .slice A x.args_.length c] := by rw [hW]; exact (Whole.new w _ _).below (((Below.refl (w.heap.size + 1) _).alloc (by simp) _).alloc (by simp) _) (by omega)
  have hsv : Whole W (w.heap.size + 1) 47 #[.map mo] := by
    have h := Whole.new (w.alloc (.cells #[.int .i64 x.kind_, .string x.name_, .slice A x.args_.length c] 26)) 47 #[.map mo]
    rw [World.size_alloc] at h
    rw [hW]; exact h.below ((Below.refl (w.heap.size + 2) _).alloc (by simp) _) (by omega)
  have hz : Whole W (w.heap.size + 2) 26 #[.int .i64 0, .string ⟨#[]⟩, .slice none 0 0] := by
    have h := Whole.new ((w.alloc (.cells #[.int .i64 x.kind_, .string x.name_, .slice A x.args_.length c] 26)).alloc (.cells #[.map mo] 47)) 26 #[.int .i64 0, .string ⟨#[]⟩, .slice none 0 0]
    rw [World.size_alloc, World.size_alloc] at h; rw [hW]; exact h
  have hcall := implRewrite 49 #[.pointer (some ⟨w.heap.size + 1, 0, none⟩)] (fun _ => False) (Und W.heap.size) (fun _ => True) (TypeX.sub f) TypeX.size x A c W (enters_of Try.func49 (by kernel_rfl) rfl) hx (fun x => by have := TypeX.size_eq x; omega) (hv.grow hb0) (fun b h => ⟨h, fun h => h⟩) (fun _ h => h.elim) trivial (fun _ _ _ _ => trivial)
    (chgReplace f (.map mo) (w.heap.size + 1) W (by omega) (hsv.cell 0) (hl.grow hb0) hcopy)
  have HC := Lib.hid hcall
  have HB := Lib.hid hb0
  have HZ := Lib.hid hz
  have HS := Lib.hid hs
  have HW := Lib.hid hW.symm
  have HX1 := Lib.hid hx1
  have hmf := run_func
  clear hcall hb0 hz hv hs hW hx1 hsv hl hcopy
  go_enter Try.func25, Try.ntmps25
  go_upto_region 1 with (fail)
  rw [HW.out]
  obtain ⟨p0, p1, p2⟩ := cells3 HX1.out
  have plt := HX1.out.lt
  go_wp2_with fail
  refine HC.out.mono ?_
  intro e w3 hm
  obtain ⟨vs, bs, A3, c3, rfl, rfl, hO3, hn3, hb3⟩ := madeT_get (x := x.sub f) (madeM_made hm)
  rw [HS.out] at hO3 hb3
  have hz3 := HZ.out.below hb3 (by omega)
  obtain ⟨z0, z1, z2⟩ := cells3 hz3
  have zf0 := hz3.frozen 0
  have zf1 := hz3.frozen 1
  have zf2 := hz3.frozen 2
  have zlt := hz3.lt
  have hend := tyEndY (k := (x.sub f).kind_) (s := (x.sub f).name_) (A := A3) (n := (x.sub f).args_.length) (cc := c3) hz3 (by omega) (HB.out.trans (hb3.mono (by omega)))
  have HE := Lib.hid hend
  have HO := Lib.hid hO3
  have HN := Lib.hid hn3
  clear hend hO3 hn3 hm hb3 hz3
  go_wp2
  obtain ⟨e0, e1, e2, hbut, hb4⟩ := HE.out _ rfl
  exact bodyPost_ret (v := .agg #[.int .i64 (x.sub f).kind_, .string (x.sub f).name_, .slice A3 (x.sub f).args_.length c3]) (by simp [results, Try.results25, go_sem, e0, e1, e2]) rfl ⟨_, _, rfl, OwVs_wide (by omega) _ (made_in HO.out (by omega) hbut), HN.out, hb4⟩

set_option maxRecDepth 100000 in
set_option maxHeartbeats 2000000 in
theorem implBind (mb : Nat) (l : List BindingX) (x : BindingX) (A : Option Addr) (c : Nat) (w : World) (P : Nat → Prop) (hP : ∀ b, P b → b < w.heap.size ∧ b ≠ mb) (hm : SubstAt w P mb l) (hx : TypeRow w P A c x.type_.args_) :
    Calls Try.prog 52 #[.map (some mb), .string x.var_, .agg #[.int .i64 x.type_.kind_, .string x.type_.name_, .slice A x.type_.args_.length c]] w fun e w' => e = .returned (.tuple #[]) ∧ SubstAt w' P mb (putX l x) ∧ But mb w w' := by
  obtain ⟨vl, hmap, hbinds⟩ := hm
  have hb1 : Below w.heap.size w (w.alloc (.cells #[.int .i64 x.type_.kind_, .string x.type_.name_, .slice A x.type_.args_.length c] 26)) := (Below.refl _ _).alloc (Nat.le_refl _) _
  have hlt := hmap.lt
  have hm1 := hmap.same (hb1.block mb hlt)
  have hlk := hm1.look (P := Try.prog) Try.underlying47 Try.underlying9 (zeroTyRun _) x.var_
  rcases hbinds.find x.var_ with ⟨hn, hf⟩ | ⟨y, v, hn, hf, ht⟩
  · have hput : putX l x = l ++ [x] := by rw [putX, hn]; rfl
    have hb2 : Below w.heap.size w ((w.alloc (.cells #[.int .i64 x.type_.kind_, .string x.type_.name_, .slice A x.type_.args_.length c] 26)).alloc (.cells #[.int .i64 0, .string ByteArray.empty, .slice none 0 0] 26)) := hb1.alloc (by simp) _
    obtain ⟨w4, hrun, hm4, hg4, _⟩ := (hmap.same (hb2.block mb hlt)).store (P := Try.prog) Try.underlying47 Try.underlying9 x.var_ (.agg #[.int .i64 x.type_.kind_, .string x.type_.name_, .slice A x.type_.args_.length c]) hf
    have hbut : But mb w w4 := (But.of_below hb2).trans ⟨hg4.os, hg4.tape, hg4.output, hg4.size, fun k hk hne => hg4.block k hk (fun e => hne (by injection e))⟩
    have hs4 : SubstAt w4 P mb (putX l x) := by
      rw [hput]
      refine ⟨_, hm4, ?_⟩
      have hk : ∀ b o, P b → w4.cell? ⟨b, o, none⟩ = w.cell? ⟨b, o, none⟩ := fun b o h => World.cell?_of_block (a := ⟨b, o, none⟩) (hbut.block b (hP b h).1 (hP b h).2)
      exact (hbinds.frame (fun _ h => h) hk).snoc ⟨A, c, rfl, hx.frame (fun _ h => h) hk⟩
    rw [hf] at hlk
    simp only [Option.getD_none, Option.isSome_none] at hlk
    have HB := Lib.hid hbut
    have HS := Lib.hid hs4
    clear hput hb1 hb2 hm1 hn hf hmap hbinds hx hm4 hg4 hbut hs4
    go_enter Try.func52, Try.ntmps52
    go_wp2
    go_end0
    exact ⟨rfl, HS.out, HB.out⟩
  · obtain ⟨A2, c2, rfl, ht2⟩ := ht
    have hput : putX l x = l := by rw [putX, hn]; rfl
    have hb2 : Below w.heap.size w ((w.alloc (.cells #[.int .i64 x.type_.kind_, .string x.type_.name_, .slice A x.type_.args_.length c] 26)).alloc (.cells #[.int .i64 y.kind_, .string y.name_, .slice A2 y.args_.length c2] 26)) := hb1.alloc (by simp) _
    have hs4 : SubstAt ((w.alloc (.cells #[.int .i64 x.type_.kind_, .string x.type_.name_, .slice A x.type_.args_.length c] 26)).alloc (.cells #[.int .i64 y.kind_, .string y.name_, .slice A2 y.args_.length c2] 26)) P mb (putX l x) := by
      rw [hput]
      exact SubstAt.same ⟨_, hmap, hbinds⟩ (hb2.block mb hlt) (fun _ h => h) fun b o h => hb2.cell (p := ⟨b, o, none⟩) (hP b h).1
    rw [hf] at hlk
    simp only [Option.getD_some, Option.isSome_some] at hlk
    have HB := Lib.hid (But.of_below (g := mb) hb2)
    have HS := Lib.hid hs4
    clear hput hb1 hb2 hm1 hn hf hmap hbinds hx ht2 hs4
    go_enter Try.func52, Try.ntmps52
    go_wp2
    go_end0
    exact ⟨rfl, HS.out, HB.out⟩

theorem fold_take {l : List BindingX} {k : Nat} (h : k < l.length) : (l.take (k + 1)).foldl putX [] = putX ((l.take k).foldl putX []) l[k] := by
  rw [List.take_succ_eq_append_getElem h, List.foldl_append]; rfl

set_option maxRecDepth 100000 in
set_option maxHeartbeats 2000000 in
theorem implSubstOf (l : List BindingX) (A : Option Addr) (c : Nat) (w : World) (hA : BindingRow w (Und w.heap.size) A c l) :
    Calls Try.prog 26 #[.slice A l.length c] w fun e w' => e = .returned (.map (some w.heap.size)) ∧ SubstAt w' (Und w.heap.size) w.heap.size (firstX l) ∧ Below w.heap.size w w' := by
  have hmm := @run_makeMap Try.prog
  have hcap := hA.cap
  have hs0 : SubstAt (w.alloc (.map #[] 0)) (Und w.heap.size) w.heap.size [] := ⟨[], MapAt.made w, rfl⟩
  have hb0 : Below w.heap.size w (w.alloc (.map #[] 0)) := (Below.refl _ _).alloc (Nat.le_refl _) _
  have hlt0 : w.heap.size < (w.alloc (.map #[] 0)).heap.size := by simp
  have HA := Lib.hid hA
  have HS := Lib.hid hs0
  have HB := Lib.hid hb0
  clear hA hs0 hb0
  go_enter Try.func26, Try.ntmps26
  go_wp2
  go_loopw [9] (fun iv wr => ∃ k : Nat, k ≤ l.length ∧ iv = .int .i64 k ∧ SubstAt wr (Und w.heap.size) w.heap.size ((l.take k).foldl putX []) ∧ Below w.heap.size w wr ∧ w.heap.size < wr.heap.size) (fun iv _ => l.length - (Go.RowKit.intOf iv).toNat)
  case atStart => exact ⟨0, Nat.zero_le _, rfl, HS.out, HB.out, by simp⟩
  case round =>
    obtain ⟨k, hk, rfl, hm, hb, hlw⟩ := hrel
    by_cases hlt : k < l.length
    · obtain ⟨b, o, A3, c3, rfl, hP, p0, p1, p2, p3, h3⟩ := (HA.out.grow hb).at_ hlt
      have hr : BindingRow w (Und w.heap.size) (some ⟨b, o, none⟩) c l := HA.out
      obtain ⟨b', o', A3', c3', e1, hP', -, -, -, q3, h3'⟩ := hr.at_ hlt
      injection e1 with e1
      injection e1 with e1 e2
      subst e1 e2
      have e3 := (hb.cell (p := ⟨b, o + k * 4 + 3, none⟩) hP').trans q3
      rw [p3] at e3
      injection e3 with e3
      injection e3 with e3 _ e4
      subst e3 e4
      have hbx : Below wr.heap.size wr (wr.alloc (.cells #[.string l[k].var_, .int .i64 l[k].type_.kind_, .string l[k].type_.name_, .slice A3 l[k].type_.args_.length c3] 37)) := (Below.refl _ _).alloc (Nat.le_refl _) _
      have hkc : ∀ b o, Und w.heap.size b → (wr.alloc (.cells #[.string l[k].var_, .int .i64 l[k].type_.kind_, .string l[k].type_.name_, .slice A3 l[k].type_.args_.length c3] 37)).cell? ⟨b, o, none⟩ = w.cell? ⟨b, o, none⟩ := fun b o h => (hbx.cell (p := ⟨b, o, none⟩) (Nat.lt_trans h hlw)).trans (hb.cell (p := ⟨b, o, none⟩) h)
      have hcall := implBind w.heap.size ((l.take k).foldl putX []) l[k] A3 c3 _ (Und w.heap.size) (fun b h => ⟨by have : b < w.heap.size := h; rw [World.size_alloc]; omega, by have : b < w.heap.size := h; omega⟩) (hm.same (hbx.block _ hlw) (fun _ h => h) fun b o h => hbx.cell (p := ⟨b, o, none⟩) (Nat.lt_trans h hlw)) (h3'.frame (fun _ h => h) hkc)
      rw [← fold_take hlt] at hcall
      have HC := Lib.hid hcall
      have HBX := Lib.hid hbx
      clear hcall hm h3 h3' hr hkc hbx q3 hP hP'
      go_wp2_with fail
      refine HC.out.mono ?_
      rintro e w2 ⟨rfl, hm2, hbut⟩
      have hb2 : Below w.heap.size w w2 := (hb.trans (HBX.out.mono hb.size)).trans (hbut.to_below (Nat.le_refl _) (by rw [World.size_alloc]; omega))
      have hlw2 : w.heap.size < w2.heap.size := by have := hbut.size; rw [World.size_alloc] at this; omega
      have HM := Lib.hid hm2
      clear hm2 hbut p0 p1 p2 p3
      go_wp2
      go_roundw
      case rel => exact ⟨k + 1, by omega, by go_num, HM.out, hb2, hlw2⟩
      case measure => simp [Go.RowKit.intOf]; omega
    · obtain rfl : k = l.length := by omega
      rw [List.take_length] at hm
      have HM := Lib.hid hm
      clear hm
      go_wp2
      go_ret
      exact ⟨rfl, HM.out, hb⟩
/-- The map answers as the list does. -/
theorem looks_subst {l : List BindingX} {w w' : World} {B : Nat} (h : SubstAt w (Und B) B (firstX l)) (hB : B < w.heap.size) (hw : w' = w) : LooksAs (.map (some B)) (fun s => lookX s l) w' := by
  subst hw
  intro s
  obtain ⟨vl, hmap, hbinds⟩ := h
  have hlk := fun (wr : World) (hb : Below w'.heap.size w' wr) => (hmap.same (hb.block B hB)).look (P := Try.prog) Try.underlying47 Try.underlying9 (zeroTyRun wr) s
  rcases hbinds.find s with ⟨hn, hf⟩ | ⟨y, v, hn, hf, A2, c2, rfl, ht2⟩
  · rw [lookX_first] at hn
    rw [hf] at hlk
    exact ⟨0, ByteArray.empty, none, 0, 0, false, hlk, .inl ⟨rfl, hn⟩⟩
  · rw [lookX_first] at hn
    rw [hf] at hlk
    exact ⟨y.kind_, y.name_, A2, y.args_.length, c2, true, hlk, .inr ⟨rfl, y, hn, rfl, rfl, rfl, ht2.frame (fun b h => by have : b < B := h; show b < _; omega) fun _ _ _ => rfl⟩⟩
end Go.Proofs.Ytpffmcofajlkgaa

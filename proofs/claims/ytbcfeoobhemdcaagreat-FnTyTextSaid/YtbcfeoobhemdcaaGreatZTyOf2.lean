/- The type that an expression denotes: a list of two or more. -/
import Derived.Test.YtbcfeoobhemdcaaGreatZTyOf
namespace Go.Proofs.YtbcfeoobhemdcaaGreat
open Go.RowKit Go.Lib

theorem ListAt.at2 {w : World} {P : Nat → Prop} {A : Option Addr} {l : List SX} (h : ListAt w P A l) {j : Nat} (hj : j < l.length) :
    ∃ b o A' c', A = some ⟨b, o, none⟩ ∧ P b ∧ w.cell? ⟨b, o + j * 2, none⟩ = some (.string l[j].atom) ∧ w.cell? ⟨b, o + j * 2 + 1, none⟩ = some (.slice A' l[j].list.length c') ∧ ListAt w P A' l[j].list := by
  rcases h with h | ⟨b, o, hA, hP, hr⟩
  · subst h; exact absurd hj (Nat.not_lt_zero _)
  · obtain ⟨h0, A', c', h1, h2⟩ := RdX_iff.1 (RdE_at l b o hr j hj)
    exact ⟨b, o, A', c', hA, hP, h0, h1, h2⟩
theorem TopT.push {G : Nat → Prop} {W0 w2 w3 : World} {V V' : Value} {ts : List TypeX} {us : List Value} {y : TypeX} {A : Option Addr} {c : Nat} {o : Obj} (he : ElemsT w2 (fun b => Nog G w2 b ∧ V.ownBlock ≠ some b) ts us)
    (hr : TypeRow w2 (fun b => Nog G w2 b ∧ V.ownBlock ≠ some b) A c y.args_) (hown : w3.ownsRow W0.heap.size 26 3 V' (ts.length + 1) (us ++ [.int .i64 y.kind_, .string y.name_, .slice A y.args_.length c])) (hgrow : (w2.alloc o).grownBy w3 V.ownBlock) (hat : V'.ownBlock = V.ownBlock ∨ V'.ownBlock = some (w2.heap.size + 1)) : TopT G W0 w3 V' (ts ++ [y]) := by
  have hz3 := hgrow.size
  simp only [World.size_alloc] at hz3
  have hsame : ∀ b, b < w2.heap.size → V.ownBlock ≠ some b → w3.heap[b]? = w2.heap[b]? := fun b hb' hne => (hgrow.block b (by simp; omega) (fun e => hne e.symm)).trans (Below.heap_alloc _ _ _ hb')
  have hnew : ∀ b, b < w2.heap.size → V.ownBlock ≠ some b → V'.ownBlock ≠ some b := fun b hb' hne e => by
    rcases hat with h | h
    · exact hne (h ▸ e)
    · rw [h] at e; injection e with e; omega
  refine ⟨us ++ [.int .i64 y.kind_, .string y.name_, .slice A y.args_.length c], by rw [List.length_append]; exact hown, ElemsT.append (he.frame (fun b h => ⟨⟨by have := h.1.1; omega, h.1.2⟩, hnew b h.1.1 h.2⟩) fun b o h => World.cell?_of_block (a := ⟨b, o, none⟩) (hsame b h.1.1 h.2)) ⟨A, c, [], rfl, ?_, rfl⟩⟩
  exact hr.frame (fun b h => ⟨⟨by have := h.1.1; omega, h.1.2⟩, hnew b h.1.1 h.2⟩) fun b o h => World.cell?_of_block (a := ⟨b, o, none⟩) (hsame b h.1.1 h.2)
theorem listTy_eq (l : List SX) (ts : List TypeX) (h : 2 ≤ l.length) : listTy l ts = if l[0].atom = ⟨#[97, 115, 115, 111, 99]⟩ ∧ l.length = 3 ∧ l[1].atom ≠ ⟨#[]⟩ then .mk 3 l[1].atom (ts.drop 1) else if l[0].atom = ⟨#[100, 121, 110]⟩ ∧ l.length = 2 ∧ l[1].atom ≠ ⟨#[]⟩ then .mk 4 l[1].atom [] else .mk 2 l[0].atom ts := by
  match l, h with
  | x0 :: x1 :: r, _ => rfl
theorem TyMade.drew_ {y : TypeX} {w w' : World} {e : Ending} (h : TyMade y w e w') : TyMade y w e w'.drew := by
  obtain ⟨A, c, he, hr, hb⟩ := h
  exact ⟨A, c, he, hr.frame (fun _ h => h) fun _ _ _ => rfl, hb.drew⟩
def Lo (B : Nat) (b : Nat) : Prop := b < B

set_option maxRecDepth 100000 in
set_option maxHeartbeats 2000000 in
theorem specTy_list (N : Nat) (ih : ∀ (x : SX) (A : Option Addr) (c : Nat) (w : World), x.nodes < N → x.nodes ≤ 4294967296 → ListAt w (Und w.heap.size) A x.list → Calls Tryz.prog 32 #[.agg #[.string x.atom, .slice A x.list.length c]] w (TyMade x.ty w)) (l : List SX) (A : Option Addr) (c : Nat) (w : World) (hn : 1 + SX.nodesL l ≤ N) (hs : 1 + SX.nodesL l ≤ 4294967296) (hl : ListAt w (Und w.heap.size) A l) (h2 : 2 ≤ l.length) :
    Calls Tryz.prog 32 #[.agg #[.string ⟨#[]⟩, .slice A l.length c]] w (TyMade (listTy l ((SX.tyL l).drop 1)) w) := by
  obtain ⟨i0, hi, hz0, hz1, hz2⟩ := info_parts infoTy
  have hln : l.length ≤ SX.nodesL l := by
    clear hn hs hl h2
    induction l with
    | nil => simp
    | cons x r ihr => have := SX.nodes_eq x; rw [SX.nodesL, List.length_cons]; omega
  obtain ⟨y, hy⟩ : ∃ y, y = listTy l ((SX.tyL l).drop 1) := ⟨_, rfl⟩
  rw [← hy]
  have HY := Lib.hid hy
  clear hy
  have hb0 : Below w.heap.size w (((w.alloc (.cells #[.string ⟨#[]⟩, .slice A l.length c] 33)).alloc (.cells zeroT 26)).alloc (.cells #[] 26)) := (((Below.refl _ _).alloc (Nat.le_refl _) _).alloc (by simp) _).alloc (by simp; omega) _
  obtain ⟨W, hW⟩ : ∃ W, W = ((w.alloc (.cells #[.string ⟨#[]⟩, .slice A l.length c] 33)).alloc (.cells zeroT 26)).alloc (.cells #[] 26) := ⟨_, rfl⟩
  obtain ⟨W0, hW0⟩ : ∃ W0, W0 = (w.alloc (.cells #[.string ⟨#[]⟩, .slice A l.length c] 33)).alloc (.cells zeroT 26) := ⟨_, rfl⟩
  have hs0 : W0.heap.size = w.heap.size + 2 := by rw [hW0]; simp
  have hbx : Whole W w.heap.size 33 #[.string ⟨#[]⟩, .slice A l.length c] := by
    rw [hW]; exact (Whole.new w _ _).below (((Below.refl (w.heap.size + 1) _).alloc (by simp) _).alloc (by simp) _) (by omega)
  have hrx : Whole W (w.heap.size + 1) 26 zeroT := by
    have h := Whole.new (w.alloc (.cells #[.string ⟨#[]⟩, .slice A l.length c] 33)) 26 zeroT
    rw [World.size_alloc] at h
    rw [hW]; exact h.below ((Below.refl (w.heap.size + 2) _).alloc (by simp) _) (by omega)
  have hown := World.ownsRow_made (base := W0.heap.size) (e := 26) (size := 3) W0 #[] 0 (Nat.le_refl _) (by decide) rfl
  have ht0 : TopT (Lo (w.heap.size + 2)) W0 W (.slice (some ⟨w.heap.size + 2, 0, none⟩) 0 0) [] := ⟨[], by rw [hW, ← hW0]; rw [hs0] at hown ⊢; exact hown, rfl⟩
  rw [← hW] at hb0
  have HL := Lib.hid hl
  have HN := Lib.hid hn
  have HS := Lib.hid hs
  have HB0 := Lib.hid hb0
  have HBX := Lib.hid hbx
  have HRX := Lib.hid hrx
  have HT0 := Lib.hid ht0
  have HW0 := Lib.hid hs0
  have HWW := Lib.hid hW
  have hlb : l.length ≤ 4294967296 := by omega
  obtain ⟨b, o, A0, c0, rfl, hP, q0, q1, -⟩ := hl.at2 (j := 0) (by omega)
  obtain ⟨b', o', A1, c1, e1, -, q2, q3, -⟩ := hl.at2 (j := 1) (by omega)
  injection e1 with e1
  injection e1 with e1 e2
  subst e1 e2
  have hP : b < w.heap.size := hP
  have HQ0 := Lib.hid q0
  have HQ2 := Lib.hid q2
  have hl1 : (1 : Int) < (l.length : Int) := by omega
  have hl0 : (0 : Int) < (l.length : Int) := by omega
  clear hl hn hs hb0 hbx hrx ht0 hs0 hW hW0 hown q1 q3 hln
  go_enter Tryz.func32, Tryz.ntmps32
  simp only [Nat.zero_mul, Nat.add_zero] at q0
  go_wp2
  rw [← HWW.out]
  go_loopw [4, 5] (fun ov iv wr => ∃ (j : Nat) (V : Value) (ts : List TypeX), 1 ≤ j ∧ j ≤ l.length ∧ iv = .int .i64 j ∧ ov = V ∧ ts = (SX.tyL (l.take j)).drop 1 ∧ ts.length + 1 = j ∧ TopT (Lo (w.heap.size + 2)) W0 wr V ts ∧ Below (w.heap.size + 2) W wr) (fun _ iv _ => l.length - (Go.RowKit.intOf iv).toNat)
  case atStart => exact ⟨1, _, [], Nat.le_refl _, by omega, rfl, rfl, by
    cases l with
    | nil => simp at h2
    | cons x r => simp [SX.tyL], rfl, HT0.out, Below.refl _ _⟩
  case round =>
    obtain ⟨j, V, ts, hj1, hj, rfl, rfl, hts, hlen, ht, hb⟩ := hrel
    obtain ⟨A1, c1, rfl⟩ := ht.shape
    have hbw : Below w.heap.size w wr := HB0.out.trans (hb.mono (Nat.le_add_right _ _))
    have hx := HBX.out.below hb (by omega)
    have hxl := hx.lt
    have x1 : wr.cell? ⟨w.heap.size, 1, none⟩ = some (.slice (some ⟨b, o, none⟩) l.length c) := by rw [hx.cell]; rfl
    have HTS := Lib.hid hts
    have hl2 : ts.length ≤ 4294967296 := by omega
    have HLEN := Lib.hid hlen
    by_cases hlt : j < l.length
    · have hlr : ListAt wr (Und w.heap.size) (some ⟨b, o, none⟩) l := HL.out.frame (fun _ h => h) (fun b o h => hbw.cell (p := ⟨b, o, none⟩) h)
      obtain ⟨b2, o2, A', c', e1, -, q4, q5, hlk⟩ := hlr.at2 hlt
      injection e1 with e1
      injection e1 with e1 e2
      subst e1 e2
      have hi0 : (0 : Int) ≤ (j : Int) := Int.natCast_nonneg _
      have hi1 : (j : Int) < (l.length : Int) := by omega
      have hnj := SX.nodesL_at l j hlt
      have HIH := Lib.hid (ih l[j] A' c' wr (by have := HN.out; omega) (by have := HS.out; omega) (hlk.frame (fun b h => Nat.lt_of_lt_of_le h hbw.size) fun _ _ _ => rfl))
      have HT := Lib.hid ht
      have HB := Lib.hid hb
      have HBW := Lib.hid hbw
      clear ht hb hbw hlr hlk hnj hts hlen hx
      go_wp2_with fail
      refine HIH.out.mono ?_
      rintro e w2 ⟨A3, c3, rfl, hr3, hb2⟩
      obtain ⟨us, ho, he⟩ := HT.out.below hb2
      have HOWR : Hid (∀ b, (Value.slice A1 ts.length c1).ownBlock = some b → b < wr.heap.size) := Lib.hid fun b e => by obtain ⟨_, ho0, _⟩ := HT.out; exact (ho0.lt b e).2
      have hlow : w.heap.size + 2 ≤ wr.heap.size := by have := HB.out.size; have := HRX.out.lt; omega
      have hr3' : TypeRow w2 (fun b => Nog (Lo (w.heap.size + 2)) w2 b ∧ (Value.slice A1 ts.length c1).ownBlock ≠ some b) A3 c3 l[j].ty.args_ := hr3.frame (fun b h => ⟨⟨h.2, fun hL => by have := h.1; unfold Lo at hL; omega⟩, fun e => by have := HOWR.out _ e; have := h.1; omega⟩) fun _ _ _ => rfl
      have HR3 := Lib.hid hr3'
      have HOL := Lib.hid ho.lt
      have HE := Lib.hid he
      have HB2 := Lib.hid (HB.out.trans (hb2.mono hlow))
      have hsz2 := hb2.size
      have HO2 := Lib.hid (ho.alloc (.cells #[.int .i64 l[j].ty.kind_, .string l[j].ty.name_, .slice A3 l[j].ty.args_.length c3] 26))
      have HCE : Hid (∀ (k : Nat) (u : Value), [.int .i64 l[j].ty.kind_, .string l[j].ty.name_, .slice A3 l[j].ty.args_.length c3][k]? = some u → (w2.alloc (.cells #[.int .i64 l[j].ty.kind_, .string l[j].ty.name_, .slice A3 l[j].ty.args_.length c3] 26)).cell? ((⟨w2.heap.size, 0, none⟩ : Addr).add k) = some u) := Lib.hid (World.news_of_block (cs := #[.int .i64 l[j].ty.kind_, .string l[j].ty.name_, .slice A3 l[j].ty.args_.length c3]) (t := 26) (fr := (0, 0)) (heap_alloc_new w2 _))
      clear hr3 hr3' ho he hb2
      go_wp2_with (at_builtin; refine wpList_append_any rfl (.tmp 38) (.tmp 45) 24 rfl W0.heap.size 26 i0 (.agg #[.int .i64 0, .string ByteArray.empty, .slice none 0 0]) 3 48 Tryz.underlying24 hi hz0 hz1 hz2 rfl (by decide) (.slice A1 ts.length c1) ts.length us rfl HO2.out (some ⟨w2.heap.size, 0, none⟩) 1 1 [.int .i64 l[j].ty.kind_, .string l[j].ty.name_, .slice A3 l[j].ty.args_.length c3] rfl rfl (.inr ⟨_, rfl, HCE.out⟩) (by simp [Value.oneCell']) (by unfold maxLen; omega) (by omega) (by have := HW0.out; simp; omega) (w2.heap.size + 1) (by simp) ?_)
      intro V3 w3 hown3 hgrow3 hat3
      have hend := TopT.push HE.out HR3.out hown3 hgrow3 hat3
      have hbelow : Below (w.heap.size + 2) W w3 := (HB2.out.alloc (by omega) _).grown hgrow3 (by simp; omega) (fun k hk => by have := (HOL.out k hk).1; have := HW0.out; omega)
      have HEND := Lib.hid hend
      have HBE := Lib.hid hbelow
      clear hend hown3 hgrow3 hat3 hbelow
      go_wp2
      go_roundw
      case rel => exact ⟨j + 1, _, _, by omega, by omega, by go_num, rfl, by rw [HTS.out, tyL_take l j hlt, List.drop_append_of_le_length (by rw [tyL_len, List.length_take]; omega)], by rw [List.length_append, List.length_singleton, HLEN.out], HEND.out, HBE.out⟩
      case measure => simp [Go.RowKit.intOf]; omega
    · have hjl : j = l.length := by omega
      subst hjl
      have hrx := HRX.out.below hb (by omega)
      obtain ⟨r0, r1, r2⟩ := cells3 hrx
      have rf0 := hrx.frozen 0
      have rf1 := hrx.frozen 1
      have rf2 := hrx.frozen 2
      have hrl := hrx.lt
      obtain ⟨A9, c9, e9, hrow⟩ := ht.row (fun b h => by have := HW0.out; unfold Lo at h; omega)
      injection e9 with e1 _ e2
      subst e1 e2
      have hrow' : TypeRow wr (fun b => New w.heap.size wr.heap.size b ∧ b ≠ w.heap.size + 1) A1 c1 ts := hrow.frame (fun b h => by have h1 := h.1; have h2 := h.2; unfold Lo at h2; exact ⟨⟨by omega, h1⟩, by omega⟩) fun _ _ _ => rfl
      have q2' : wr.cell? ⟨b, o + 1 * 2, none⟩ = some (.string l[1].atom) := (hbw.cell (p := ⟨b, o + 1 * 2, none⟩) hP).trans q2
      have hPr : b < wr.heap.size := Nat.lt_of_lt_of_le hP hbw.size
      have HROW := Lib.hid hrow'
      have HBW := Lib.hid hbw
      have HRR := Lib.hid hrx
      rw [List.take_length] at hts
      have hyy := HY.out
      rw [listTy_eq l _ h2, ← hts] at hyy
      have HLEN := Lib.hid hlen
      obtain ⟨s0, hs0⟩ : ∃ s0, s0 = l[0].atom := ⟨_, rfl⟩
      obtain ⟨s1, hs1⟩ : ∃ s1, s1 = l[1].atom := ⟨_, rfl⟩
      rw [← hs0, ← hs1] at hyy
      rw [← hs1] at q2'
      rw [← hs0]
      clear hs0 hs1 hrow hrow' hbw hrx ht hb hts hx q0 q2 HQ0 HQ2
      by_cases k0 : s0 = ⟨#[97, 115, 115, 111, 99]⟩
      · subst k0
        by_cases l3 : l.length = 3
        · have hl3 : ts.length = 2 := by have := HLEN.out; omega
          by_cases m1 : s1 = ⟨#[]⟩
          · subst m1
            rw [if_neg (fun h => h.2.2 rfl), if_neg (fun h => absurd h.1 (by decide))] at hyy
            have HYY := Lib.hid hyy
            clear hyy
            have HE := Lib.hid (tyDone (k := 2) (s := ⟨#[97, 115, 115, 111, 99]⟩) (l := ts) (n := 2) hl3.symm HRR.out HBW.out HROW.out)
            go_wp2
            all_goals (
              obtain ⟨e0, e1, e2, e3⟩ := HE.out _ rfl
              exact bodyPost_ret (v := .agg #[.int .i64 2, .string ⟨#[97, 115, 115, 111, 99]⟩, .slice A1 2 c1]) (by simp [results, Tryz.results32, go_sem, e0, e1, e2]) rfl (by rw [HYY.out]; exact e3))
          · have m1' : s1.toList.isEmpty = false := by
              rw [ByteArray.toList_eq]
              obtain ⟨⟨d⟩⟩ := s1
              cases d with
              | nil => exact absurd rfl m1
              | cons x r => rfl
            obtain ⟨t0, ts', hts'⟩ : ∃ t0 ts', ts = t0 :: ts' := by cases ts with | nil => simp at hl3 | cons a r => exact ⟨a, r, rfl⟩
            subst hts'
            obtain ⟨b9, o9, _, _, rfl, -⟩ := HROW.out.at_ (j := 0) (by simp)
            have hl4 : ts'.length = 1 := by simpa using hl3
            rw [if_pos ⟨rfl, l3, m1⟩] at hyy
            have hcap := HROW.out.cap
            have HE := Lib.hid (tyDone (k := 3) (s := s1) (l := ts') (n := 1) hl4.symm HRR.out HBW.out HROW.out.tail)
            have q2'' : wr.cell? ⟨b, o + 2, none⟩ = some (.string s1) := q2'
            have HYY := Lib.hid hyy
            clear hyy
            go_wp2
            go_region
            go_wp2
            obtain ⟨e0, e1, e2, e3⟩ := HE.out _ rfl
            exact bodyPost_ret (v := .agg #[.int .i64 3, .string s1, .slice (some ⟨b9, o9 + 3, none⟩) 1 (c1 - 1)]) (by simp [results, Tryz.results32, go_sem, e0, e1, e2]) rfl (by rw [HYY.out]; exact e3.drew_)
        · have hl3 : ((ts.length : Int) == 2) = false := by have := HLEN.out; simp; omega
          rw [if_neg (fun h => l3 h.2.1), if_neg (fun h => absurd h.1 (by decide))] at hyy
          have HYY := Lib.hid hyy
          clear hyy
          have HE := Lib.hid (tyDone (k := 2) (s := ⟨#[97, 115, 115, 111, 99]⟩) (l := ts) rfl HRR.out HBW.out HROW.out)
          go_wp2
          all_goals (
            obtain ⟨e0, e1, e2, e3⟩ := HE.out _ rfl
            exact bodyPost_ret (v := .agg #[.int .i64 2, .string ⟨#[97, 115, 115, 111, 99]⟩, .slice A1 ts.length c1]) (by simp [results, Tryz.results32, go_sem, e0, e1, e2]) rfl (by rw [HYY.out]; exact e3))
      · by_cases k0 : s0 = ⟨#[100, 121, 110]⟩
        · subst k0
          by_cases l3 : l.length = 2
          · have hl3 : ts.length = 1 := by have := HLEN.out; omega
            by_cases m1 : s1 = ⟨#[]⟩
            · subst m1
              rw [if_neg (fun h => absurd h.1 (by decide)), if_neg (fun h => h.2.2 rfl)] at hyy
              have HYY := Lib.hid hyy
              clear hyy
              have HE := Lib.hid (tyDone (k := 2) (s := ⟨#[100, 121, 110]⟩) (l := ts) (n := 1) hl3.symm HRR.out HBW.out HROW.out)
              go_wp2
              all_goals (
                obtain ⟨e0, e1, e2, e3⟩ := HE.out _ rfl
                exact bodyPost_ret (v := .agg #[.int .i64 2, .string ⟨#[100, 121, 110]⟩, .slice A1 1 c1]) (by simp [results, Tryz.results32, go_sem, e0, e1, e2]) rfl (by rw [HYY.out]; exact e3))
            · have m1' : s1.toList.isEmpty = false := by
                rw [ByteArray.toList_eq]
                obtain ⟨⟨d⟩⟩ := s1
                cases d with
                | nil => exact absurd rfl m1
                | cons x r => rfl
              rw [if_neg (fun h => absurd h.1 (by decide)), if_pos ⟨rfl, l3, m1⟩] at hyy
              have HE := Lib.hid (tyDone (k := 4) (s := s1) (l := []) (A := none) (c := 0) (n := 0) rfl HRR.out HBW.out (TypeRow.nil _ _ 0 none (by decide)))
              have q2'' : wr.cell? ⟨b, o + 2, none⟩ = some (.string s1) := q2'
              have HYY := Lib.hid hyy
              clear hyy
              go_wp2
              obtain ⟨e0, e1, e2, e3⟩ := HE.out _ rfl
              exact bodyPost_ret (v := .agg #[.int .i64 4, .string s1, .slice none 0 0]) (by simp [results, Tryz.results32, go_sem, e0, e1, e2]) rfl (by rw [HYY.out]; exact e3)
          · have hl3 : ((ts.length : Int) == 1) = false := by have := HLEN.out; simp; omega
            rw [if_neg (fun h => absurd h.1 (by decide)), if_neg (fun h => l3 h.2.1)] at hyy
            have HYY := Lib.hid hyy
            clear hyy
            have HE := Lib.hid (tyDone (k := 2) (s := ⟨#[100, 121, 110]⟩) (l := ts) rfl HRR.out HBW.out HROW.out)
            go_wp2
            all_goals (
              obtain ⟨e0, e1, e2, e3⟩ := HE.out _ rfl
              exact bodyPost_ret (v := .agg #[.int .i64 2, .string ⟨#[100, 121, 110]⟩, .slice A1 ts.length c1]) (by simp [results, Tryz.results32, go_sem, e0, e1, e2]) rfl (by rw [HYY.out]; exact e3))
        · rename_i k9
          rw [if_neg fun h => k9 h.1, if_neg fun h => k0 h.1] at hyy
          have k9' : (s0.toList == [97, 115, 115, 111, 99]) = false := by rw [beq_eq_false_iff_ne]; intro e; exact k9 (ByteArray.ext (Array.toList_inj.1 (by rw [← ByteArray.toList_eq]; exact e)))
          have k0' : (s0.toList == [100, 121, 110]) = false := by rw [beq_eq_false_iff_ne]; intro e; exact k0 (ByteArray.ext (Array.toList_inj.1 (by rw [← ByteArray.toList_eq]; exact e)))
          have HYY := Lib.hid hyy
          clear hyy
          have HE := Lib.hid (tyDone (k := 2) (s := s0) (l := ts) rfl HRR.out HBW.out HROW.out)
          go_wp2
          all_goals (
            obtain ⟨e0, e1, e2, e3⟩ := HE.out _ rfl
            exact bodyPost_ret (v := .agg #[.int .i64 2, .string s0, .slice A1 ts.length c1]) (by simp [results, Tryz.results32, go_sem, e0, e1, e2]) rfl (by rw [HYY.out]; exact e3))
theorem specTyAll : ∀ (N : Nat) (x : SX) (A : Option Addr) (c : Nat) (w : World), x.nodes ≤ N → x.nodes ≤ 4294967296 → ListAt w (Und w.heap.size) A x.list → Calls Tryz.prog 32 #[.agg #[.string x.atom, .slice A x.list.length c]] w (TyMade x.ty w)
  | 0, x, _, _, _, h, _, _ => by rw [SX.nodes_eq] at h; omega
  | N + 1, .mk a l, A, c, w, hn, hs, hl => by
    show Calls Tryz.prog 32 #[.agg #[.string a, .slice A l.length c]] w (TyMade (SX.mk a l).ty w)
    rw [SX.nodes] at hn hs
    rw [SX.ty]
    by_cases h0 : a = ⟨#[]⟩
    · subst h0
      rw [if_pos rfl]
      by_cases h2 : l.length < 2
      · have e : listTy l ((SX.tyL l).drop 1) = .mk 0 ⟨#[]⟩ [] := by
          match l, h2 with
          | [], _ => rfl
          | [x], _ => rfl
        rw [e]
        exact specTy_short l A c w h2
      · exact specTy_list (N + 1) (fun x A c w h => specTyAll N x A c w (Nat.le_of_lt_succ h)) l A c w hn hs hl (by omega)
    · rw [if_neg h0]
      exact specTy_atom a l A c w (by
        rcases Nat.eq_zero_or_pos a.size with h | h
        · exact absurd (ByteArray.size_eq_zero_iff.1 h) h0
        · exact h)
end Go.Proofs.YtbcfeoobhemdcaaGreat
